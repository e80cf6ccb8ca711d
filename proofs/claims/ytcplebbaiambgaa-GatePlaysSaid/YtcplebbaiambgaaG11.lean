/- RRight, GtR1: texts of this seat, one behind the other. -/
import Derived.Test.YtcplebbaiambgaaRTen
import Derived.Test.YtcplebbaiambgaaG4
import Derived.Test.YtcplebbaiambgaaG9
import Derived.Test.YtcplebbaiambgaaG1
import Derived.BigQuiet
import Derived.Deep.QuietTactic
import Derived.BigRegion
import Derived.Laws.MakeOwn
/- The document's own: Right: its contract. (Written by gen_rright.py.) -/
namespace Go.Proofs.Ytcplebbaiambgaa
set_option linter.unusedVariables false
set_option maxRecDepth 100000
set_option linter.unusedSimpArgs false
open Go.RowKit

/-- Are these tenants right, the first one's name greater than that? -/
def tnsB (z : ByteArray) (r : List Tn) : Bool := rise z (r.map (·.name)) && r.all tenB
theorem tnsB_cons (z : ByteArray) (x : Tn) (r : List Tn) : tnsB z (x :: r) = ((nameB x.name && tenB x) && ltS z x.name && tnsB x.name r) := by
  unfold tnsB
  rw [List.map_cons, rise, List.all_cons]
  cases nameB x.name <;> cases ltS z x.name <;> cases tenB x <;> simp
theorem cfg_eq (c : Cg) : cfgB c = (tnsB ByteArray.empty c.tens && (timB c.wait && timB c.grace && timB c.idle && timB c.lease && decide (c.tens.length ≤ 8))) := by
  unfold cfgB tnsB
  cases timB c.wait <;> cases timB c.grace <;> cases timB c.idle <;> cases timB c.lease <;> cases decide (c.tens.length ≤ 8) <;> simp
def zeroTv9 : Tv := ⟨⟨ByteArray.empty, 0, 0, [], []⟩, none, 0, none, 0⟩

set_option maxRecDepth 100000 in
set_option maxHeartbeats 16000000 in
theorem rfright_ok (x : Cv) (w : World) (h : RC w x) :
    Calls Try.prog 26 #[.agg (ccs x)] w fun e w' => e = .returned (.bool (cfgB x.cg)) ∧ Below w.heap.size w w' := by
  rw [cfg_eq]
  obtain ⟨a0, a1, a2, a3, ts, A, c⟩ := x
  obtain ⟨hr, hf⟩ := h
  dsimp only at hr hf
  show Calls Try.prog 26 #[.agg #[.int .i64 a0, .int .i64 a1, .int .i64 a2, .int .i64 a3, .slice A ts.length c]] w fun e w' => e = .returned (.bool (tnsB ByteArray.empty (ts.map (·.t)) && (timB a0 && timB a1 && timB a2 && timB a3 && decide ((ts.map (·.t)).length ≤ 8)))) ∧ Below w.heap.size w w'
  rw [List.length_map]
  obtain ⟨n, hnn⟩ : ∃ n, ts.length = n := ⟨_, rfl⟩
  have HNN := Lib.hid hnn
  rw [hnn]
  have hf1 := hf.cap
  have hf2 := hf.max
  rw [hnn] at hf1
  have hn9 : n ≤ 9223372036854775807 := by omega
  have HRT := Lib.hid hr
  have HTI := Lib.hid (fun k u => rtime_ok k u)
  have HX := Lib.hid (show Bx w w.heap.size 24 #[.int .i64 a0, .int .i64 a1, .int .i64 a2, .int .i64 a3, .slice A n c] (w.alloc (.cells #[.int .i64 a0, .int .i64 a1, .int .i64 a2, .int .i64 a3, .slice A n c] 24)) from Bx.new _ _ _)
  obtain ⟨R2, hR2⟩ : ∃ R2, tnsB ByteArray.empty (ts.map (·.t)) = R2 := ⟨_, rfl⟩
  have HR2 := Lib.hid hR2
  rw [hR2]
  obtain ⟨t0, ht0⟩ : ∃ t0, timB a0 = t0 := ⟨_, rfl⟩
  obtain ⟨t1, ht1⟩ : ∃ t1, timB a1 = t1 := ⟨_, rfl⟩
  obtain ⟨t2, ht2⟩ : ∃ t2, timB a2 = t2 := ⟨_, rfl⟩
  obtain ⟨t3, ht3⟩ : ∃ t3, timB a3 = t3 := ⟨_, rfl⟩
  have HT0 := Lib.hid (show ∀ u, Calls Try.prog 41 #[.int .i64 a0] u fun e u' => e = .returned (.bool t0) ∧ Below u.heap.size u u' from fun u => ht0 ▸ rtime_ok a0 u)
  have HT1 := Lib.hid (show ∀ u, Calls Try.prog 41 #[.int .i64 a1] u fun e u' => e = .returned (.bool t1) ∧ Below u.heap.size u u' from fun u => ht1 ▸ rtime_ok a1 u)
  have HT2 := Lib.hid (show ∀ u, Calls Try.prog 41 #[.int .i64 a2] u fun e u' => e = .returned (.bool t2) ∧ Below u.heap.size u u' from fun u => ht2 ▸ rtime_ok a2 u)
  have HT3 := Lib.hid (show ∀ u, Calls Try.prog 41 #[.int .i64 a3] u fun e u' => e = .returned (.bool t3) ∧ Below u.heap.size u u' from fun u => ht3 ▸ rtime_ok a3 u)
  rw [ht0, ht1, ht2, ht3]
  clear hr hf hnn hR2 hf1 hf2 ht0 ht1 ht2 ht3
  go_enter Try.func26, Try.ntmps26
  go_wp2
  go_loopw [3] (fun v3 wr => ∃ (i : Nat), i ≤ n ∧ v3 = .int .i64 (i : Int) ∧ Hid (R2 = tnsB (if i = 0 then ByteArray.empty else (ts.getD (i - 1) zeroTv9).t.name) ((ts.drop i).map (·.t))) ∧ Hid (Bx w w.heap.size 24 #[.int .i64 a0, .int .i64 a1, .int .i64 a2, .int .i64 a3, .slice A n c] wr)) (fun v3 _ => n - (intOf v3).toNat)
  case atStart => exact ⟨0, by omega, rfl, Lib.hid (by rw [← HR2.out, List.drop_zero]; rfl), HX⟩
  case round =>
    obtain ⟨i, hi, rfl, HD, HB⟩ := hrel
    have e4 : wr.cell? ⟨w.heap.size, 4, none⟩ = some (.slice A n c) := HB.out.cell 4
    by_cases hi1 : i < n
    · have hi2 : (i : Int) < (n : Int) := by omega
      obtain ⟨bb, o, x, rfl, hx, hx1, hc⟩ := HRT.out.at5 i (by rw [HNN.out]; exact hi1)
      obtain ⟨p, hp⟩ : ∃ p, ts.getD (i - 1) zeroTv9 = p := ⟨_, rfl⟩
      have hpl : i - 1 < ts.length := by rw [HNN.out]; omega
      obtain ⟨bb2, o2, x2, hA2, hx2, _, hc2⟩ := HRT.out.at5 (i - 1) hpl
      obtain ⟨rfl, rfl⟩ : bb = bb2 ∧ o = o2 := by simpa using hA2
      have hpx : x2 = p := by rw [← hp, List.getD, hx2]; rfl
      subst hpx
      have HPC := Lib.hid (fun u (hu : Below w.heap.size w u) => (hc2 u hu).1)
      have HCC := Lib.hid hc
      have HST := Lib.hid (show ∀ z, tnsB z ((ts.drop i).map (·.t)) = ((nameB x.t.name && tenB x.t) && ltS z x.t.name && tnsB x.t.name ((ts.drop (i + 1)).map (·.t))) from fun z => by
        rw [List.drop_eq_getElem_cons (by rw [HNN.out]; exact hi1), List.map_cons, tnsB_cons, (List.getElem?_eq_some_iff.1 hx).2])
      have HNX := Lib.hid (show (if i + 1 = 0 then ByteArray.empty else (ts.getD (i + 1 - 1) zeroTv9).t.name) = x.t.name by
        rw [if_neg (by omega), Nat.add_sub_cancel, List.getD, hx]; rfl)
      rw [hp] at HD
      have HTE := Lib.hid (fun u (hu : Below w.heap.size w u) => rften_ok x u (hx1.on hu))
      have HLE := Lib.hid (show nameB x.t.name = true → ltS ByteArray.empty x.t.name = true from fun h => lt_empty h)
      obtain ⟨tb, htb⟩ : ∃ tb, (nameB x.t.name && tenB x.t) = tb := ⟨_, rfl⟩
      have HNB := Lib.hid (show tb = true → nameB x.t.name = true from fun h => by rw [h, Bool.and_eq_true] at htb; exact htb.1)
      rw [htb] at HTE HST
      obtain ⟨⟨xn, xa, xb, xnl, xkl⟩, xAn, xcn, xAk, xck⟩ := x
      obtain ⟨⟨pn, pa, pb, pnl, pkl⟩, pAn, pcn, pAk, pck⟩ := x2
      dsimp only at HST HNX HD HPC HCC HLE HNB
      simp only [tcs] at HTE
      clear hc hx hc2 hx2 hp hpl htb hx1 hA2
      obtain ⟨wo, hwo⟩ : ∃ wo, wr = wo := ⟨_, rfl⟩
      subst wr
      go_upto_region 4 with fail
      clear e4
      try simp only [List.cons_append, List.nil_append]
      try simp only [List.cons_append, List.nil_append]
      refine wp_region_held_drew (S := fun wz => Below wo.heap.size wo wz) (by kernel_rfl) ((Below.refl _ _).drew) (fun hHeld => ?_)
      refine take_at (some 11) (i := 0) (v := ?_) rfl rfl (by kernel_rfl) (by kernel_rfl) (by kernel_rfl) (fun _ _ _ h => h) (Or.inl ⟨by kernel_rfl, ?_⟩) hHeld ?_
      rotate_left
      · intro wz hSw; have hb2 := HB.out.on hSw; have k4 : wz.cell? ⟨w.heap.size, 4, none⟩ = some (.slice (some ⟨bb, o, none⟩) n c) := hb2.cell 4; obtain ⟨k5, k6, k7, k8, k9⟩ := HCC.out wz hb2.l; have k0 := HPC.out wz hb2.l; clear hb2; go_simp; try (with_reducible rfl)
      try simp only [Act.put, List.setIfInBounds_toArray, List.set_cons_zero, List.set_cons_succ, List.getElem_toArray, List.getElem_cons_succ, List.getElem_cons_zero]
      refine take_at (some 12) (i := 1) (v := ?_) rfl rfl (by kernel_rfl) (by kernel_rfl) (by kernel_rfl) (fun _ _ _ h => h) (Or.inl ⟨by kernel_rfl, ?_⟩) hHeld ?_
      rotate_left
      · intro wz hSw; have hb2 := HB.out.on hSw; have k4 : wz.cell? ⟨w.heap.size, 4, none⟩ = some (.slice (some ⟨bb, o, none⟩) n c) := hb2.cell 4; obtain ⟨k5, k6, k7, k8, k9⟩ := HCC.out wz hb2.l; have k0 := HPC.out wz hb2.l; clear hb2; go_simp; try (with_reducible rfl)
      try simp only [Act.put, List.setIfInBounds_toArray, List.set_cons_zero, List.set_cons_succ, List.getElem_toArray, List.getElem_cons_succ, List.getElem_cons_zero]
      refine take_at (some 13) (i := 2) (v := ?_) rfl rfl (by kernel_rfl) (by kernel_rfl) (by kernel_rfl) (fun _ _ _ h => h) (Or.inl ⟨by kernel_rfl, ?_⟩) hHeld ?_
      rotate_left
      · intro wz hSw; have hb2 := HB.out.on hSw; have k4 : wz.cell? ⟨w.heap.size, 4, none⟩ = some (.slice (some ⟨bb, o, none⟩) n c) := hb2.cell 4; obtain ⟨k5, k6, k7, k8, k9⟩ := HCC.out wz hb2.l; have k0 := HPC.out wz hb2.l; clear hb2; go_simp; try (with_reducible rfl)
      try simp only [Act.put, List.setIfInBounds_toArray, List.set_cons_zero, List.set_cons_succ, List.getElem_toArray, List.getElem_cons_succ, List.getElem_cons_zero]
      refine take_at (some 14) (i := 3) (v := ?_) rfl rfl (by kernel_rfl) (by kernel_rfl) (by kernel_rfl) (fun _ _ _ h => h) (Or.inl ⟨by kernel_rfl, ?_⟩) hHeld ?_
      rotate_left
      · intro wz hSw; have hb2 := HB.out.on hSw; have k4 : wz.cell? ⟨w.heap.size, 4, none⟩ = some (.slice (some ⟨bb, o, none⟩) n c) := hb2.cell 4; obtain ⟨k5, k6, k7, k8, k9⟩ := HCC.out wz hb2.l; have k0 := HPC.out wz hb2.l; clear hb2; go_simp; try (with_reducible rfl)
      try simp only [Act.put, List.setIfInBounds_toArray, List.set_cons_zero, List.set_cons_succ, List.getElem_toArray, List.getElem_cons_succ, List.getElem_cons_zero]
      refine take_at (some 15) (i := 4) (v := ?_) rfl rfl (by kernel_rfl) (by kernel_rfl) (by kernel_rfl) (fun _ _ _ h => h) (Or.inl ⟨by kernel_rfl, ?_⟩) hHeld ?_
      rotate_left
      · intro wz hSw; have hb2 := HB.out.on hSw; have k4 : wz.cell? ⟨w.heap.size, 4, none⟩ = some (.slice (some ⟨bb, o, none⟩) n c) := hb2.cell 4; obtain ⟨k5, k6, k7, k8, k9⟩ := HCC.out wz hb2.l; have k0 := HPC.out wz hb2.l; clear hb2; go_simp; try (with_reducible rfl)
      try simp only [Act.put, List.setIfInBounds_toArray, List.set_cons_zero, List.set_cons_succ, List.getElem_toArray, List.getElem_cons_succ, List.getElem_cons_zero]
      refine wpAnyH_ready (rs := [5]) (by kernel_rfl) (by simp) (AllReadyH.cons rfl (fun K hK => ?_) AllReadyH.nil)
      rw [if_pos (by kernel_rfl)]
      go_simp
      refine (HTE.out _ (HB.out.l.trans (((Below.refl wo.heap.size wo).drew).mono HB.out.l.size))).mono ?_
      rintro e u9 ⟨rfl, hb9⟩
      try dsimp only
      refine hK.out _ _ (((Below.refl wo.heap.size wo).drew).trans hb9) (fun hHeld => ?_)
      try simp only [Act.put, List.setIfInBounds_toArray, List.set_cons_zero, List.set_cons_succ, List.getElem_toArray, List.getElem_cons_succ, List.getElem_cons_zero]
      refine take_at (some 17) (i := 6) (v := ?_) rfl rfl (by kernel_rfl) (by kernel_rfl) (by kernel_rfl) (fun _ _ _ h => h) (Or.inl ⟨by kernel_rfl, ?_⟩) hHeld ?_
      rotate_left
      · intro wz hSw; go_simp; try (with_reducible rfl)
      try simp only [Act.put, List.setIfInBounds_toArray, List.set_cons_zero, List.set_cons_succ, List.getElem_toArray, List.getElem_cons_succ, List.getElem_cons_zero]
      refine take_at (some 18) (i := 7) (v := ?_) rfl rfl (by kernel_rfl) (by kernel_rfl) (by kernel_rfl) (fun _ _ _ h => h) (Or.inl ⟨by kernel_rfl, ?_⟩) hHeld ?_
      rotate_left
      · intro wz hSw; go_simp; try (with_reducible rfl)
      try simp only [Act.put, List.setIfInBounds_toArray, List.set_cons_zero, List.set_cons_succ, List.getElem_toArray, List.getElem_cons_succ, List.getElem_cons_zero]
      cases tb with
      | false =>
        refine take_at (some 19) (i := 8) (v := undef) rfl rfl (by kernel_rfl) (by kernel_rfl) (by kernel_rfl) (fun _ _ _ h => h) (Or.inr ⟨by kernel_rfl, rfl⟩) hHeld ?_
        try simp only [Act.put, List.setIfInBounds_toArray, List.set_cons_zero, List.set_cons_succ, List.getElem_toArray, List.getElem_cons_succ, List.getElem_cons_zero]
        refine take_at (some 20) (i := 9) (v := undef) rfl rfl (by kernel_rfl) (by kernel_rfl) (by kernel_rfl) (fun _ _ _ h => h) (Or.inr ⟨by kernel_rfl, rfl⟩) hHeld ?_
        try simp only [Act.put, List.setIfInBounds_toArray, List.set_cons_zero, List.set_cons_succ, List.getElem_toArray, List.getElem_cons_succ, List.getElem_cons_zero]
        refine take_at (some 21) (i := 10) (v := undef) rfl rfl (by kernel_rfl) (by kernel_rfl) (by kernel_rfl) (fun _ _ _ h => h) (Or.inr ⟨by kernel_rfl, rfl⟩) hHeld ?_
        try simp only [Act.put, List.setIfInBounds_toArray, List.set_cons_zero, List.set_cons_succ, List.getElem_toArray, List.getElem_cons_succ, List.getElem_cons_zero]
        refine take_at (some 22) (i := 11) (v := undef) rfl rfl (by kernel_rfl) (by kernel_rfl) (by kernel_rfl) (fun _ _ _ h => h) (Or.inr ⟨by kernel_rfl, rfl⟩) hHeld ?_
        try simp only [Act.put, List.setIfInBounds_toArray, List.set_cons_zero, List.set_cons_succ, List.getElem_toArray, List.getElem_cons_succ, List.getElem_cons_zero]
        refine take_at (some 23) (i := 12) (v := undef) rfl rfl (by kernel_rfl) (by kernel_rfl) (by kernel_rfl) (fun _ _ _ h => h) (Or.inr ⟨by kernel_rfl, rfl⟩) hHeld ?_
        try simp only [Act.put, List.setIfInBounds_toArray, List.set_cons_zero, List.set_cons_succ, List.getElem_toArray, List.getElem_cons_succ, List.getElem_cons_zero]
        refine take_at (some 24) (i := 13) (v := undef) rfl rfl (by kernel_rfl) (by kernel_rfl) (by kernel_rfl) (fun _ _ _ h => h) (Or.inr ⟨by kernel_rfl, rfl⟩) hHeld ?_
        try simp only [Act.put, List.setIfInBounds_toArray, List.set_cons_zero, List.set_cons_succ, List.getElem_toArray, List.getElem_cons_succ, List.getElem_cons_zero]
        refine take_at (some 25) (i := 14) (v := undef) rfl rfl (by kernel_rfl) (by kernel_rfl) (by kernel_rfl) (fun _ _ _ h => h) (Or.inr ⟨by kernel_rfl, rfl⟩) hHeld ?_
        try simp only [Act.put, List.setIfInBounds_toArray, List.set_cons_zero, List.set_cons_succ, List.getElem_toArray, List.getElem_cons_succ, List.getElem_cons_zero]
        refine take_at (some 26) (i := 15) (v := undef) rfl rfl (by kernel_rfl) (by kernel_rfl) (by kernel_rfl) (fun _ _ _ h => h) (Or.inr ⟨by kernel_rfl, rfl⟩) hHeld ?_
        try simp only [Act.put, List.setIfInBounds_toArray, List.set_cons_zero, List.set_cons_succ, List.getElem_toArray, List.getElem_cons_succ, List.getElem_cons_zero]
        refine take_at (some 27) (i := 16) (v := undef) rfl rfl (by kernel_rfl) (by kernel_rfl) (by kernel_rfl) (fun _ _ _ h => h) (Or.inr ⟨by kernel_rfl, rfl⟩) hHeld ?_
        try simp only [Act.put, List.setIfInBounds_toArray, List.set_cons_zero, List.set_cons_succ, List.getElem_toArray, List.getElem_cons_succ, List.getElem_cons_zero]
        refine take_at (some 28) (i := 17) (v := undef) rfl rfl (by kernel_rfl) (by kernel_rfl) (by kernel_rfl) (fun _ _ _ h => h) (Or.inr ⟨by kernel_rfl, rfl⟩) hHeld ?_
        try simp only [Act.put, List.setIfInBounds_toArray, List.set_cons_zero, List.set_cons_succ, List.getElem_toArray, List.getElem_cons_succ, List.getElem_cons_zero]
        refine take_at (some 29) (i := 18) (v := undef) rfl rfl (by kernel_rfl) (by kernel_rfl) (by kernel_rfl) (fun _ _ _ h => h) (Or.inr ⟨by kernel_rfl, rfl⟩) hHeld ?_
        try simp only [Act.put, List.setIfInBounds_toArray, List.set_cons_zero, List.set_cons_succ, List.getElem_toArray, List.getElem_cons_succ, List.getElem_cons_zero]
        refine take_at (some 30) (i := 19) (v := undef) rfl rfl (by kernel_rfl) (by kernel_rfl) (by kernel_rfl) (fun _ _ _ h => h) (Or.inr ⟨by kernel_rfl, rfl⟩) hHeld ?_
        try simp only [Act.put, List.setIfInBounds_toArray, List.set_cons_zero, List.set_cons_succ, List.getElem_toArray, List.getElem_cons_succ, List.getElem_cons_zero]
        refine take_at (some 31) (i := 20) (v := undef) rfl rfl (by kernel_rfl) (by kernel_rfl) (by kernel_rfl) (fun _ _ _ h => h) (Or.inr ⟨by kernel_rfl, rfl⟩) hHeld ?_
        try simp only [Act.put, List.setIfInBounds_toArray, List.set_cons_zero, List.set_cons_succ, List.getElem_toArray, List.getElem_cons_succ, List.getElem_cons_zero]
        refine take_at (some 32) (i := 21) (v := undef) rfl rfl (by kernel_rfl) (by kernel_rfl) (by kernel_rfl) (fun _ _ _ h => h) (Or.inr ⟨by kernel_rfl, rfl⟩) hHeld ?_
        try simp only [Act.put, List.setIfInBounds_toArray, List.set_cons_zero, List.set_cons_succ, List.getElem_toArray, List.getElem_cons_succ, List.getElem_cons_zero]
        refine take_at (some 33) (i := 22) (v := undef) rfl rfl (by kernel_rfl) (by kernel_rfl) (by kernel_rfl) (fun _ _ _ h => h) (Or.inr ⟨by kernel_rfl, rfl⟩) hHeld ?_
        try simp only [Act.put, List.setIfInBounds_toArray, List.set_cons_zero, List.set_cons_succ, List.getElem_toArray, List.getElem_cons_succ, List.getElem_cons_zero]
        refine take_at (some 34) (i := 23) (v := undef) rfl rfl (by kernel_rfl) (by kernel_rfl) (by kernel_rfl) (fun _ _ _ h => h) (Or.inr ⟨by kernel_rfl, rfl⟩) hHeld ?_
        try simp only [Act.put, List.setIfInBounds_toArray, List.set_cons_zero, List.set_cons_succ, List.getElem_toArray, List.getElem_cons_succ, List.getElem_cons_zero]
        refine take_at (some 35) (i := 24) (v := undef) rfl rfl (by kernel_rfl) (by kernel_rfl) (by kernel_rfl) (fun _ _ _ h => h) (Or.inr ⟨by kernel_rfl, rfl⟩) hHeld ?_
        try simp only [Act.put, List.setIfInBounds_toArray, List.set_cons_zero, List.set_cons_succ, List.getElem_toArray, List.getElem_cons_succ, List.getElem_cons_zero]
        refine take_at (some 36) (i := 25) (v := undef) rfl rfl (by kernel_rfl) (by kernel_rfl) (by kernel_rfl) (fun _ _ _ h => h) (Or.inr ⟨by kernel_rfl, rfl⟩) hHeld ?_
        try simp only [Act.put, List.setIfInBounds_toArray, List.set_cons_zero, List.set_cons_succ, List.getElem_toArray, List.getElem_cons_succ, List.getElem_cons_zero]
        refine take_at (some 37) (i := 26) (v := ?_) rfl rfl (by kernel_rfl) (by kernel_rfl) (by kernel_rfl) (fun _ _ _ h => h) (Or.inl ⟨by kernel_rfl, ?_⟩) hHeld ?_
        rotate_left
        · intro wz hSw; go_simp; try (with_reducible rfl)
        try simp only [Act.put, List.setIfInBounds_toArray, List.set_cons_zero, List.set_cons_succ, List.getElem_toArray, List.getElem_cons_succ, List.getElem_cons_zero]
        refine wpAnyH_done (by kernel_rfl) ?_ _
        refine gen_qT (fun y => Below wo.heap.size wo y) hHeld (fun y hy => ?_)
        clear hHeld
        have HVF := Lib.hid (show R2 = false by rw [HD.out, HST.out]; rfl)
        go_wp2
        go_ret
        exact ⟨by rw [HVF.out]; rfl, (HB.out.on hy).l⟩
      | true =>
        by_cases hi0 : i = 0
        case pos =>
          have HZ := Lib.hid (show ltS (if i = 0 then ByteArray.empty else pn) xn = true by rw [if_pos hi0]; exact HLE.out (HNB.out rfl))
          have hj0 : ¬ (i : Int) > 0 := by omega
          have hj1 : ¬ (0 : Int) < (i : Int) := by omega
          have hj7 : ¬ 0 < i := by omega
          refine take_at (some 19) (i := 8) (v := ?_) rfl rfl (by kernel_rfl) (by kernel_rfl) (by kernel_rfl) (fun _ _ _ h => h) (Or.inl ⟨by kernel_rfl, ?_⟩) hHeld ?_
          rotate_left
          · intro wz hSw; go_simp; try (with_reducible rfl)
          try simp only [Act.put, List.setIfInBounds_toArray, List.set_cons_zero, List.set_cons_succ, List.getElem_toArray, List.getElem_cons_succ, List.getElem_cons_zero]
          refine take_at (some 20) (i := 9) (v := ?_) rfl rfl (by kernel_rfl) (by kernel_rfl) (by kernel_rfl) (fun _ _ _ h => h) (Or.inl ⟨by kernel_rfl, ?_⟩) hHeld ?_
          rotate_left
          · intro wz hSw; go_simp; try (with_reducible rfl)
          try simp only [Act.put, List.setIfInBounds_toArray, List.set_cons_zero, List.set_cons_succ, List.getElem_toArray, List.getElem_cons_succ, List.getElem_cons_zero]
          refine take_at (some 21) (i := 10) (v := ?_) rfl rfl (by kernel_rfl) (by kernel_rfl) (by kernel_rfl) (fun _ _ _ h => h) (Or.inl ⟨by kernel_rfl, ?_⟩) hHeld ?_
          rotate_left
          · intro wz hSw; go_simp; try (with_reducible rfl)
          try simp only [Act.put, List.setIfInBounds_toArray, List.set_cons_zero, List.set_cons_succ, List.getElem_toArray, List.getElem_cons_succ, List.getElem_cons_zero]
          refine take_at (some 22) (i := 11) (v := undef) rfl rfl (by kernel_rfl) (by kernel_rfl) (by kernel_rfl) (fun _ _ _ h => h) (Or.inr ⟨by kernel_rfl, rfl⟩) hHeld ?_
          try simp only [Act.put, List.setIfInBounds_toArray, List.set_cons_zero, List.set_cons_succ, List.getElem_toArray, List.getElem_cons_succ, List.getElem_cons_zero]
          refine take_at (some 23) (i := 12) (v := undef) rfl rfl (by kernel_rfl) (by kernel_rfl) (by kernel_rfl) (fun _ _ _ h => h) (Or.inr ⟨by kernel_rfl, rfl⟩) hHeld ?_
          try simp only [Act.put, List.setIfInBounds_toArray, List.set_cons_zero, List.set_cons_succ, List.getElem_toArray, List.getElem_cons_succ, List.getElem_cons_zero]
          refine take_at (some 24) (i := 13) (v := undef) rfl rfl (by kernel_rfl) (by kernel_rfl) (by kernel_rfl) (fun _ _ _ h => h) (Or.inr ⟨by kernel_rfl, rfl⟩) hHeld ?_
          try simp only [Act.put, List.setIfInBounds_toArray, List.set_cons_zero, List.set_cons_succ, List.getElem_toArray, List.getElem_cons_succ, List.getElem_cons_zero]
          refine take_at (some 25) (i := 14) (v := undef) rfl rfl (by kernel_rfl) (by kernel_rfl) (by kernel_rfl) (fun _ _ _ h => h) (Or.inr ⟨by kernel_rfl, rfl⟩) hHeld ?_
          try simp only [Act.put, List.setIfInBounds_toArray, List.set_cons_zero, List.set_cons_succ, List.getElem_toArray, List.getElem_cons_succ, List.getElem_cons_zero]
          refine take_at (some 26) (i := 15) (v := undef) rfl rfl (by kernel_rfl) (by kernel_rfl) (by kernel_rfl) (fun _ _ _ h => h) (Or.inr ⟨by kernel_rfl, rfl⟩) hHeld ?_
          try simp only [Act.put, List.setIfInBounds_toArray, List.set_cons_zero, List.set_cons_succ, List.getElem_toArray, List.getElem_cons_succ, List.getElem_cons_zero]
          refine take_at (some 27) (i := 16) (v := undef) rfl rfl (by kernel_rfl) (by kernel_rfl) (by kernel_rfl) (fun _ _ _ h => h) (Or.inr ⟨by kernel_rfl, rfl⟩) hHeld ?_
          try simp only [Act.put, List.setIfInBounds_toArray, List.set_cons_zero, List.set_cons_succ, List.getElem_toArray, List.getElem_cons_succ, List.getElem_cons_zero]
          refine take_at (some 28) (i := 17) (v := undef) rfl rfl (by kernel_rfl) (by kernel_rfl) (by kernel_rfl) (fun _ _ _ h => h) (Or.inr ⟨by kernel_rfl, rfl⟩) hHeld ?_
          try simp only [Act.put, List.setIfInBounds_toArray, List.set_cons_zero, List.set_cons_succ, List.getElem_toArray, List.getElem_cons_succ, List.getElem_cons_zero]
          refine take_at (some 29) (i := 18) (v := undef) rfl rfl (by kernel_rfl) (by kernel_rfl) (by kernel_rfl) (fun _ _ _ h => h) (Or.inr ⟨by kernel_rfl, rfl⟩) hHeld ?_
          try simp only [Act.put, List.setIfInBounds_toArray, List.set_cons_zero, List.set_cons_succ, List.getElem_toArray, List.getElem_cons_succ, List.getElem_cons_zero]
          refine take_at (some 30) (i := 19) (v := undef) rfl rfl (by kernel_rfl) (by kernel_rfl) (by kernel_rfl) (fun _ _ _ h => h) (Or.inr ⟨by kernel_rfl, rfl⟩) hHeld ?_
          try simp only [Act.put, List.setIfInBounds_toArray, List.set_cons_zero, List.set_cons_succ, List.getElem_toArray, List.getElem_cons_succ, List.getElem_cons_zero]
          refine take_at (some 31) (i := 20) (v := undef) rfl rfl (by kernel_rfl) (by kernel_rfl) (by kernel_rfl) (fun _ _ _ h => h) (Or.inr ⟨by kernel_rfl, rfl⟩) hHeld ?_
          try simp only [Act.put, List.setIfInBounds_toArray, List.set_cons_zero, List.set_cons_succ, List.getElem_toArray, List.getElem_cons_succ, List.getElem_cons_zero]
          refine take_at (some 32) (i := 21) (v := undef) rfl rfl (by kernel_rfl) (by kernel_rfl) (by kernel_rfl) (fun _ _ _ h => h) (Or.inr ⟨by kernel_rfl, rfl⟩) hHeld ?_
          try simp only [Act.put, List.setIfInBounds_toArray, List.set_cons_zero, List.set_cons_succ, List.getElem_toArray, List.getElem_cons_succ, List.getElem_cons_zero]
          refine take_at (some 33) (i := 22) (v := undef) rfl rfl (by kernel_rfl) (by kernel_rfl) (by kernel_rfl) (fun _ _ _ h => h) (Or.inr ⟨by kernel_rfl, rfl⟩) hHeld ?_
          try simp only [Act.put, List.setIfInBounds_toArray, List.set_cons_zero, List.set_cons_succ, List.getElem_toArray, List.getElem_cons_succ, List.getElem_cons_zero]
          refine take_at (some 34) (i := 23) (v := undef) rfl rfl (by kernel_rfl) (by kernel_rfl) (by kernel_rfl) (fun _ _ _ h => h) (Or.inr ⟨by kernel_rfl, rfl⟩) hHeld ?_
          try simp only [Act.put, List.setIfInBounds_toArray, List.set_cons_zero, List.set_cons_succ, List.getElem_toArray, List.getElem_cons_succ, List.getElem_cons_zero]
          refine take_at (some 35) (i := 24) (v := undef) rfl rfl (by kernel_rfl) (by kernel_rfl) (by kernel_rfl) (fun _ _ _ h => h) (Or.inr ⟨by kernel_rfl, rfl⟩) hHeld ?_
          try simp only [Act.put, List.setIfInBounds_toArray, List.set_cons_zero, List.set_cons_succ, List.getElem_toArray, List.getElem_cons_succ, List.getElem_cons_zero]
          refine take_at (some 36) (i := 25) (v := ?_) rfl rfl (by kernel_rfl) (by kernel_rfl) (by kernel_rfl) (fun _ _ _ h => h) (Or.inl ⟨by kernel_rfl, ?_⟩) hHeld ?_
          rotate_left
          · intro wz hSw; go_simp; try (with_reducible rfl)
          try simp only [Act.put, List.setIfInBounds_toArray, List.set_cons_zero, List.set_cons_succ, List.getElem_toArray, List.getElem_cons_succ, List.getElem_cons_zero]
          refine take_at (some 37) (i := 26) (v := ?_) rfl rfl (by kernel_rfl) (by kernel_rfl) (by kernel_rfl) (fun _ _ _ h => h) (Or.inl ⟨by kernel_rfl, ?_⟩) hHeld ?_
          rotate_left
          · intro wz hSw; go_simp; try (with_reducible rfl)
          try simp only [Act.put, List.setIfInBounds_toArray, List.set_cons_zero, List.set_cons_succ, List.getElem_toArray, List.getElem_cons_succ, List.getElem_cons_zero]
          refine wpAnyH_done (by kernel_rfl) ?_ _
          refine gen_qT (fun y => Below wo.heap.size wo y) hHeld (fun y hy => ?_)
          clear hHeld
          have HY := Lib.hid (HB.out.on hy)
          go_wp2
          go_roundw
          case rel => exact ⟨i + 1, by omega, by go_num, Lib.hid (by rw [HNX.out, HD.out, HST.out]; rw [HZ.out]; rfl), HY⟩
          case measure => simp [intOf]; omega
        have hj0 : (i : Int) > 0 := by omega
        have hj1 : (0 : Int) < (i : Int) := by omega
        have hj7 : 0 < i := by omega
        have hj2 : (0 : Int) ≤ (i : Int) - 1 := by omega
        have hj5 : (1 : Int) ≤ (i : Int) := by omega
        have hj3 : (i : Int) - 1 < (n : Int) := by omega
        have hj4 : ((i : Int) - 1).toNat = i - 1 := by omega
        have hwr : IntKind.i64.wrap ((i : Int) - 1) = (i : Int) - 1 := by rw [IntKind.wrap_i64]; omega
        refine take_at (some 19) (i := 8) (v := ?_) rfl rfl (by kernel_rfl) (by kernel_rfl) (by kernel_rfl) (fun _ _ _ h => h) (Or.inl ⟨by kernel_rfl, ?_⟩) hHeld ?_
        rotate_left
        · intro wz hSw; go_simp; try (with_reducible rfl)
        try simp only [Act.put, List.setIfInBounds_toArray, List.set_cons_zero, List.set_cons_succ, List.getElem_toArray, List.getElem_cons_succ, List.getElem_cons_zero]
        refine take_at (some 20) (i := 9) (v := ?_) rfl rfl (by kernel_rfl) (by kernel_rfl) (by kernel_rfl) (fun _ _ _ h => h) (Or.inl ⟨by kernel_rfl, ?_⟩) hHeld ?_
        rotate_left
        · intro wz hSw; go_simp; try (with_reducible rfl)
        try simp only [Act.put, List.setIfInBounds_toArray, List.set_cons_zero, List.set_cons_succ, List.getElem_toArray, List.getElem_cons_succ, List.getElem_cons_zero]
        refine take_at (some 21) (i := 10) (v := ?_) rfl rfl (by kernel_rfl) (by kernel_rfl) (by kernel_rfl) (fun _ _ _ h => h) (Or.inl ⟨by kernel_rfl, ?_⟩) hHeld ?_
        rotate_left
        · intro wz hSw; go_simp; try (with_reducible rfl)
        try simp only [Act.put, List.setIfInBounds_toArray, List.set_cons_zero, List.set_cons_succ, List.getElem_toArray, List.getElem_cons_succ, List.getElem_cons_zero]
        cases hlt : Op.bytesLess pn.toList xn.toList with
        | false =>
          have HZ := Lib.hid (show ltS (if i = 0 then ByteArray.empty else pn) xn = false by rw [if_neg hi0]; exact hlt)
          refine take_at (some 22) (i := 11) (v := ?_) rfl rfl (by kernel_rfl) (by kernel_rfl) (by kernel_rfl) (fun _ _ _ h => h) (Or.inl ⟨by kernel_rfl, ?_⟩) hHeld ?_
          rotate_left
          · intro wz hSw; have hb2 := HB.out.on hSw; have k4 : wz.cell? ⟨w.heap.size, 4, none⟩ = some (.slice (some ⟨bb, o, none⟩) n c) := hb2.cell 4; obtain ⟨k5, k6, k7, k8, k9⟩ := HCC.out wz hb2.l; have k0 := HPC.out wz hb2.l; clear hb2; go_simp; try (with_reducible rfl)
          try simp only [Act.put, List.setIfInBounds_toArray, List.set_cons_zero, List.set_cons_succ, List.getElem_toArray, List.getElem_cons_succ, List.getElem_cons_zero]
          refine take_at (some 23) (i := 12) (v := ?_) rfl rfl (by kernel_rfl) (by kernel_rfl) (by kernel_rfl) (fun _ _ _ h => h) (Or.inl ⟨by kernel_rfl, ?_⟩) hHeld ?_
          rotate_left
          · intro wz hSw; have hb2 := HB.out.on hSw; have k4 : wz.cell? ⟨w.heap.size, 4, none⟩ = some (.slice (some ⟨bb, o, none⟩) n c) := hb2.cell 4; obtain ⟨k5, k6, k7, k8, k9⟩ := HCC.out wz hb2.l; have k0 := HPC.out wz hb2.l; clear hb2; go_simp; try (with_reducible rfl)
          try simp only [Act.put, List.setIfInBounds_toArray, List.set_cons_zero, List.set_cons_succ, List.getElem_toArray, List.getElem_cons_succ, List.getElem_cons_zero]
          refine take_at (some 24) (i := 13) (v := ?_) rfl rfl (by kernel_rfl) (by kernel_rfl) (by kernel_rfl) (fun _ _ _ h => h) (Or.inl ⟨by kernel_rfl, ?_⟩) hHeld ?_
          rotate_left
          · intro wz hSw; have hb2 := HB.out.on hSw; have k4 : wz.cell? ⟨w.heap.size, 4, none⟩ = some (.slice (some ⟨bb, o, none⟩) n c) := hb2.cell 4; obtain ⟨k5, k6, k7, k8, k9⟩ := HCC.out wz hb2.l; have k0 := HPC.out wz hb2.l; clear hb2; go_simp; try (with_reducible rfl)
          try simp only [Act.put, List.setIfInBounds_toArray, List.set_cons_zero, List.set_cons_succ, List.getElem_toArray, List.getElem_cons_succ, List.getElem_cons_zero]
          refine take_at (some 25) (i := 14) (v := ?_) rfl rfl (by kernel_rfl) (by kernel_rfl) (by kernel_rfl) (fun _ _ _ h => h) (Or.inl ⟨by kernel_rfl, ?_⟩) hHeld ?_
          rotate_left
          · intro wz hSw; have hb2 := HB.out.on hSw; have k4 : wz.cell? ⟨w.heap.size, 4, none⟩ = some (.slice (some ⟨bb, o, none⟩) n c) := hb2.cell 4; obtain ⟨k5, k6, k7, k8, k9⟩ := HCC.out wz hb2.l; have k0 := HPC.out wz hb2.l; clear hb2; go_simp; try (with_reducible rfl)
          try simp only [Act.put, List.setIfInBounds_toArray, List.set_cons_zero, List.set_cons_succ, List.getElem_toArray, List.getElem_cons_succ, List.getElem_cons_zero]
          refine take_at (some 26) (i := 15) (v := ?_) rfl rfl (by kernel_rfl) (by kernel_rfl) (by kernel_rfl) (fun _ _ _ h => h) (Or.inl ⟨by kernel_rfl, ?_⟩) hHeld ?_
          rotate_left
          · intro wz hSw; have hb2 := HB.out.on hSw; have k4 : wz.cell? ⟨w.heap.size, 4, none⟩ = some (.slice (some ⟨bb, o, none⟩) n c) := hb2.cell 4; obtain ⟨k5, k6, k7, k8, k9⟩ := HCC.out wz hb2.l; have k0 := HPC.out wz hb2.l; clear hb2; go_simp; try (with_reducible rfl)
          try simp only [Act.put, List.setIfInBounds_toArray, List.set_cons_zero, List.set_cons_succ, List.getElem_toArray, List.getElem_cons_succ, List.getElem_cons_zero]
          refine take_at (some 27) (i := 16) (v := ?_) rfl rfl (by kernel_rfl) (by kernel_rfl) (by kernel_rfl) (fun _ _ _ h => h) (Or.inl ⟨by kernel_rfl, ?_⟩) hHeld ?_
          rotate_left
          · intro wz hSw; have hb2 := HB.out.on hSw; have k4 : wz.cell? ⟨w.heap.size, 4, none⟩ = some (.slice (some ⟨bb, o, none⟩) n c) := hb2.cell 4; obtain ⟨k5, k6, k7, k8, k9⟩ := HCC.out wz hb2.l; have k0 := HPC.out wz hb2.l; clear hb2; go_simp; try (with_reducible rfl)
          try simp only [Act.put, List.setIfInBounds_toArray, List.set_cons_zero, List.set_cons_succ, List.getElem_toArray, List.getElem_cons_succ, List.getElem_cons_zero]
          refine take_at (some 28) (i := 17) (v := ?_) rfl rfl (by kernel_rfl) (by kernel_rfl) (by kernel_rfl) (fun _ _ _ h => h) (Or.inl ⟨by kernel_rfl, ?_⟩) hHeld ?_
          rotate_left
          · intro wz hSw; have hb2 := HB.out.on hSw; have k4 : wz.cell? ⟨w.heap.size, 4, none⟩ = some (.slice (some ⟨bb, o, none⟩) n c) := hb2.cell 4; obtain ⟨k5, k6, k7, k8, k9⟩ := HCC.out wz hb2.l; have k0 := HPC.out wz hb2.l; clear hb2; go_simp; try (with_reducible rfl)
          try simp only [Act.put, List.setIfInBounds_toArray, List.set_cons_zero, List.set_cons_succ, List.getElem_toArray, List.getElem_cons_succ, List.getElem_cons_zero]
          refine take_at (some 29) (i := 18) (v := ?_) rfl rfl (by kernel_rfl) (by kernel_rfl) (by kernel_rfl) (fun _ _ _ h => h) (Or.inl ⟨by kernel_rfl, ?_⟩) hHeld ?_
          rotate_left
          · intro wz hSw; have hb2 := HB.out.on hSw; have k4 : wz.cell? ⟨w.heap.size, 4, none⟩ = some (.slice (some ⟨bb, o, none⟩) n c) := hb2.cell 4; obtain ⟨k5, k6, k7, k8, k9⟩ := HCC.out wz hb2.l; have k0 := HPC.out wz hb2.l; clear hb2; go_simp; try (with_reducible rfl)
          try simp only [Act.put, List.setIfInBounds_toArray, List.set_cons_zero, List.set_cons_succ, List.getElem_toArray, List.getElem_cons_succ, List.getElem_cons_zero]
          refine take_at (some 30) (i := 19) (v := ?_) rfl rfl (by kernel_rfl) (by kernel_rfl) (by kernel_rfl) (fun _ _ _ h => h) (Or.inl ⟨by kernel_rfl, ?_⟩) hHeld ?_
          rotate_left
          · intro wz hSw; have hb2 := HB.out.on hSw; have k4 : wz.cell? ⟨w.heap.size, 4, none⟩ = some (.slice (some ⟨bb, o, none⟩) n c) := hb2.cell 4; obtain ⟨k5, k6, k7, k8, k9⟩ := HCC.out wz hb2.l; have k0 := HPC.out wz hb2.l; clear hb2; go_simp; try (with_reducible rfl)
          try simp only [Act.put, List.setIfInBounds_toArray, List.set_cons_zero, List.set_cons_succ, List.getElem_toArray, List.getElem_cons_succ, List.getElem_cons_zero]
          refine take_at (some 31) (i := 20) (v := ?_) rfl rfl (by kernel_rfl) (by kernel_rfl) (by kernel_rfl) (fun _ _ _ h => h) (Or.inl ⟨by kernel_rfl, ?_⟩) hHeld ?_
          rotate_left
          · intro wz hSw; have hb2 := HB.out.on hSw; have k4 : wz.cell? ⟨w.heap.size, 4, none⟩ = some (.slice (some ⟨bb, o, none⟩) n c) := hb2.cell 4; obtain ⟨k5, k6, k7, k8, k9⟩ := HCC.out wz hb2.l; have k0 := HPC.out wz hb2.l; clear hb2; go_simp; try (with_reducible rfl)
          try simp only [Act.put, List.setIfInBounds_toArray, List.set_cons_zero, List.set_cons_succ, List.getElem_toArray, List.getElem_cons_succ, List.getElem_cons_zero]
          refine take_at (some 32) (i := 21) (v := ?_) rfl rfl (by kernel_rfl) (by kernel_rfl) (by kernel_rfl) (fun _ _ _ h => h) (Or.inl ⟨by kernel_rfl, ?_⟩) hHeld ?_
          rotate_left
          · intro wz hSw; have hb2 := HB.out.on hSw; have k4 : wz.cell? ⟨w.heap.size, 4, none⟩ = some (.slice (some ⟨bb, o, none⟩) n c) := hb2.cell 4; obtain ⟨k5, k6, k7, k8, k9⟩ := HCC.out wz hb2.l; have k0 := HPC.out wz hb2.l; clear hb2; go_simp; try (with_reducible rfl)
          try simp only [Act.put, List.setIfInBounds_toArray, List.set_cons_zero, List.set_cons_succ, List.getElem_toArray, List.getElem_cons_succ, List.getElem_cons_zero]
          refine take_at (some 33) (i := 22) (v := ?_) rfl rfl (by kernel_rfl) (by kernel_rfl) (by kernel_rfl) (fun _ _ _ h => h) (Or.inl ⟨by kernel_rfl, ?_⟩) hHeld ?_
          rotate_left
          · intro wz hSw; have hb2 := HB.out.on hSw; have k4 : wz.cell? ⟨w.heap.size, 4, none⟩ = some (.slice (some ⟨bb, o, none⟩) n c) := hb2.cell 4; obtain ⟨k5, k6, k7, k8, k9⟩ := HCC.out wz hb2.l; have k0 := HPC.out wz hb2.l; clear hb2; go_simp; try (with_reducible rfl)
          try simp only [Act.put, List.setIfInBounds_toArray, List.set_cons_zero, List.set_cons_succ, List.getElem_toArray, List.getElem_cons_succ, List.getElem_cons_zero]
          refine take_at (some 34) (i := 23) (v := ?_) rfl rfl (by kernel_rfl) (by kernel_rfl) (by kernel_rfl) (fun _ _ _ h => h) (Or.inl ⟨by kernel_rfl, ?_⟩) hHeld ?_
          rotate_left
          · intro wz hSw; have hb2 := HB.out.on hSw; have k4 : wz.cell? ⟨w.heap.size, 4, none⟩ = some (.slice (some ⟨bb, o, none⟩) n c) := hb2.cell 4; obtain ⟨k5, k6, k7, k8, k9⟩ := HCC.out wz hb2.l; have k0 := HPC.out wz hb2.l; clear hb2; go_simp; try (with_reducible rfl)
          try simp only [Act.put, List.setIfInBounds_toArray, List.set_cons_zero, List.set_cons_succ, List.getElem_toArray, List.getElem_cons_succ, List.getElem_cons_zero]
          refine take_at (some 35) (i := 24) (v := ?_) rfl rfl (by kernel_rfl) (by kernel_rfl) (by kernel_rfl) (fun _ _ _ h => h) (Or.inl ⟨by kernel_rfl, ?_⟩) hHeld ?_
          rotate_left
          · intro wz hSw; have hb2 := HB.out.on hSw; have k4 : wz.cell? ⟨w.heap.size, 4, none⟩ = some (.slice (some ⟨bb, o, none⟩) n c) := hb2.cell 4; obtain ⟨k5, k6, k7, k8, k9⟩ := HCC.out wz hb2.l; have k0 := HPC.out wz hb2.l; clear hb2; go_simp; try (with_reducible rfl)
          try simp only [Act.put, List.setIfInBounds_toArray, List.set_cons_zero, List.set_cons_succ, List.getElem_toArray, List.getElem_cons_succ, List.getElem_cons_zero]
          refine take_at (some 36) (i := 25) (v := ?_) rfl rfl (by kernel_rfl) (by kernel_rfl) (by kernel_rfl) (fun _ _ _ h => h) (Or.inl ⟨by kernel_rfl, ?_⟩) hHeld ?_
          rotate_left
          · intro wz hSw; have hb2 := HB.out.on hSw; have k4 : wz.cell? ⟨w.heap.size, 4, none⟩ = some (.slice (some ⟨bb, o, none⟩) n c) := hb2.cell 4; obtain ⟨k5, k6, k7, k8, k9⟩ := HCC.out wz hb2.l; have k0 := HPC.out wz hb2.l; clear hb2; go_simp; try (with_reducible rfl)
          try simp only [Act.put, List.setIfInBounds_toArray, List.set_cons_zero, List.set_cons_succ, List.getElem_toArray, List.getElem_cons_succ, List.getElem_cons_zero]
          refine take_at (some 37) (i := 26) (v := ?_) rfl rfl (by kernel_rfl) (by kernel_rfl) (by kernel_rfl) (fun _ _ _ h => h) (Or.inl ⟨by kernel_rfl, ?_⟩) hHeld ?_
          rotate_left
          · intro wz hSw; have hb2 := HB.out.on hSw; have k4 : wz.cell? ⟨w.heap.size, 4, none⟩ = some (.slice (some ⟨bb, o, none⟩) n c) := hb2.cell 4; obtain ⟨k5, k6, k7, k8, k9⟩ := HCC.out wz hb2.l; have k0 := HPC.out wz hb2.l; clear hb2; go_simp; try (with_reducible rfl)
          try simp only [Act.put, List.setIfInBounds_toArray, List.set_cons_zero, List.set_cons_succ, List.getElem_toArray, List.getElem_cons_succ, List.getElem_cons_zero]
          refine wpAnyH_done (by kernel_rfl) ?_ _
          refine gen_qT (fun y => Below wo.heap.size wo y) hHeld (fun y hy => ?_)
          clear hHeld
          have HVF := Lib.hid (show R2 = false by rw [HD.out, HST.out]; rw [HZ.out]; rfl)
          go_wp2
          go_ret
          exact ⟨by rw [HVF.out]; rfl, (HB.out.on hy).l⟩
        | true =>
          have HZ := Lib.hid (show ltS (if i = 0 then ByteArray.empty else pn) xn = true by rw [if_neg hi0]; exact hlt)
          refine take_at (some 22) (i := 11) (v := ?_) rfl rfl (by kernel_rfl) (by kernel_rfl) (by kernel_rfl) (fun _ _ _ h => h) (Or.inl ⟨by kernel_rfl, ?_⟩) hHeld ?_
          rotate_left
          · intro wz hSw; have hb2 := HB.out.on hSw; have k4 : wz.cell? ⟨w.heap.size, 4, none⟩ = some (.slice (some ⟨bb, o, none⟩) n c) := hb2.cell 4; obtain ⟨k5, k6, k7, k8, k9⟩ := HCC.out wz hb2.l; have k0 := HPC.out wz hb2.l; clear hb2; go_simp; try (with_reducible rfl)
          try simp only [Act.put, List.setIfInBounds_toArray, List.set_cons_zero, List.set_cons_succ, List.getElem_toArray, List.getElem_cons_succ, List.getElem_cons_zero]
          refine take_at (some 23) (i := 12) (v := ?_) rfl rfl (by kernel_rfl) (by kernel_rfl) (by kernel_rfl) (fun _ _ _ h => h) (Or.inl ⟨by kernel_rfl, ?_⟩) hHeld ?_
          rotate_left
          · intro wz hSw; have hb2 := HB.out.on hSw; have k4 : wz.cell? ⟨w.heap.size, 4, none⟩ = some (.slice (some ⟨bb, o, none⟩) n c) := hb2.cell 4; obtain ⟨k5, k6, k7, k8, k9⟩ := HCC.out wz hb2.l; have k0 := HPC.out wz hb2.l; clear hb2; go_simp; try (with_reducible rfl)
          try simp only [Act.put, List.setIfInBounds_toArray, List.set_cons_zero, List.set_cons_succ, List.getElem_toArray, List.getElem_cons_succ, List.getElem_cons_zero]
          refine take_at (some 24) (i := 13) (v := ?_) rfl rfl (by kernel_rfl) (by kernel_rfl) (by kernel_rfl) (fun _ _ _ h => h) (Or.inl ⟨by kernel_rfl, ?_⟩) hHeld ?_
          rotate_left
          · intro wz hSw; have hb2 := HB.out.on hSw; have k4 : wz.cell? ⟨w.heap.size, 4, none⟩ = some (.slice (some ⟨bb, o, none⟩) n c) := hb2.cell 4; obtain ⟨k5, k6, k7, k8, k9⟩ := HCC.out wz hb2.l; have k0 := HPC.out wz hb2.l; clear hb2; go_simp; try (with_reducible rfl)
          try simp only [Act.put, List.setIfInBounds_toArray, List.set_cons_zero, List.set_cons_succ, List.getElem_toArray, List.getElem_cons_succ, List.getElem_cons_zero]
          refine take_at (some 25) (i := 14) (v := ?_) rfl rfl (by kernel_rfl) (by kernel_rfl) (by kernel_rfl) (fun _ _ _ h => h) (Or.inl ⟨by kernel_rfl, ?_⟩) hHeld ?_
          rotate_left
          · intro wz hSw; have hb2 := HB.out.on hSw; have k4 : wz.cell? ⟨w.heap.size, 4, none⟩ = some (.slice (some ⟨bb, o, none⟩) n c) := hb2.cell 4; obtain ⟨k5, k6, k7, k8, k9⟩ := HCC.out wz hb2.l; have k0 := HPC.out wz hb2.l; clear hb2; go_simp; try (with_reducible rfl)
          try simp only [Act.put, List.setIfInBounds_toArray, List.set_cons_zero, List.set_cons_succ, List.getElem_toArray, List.getElem_cons_succ, List.getElem_cons_zero]
          refine take_at (some 26) (i := 15) (v := ?_) rfl rfl (by kernel_rfl) (by kernel_rfl) (by kernel_rfl) (fun _ _ _ h => h) (Or.inl ⟨by kernel_rfl, ?_⟩) hHeld ?_
          rotate_left
          · intro wz hSw; have hb2 := HB.out.on hSw; have k4 : wz.cell? ⟨w.heap.size, 4, none⟩ = some (.slice (some ⟨bb, o, none⟩) n c) := hb2.cell 4; obtain ⟨k5, k6, k7, k8, k9⟩ := HCC.out wz hb2.l; have k0 := HPC.out wz hb2.l; clear hb2; go_simp; try (with_reducible rfl)
          try simp only [Act.put, List.setIfInBounds_toArray, List.set_cons_zero, List.set_cons_succ, List.getElem_toArray, List.getElem_cons_succ, List.getElem_cons_zero]
          refine take_at (some 27) (i := 16) (v := ?_) rfl rfl (by kernel_rfl) (by kernel_rfl) (by kernel_rfl) (fun _ _ _ h => h) (Or.inl ⟨by kernel_rfl, ?_⟩) hHeld ?_
          rotate_left
          · intro wz hSw; have hb2 := HB.out.on hSw; have k4 : wz.cell? ⟨w.heap.size, 4, none⟩ = some (.slice (some ⟨bb, o, none⟩) n c) := hb2.cell 4; obtain ⟨k5, k6, k7, k8, k9⟩ := HCC.out wz hb2.l; have k0 := HPC.out wz hb2.l; clear hb2; go_simp; try (with_reducible rfl)
          try simp only [Act.put, List.setIfInBounds_toArray, List.set_cons_zero, List.set_cons_succ, List.getElem_toArray, List.getElem_cons_succ, List.getElem_cons_zero]
          refine take_at (some 28) (i := 17) (v := ?_) rfl rfl (by kernel_rfl) (by kernel_rfl) (by kernel_rfl) (fun _ _ _ h => h) (Or.inl ⟨by kernel_rfl, ?_⟩) hHeld ?_
          rotate_left
          · intro wz hSw; have hb2 := HB.out.on hSw; have k4 : wz.cell? ⟨w.heap.size, 4, none⟩ = some (.slice (some ⟨bb, o, none⟩) n c) := hb2.cell 4; obtain ⟨k5, k6, k7, k8, k9⟩ := HCC.out wz hb2.l; have k0 := HPC.out wz hb2.l; clear hb2; go_simp; try (with_reducible rfl)
          try simp only [Act.put, List.setIfInBounds_toArray, List.set_cons_zero, List.set_cons_succ, List.getElem_toArray, List.getElem_cons_succ, List.getElem_cons_zero]
          refine take_at (some 29) (i := 18) (v := ?_) rfl rfl (by kernel_rfl) (by kernel_rfl) (by kernel_rfl) (fun _ _ _ h => h) (Or.inl ⟨by kernel_rfl, ?_⟩) hHeld ?_
          rotate_left
          · intro wz hSw; have hb2 := HB.out.on hSw; have k4 : wz.cell? ⟨w.heap.size, 4, none⟩ = some (.slice (some ⟨bb, o, none⟩) n c) := hb2.cell 4; obtain ⟨k5, k6, k7, k8, k9⟩ := HCC.out wz hb2.l; have k0 := HPC.out wz hb2.l; clear hb2; go_simp; try (with_reducible rfl)
          try simp only [Act.put, List.setIfInBounds_toArray, List.set_cons_zero, List.set_cons_succ, List.getElem_toArray, List.getElem_cons_succ, List.getElem_cons_zero]
          refine take_at (some 30) (i := 19) (v := ?_) rfl rfl (by kernel_rfl) (by kernel_rfl) (by kernel_rfl) (fun _ _ _ h => h) (Or.inl ⟨by kernel_rfl, ?_⟩) hHeld ?_
          rotate_left
          · intro wz hSw; have hb2 := HB.out.on hSw; have k4 : wz.cell? ⟨w.heap.size, 4, none⟩ = some (.slice (some ⟨bb, o, none⟩) n c) := hb2.cell 4; obtain ⟨k5, k6, k7, k8, k9⟩ := HCC.out wz hb2.l; have k0 := HPC.out wz hb2.l; clear hb2; go_simp; try (with_reducible rfl)
          try simp only [Act.put, List.setIfInBounds_toArray, List.set_cons_zero, List.set_cons_succ, List.getElem_toArray, List.getElem_cons_succ, List.getElem_cons_zero]
          refine take_at (some 31) (i := 20) (v := ?_) rfl rfl (by kernel_rfl) (by kernel_rfl) (by kernel_rfl) (fun _ _ _ h => h) (Or.inl ⟨by kernel_rfl, ?_⟩) hHeld ?_
          rotate_left
          · intro wz hSw; have hb2 := HB.out.on hSw; have k4 : wz.cell? ⟨w.heap.size, 4, none⟩ = some (.slice (some ⟨bb, o, none⟩) n c) := hb2.cell 4; obtain ⟨k5, k6, k7, k8, k9⟩ := HCC.out wz hb2.l; have k0 := HPC.out wz hb2.l; clear hb2; go_simp; try (with_reducible rfl)
          try simp only [Act.put, List.setIfInBounds_toArray, List.set_cons_zero, List.set_cons_succ, List.getElem_toArray, List.getElem_cons_succ, List.getElem_cons_zero]
          refine take_at (some 32) (i := 21) (v := ?_) rfl rfl (by kernel_rfl) (by kernel_rfl) (by kernel_rfl) (fun _ _ _ h => h) (Or.inl ⟨by kernel_rfl, ?_⟩) hHeld ?_
          rotate_left
          · intro wz hSw; have hb2 := HB.out.on hSw; have k4 : wz.cell? ⟨w.heap.size, 4, none⟩ = some (.slice (some ⟨bb, o, none⟩) n c) := hb2.cell 4; obtain ⟨k5, k6, k7, k8, k9⟩ := HCC.out wz hb2.l; have k0 := HPC.out wz hb2.l; clear hb2; go_simp; try (with_reducible rfl)
          try simp only [Act.put, List.setIfInBounds_toArray, List.set_cons_zero, List.set_cons_succ, List.getElem_toArray, List.getElem_cons_succ, List.getElem_cons_zero]
          refine take_at (some 33) (i := 22) (v := ?_) rfl rfl (by kernel_rfl) (by kernel_rfl) (by kernel_rfl) (fun _ _ _ h => h) (Or.inl ⟨by kernel_rfl, ?_⟩) hHeld ?_
          rotate_left
          · intro wz hSw; have hb2 := HB.out.on hSw; have k4 : wz.cell? ⟨w.heap.size, 4, none⟩ = some (.slice (some ⟨bb, o, none⟩) n c) := hb2.cell 4; obtain ⟨k5, k6, k7, k8, k9⟩ := HCC.out wz hb2.l; have k0 := HPC.out wz hb2.l; clear hb2; go_simp; try (with_reducible rfl)
          try simp only [Act.put, List.setIfInBounds_toArray, List.set_cons_zero, List.set_cons_succ, List.getElem_toArray, List.getElem_cons_succ, List.getElem_cons_zero]
          refine take_at (some 34) (i := 23) (v := ?_) rfl rfl (by kernel_rfl) (by kernel_rfl) (by kernel_rfl) (fun _ _ _ h => h) (Or.inl ⟨by kernel_rfl, ?_⟩) hHeld ?_
          rotate_left
          · intro wz hSw; have hb2 := HB.out.on hSw; have k4 : wz.cell? ⟨w.heap.size, 4, none⟩ = some (.slice (some ⟨bb, o, none⟩) n c) := hb2.cell 4; obtain ⟨k5, k6, k7, k8, k9⟩ := HCC.out wz hb2.l; have k0 := HPC.out wz hb2.l; clear hb2; go_simp; try (with_reducible rfl)
          try simp only [Act.put, List.setIfInBounds_toArray, List.set_cons_zero, List.set_cons_succ, List.getElem_toArray, List.getElem_cons_succ, List.getElem_cons_zero]
          refine take_at (some 35) (i := 24) (v := ?_) rfl rfl (by kernel_rfl) (by kernel_rfl) (by kernel_rfl) (fun _ _ _ h => h) (Or.inl ⟨by kernel_rfl, ?_⟩) hHeld ?_
          rotate_left
          · intro wz hSw; have hb2 := HB.out.on hSw; have k4 : wz.cell? ⟨w.heap.size, 4, none⟩ = some (.slice (some ⟨bb, o, none⟩) n c) := hb2.cell 4; obtain ⟨k5, k6, k7, k8, k9⟩ := HCC.out wz hb2.l; have k0 := HPC.out wz hb2.l; clear hb2; go_simp; try (with_reducible rfl)
          try simp only [Act.put, List.setIfInBounds_toArray, List.set_cons_zero, List.set_cons_succ, List.getElem_toArray, List.getElem_cons_succ, List.getElem_cons_zero]
          refine take_at (some 36) (i := 25) (v := ?_) rfl rfl (by kernel_rfl) (by kernel_rfl) (by kernel_rfl) (fun _ _ _ h => h) (Or.inl ⟨by kernel_rfl, ?_⟩) hHeld ?_
          rotate_left
          · intro wz hSw; have hb2 := HB.out.on hSw; have k4 : wz.cell? ⟨w.heap.size, 4, none⟩ = some (.slice (some ⟨bb, o, none⟩) n c) := hb2.cell 4; obtain ⟨k5, k6, k7, k8, k9⟩ := HCC.out wz hb2.l; have k0 := HPC.out wz hb2.l; clear hb2; go_simp; try (with_reducible rfl)
          try simp only [Act.put, List.setIfInBounds_toArray, List.set_cons_zero, List.set_cons_succ, List.getElem_toArray, List.getElem_cons_succ, List.getElem_cons_zero]
          refine take_at (some 37) (i := 26) (v := ?_) rfl rfl (by kernel_rfl) (by kernel_rfl) (by kernel_rfl) (fun _ _ _ h => h) (Or.inl ⟨by kernel_rfl, ?_⟩) hHeld ?_
          rotate_left
          · intro wz hSw; have hb2 := HB.out.on hSw; have k4 : wz.cell? ⟨w.heap.size, 4, none⟩ = some (.slice (some ⟨bb, o, none⟩) n c) := hb2.cell 4; obtain ⟨k5, k6, k7, k8, k9⟩ := HCC.out wz hb2.l; have k0 := HPC.out wz hb2.l; clear hb2; go_simp; try (with_reducible rfl)
          try simp only [Act.put, List.setIfInBounds_toArray, List.set_cons_zero, List.set_cons_succ, List.getElem_toArray, List.getElem_cons_succ, List.getElem_cons_zero]
          refine wpAnyH_done (by kernel_rfl) ?_ _
          refine gen_qT (fun y => Below wo.heap.size wo y) hHeld (fun y hy => ?_)
          clear hHeld
          have HY := Lib.hid (HB.out.on hy)
          go_wp2
          go_roundw
          case rel => exact ⟨i + 1, by omega, by go_num, Lib.hid (by rw [HNX.out, HD.out, HST.out]; rw [HZ.out]; rfl), HY⟩
          case measure => simp [intOf]; omega
    · have hi2 : ¬ (i : Int) < (n : Int) := by omega
      have HE := Lib.hid (show R2 = true by rw [HD.out, List.drop_eq_nil_of_le (by rw [HNN.out]; omega)]; rfl)
      have e0 : wr.cell? ⟨w.heap.size, 0, none⟩ = some (.int .i64 a0) := HB.out.cell 0
      cases t0 with
      | false =>
        go_wp2_with (go_at_call 41; (with_reducible refine (HT0.out _).mono ?_); rintro e u1 ⟨rfl, hb⟩; have H1 := Lib.hid (HB.out.on hb); clear hb)
        go_ret
        exact ⟨by rw [HE.out]; rfl, H1.out.l⟩
      | true =>
        cases t1 with
        | false =>
          go_wp2_with (first
            | (go_at_call 41; (with_reducible refine (HT0.out _).mono ?_); rintro e u1 ⟨rfl, hb⟩; have H1 := Lib.hid (HB.out.on hb); clear hb; have e1 : u1.cell? ⟨w.heap.size, 1, none⟩ = some (.int .i64 a1) := H1.out.cell 1)
            | (go_at_call 41; (with_reducible refine (HT1.out _).mono ?_); rintro e u2 ⟨rfl, hb⟩; have H2 := Lib.hid (H1.out.on hb); clear hb; have e2 : u2.cell? ⟨w.heap.size, 2, none⟩ = some (.int .i64 a2) := H2.out.cell 2))
          go_ret
          exact ⟨by rw [HE.out]; rfl, H2.out.l⟩
        | true =>
          cases t2 with
          | false =>
            go_wp2_with (first
              | (go_at_call 41; (with_reducible refine (HT0.out _).mono ?_); rintro e u1 ⟨rfl, hb⟩; have H1 := Lib.hid (HB.out.on hb); clear hb; have e1 : u1.cell? ⟨w.heap.size, 1, none⟩ = some (.int .i64 a1) := H1.out.cell 1)
              | (go_at_call 41; (with_reducible refine (HT1.out _).mono ?_); rintro e u2 ⟨rfl, hb⟩; have H2 := Lib.hid (H1.out.on hb); clear hb; have e2 : u2.cell? ⟨w.heap.size, 2, none⟩ = some (.int .i64 a2) := H2.out.cell 2)
              | (go_at_call 41; (with_reducible refine (HT2.out _).mono ?_); rintro e u3 ⟨rfl, hb⟩; have H3 := Lib.hid (H2.out.on hb); clear hb; have e3 : u3.cell? ⟨w.heap.size, 3, none⟩ = some (.int .i64 a3) := H3.out.cell 3))
            go_ret
            exact ⟨by rw [HE.out]; rfl, H3.out.l⟩
          | true =>
            cases t3 with
            | false =>
              go_wp2_with (first
                | (go_at_call 41; (with_reducible refine (HT0.out _).mono ?_); rintro e u1 ⟨rfl, hb⟩; have H1 := Lib.hid (HB.out.on hb); clear hb; have e1 : u1.cell? ⟨w.heap.size, 1, none⟩ = some (.int .i64 a1) := H1.out.cell 1)
                | (go_at_call 41; (with_reducible refine (HT1.out _).mono ?_); rintro e u2 ⟨rfl, hb⟩; have H2 := Lib.hid (H1.out.on hb); clear hb; have e2 : u2.cell? ⟨w.heap.size, 2, none⟩ = some (.int .i64 a2) := H2.out.cell 2)
                | (go_at_call 41; (with_reducible refine (HT2.out _).mono ?_); rintro e u3 ⟨rfl, hb⟩; have H3 := Lib.hid (H2.out.on hb); clear hb; have e3 : u3.cell? ⟨w.heap.size, 3, none⟩ = some (.int .i64 a3) := H3.out.cell 3)
                | (go_at_call 41; (with_reducible refine (HT3.out _).mono ?_); rintro e u4 ⟨rfl, hb⟩; have H4 := Lib.hid (H3.out.on hb); clear hb; have e4 : u4.cell? ⟨w.heap.size, 4, none⟩ = some (.slice A n c) := H4.out.cell 4))
              go_ret
              exact ⟨by rw [HE.out]; rfl, H4.out.l⟩
            | true =>
              by_cases h8 : n ≤ 8
              · have h81 : (n : Int) ≤ 8 := by omega
                have HV := Lib.hid (show (true && (true && true && true && true && decide (n ≤ 8))) = true by rw [decide_eq_true h8]; rfl)
                go_wp2_with (first
                  | (go_at_call 41; (with_reducible refine (HT0.out _).mono ?_); rintro e u1 ⟨rfl, hb⟩; have H1 := Lib.hid (HB.out.on hb); clear hb; have e1 : u1.cell? ⟨w.heap.size, 1, none⟩ = some (.int .i64 a1) := H1.out.cell 1)
                  | (go_at_call 41; (with_reducible refine (HT1.out _).mono ?_); rintro e u2 ⟨rfl, hb⟩; have H2 := Lib.hid (H1.out.on hb); clear hb; have e2 : u2.cell? ⟨w.heap.size, 2, none⟩ = some (.int .i64 a2) := H2.out.cell 2)
                  | (go_at_call 41; (with_reducible refine (HT2.out _).mono ?_); rintro e u3 ⟨rfl, hb⟩; have H3 := Lib.hid (H2.out.on hb); clear hb; have e3 : u3.cell? ⟨w.heap.size, 3, none⟩ = some (.int .i64 a3) := H3.out.cell 3)
                  | (go_at_call 41; (with_reducible refine (HT3.out _).mono ?_); rintro e u4 ⟨rfl, hb⟩; have H4 := Lib.hid (H3.out.on hb); clear hb; have e4 : u4.cell? ⟨w.heap.size, 4, none⟩ = some (.slice A n c) := H4.out.cell 4))
                go_ret
                exact ⟨by rw [HE.out, HV.out]; first | rfl | (simp; omega), H4.out.l⟩
              · have h81 : ¬ (n : Int) ≤ 8 := by omega
                have HV := Lib.hid (show (true && (true && true && true && true && decide (n ≤ 8))) = false by rw [decide_eq_false h8]; rfl)
                go_wp2_with (first
                  | (go_at_call 41; (with_reducible refine (HT0.out _).mono ?_); rintro e u1 ⟨rfl, hb⟩; have H1 := Lib.hid (HB.out.on hb); clear hb; have e1 : u1.cell? ⟨w.heap.size, 1, none⟩ = some (.int .i64 a1) := H1.out.cell 1)
                  | (go_at_call 41; (with_reducible refine (HT1.out _).mono ?_); rintro e u2 ⟨rfl, hb⟩; have H2 := Lib.hid (H1.out.on hb); clear hb; have e2 : u2.cell? ⟨w.heap.size, 2, none⟩ = some (.int .i64 a2) := H2.out.cell 2)
                  | (go_at_call 41; (with_reducible refine (HT2.out _).mono ?_); rintro e u3 ⟨rfl, hb⟩; have H3 := Lib.hid (H2.out.on hb); clear hb; have e3 : u3.cell? ⟨w.heap.size, 3, none⟩ = some (.int .i64 a3) := H3.out.cell 3)
                  | (go_at_call 41; (with_reducible refine (HT3.out _).mono ?_); rintro e u4 ⟨rfl, hb⟩; have H4 := Lib.hid (H3.out.on hb); clear hb; have e4 : u4.cell? ⟨w.heap.size, 4, none⟩ = some (.slice A n c) := H4.out.cell 4))
                go_ret
                exact ⟨by rw [HE.out, HV.out]; first | rfl | (simp; omega), H4.out.l⟩
end Go.Proofs.Ytcplebbaiambgaa

/- The document's own gate: its memory; place, Used, add: their contracts. (Written by gen_gtref.py.) -/
namespace Go.Proofs.Ytcplebbaiambgaa
set_option linter.unusedVariables false
set_option maxRecDepth 100000
set_option linter.unusedSimpArgs false
open Go.RowKit

/-- What turned are blocks of numbers, from lo on. -/
def Ki (lo : Nat) (u u' : World) : Prop := ∃ L : List Nat, (∀ b ∈ L, lo ≤ b ∧ ∃ cs, Bk u b 3 cs) ∧ Ke L u u'
theorem Ki.of {lo : Nat} {u u' : World} (h : Below u.heap.size u u') : Ki lo u u' := ⟨[], (fun b hb => by cases hb), Ke.of h⟩
theorem Ki.below {lo : Nat} {u u' : World} (h : Ki lo u u') (hlo : lo ≤ u.heap.size) : Below lo u u' := by
  obtain ⟨L, hL, hk⟩ := h
  exact hk.below hlo (fun x hx => (hL x hx).1)
theorem Bk.ki {lo k : Nat} {u u' : World} {t : TypeId} {cs : Array Value} (h : Bk u k t cs) (K : Ki lo u u') (ht : t ≠ 3) : Bk u' k t cs := by
  obtain ⟨L, hL, hk⟩ := K
  refine h.ke hk (fun hx => ?_)
  obtain ⟨_, ds, hd⟩ := hL k hx
  have h1 : u.heap[k]? = some (.cells cs t) := h
  have h2 : u.heap[k]? = some (.cells ds 3) := hd
  rw [h1] at h2
  injection h2 with h2
  injection h2 with _ h3
  exact ht h3
theorem Mg.ki {lo mb : Nat} {u u' : World} {l : List (ByteArray × Nat)} (h : Mg u mb l) (K : Ki lo u u') : Mg u' mb l := by
  obtain ⟨L, hL, hk⟩ := K
  refine h.ke hk (fun hx => ?_)
  obtain ⟨_, ds, hd⟩ := hL mb hx
  obtain ⟨es, ck, he⟩ := h.block
  have h2 : u.heap[mb]? = some (.cells ds 3) := hd
  rw [he] at h2
  cases h2
theorem ON.ki {lo B : Nat} {u u' : World} {A : Option Addr} {c : Nat} {l : List Nt} (h : ON u B A c l) (K : Ki lo u u') : ON u' B A c l :=
  h.keep fun g cs _ hh => hh.ki K (by decide)
theorem Gz.ki {u u' : World} {g mb lo hi lo' : Nat} {gs : List GtL} {U : Us} (h : Gz u g mb lo hi gs U) (K : Ki lo' u u') : Gz u' g mb lo hi gs U :=
  ⟨h.blk.ki K (by decide), h.mp.ki K, fun y hy => ⟨(h.each y hy).1.ki K (by decide), (h.each y hy).2.ki K⟩, h.bs, h.at_, h.nt, h.lim, h.q⟩

/-- How many each has, by its place. -/
def ucl (ts : List Tv) (U : Us) (k : Int) : Array Value := (ts.map fun y => Value.int .i64 (U y.t.name k : Int)).toArray
theorem ucl_at {ts : List Tv} {U : Us} {k : Int} {i : Nat} {y : Tv} (h : ts[i]? = some y) : (ucl ts U k)[i]? = some (.int .i64 (U y.t.name k : Int)) := by
  unfold ucl
  rw [List.getElem?_toArray, List.getElem?_map, h]
  rfl
theorem ucl_other {ts : List Tv} {U : Us} {s : ByteArray} {k j : Int} {n : Nat} (h : k ≠ j) : ucl ts (stU U s j n) k = ucl ts U k := by
  unfold ucl
  congr 1
  exact List.map_congr_left fun y _ => by rw [stU_kind h]
/-- The names of tenants are unlike. -/
def Nd (ts : List Tv) : Prop := ∀ (i j : Nat) (x y : Tv), ts[i]? = some x → ts[j]? = some y → x.t.name = y.t.name → i = j
theorem ucl_set {ts : List Tv} {U : Us} {s : ByteArray} {k : Int} {i n : Nat} {y : Tv} (hd : Nd ts) (h : ts[i]? = some y) (hs : y.t.name = s) : (ucl ts U k).setIfInBounds i (.int .i64 (n : Int)) = ucl ts (stU U s k n) k := by
  apply Array.ext_getElem?
  intro j
  by_cases e : i = j
  · subst e
    rw [ucl_at h, hs, stU_same, Array.getElem?_setIfInBounds_self_of_lt]
    obtain ⟨hi, _⟩ := List.getElem?_eq_some_iff.1 h
    unfold ucl
    simpa using hi
  · rw [Array.getElem?_setIfInBounds_ne e]
    unfold ucl
    rw [List.getElem?_toArray, List.getElem?_toArray, List.getElem?_map, List.getElem?_map]
    cases hq : ts[j]? with
    | none => rfl
    | some z =>
      simp only [Option.map_some]
      rw [stU_name (fun e2 => e (hd i j y z h hq (hs.trans e2.symm)))]
theorem nd_of {ts : List Tv} (h : rise ByteArray.empty (ts.map (·.t.name)) = true) : Nd ts := by
  intro i j x y hx hy e
  rcases Nat.lt_trichotomy i j with h1 | h1 | h1
  · have := names_new h hy x (by
      obtain ⟨hi, e1⟩ := List.getElem?_eq_some_iff.1 hx
      exact List.mem_iff_getElem?.2 ⟨i, by rw [List.getElem?_take, if_pos h1]; exact hx⟩)
    exact absurd e this
  · exact h1
  · have := names_new h hx y (List.mem_iff_getElem?.2 ⟨j, by rw [List.getElem?_take, if_pos h1]; exact hy⟩)
    exact absurd e.symm this

/-- A configuration that the document's gate holds. -/
structure Rq where
  a0 : Int
  a1 : Int
  a2 : Int
  a3 : Int
  A : Option Addr
  n : Nat
  c : Nat
  ts : List Tv
abbrev Rq.cs (x : Rq) (bn bv : Nat) : Array Value := #[.int .i64 x.a0, .int .i64 x.a1, .int .i64 x.a2, .int .i64 x.a3, .slice x.A x.n x.c, .slice (some ⟨bn, 0, none⟩) x.n x.n, .slice (some ⟨bv, 0, none⟩) x.n x.n]
/-- It lies in memory since w; there are few, with names that are unlike. -/
structure RqB (w : World) (x : Rq) : Prop where
  r : RT w x.A x.ts
  n : x.ts.length = x.n
  few : x.n ≤ 8
  nd : Nd x.ts
structure Rg (w : World) (rb bn bv : Nat) (x : Rq) (U : Us) (u : World) : Prop where
  blk : Bk u rb 71 (x.cs bn bv)
  nn : Bk u bn 3 (ucl x.ts U 1)
  vv : Bk u bv 3 (ucl x.ts U 2)
  l : Below w.heap.size w u
  lo : w.heap.size ≤ bn ∧ w.heap.size ≤ bv
  ne : bn ≠ bv
theorem Rg.on {w u u' : World} {rb bn bv : Nat} {x : Rq} {U : Us} (h : Rg w rb bn bv x U u) (hb : Below u.heap.size u u') : Rg w rb bn bv x U u' :=
  ⟨h.blk.below hb h.blk.lt, h.nn.below hb h.nn.lt, h.vv.below hb h.vv.lt, h.l.trans (hb.mono h.l.size), h.lo, h.ne⟩

theorem em3 (k : Int) : k = 1 ∨ k = 2 ∨ (¬ k = 1 ∧ ¬ k = 2) := by omega
/-- What place tells. -/
def PlP (ts : List Tv) (s : ByteArray) (u : World) (e : Ending) (u' : World) : Prop := ((fT s ts = none ∧ e = .returned (.int .i64 (-1))) ∨ ∃ (i : Nat) (y : Tv), ts[i]? = some y ∧ fT s ts = some y ∧ y.t.name = s ∧ e = .returned (.int .i64 (i : Int))) ∧ Below u.heap.size u u'
set_option maxRecDepth 100000 in
set_option maxHeartbeats 2000000 in
theorem rplace_ok (w : World) (rb bn bv : Nat) (x : Rq) (U : Us) (u : World) (h : Rg w rb bn bv x U u) (hx : RqB w x) (s : ByteArray) :
    Calls Try.prog 34 #[.pointer (some ⟨rb, 0, none⟩), .string s] u (PlP x.ts s u) := by
  have HG := Lib.hid (show ∀ u', Below u.heap.size u u' → u'.cell? ⟨rb, 4, none⟩ = some (.slice x.A x.n x.c) from fun u' hb => (h.blk.below hb h.blk.lt).cell 4)
  have HR := Lib.hid hx.r
  have HN := Lib.hid hx.n
  have HL := Lib.hid h.l
  have hf := hx.few
  obtain ⟨a0, a1, a2, a3, A, n, c, ts⟩ := x
  dsimp only at HG HR HN hf ⊢
  obtain ⟨R, hR⟩ : ∃ R, fT s ts = R := ⟨_, rfl⟩
  unfold PlP
  rw [hR]
  have HA := Lib.hid hR
  clear h hx hR
  go_enter Try.func34, Try.ntmps34
  go_wp2
  go_loopw [5] (fun v5 wr => ∃ (i : Nat), i ≤ n ∧ v5 = .int .i64 (i : Int) ∧ Hid (R = fT s (ts.drop i)) ∧ Hid (Below u.heap.size u wr)) (fun v5 _ => n - (intOf v5).toNat)
  case atStart => exact ⟨0, by omega, rfl, Lib.hid (by rw [List.drop_zero]; exact HA.out.symm), Lib.hid (Below.refl _ _)⟩
  case round =>
    obtain ⟨i, hi, rfl, HD, HB⟩ := hrel
    have e4 := HG.out wr HB.out
    by_cases hi1 : i < n
    · have hi2 : (i : Int) < (n : Int) := by omega
      obtain ⟨b, o, x, rfl, hx, _, hc⟩ := HR.out.at5 i (by rw [HN.out]; exact hi1)
      obtain ⟨c0, _⟩ := hc wr (HL.out.trans (HB.out.mono HL.out.size))
      have HXI := Lib.hid hx
      have HST := Lib.hid (show fT s (ts.drop i) = if nmEq (x.t.name) s = true then some x else fT s (ts.drop (i + 1)) by
        rw [List.drop_eq_getElem_cons (by rw [HN.out]; exact hi1), (List.getElem?_eq_some_iff.1 hx).2]
        unfold fT
        rw [List.find?_cons]
        cases nmEq (x.t.name) s <;> rfl)
      obtain ⟨⟨xn, xa, xb, xl, xk⟩, An, cn, Ak, ck⟩ := x
      dsimp only at HST c0
      clear hc hx
      cases hq : nmEq xn s with
      | false =>
        rw [hq] at HST
        have hq2 : (xn.toList == s.toList) = false := hq
        clear hq
        go_wp2
        go_roundw
        case rel => exact ⟨i + 1, by omega, by go_num, Lib.hid (by rw [HD.out, HST.out]; rfl), HB⟩
        case measure => simp [intOf]; omega
      | true =>
        have HNM := Lib.hid (nmEq_iff.1 hq)
        rw [hq] at HST
        have hq2 : (xn.toList == s.toList) = true := hq
        clear hq
        go_wp2
        go_ret
        exact ⟨.inr ⟨i, _, HXI.out, HD.out.trans HST.out, HNM.out, rfl⟩, HB.out⟩
    · have hi2 : ¬ (i : Int) < (n : Int) := by omega
      go_wp2
      go_ret
      exact ⟨.inl ⟨by rw [HD.out, List.drop_eq_nil_of_le (by rw [HN.out]; omega)]; rfl, rfl⟩, HB.out⟩
/-- The tenants' own find, and the place. -/
theorem fT_gtF {ts : List Tv} {tn : List Tn} (hT : ∀ s, (fT s ts).map (·.t) = gtF tn s) {s : ByteArray} (h : fT s ts = none) : gtF tn s = none := by rw [← hT, h]; rfl

set_option maxRecDepth 100000 in
set_option maxHeartbeats 2000000 in
theorem rused_ok (w : World) (rb bn bv : Nat) (x : Rq) (U : Us) (u : World) (h : Rg w rb bn bv x U u) (hx : RqB w x) (tn : List Tn) (hT : ∀ s, (fT s x.ts).map (·.t) = gtF tn s) (hlim : LimU tn U) (s : ByteArray) (k : Int) :
    Calls Try.prog 21 #[.pointer (some ⟨rb, 0, none⟩), .string s, .int .i64 k] u fun e u' => e = .returned (.int .i64 (U s k : Int)) ∧ Below u.heap.size u u' := by
  have HPL := Lib.hid (rplace_ok w rb bn bv x U u h hx s)
  have HZ := Lib.hid (show fT s x.ts = none → U s k = 0 from fun hn => hlim.none_ (fT_gtF hT hn) k)
  have HZ2 := Lib.hid (show ¬ k = 1 → ¬ k = 2 → U s k = 0 from fun h1 h2 => hlim.not_ s (by unfold cnB; rw [decide_eq_false h1, decide_eq_false h2]; rfl))
  have HC := Lib.hid (show ∀ u', Below u.heap.size u u' → u'.cell? ⟨rb, 5, none⟩ = some (.slice (some ⟨bn, 0, none⟩) x.n x.n) ∧ u'.cell? ⟨rb, 6, none⟩ = some (.slice (some ⟨bv, 0, none⟩) x.n x.n) from fun u' hb => ⟨(h.blk.below hb h.blk.lt).cell 5, (h.blk.below hb h.blk.lt).cell 6⟩)
  have HU := Lib.hid (show ∀ u', Below u.heap.size u u' → ∀ (i : Nat) (y : Tv), x.ts[i]? = some y → y.t.name = s → u'.cell? ⟨bn, i, none⟩ = some (.int .i64 (U s 1 : Int)) ∧ u'.cell? ⟨bv, i, none⟩ = some (.int .i64 (U s 2 : Int)) from fun u' hb i y hy hs => by
    subst hs
    exact ⟨((h.nn.below hb h.nn.lt).cell i).trans (ucl_at hy), ((h.vv.below hb h.vv.lt).cell i).trans (ucl_at hy)⟩)
  have HI := Lib.hid (show ∀ (i : Nat) (y : Tv), x.ts[i]? = some y → i < x.n from fun i y hy => by obtain ⟨hi, _⟩ := List.getElem?_eq_some_iff.1 hy; rw [hx.n] at hi; exact hi)
  have hf := hx.few
  obtain ⟨a0, a1, a2, a3, A, n, c, ts⟩ := x
  dsimp only at HPL HC HU HI HZ hf
  clear h hx hT hlim
  rcases em3 k with rfl | rfl | ⟨h1, h2⟩
  · go_enter Try.func21, Try.ntmps21
    go_upto_region 2 with (go_at_call 34; refine HPL.out.mono ?_; rintro e u2 ⟨hp, hb⟩; have HB := Lib.hid hb; have HP := Lib.hid hp; clear hp hb; rcases HP.out with ⟨hn, rfl⟩ | ⟨i, y, hy, hfy, hs, rfl⟩)
    · have HN := Lib.hid hn
      clear hn
      have HQ := Lib.hid (HZ.out HN.out)
      go_wp2
      go_ret
      exact ⟨by rw [HQ.out]; rfl, HB.out⟩
    · have hi := HI.out i y hy
      have hi0 : ¬ (i : Int) < 0 := by omega
      have hi2 : (i : Int) < (n : Int) := by omega
      have hi3 : (0 : Int) ≤ (i : Int) := by omega
      obtain ⟨q5, q6⟩ := HC.out u2 HB.out
      obtain ⟨p1, p2⟩ := HU.out u2 HB.out i y hy hs
      clear hy hfy hs
      go_wp2
      go_ret
      exact ⟨rfl, HB.out⟩
  · go_enter Try.func21, Try.ntmps21
    go_upto_region 2 with (go_at_call 34; refine HPL.out.mono ?_; rintro e u2 ⟨hp, hb⟩; have HB := Lib.hid hb; have HP := Lib.hid hp; clear hp hb; rcases HP.out with ⟨hn, rfl⟩ | ⟨i, y, hy, hfy, hs, rfl⟩)
    · have HN := Lib.hid hn
      clear hn
      have HQ := Lib.hid (HZ.out HN.out)
      go_wp2
      go_ret
      exact ⟨by rw [HQ.out]; rfl, HB.out⟩
    · have hi := HI.out i y hy
      have hi0 : ¬ (i : Int) < 0 := by omega
      have hi2 : (i : Int) < (n : Int) := by omega
      have hi3 : (0 : Int) ≤ (i : Int) := by omega
      obtain ⟨q5, q6⟩ := HC.out u2 HB.out
      obtain ⟨p1, p2⟩ := HU.out u2 HB.out i y hy hs
      clear hy hfy hs
      go_wp2
      go_ret
      exact ⟨rfl, HB.out⟩
  · have hk3 : (k == 1) = false := by rw [beq_eq_false_iff_ne]; exact h1
    have hk4 : (k == 2) = false := by rw [beq_eq_false_iff_ne]; exact h2
    have HQ := Lib.hid (HZ2.out h1 h2)
    clear h1 h2
    go_enter Try.func21, Try.ntmps21
    go_upto_region 2 with (go_at_call 34; refine HPL.out.mono ?_; rintro e u2 ⟨hp, hb⟩; have HB := Lib.hid hb; have HP := Lib.hid hp; clear hp hb; rcases HP.out with ⟨hn, rfl⟩ | ⟨i, y, hy, hfy, hs, rfl⟩)
    · have HN := Lib.hid hn
      clear hn
      go_wp2
      go_ret
      exact ⟨by rw [HQ.out]; rfl, HB.out⟩
    · have hi := HI.out i y hy
      have hi0 : ¬ (i : Int) < 0 := by omega
      have hi2 : (i : Int) < (n : Int) := by omega
      have hi3 : (0 : Int) ≤ (i : Int) := by omega
      obtain ⟨q5, q6⟩ := HC.out u2 HB.out
      obtain ⟨p1, p2⟩ := HU.out u2 HB.out i y hy hs
      clear hy hfy hs
      go_wp2
      go_ret
      exact ⟨by rw [HQ.out]; rfl, HB.out⟩
end Go.Proofs.Ytcplebbaiambgaa
