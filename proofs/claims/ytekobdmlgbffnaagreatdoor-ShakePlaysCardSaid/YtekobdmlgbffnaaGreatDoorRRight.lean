/- The document's own: Right: its contract. (Written by gen_rright.py.) -/
import Derived.Test.YtekobdmlgbffnaaGreatDoorRTen
import Derived.Test.YtekobdmlgbffnaaGreatDoorG6
namespace Go.Proofs.YtekobdmlgbffnaaGreatDoor
set_option linter.unusedVariables false
set_option maxRecDepth 100000
set_option linter.unusedSimpArgs false
open Go.RowKit

/-- Are these tenants right, the first one's name greater than that? -/
def tnsB (z : ByteArray) (r : List Tn) : Bool := rise z (r.map (·.name)) && r.all tenB
theorem tnsB_cons (z : ByteArray) (x : Tn) (r : List Tn) : tnsB z (x :: r) = ((nameB x.name && tenB x) && ltS z x.name && tnsB x.name r) := by
  unfold tnsB
  rw [List.map_cons, rise, List.all_cons]
  cases nameB x.name <;> cases ltS z x.name <;> cases tenB x <;> simp
theorem cfg_eq (c : Cg) : cfgB c = (tnsB ByteArray.empty c.tens && (timB c.wait && timB c.grace && timB c.idle && timB c.lease && decide (c.tens.length ≤ 8))) := by
  unfold cfgB tnsB
  cases timB c.wait <;> cases timB c.grace <;> cases timB c.idle <;> cases timB c.lease <;> cases decide (c.tens.length ≤ 8) <;> simp
def zeroTv9 : Tv := ⟨⟨ByteArray.empty, 0, 0, [], []⟩, none, 0, none, 0⟩

set_option maxRecDepth 100000 in
set_option maxHeartbeats 16000000 in
theorem rfright_ok (x : Cv) (w : World) (h : RC w x) :
    Calls Tryz.prog 14 #[.agg (ccs x)] w fun e w' => e = .returned (.bool (cfgB x.cg)) ∧ Below w.heap.size w w' := by
  rw [cfg_eq]
  obtain ⟨a0, a1, a2, a3, ts, A, c⟩ := x
  obtain ⟨hr, hf⟩ := h
  dsimp only at hr hf
  show Calls Tryz.prog 14 #[.agg #[.int .i64 a0, .int .i64 a1, .int .i64 a2, .int .i64 a3, .slice A ts.length c]] w fun e w' => e = .returned (.bool (tnsB ByteArray.empty (ts.map (·.t)) && (timB a0 && timB a1 && timB a2 && timB a3 && decide ((ts.map (·.t)).length ≤ 8)))) ∧ Below w.heap.size w w'
  rw [List.length_map]
  obtain ⟨n, hnn⟩ : ∃ n, ts.length = n := ⟨_, rfl⟩
  have HNN := Lib.hid hnn
  rw [hnn]
  have hf1 := hf.cap
  have hf2 := hf.max
  rw [hnn] at hf1
  have hn9 : n ≤ 9223372036854775807 := by omega
  have HRT := Lib.hid hr
  have HTI := Lib.hid (fun k u => rtime_ok k u)
  have HX := Lib.hid (show Bx w w.heap.size 24 #[.int .i64 a0, .int .i64 a1, .int .i64 a2, .int .i64 a3, .slice A n c] (w.alloc (.cells #[.int .i64 a0, .int .i64 a1, .int .i64 a2, .int .i64 a3, .slice A n c] 24)) from Bx.new _ _ _)
  obtain ⟨R2, hR2⟩ : ∃ R2, tnsB ByteArray.empty (ts.map (·.t)) = R2 := ⟨_, rfl⟩
  have HR2 := Lib.hid hR2
  rw [hR2]
  obtain ⟨t0, ht0⟩ : ∃ t0, timB a0 = t0 := ⟨_, rfl⟩
  obtain ⟨t1, ht1⟩ : ∃ t1, timB a1 = t1 := ⟨_, rfl⟩
  obtain ⟨t2, ht2⟩ : ∃ t2, timB a2 = t2 := ⟨_, rfl⟩
  obtain ⟨t3, ht3⟩ : ∃ t3, timB a3 = t3 := ⟨_, rfl⟩
  have HT0 := Lib.hid (show ∀ u, Calls Tryz.prog 48 #[.int .i64 a0] u fun e u' => e = .returned (.bool t0) ∧ Below u.heap.size u u' from fun u => ht0 ▸ rtime_ok a0 u)
  have HT1 := Lib.hid (show ∀ u, Calls Tryz.prog 48 #[.int .i64 a1] u fun e u' => e = .returned (.bool t1) ∧ Below u.heap.size u u' from fun u => ht1 ▸ rtime_ok a1 u)
  have HT2 := Lib.hid (show ∀ u, Calls Tryz.prog 48 #[.int .i64 a2] u fun e u' => e = .returned (.bool t2) ∧ Below u.heap.size u u' from fun u => ht2 ▸ rtime_ok a2 u)
  have HT3 := Lib.hid (show ∀ u, Calls Tryz.prog 48 #[.int .i64 a3] u fun e u' => e = .returned (.bool t3) ∧ Below u.heap.size u u' from fun u => ht3 ▸ rtime_ok a3 u)
  rw [ht0, ht1, ht2, ht3]
  clear hr hf hnn hR2 hf1 hf2 ht0 ht1 ht2 ht3
  go_enter Tryz.func14, Tryz.ntmps14
  go_wp2
  go_loopw [3] (fun v3 wr => ∃ (i : Nat), i ≤ n ∧ v3 = .int .i64 (i : Int) ∧ Hid (R2 = tnsB (if i = 0 then ByteArray.empty else (ts.getD (i - 1) zeroTv9).t.name) ((ts.drop i).map (·.t))) ∧ Hid (Bx w w.heap.size 24 #[.int .i64 a0, .int .i64 a1, .int .i64 a2, .int .i64 a3, .slice A n c] wr)) (fun v3 _ => n - (intOf v3).toNat)
  case atStart => exact ⟨0, by omega, rfl, Lib.hid (by rw [← HR2.out, List.drop_zero]; rfl), HX⟩
  case round =>
    obtain ⟨i, hi, rfl, HD, HB⟩ := hrel
    have e4 : wr.cell? ⟨w.heap.size, 4, none⟩ = some (.slice A n c) := HB.out.cell 4
    by_cases hi1 : i < n
    · have hi2 : (i : Int) < (n : Int) := by omega
      obtain ⟨bb, o, x, rfl, hx, hx1, hc⟩ := HRT.out.at5 i (by rw [HNN.out]; exact hi1)
      obtain ⟨p, hp⟩ : ∃ p, ts.getD (i - 1) zeroTv9 = p := ⟨_, rfl⟩
      have hpl : i - 1 < ts.length := by rw [HNN.out]; omega
      obtain ⟨bb2, o2, x2, hA2, hx2, _, hc2⟩ := HRT.out.at5 (i - 1) hpl
      obtain ⟨rfl, rfl⟩ : bb = bb2 ∧ o = o2 := by simpa using hA2
      have hpx : x2 = p := by rw [← hp, List.getD, hx2]; rfl
      subst hpx
      have HPC := Lib.hid (fun u (hu : Below w.heap.size w u) => (hc2 u hu).1)
      have HCC := Lib.hid hc
      have HST := Lib.hid (show ∀ z, tnsB z ((ts.drop i).map (·.t)) = ((nameB x.t.name && tenB x.t) && ltS z x.t.name && tnsB x.t.name ((ts.drop (i + 1)).map (·.t))) from fun z => by
        rw [List.drop_eq_getElem_cons (by rw [HNN.out]; exact hi1), List.map_cons, tnsB_cons, (List.getElem?_eq_some_iff.1 hx).2])
      have HNX := Lib.hid (show (if i + 1 = 0 then ByteArray.empty else (ts.getD (i + 1 - 1) zeroTv9).t.name) = x.t.name by
        rw [if_neg (by omega), Nat.add_sub_cancel, List.getD, hx]; rfl)
      rw [hp] at HD
      have HTE := Lib.hid (fun u (hu : Below w.heap.size w u) => rften_ok x u (hx1.on hu))
      have HLE := Lib.hid (show nameB x.t.name = true → ltS ByteArray.empty x.t.name = true from fun h => lt_empty h)
      obtain ⟨tb, htb⟩ : ∃ tb, (nameB x.t.name && tenB x.t) = tb := ⟨_, rfl⟩
      have HNB := Lib.hid (show tb = true → nameB x.t.name = true from fun h => by rw [h, Bool.and_eq_true] at htb; exact htb.1)
      rw [htb] at HTE HST
      obtain ⟨⟨xn, xa, xb, xnl, xkl⟩, xAn, xcn, xAk, xck⟩ := x
      obtain ⟨⟨pn, pa, pb, pnl, pkl⟩, pAn, pcn, pAk, pck⟩ := x2
      dsimp only at HST HNX HD HPC HCC HLE HNB
      simp only [tcs] at HTE
      clear hc hx hc2 hx2 hp hpl htb hx1 hA2
      obtain ⟨wo, hwo⟩ : ∃ wo, wr = wo := ⟨_, rfl⟩
      subst wr
      go_upto_region 4 with fail
      clear e4
      try simp only [List.cons_append, List.nil_append]
      try simp only [List.cons_append, List.nil_append]
      refine wp_region_held_drew (S := fun wz => Below wo.heap.size wo wz) (by kernel_rfl) ((Below.refl _ _).drew) (fun hHeld => ?_)
      refine take_at (some 11) (i := 0) (v := ?_) rfl rfl (by kernel_rfl) (by kernel_rfl) (by kernel_rfl) (fun _ _ _ h => h) (Or.inl ⟨by kernel_rfl, ?_⟩) hHeld ?_
      rotate_left
      · intro wz hSw; have hb2 := HB.out.on hSw; have k4 : wz.cell? ⟨w.heap.size, 4, none⟩ = some (.slice (some ⟨bb, o, none⟩) n c) := hb2.cell 4; obtain ⟨k5, k6, k7, k8, k9⟩ := HCC.out wz hb2.l; have k0 := HPC.out wz hb2.l; clear hb2; go_simp; try (with_reducible rfl)
      try simp only [Act.put, List.setIfInBounds_toArray, List.set_cons_zero, List.set_cons_succ, List.getElem_toArray, List.getElem_cons_succ, List.getElem_cons_zero]
      refine take_at (some 12) (i := 1) (v := ?_) rfl rfl (by kernel_rfl) (by kernel_rfl) (by kernel_rfl) (fun _ _ _ h => h) (Or.inl ⟨by kernel_rfl, ?_⟩) hHeld ?_
      rotate_left
      · intro wz hSw; have hb2 := HB.out.on hSw; have k4 : wz.cell? ⟨w.heap.size, 4, none⟩ = some (.slice (some ⟨bb, o, none⟩) n c) := hb2.cell 4; obtain ⟨k5, k6, k7, k8, k9⟩ := HCC.out wz hb2.l; have k0 := HPC.out wz hb2.l; clear hb2; go_simp; try (with_reducible rfl)
      try simp only [Act.put, List.setIfInBounds_toArray, List.set_cons_zero, List.set_cons_succ, List.getElem_toArray, List.getElem_cons_succ, List.getElem_cons_zero]
      refine take_at (some 13) (i := 2) (v := ?_) rfl rfl (by kernel_rfl) (by kernel_rfl) (by kernel_rfl) (fun _ _ _ h => h) (Or.inl ⟨by kernel_rfl, ?_⟩) hHeld ?_
      rotate_left
      · intro wz hSw; have hb2 := HB.out.on hSw; have k4 : wz.cell? ⟨w.heap.size, 4, none⟩ = some (.slice (some ⟨bb, o, none⟩) n c) := hb2.cell 4; obtain ⟨k5, k6, k7, k8, k9⟩ := HCC.out wz hb2.l; have k0 := HPC.out wz hb2.l; clear hb2; go_simp; try (with_reducible rfl)
      try simp only [Act.put, List.setIfInBounds_toArray, List.set_cons_zero, List.set_cons_succ, List.getElem_toArray, List.getElem_cons_succ, List.getElem_cons_zero]
      refine take_at (some 14) (i := 3) (v := ?_) rfl rfl (by kernel_rfl) (by kernel_rfl) (by kernel_rfl) (fun _ _ _ h => h) (Or.inl ⟨by kernel_rfl, ?_⟩) hHeld ?_
      rotate_left
      · intro wz hSw; have hb2 := HB.out.on hSw; have k4 : wz.cell? ⟨w.heap.size, 4, none⟩ = some (.slice (some ⟨bb, o, none⟩) n c) := hb2.cell 4; obtain ⟨k5, k6, k7, k8, k9⟩ := HCC.out wz hb2.l; have k0 := HPC.out wz hb2.l; clear hb2; go_simp; try (with_reducible rfl)
      try simp only [Act.put, List.setIfInBounds_toArray, List.set_cons_zero, List.set_cons_succ, List.getElem_toArray, List.getElem_cons_succ, List.getElem_cons_zero]
      refine take_at (some 15) (i := 4) (v := ?_) rfl rfl (by kernel_rfl) (by kernel_rfl) (by kernel_rfl) (fun _ _ _ h => h) (Or.inl ⟨by kernel_rfl, ?_⟩) hHeld ?_
      rotate_left
      · intro wz hSw; have hb2 := HB.out.on hSw; have k4 : wz.cell? ⟨w.heap.size, 4, none⟩ = some (.slice (some ⟨bb, o, none⟩) n c) := hb2.cell 4; obtain ⟨k5, k6, k7, k8, k9⟩ := HCC.out wz hb2.l; have k0 := HPC.out wz hb2.l; clear hb2; go_simp; try (with_reducible rfl)
      try simp only [Act.put, List.setIfInBounds_toArray, List.set_cons_zero, List.set_cons_succ, List.getElem_toArray, List.getElem_cons_succ, List.getElem_cons_zero]
      refine wpAnyH_ready (rs := [5]) (by kernel_rfl) (by simp) (AllReadyH.cons rfl (fun K hK => ?_) AllReadyH.nil)
      rw [if_pos (by kernel_rfl)]
      go_simp
      refine (HTE.out _ (HB.out.l.trans (((Below.refl wo.heap.size wo).drew).mono HB.out.l.size))).mono ?_
      rintro e u9 ⟨rfl, hb9⟩
      try dsimp only
      refine hK.out _ _ (((Below.refl wo.heap.size wo).drew).trans hb9) (fun hHeld => ?_)
      try simp only [Act.put, List.setIfInBounds_toArray, List.set_cons_zero, List.set_cons_succ, List.getElem_toArray, List.getElem_cons_succ, List.getElem_cons_zero]
      refine take_at (some 17) (i := 6) (v := ?_) rfl rfl (by kernel_rfl) (by kernel_rfl) (by kernel_rfl) (fun _ _ _ h => h) (Or.inl ⟨by kernel_rfl, ?_⟩) hHeld ?_
      rotate_left
      · intro wz hSw; go_simp; try (with_reducible rfl)
      try simp only [Act.put, List.setIfInBounds_toArray, List.set_cons_zero, List.set_cons_succ, List.getElem_toArray, List.getElem_cons_succ, List.getElem_cons_zero]
      refine take_at (some 18) (i := 7) (v := ?_) rfl rfl (by kernel_rfl) (by kernel_rfl) (by kernel_rfl) (fun _ _ _ h => h) (Or.inl ⟨by kernel_rfl, ?_⟩) hHeld ?_
      rotate_left
      · intro wz hSw; go_simp; try (with_reducible rfl)
      try simp only [Act.put, List.setIfInBounds_toArray, List.set_cons_zero, List.set_cons_succ, List.getElem_toArray, List.getElem_cons_succ, List.getElem_cons_zero]
      cases tb with
      | false =>
        refine take_at (some 19) (i := 8) (v := undef) rfl rfl (by kernel_rfl) (by kernel_rfl) (by kernel_rfl) (fun _ _ _ h => h) (Or.inr ⟨by kernel_rfl, rfl⟩) hHeld ?_
        try simp only [Act.put, List.setIfInBounds_toArray, List.set_cons_zero, List.set_cons_succ, List.getElem_toArray, List.getElem_cons_succ, List.getElem_cons_zero]
        refine take_at (some 20) (i := 9) (v := undef) rfl rfl (by kernel_rfl) (by kernel_rfl) (by kernel_rfl) (fun _ _ _ h => h) (Or.inr ⟨by kernel_rfl, rfl⟩) hHeld ?_
        try simp only [Act.put, List.setIfInBounds_toArray, List.set_cons_zero, List.set_cons_succ, List.getElem_toArray, List.getElem_cons_succ, List.getElem_cons_zero]
        refine take_at (some 21) (i := 10) (v := undef) rfl rfl (by kernel_rfl) (by kernel_rfl) (by kernel_rfl) (fun _ _ _ h => h) (Or.inr ⟨by kernel_rfl, rfl⟩) hHeld ?_
        try simp only [Act.put, List.setIfInBounds_toArray, List.set_cons_zero, List.set_cons_succ, List.getElem_toArray, List.getElem_cons_succ, List.getElem_cons_zero]
        refine take_at (some 22) (i := 11) (v := undef) rfl rfl (by kernel_rfl) (by kernel_rfl) (by kernel_rfl) (fun _ _ _ h => h) (Or.inr ⟨by kernel_rfl, rfl⟩) hHeld ?_
        try simp only [Act.put, List.setIfInBounds_toArray, List.set_cons_zero, List.set_cons_succ, List.getElem_toArray, List.getElem_cons_succ, List.getElem_cons_zero]
        refine take_at (some 23) (i := 12) (v := undef) rfl rfl (by kernel_rfl) (by kernel_rfl) (by kernel_rfl) (fun _ _ _ h => h) (Or.inr ⟨by kernel_rfl, rfl⟩) hHeld ?_
        try simp only [Act.put, List.setIfInBounds_toArray, List.set_cons_zero, List.set_cons_succ, List.getElem_toArray, List.getElem_cons_succ, List.getElem_cons_zero]
        refine take_at (some 24) (i := 13) (v := undef) rfl rfl (by kernel_rfl) (by kernel_rfl) (by kernel_rfl) (fun _ _ _ h => h) (Or.inr ⟨by kernel_rfl, rfl⟩) hHeld ?_
        try simp only [Act.put, List.setIfInBounds_toArray, List.set_cons_zero, List.set_cons_succ, List.getElem_toArray, List.getElem_cons_succ, List.getElem_cons_zero]
        refine take_at (some 25) (i := 14) (v := undef) rfl rfl (by kernel_rfl) (by kernel_rfl) (by kernel_rfl) (fun _ _ _ h => h) (Or.inr ⟨by kernel_rfl, rfl⟩) hHeld ?_
        try simp only [Act.put, List.setIfInBounds_toArray, List.set_cons_zero, List.set_cons_succ, List.getElem_toArray, List.getElem_cons_succ, List.getElem_cons_zero]
        refine take_at (some 26) (i := 15) (v := undef) rfl rfl (by kernel_rfl) (by kernel_rfl) (by kernel_rfl) (fun _ _ _ h => h) (Or.inr ⟨by kernel_rfl, rfl⟩) hHeld ?_
        try simp only [Act.put, List.setIfInBounds_toArray, List.set_cons_zero, List.set_cons_succ, List.getElem_toArray, List.getElem_cons_succ, List.getElem_cons_zero]
        refine take_at (some 27) (i := 16) (v := undef) rfl rfl (by kernel_rfl) (by kernel_rfl) (by kernel_rfl) (fun _ _ _ h => h) (Or.inr ⟨by kernel_rfl, rfl⟩) hHeld ?_
        try simp only [Act.put, List.setIfInBounds_toArray, List.set_cons_zero, List.set_cons_succ, List.getElem_toArray, List.getElem_cons_succ, List.getElem_cons_zero]
        refine take_at (some 28) (i := 17) (v := undef) rfl rfl (by kernel_rfl) (by kernel_rfl) (by kernel_rfl) (fun _ _ _ h => h) (Or.inr ⟨by kernel_rfl, rfl⟩) hHeld ?_
        try simp only [Act.put, List.setIfInBounds_toArray, List.set_cons_zero, List.set_cons_succ, List.getElem_toArray, List.getElem_cons_succ, List.getElem_cons_zero]
        refine take_at (some 29) (i := 18) (v := undef) rfl rfl (by kernel_rfl) (by kernel_rfl) (by kernel_rfl) (fun _ _ _ h => h) (Or.inr ⟨by kernel_rfl, rfl⟩) hHeld ?_
        try simp only [Act.put, List.setIfInBounds_toArray, List.set_cons_zero, List.set_cons_succ, List.getElem_toArray, List.getElem_cons_succ, List.getElem_cons_zero]
        refine take_at (some 30) (i := 19) (v := undef) rfl rfl (by kernel_rfl) (by kernel_rfl) (by kernel_rfl) (fun _ _ _ h => h) (Or.inr ⟨by kernel_rfl, rfl⟩) hHeld ?_
        try simp only [Act.put, List.setIfInBounds_toArray, List.set_cons_zero, List.set_cons_succ, List.getElem_toArray, List.getElem_cons_succ, List.getElem_cons_zero]
        refine take_at (some 31) (i := 20) (v := undef) rfl rfl (by kernel_rfl) (by kernel_rfl) (by kernel_rfl) (fun _ _ _ h => h) (Or.inr ⟨by kernel_rfl, rfl⟩) hHeld ?_
        try simp only [Act.put, List.setIfInBounds_toArray, List.set_cons_zero, List.set_cons_succ, List.getElem_toArray, List.getElem_cons_succ, List.getElem_cons_zero]
        refine take_at (some 32) (i := 21) (v := undef) rfl rfl (by kernel_rfl) (by kernel_rfl) (by kernel_rfl) (fun _ _ _ h => h) (Or.inr ⟨by kernel_rfl, rfl⟩) hHeld ?_
        try simp only [Act.put, List.setIfInBounds_toArray, List.set_cons_zero, List.set_cons_succ, List.getElem_toArray, List.getElem_cons_succ, List.getElem_cons_zero]
        refine take_at (some 33) (i := 22) (v := undef) rfl rfl (by kernel_rfl) (by kernel_rfl) (by kernel_rfl) (fun _ _ _ h => h) (Or.inr ⟨by kernel_rfl, rfl⟩) hHeld ?_
        try simp only [Act.put, List.setIfInBounds_toArray, List.set_cons_zero, List.set_cons_succ, List.getElem_toArray, List.getElem_cons_succ, List.getElem_cons_zero]
        refine take_at (some 34) (i := 23) (v := undef) rfl rfl (by kernel_rfl) (by kernel_rfl) (by kernel_rfl) (fun _ _ _ h => h) (Or.inr ⟨by kernel_rfl, rfl⟩) hHeld ?_
        try simp only [Act.put, List.setIfInBounds_toArray, List.set_cons_zero, List.set_cons_succ, List.getElem_toArray, List.getElem_cons_succ, List.getElem_cons_zero]
        refine take_at (some 35) (i := 24) (v := undef) rfl rfl (by kernel_rfl) (by kernel_rfl) (by kernel_rfl) (fun _ _ _ h => h) (Or.inr ⟨by kernel_rfl, rfl⟩) hHeld ?_
        try simp only [Act.put, List.setIfInBounds_toArray, List.set_cons_zero, List.set_cons_succ, List.getElem_toArray, List.getElem_cons_succ, List.getElem_cons_zero]
        refine take_at (some 36) (i := 25) (v := undef) rfl rfl (by kernel_rfl) (by kernel_rfl) (by kernel_rfl) (fun _ _ _ h => h) (Or.inr ⟨by kernel_rfl, rfl⟩) hHeld ?_
        try simp only [Act.put, List.setIfInBounds_toArray, List.set_cons_zero, List.set_cons_succ, List.getElem_toArray, List.getElem_cons_succ, List.getElem_cons_zero]
        refine take_at (some 37) (i := 26) (v := ?_) rfl rfl (by kernel_rfl) (by kernel_rfl) (by kernel_rfl) (fun _ _ _ h => h) (Or.inl ⟨by kernel_rfl, ?_⟩) hHeld ?_
        rotate_left
        · intro wz hSw; go_simp; try (with_reducible rfl)
        try simp only [Act.put, List.setIfInBounds_toArray, List.set_cons_zero, List.set_cons_succ, List.getElem_toArray, List.getElem_cons_succ, List.getElem_cons_zero]
        refine wpAnyH_done (by kernel_rfl) ?_ _
        refine gen_qT (fun y => Below wo.heap.size wo y) hHeld (fun y hy => ?_)
        clear hHeld
        have HVF := Lib.hid (show R2 = false by rw [HD.out, HST.out]; rfl)
        go_wp2
        go_ret
        exact ⟨by rw [HVF.out]; rfl, (HB.out.on hy).l⟩
      | true =>
        by_cases hi0 : i = 0
        case pos =>
          have HZ := Lib.hid (show ltS (if i = 0 then ByteArray.empty else pn) xn = true by rw [if_pos hi0]; exact HLE.out (HNB.out rfl))
          have hj0 : ¬ (i : Int) > 0 := by omega
          have hj1 : ¬ (0 : Int) < (i : Int) := by omega
          have hj7 : ¬ 0 < i := by omega
          refine take_at (some 19) (i := 8) (v := ?_) rfl rfl (by kernel_rfl) (by kernel_rfl) (by kernel_rfl) (fun _ _ _ h => h) (Or.inl ⟨by kernel_rfl, ?_⟩) hHeld ?_
          rotate_left
          · intro wz hSw; go_simp; try (with_reducible rfl)
          try simp only [Act.put, List.setIfInBounds_toArray, List.set_cons_zero, List.set_cons_succ, List.getElem_toArray, List.getElem_cons_succ, List.getElem_cons_zero]
          refine take_at (some 20) (i := 9) (v := ?_) rfl rfl (by kernel_rfl) (by kernel_rfl) (by kernel_rfl) (fun _ _ _ h => h) (Or.inl ⟨by kernel_rfl, ?_⟩) hHeld ?_
          rotate_left
          · intro wz hSw; go_simp; try (with_reducible rfl)
          try simp only [Act.put, List.setIfInBounds_toArray, List.set_cons_zero, List.set_cons_succ, List.getElem_toArray, List.getElem_cons_succ, List.getElem_cons_zero]
          refine take_at (some 21) (i := 10) (v := ?_) rfl rfl (by kernel_rfl) (by kernel_rfl) (by kernel_rfl) (fun _ _ _ h => h) (Or.inl ⟨by kernel_rfl, ?_⟩) hHeld ?_
          rotate_left
          · intro wz hSw; go_simp; try (with_reducible rfl)
          try simp only [Act.put, List.setIfInBounds_toArray, List.set_cons_zero, List.set_cons_succ, List.getElem_toArray, List.getElem_cons_succ, List.getElem_cons_zero]
          refine take_at (some 22) (i := 11) (v := undef) rfl rfl (by kernel_rfl) (by kernel_rfl) (by kernel_rfl) (fun _ _ _ h => h) (Or.inr ⟨by kernel_rfl, rfl⟩) hHeld ?_
          try simp only [Act.put, List.setIfInBounds_toArray, List.set_cons_zero, List.set_cons_succ, List.getElem_toArray, List.getElem_cons_succ, List.getElem_cons_zero]
          refine take_at (some 23) (i := 12) (v := undef) rfl rfl (by kernel_rfl) (by kernel_rfl) (by kernel_rfl) (fun _ _ _ h => h) (Or.inr ⟨by kernel_rfl, rfl⟩) hHeld ?_
          try simp only [Act.put, List.setIfInBounds_toArray, List.set_cons_zero, List.set_cons_succ, List.getElem_toArray, List.getElem_cons_succ, List.getElem_cons_zero]
          refine take_at (some 24) (i := 13) (v := undef) rfl rfl (by kernel_rfl) (by kernel_rfl) (by kernel_rfl) (fun _ _ _ h => h) (Or.inr ⟨by kernel_rfl, rfl⟩) hHeld ?_
          try simp only [Act.put, List.setIfInBounds_toArray, List.set_cons_zero, List.set_cons_succ, List.getElem_toArray, List.getElem_cons_succ, List.getElem_cons_zero]
          refine take_at (some 25) (i := 14) (v := undef) rfl rfl (by kernel_rfl) (by kernel_rfl) (by kernel_rfl) (fun _ _ _ h => h) (Or.inr ⟨by kernel_rfl, rfl⟩) hHeld ?_
          try simp only [Act.put, List.setIfInBounds_toArray, List.set_cons_zero, List.set_cons_succ, List.getElem_toArray, List.getElem_cons_succ, List.getElem_cons_zero]
          refine take_at (some 26) (i := 15) (v := undef) rfl rfl (by kernel_rfl) (by kernel_rfl) (by kernel_rfl) (fun _ _ _ h => h) (Or.inr ⟨by kernel_rfl, rfl⟩) hHeld ?_
          try simp only [Act.put, List.setIfInBounds_toArray, List.set_cons_zero, List.set_cons_succ, List.getElem_toArray, List.getElem_cons_succ, List.getElem_cons_zero]
          refine take_at (some 27) (i := 16) (v := undef) rfl rfl (by kernel_rfl) (by kernel_rfl) (by kernel_rfl) (fun _ _ _ h => h) (Or.inr ⟨by kernel_rfl, rfl⟩) hHeld ?_
          try simp only [Act.put, List.setIfInBounds_toArray, List.set_cons_zero, List.set_cons_succ, List.getElem_toArray, List.getElem_cons_succ, List.getElem_cons_zero]
          refine take_at (some 28) (i := 17) (v := undef) rfl rfl (by kernel_rfl) (by kernel_rfl) (by kernel_rfl) (fun _ _ _ h => h) (Or.inr ⟨by kernel_rfl, rfl⟩) hHeld ?_
          try simp only [Act.put, List.setIfInBounds_toArray, List.set_cons_zero, List.set_cons_succ, List.getElem_toArray, List.getElem_cons_succ, List.getElem_cons_zero]
          refine take_at (some 29) (i := 18) (v := undef) rfl rfl (by kernel_rfl) (by kernel_rfl) (by kernel_rfl) (fun _ _ _ h => h) (Or.inr ⟨by kernel_rfl, rfl⟩) hHeld ?_
          try simp only [Act.put, List.setIfInBounds_toArray, List.set_cons_zero, List.set_cons_succ, List.getElem_toArray, List.getElem_cons_succ, List.getElem_cons_zero]
          refine take_at (some 30) (i := 19) (v := undef) rfl rfl (by kernel_rfl) (by kernel_rfl) (by kernel_rfl) (fun _ _ _ h => h) (Or.inr ⟨by kernel_rfl, rfl⟩) hHeld ?_
          try simp only [Act.put, List.setIfInBounds_toArray, List.set_cons_zero, List.set_cons_succ, List.getElem_toArray, List.getElem_cons_succ, List.getElem_cons_zero]
          refine take_at (some 31) (i := 20) (v := undef) rfl rfl (by kernel_rfl) (by kernel_rfl) (by kernel_rfl) (fun _ _ _ h => h) (Or.inr ⟨by kernel_rfl, rfl⟩) hHeld ?_
          try simp only [Act.put, List.setIfInBounds_toArray, List.set_cons_zero, List.set_cons_succ, List.getElem_toArray, List.getElem_cons_succ, List.getElem_cons_zero]
          refine take_at (some 32) (i := 21) (v := undef) rfl rfl (by kernel_rfl) (by kernel_rfl) (by kernel_rfl) (fun _ _ _ h => h) (Or.inr ⟨by kernel_rfl, rfl⟩) hHeld ?_
          try simp only [Act.put, List.setIfInBounds_toArray, List.set_cons_zero, List.set_cons_succ, List.getElem_toArray, List.getElem_cons_succ, List.getElem_cons_zero]
          refine take_at (some 33) (i := 22) (v := undef) rfl rfl (by kernel_rfl) (by kernel_rfl) (by kernel_rfl) (fun _ _ _ h => h) (Or.inr ⟨by kernel_rfl, rfl⟩) hHeld ?_
          try simp only [Act.put, List.setIfInBounds_toArray, List.set_cons_zero, List.set_cons_succ, List.getElem_toArray, List.getElem_cons_succ, List.getElem_cons_zero]
          refine take_at (some 34) (i := 23) (v := undef) rfl rfl (by kernel_rfl) (by kernel_rfl) (by kernel_rfl) (fun _ _ _ h => h) (Or.inr ⟨by kernel_rfl, rfl⟩) hHeld ?_
          try simp only [Act.put, List.setIfInBounds_toArray, List.set_cons_zero, List.set_cons_succ, List.getElem_toArray, List.getElem_cons_succ, List.getElem_cons_zero]
          refine take_at (some 35) (i := 24) (v := undef) rfl rfl (by kernel_rfl) (by kernel_rfl) (by kernel_rfl) (fun _ _ _ h => h) (Or.inr ⟨by kernel_rfl, rfl⟩) hHeld ?_
          try simp only [Act.put, List.setIfInBounds_toArray, List.set_cons_zero, List.set_cons_succ, List.getElem_toArray, List.getElem_cons_succ, List.getElem_cons_zero]
          refine take_at (some 36) (i := 25) (v := ?_) rfl rfl (by kernel_rfl) (by kernel_rfl) (by kernel_rfl) (fun _ _ _ h => h) (Or.inl ⟨by kernel_rfl, ?_⟩) hHeld ?_
          rotate_left
          · intro wz hSw; go_simp; try (with_reducible rfl)
          try simp only [Act.put, List.setIfInBounds_toArray, List.set_cons_zero, List.set_cons_succ, List.getElem_toArray, List.getElem_cons_succ, List.getElem_cons_zero]
          refine take_at (some 37) (i := 26) (v := ?_) rfl rfl (by kernel_rfl) (by kernel_rfl) (by kernel_rfl) (fun _ _ _ h => h) (Or.inl ⟨by kernel_rfl, ?_⟩) hHeld ?_
          rotate_left
          · intro wz hSw; go_simp; try (with_reducible rfl)
          try simp only [Act.put, List.setIfInBounds_toArray, List.set_cons_zero, List.set_cons_succ, List.getElem_toArray, List.getElem_cons_succ, List.getElem_cons_zero]
          refine wpAnyH_done (by kernel_rfl) ?_ _
          refine gen_qT (fun y => Below wo.heap.size wo y) hHeld (fun y hy => ?_)
          clear hHeld
          have HY := Lib.hid (HB.out.on hy)
          go_wp2
          go_roundw
          case rel => exact ⟨i + 1, by omega, by go_num, Lib.hid (by rw [HNX.out, HD.out, HST.out]; rw [HZ.out]; rfl), HY⟩
          case measure => simp [intOf]; omega
        have hj0 : (i : Int) > 0 := by omega
        have hj1 : (0 : Int) < (i : Int) := by omega
        have hj7 : 0 < i := by omega
        have hj2 : (0 : Int) ≤ (i : Int) - 1 := by omega
        have hj5 : (1 : Int) ≤ (i : Int) := by omega
        have hj3 : (i : Int) - 1 < (n : Int) := by omega
        have hj4 : ((i : Int) - 1).toNat = i - 1 := by omega
        have hwr : IntKind.i64.wrap ((i : Int) - 1) = (i : Int) - 1 := by rw [IntKind.wrap_i64]; omega
        refine take_at (some 19) (i := 8) (v := ?_) rfl rfl (by kernel_rfl) (by kernel_rfl) (by kernel_rfl) (fun _ _ _ h => h) (Or.inl ⟨by kernel_rfl, ?_⟩) hHeld ?_
        rotate_left
        · intro wz hSw; go_simp; try (with_reducible rfl)
        try simp only [Act.put, List.setIfInBounds_toArray, List.set_cons_zero, List.set_cons_succ, List.getElem_toArray, List.getElem_cons_succ, List.getElem_cons_zero]
        refine take_at (some 20) (i := 9) (v := ?_) rfl rfl (by kernel_rfl) (by kernel_rfl) (by kernel_rfl) (fun _ _ _ h => h) (Or.inl ⟨by kernel_rfl, ?_⟩) hHeld ?_
        rotate_left
        · intro wz hSw; go_simp; try (with_reducible rfl)
        try simp only [Act.put, List.setIfInBounds_toArray, List.set_cons_zero, List.set_cons_succ, List.getElem_toArray, List.getElem_cons_succ, List.getElem_cons_zero]
        refine take_at (some 21) (i := 10) (v := ?_) rfl rfl (by kernel_rfl) (by kernel_rfl) (by kernel_rfl) (fun _ _ _ h => h) (Or.inl ⟨by kernel_rfl, ?_⟩) hHeld ?_
        rotate_left
        · intro wz hSw; go_simp; try (with_reducible rfl)
        try simp only [Act.put, List.setIfInBounds_toArray, List.set_cons_zero, List.set_cons_succ, List.getElem_toArray, List.getElem_cons_succ, List.getElem_cons_zero]
        cases hlt : Op.bytesLess pn.toList xn.toList with
        | false =>
          have HZ := Lib.hid (show ltS (if i = 0 then ByteArray.empty else pn) xn = false by rw [if_neg hi0]; exact hlt)
          refine take_at (some 22) (i := 11) (v := ?_) rfl rfl (by kernel_rfl) (by kernel_rfl) (by kernel_rfl) (fun _ _ _ h => h) (Or.inl ⟨by kernel_rfl, ?_⟩) hHeld ?_
          rotate_left
          · intro wz hSw; have hb2 := HB.out.on hSw; have k4 : wz.cell? ⟨w.heap.size, 4, none⟩ = some (.slice (some ⟨bb, o, none⟩) n c) := hb2.cell 4; obtain ⟨k5, k6, k7, k8, k9⟩ := HCC.out wz hb2.l; have k0 := HPC.out wz hb2.l; clear hb2; go_simp; try (with_reducible rfl)
          try simp only [Act.put, List.setIfInBounds_toArray, List.set_cons_zero, List.set_cons_succ, List.getElem_toArray, List.getElem_cons_succ, List.getElem_cons_zero]
          refine take_at (some 23) (i := 12) (v := ?_) rfl rfl (by kernel_rfl) (by kernel_rfl) (by kernel_rfl) (fun _ _ _ h => h) (Or.inl ⟨by kernel_rfl, ?_⟩) hHeld ?_
          rotate_left
          · intro wz hSw; have hb2 := HB.out.on hSw; have k4 : wz.cell? ⟨w.heap.size, 4, none⟩ = some (.slice (some ⟨bb, o, none⟩) n c) := hb2.cell 4; obtain ⟨k5, k6, k7, k8, k9⟩ := HCC.out wz hb2.l; have k0 := HPC.out wz hb2.l; clear hb2; go_simp; try (with_reducible rfl)
          try simp only [Act.put, List.setIfInBounds_toArray, List.set_cons_zero, List.set_cons_succ, List.getElem_toArray, List.getElem_cons_succ, List.getElem_cons_zero]
          refine take_at (some 24) (i := 13) (v := ?_) rfl rfl (by kernel_rfl) (by kernel_rfl) (by kernel_rfl) (fun _ _ _ h => h) (Or.inl ⟨by kernel_rfl, ?_⟩) hHeld ?_
          rotate_left
          · intro wz hSw; have hb2 := HB.out.on hSw; have k4 : wz.cell? ⟨w.heap.size, 4, none⟩ = some (.slice (some ⟨bb, o, none⟩) n c) := hb2.cell 4; obtain ⟨k5, k6, k7, k8, k9⟩ := HCC.out wz hb2.l; have k0 := HPC.out wz hb2.l; clear hb2; go_simp; try (with_reducible rfl)
          try simp only [Act.put, List.setIfInBounds_toArray, List.set_cons_zero, List.set_cons_succ, List.getElem_toArray, List.getElem_cons_succ, List.getElem_cons_zero]
          refine take_at (some 25) (i := 14) (v := ?_) rfl rfl (by kernel_rfl) (by kernel_rfl) (by kernel_rfl) (fun _ _ _ h => h) (Or.inl ⟨by kernel_rfl, ?_⟩) hHeld ?_
          rotate_left
          · intro wz hSw; have hb2 := HB.out.on hSw; have k4 : wz.cell? ⟨w.heap.size, 4, none⟩ = some (.slice (some ⟨bb, o, none⟩) n c) := hb2.cell 4; obtain ⟨k5, k6, k7, k8, k9⟩ := HCC.out wz hb2.l; have k0 := HPC.out wz hb2.l; clear hb2; go_simp; try (with_reducible rfl)
          try simp only [Act.put, List.setIfInBounds_toArray, List.set_cons_zero, List.set_cons_succ, List.getElem_toArray, List.getElem_cons_succ, List.getElem_cons_zero]
          refine take_at (some 26) (i := 15) (v := ?_) rfl rfl (by kernel_rfl) (by kernel_rfl) (by kernel_rfl) (fun _ _ _ h => h) (Or.inl ⟨by kernel_rfl, ?_⟩) hHeld ?_
          rotate_left
          · intro wz hSw; have hb2 := HB.out.on hSw; have k4 : wz.cell? ⟨w.heap.size, 4, none⟩ = some (.slice (some ⟨bb, o, none⟩) n c) := hb2.cell 4; obtain ⟨k5, k6, k7, k8, k9⟩ := HCC.out wz hb2.l; have k0 := HPC.out wz hb2.l; clear hb2; go_simp; try (with_reducible rfl)
          try simp only [Act.put, List.setIfInBounds_toArray, List.set_cons_zero, List.set_cons_succ, List.getElem_toArray, List.getElem_cons_succ, List.getElem_cons_zero]
          refine take_at (some 27) (i := 16) (v := ?_) rfl rfl (by kernel_rfl) (by kernel_rfl) (by kernel_rfl) (fun _ _ _ h => h) (Or.inl ⟨by kernel_rfl, ?_⟩) hHeld ?_
          rotate_left
          · intro wz hSw; have hb2 := HB.out.on hSw; have k4 : wz.cell? ⟨w.heap.size, 4, none⟩ = some (.slice (some ⟨bb, o, none⟩) n c) := hb2.cell 4; obtain ⟨k5, k6, k7, k8, k9⟩ := HCC.out wz hb2.l; have k0 := HPC.out wz hb2.l; clear hb2; go_simp; try (with_reducible rfl)
          try simp only [Act.put, List.setIfInBounds_toArray, List.set_cons_zero, List.set_cons_succ, List.getElem_toArray, List.getElem_cons_succ, List.getElem_cons_zero]
          refine take_at (some 28) (i := 17) (v := ?_) rfl rfl (by kernel_rfl) (by kernel_rfl) (by kernel_rfl) (fun _ _ _ h => h) (Or.inl ⟨by kernel_rfl, ?_⟩) hHeld ?_
          rotate_left
          · intro wz hSw; have hb2 := HB.out.on hSw; have k4 : wz.cell? ⟨w.heap.size, 4, none⟩ = some (.slice (some ⟨bb, o, none⟩) n c) := hb2.cell 4; obtain ⟨k5, k6, k7, k8, k9⟩ := HCC.out wz hb2.l; have k0 := HPC.out wz hb2.l; clear hb2; go_simp; try (with_reducible rfl)
          try simp only [Act.put, List.setIfInBounds_toArray, List.set_cons_zero, List.set_cons_succ, List.getElem_toArray, List.getElem_cons_succ, List.getElem_cons_zero]
          refine take_at (some 29) (i := 18) (v := ?_) rfl rfl (by kernel_rfl) (by kernel_rfl) (by kernel_rfl) (fun _ _ _ h => h) (Or.inl ⟨by kernel_rfl, ?_⟩) hHeld ?_
          rotate_left
          · intro wz hSw; have hb2 := HB.out.on hSw; have k4 : wz.cell? ⟨w.heap.size, 4, none⟩ = some (.slice (some ⟨bb, o, none⟩) n c) := hb2.cell 4; obtain ⟨k5, k6, k7, k8, k9⟩ := HCC.out wz hb2.l; have k0 := HPC.out wz hb2.l; clear hb2; go_simp; try (with_reducible rfl)
          try simp only [Act.put, List.setIfInBounds_toArray, List.set_cons_zero, List.set_cons_succ, List.getElem_toArray, List.getElem_cons_succ, List.getElem_cons_zero]
          refine take_at (some 30) (i := 19) (v := ?_) rfl rfl (by kernel_rfl) (by kernel_rfl) (by kernel_rfl) (fun _ _ _ h => h) (Or.inl ⟨by kernel_rfl, ?_⟩) hHeld ?_
          rotate_left
          · intro wz hSw; have hb2 := HB.out.on hSw; have k4 : wz.cell? ⟨w.heap.size, 4, none⟩ = some (.slice (some ⟨bb, o, none⟩) n c) := hb2.cell 4; obtain ⟨k5, k6, k7, k8, k9⟩ := HCC.out wz hb2.l; have k0 := HPC.out wz hb2.l; clear hb2; go_simp; try (with_reducible rfl)
          try simp only [Act.put, List.setIfInBounds_toArray, List.set_cons_zero, List.set_cons_succ, List.getElem_toArray, List.getElem_cons_succ, List.getElem_cons_zero]
          refine take_at (some 31) (i := 20) (v := ?_) rfl rfl (by kernel_rfl) (by kernel_rfl) (by kernel_rfl) (fun _ _ _ h => h) (Or.inl ⟨by kernel_rfl, ?_⟩) hHeld ?_
          rotate_left
          · intro wz hSw; have hb2 := HB.out.on hSw; have k4 : wz.cell? ⟨w.heap.size, 4, none⟩ = some (.slice (some ⟨bb, o, none⟩) n c) := hb2.cell 4; obtain ⟨k5, k6, k7, k8, k9⟩ := HCC.out wz hb2.l; have k0 := HPC.out wz hb2.l; clear hb2; go_simp; try (with_reducible rfl)
          try simp only [Act.put, List.setIfInBounds_toArray, List.set_cons_zero, List.set_cons_succ, List.getElem_toArray, List.getElem_cons_succ, List.getElem_cons_zero]
          refine take_at (some 32) (i := 21) (v := ?_) rfl rfl (by kernel_rfl) (by kernel_rfl) (by kernel_rfl) (fun _ _ _ h => h) (Or.inl ⟨by kernel_rfl, ?_⟩) hHeld ?_
          rotate_left
          · intro wz hSw; have hb2 := HB.out.on hSw; have k4 : wz.cell? ⟨w.heap.size, 4, none⟩ = some (.slice (some ⟨bb, o, none⟩) n c) := hb2.cell 4; obtain ⟨k5, k6, k7, k8, k9⟩ := HCC.out wz hb2.l; have k0 := HPC.out wz hb2.l; clear hb2; go_simp; try (with_reducible rfl)
          try simp only [Act.put, List.setIfInBounds_toArray, List.set_cons_zero, List.set_cons_succ, List.getElem_toArray, List.getElem_cons_succ, List.getElem_cons_zero]
          refine take_at (some 33) (i := 22) (v := ?_) rfl rfl (by kernel_rfl) (by kernel_rfl) (by kernel_rfl) (fun _ _ _ h => h) (Or.inl ⟨by kernel_rfl, ?_⟩) hHeld ?_
          rotate_left
          · intro wz hSw; have hb2 := HB.out.on hSw; have k4 : wz.cell? ⟨w.heap.size, 4, none⟩ = some (.slice (some ⟨bb, o, none⟩) n c) := hb2.cell 4; obtain ⟨k5, k6, k7, k8, k9⟩ := HCC.out wz hb2.l; have k0 := HPC.out wz hb2.l; clear hb2; go_simp; try (with_reducible rfl)
          try simp only [Act.put, List.setIfInBounds_toArray, List.set_cons_zero, List.set_cons_succ, List.getElem_toArray, List.getElem_cons_succ, List.getElem_cons_zero]
          refine take_at (some 34) (i := 23) (v := ?_) rfl rfl (by kernel_rfl) (by kernel_rfl) (by kernel_rfl) (fun _ _ _ h => h) (Or.inl ⟨by kernel_rfl, ?_⟩) hHeld ?_
          rotate_left
          · intro wz hSw; have hb2 := HB.out.on hSw; have k4 : wz.cell? ⟨w.heap.size, 4, none⟩ = some (.slice (some ⟨bb, o, none⟩) n c) := hb2.cell 4; obtain ⟨k5, k6, k7, k8, k9⟩ := HCC.out wz hb2.l; have k0 := HPC.out wz hb2.l; clear hb2; go_simp; try (with_reducible rfl)
          try simp only [Act.put, List.setIfInBounds_toArray, List.set_cons_zero, List.set_cons_succ, List.getElem_toArray, List.getElem_cons_succ, List.getElem_cons_zero]
          refine take_at (some 35) (i := 24) (v := ?_) rfl rfl (by kernel_rfl) (by kernel_rfl) (by kernel_rfl) (fun _ _ _ h => h) (Or.inl ⟨by kernel_rfl, ?_⟩) hHeld ?_
          rotate_left
          · intro wz hSw; have hb2 := HB.out.on hSw; have k4 : wz.cell? ⟨w.heap.size, 4, none⟩ = some (.slice (some ⟨bb, o, none⟩) n c) := hb2.cell 4; obtain ⟨k5, k6, k7, k8, k9⟩ := HCC.out wz hb2.l; have k0 := HPC.out wz hb2.l; clear hb2; go_simp; try (with_reducible rfl)
          try simp only [Act.put, List.setIfInBounds_toArray, List.set_cons_zero, List.set_cons_succ, List.getElem_toArray, List.getElem_cons_succ, List.getElem_cons_zero]
          refine take_at (some 36) (i := 25) (v := ?_) rfl rfl (by kernel_rfl) (by kernel_rfl) (by kernel_rfl) (fun _ _ _ h => h) (Or.inl ⟨by kernel_rfl, ?_⟩) hHeld ?_
          rotate_left
          · intro wz hSw; have hb2 := HB.out.on hSw; have k4 : wz.cell? ⟨w.heap.size, 4, none⟩ = some (.slice (some ⟨bb, o, none⟩) n c) := hb2.cell 4; obtain ⟨k5, k6, k7, k8, k9⟩ := HCC.out wz hb2.l; have k0 := HPC.out wz hb2.l; clear hb2; go_simp; try (with_reducible rfl)
          try simp only [Act.put, List.setIfInBounds_toArray, List.set_cons_zero, List.set_cons_succ, List.getElem_toArray, List.getElem_cons_succ, List.getElem_cons_zero]
          refine take_at (some 37) (i := 26) (v := ?_) rfl rfl (by kernel_rfl) (by kernel_rfl) (by kernel_rfl) (fun _ _ _ h => h) (Or.inl ⟨by kernel_rfl, ?_⟩) hHeld ?_
          rotate_left
          · intro wz hSw; have hb2 := HB.out.on hSw; have k4 : wz.cell? ⟨w.heap.size, 4, none⟩ = some (.slice (some ⟨bb, o, none⟩) n c) := hb2.cell 4; obtain ⟨k5, k6, k7, k8, k9⟩ := HCC.out wz hb2.l; have k0 := HPC.out wz hb2.l; clear hb2; go_simp; try (with_reducible rfl)
          try simp only [Act.put, List.setIfInBounds_toArray, List.set_cons_zero, List.set_cons_succ, List.getElem_toArray, List.getElem_cons_succ, List.getElem_cons_zero]
          refine wpAnyH_done (by kernel_rfl) ?_ _
          refine gen_qT (fun y => Below wo.heap.size wo y) hHeld (fun y hy => ?_)
          clear hHeld
          have HVF := Lib.hid (show R2 = false by rw [HD.out, HST.out]; rw [HZ.out]; rfl)
          go_wp2
          go_ret
          exact ⟨by rw [HVF.out]; rfl, (HB.out.on hy).l⟩
        | true =>
          have HZ := Lib.hid (show ltS (if i = 0 then ByteArray.empty else pn) xn = true by rw [if_neg hi0]; exact hlt)
          refine take_at (some 22) (i := 11) (v := ?_) rfl rfl (by kernel_rfl) (by kernel_rfl) (by kernel_rfl) (fun _ _ _ h => h) (Or.inl ⟨by kernel_rfl, ?_⟩) hHeld ?_
          rotate_left
          · intro wz hSw; have hb2 := HB.out.on hSw; have k4 : wz.cell? ⟨w.heap.size, 4, none⟩ = some (.slice (some ⟨bb, o, none⟩) n c) := hb2.cell 4; obtain ⟨k5, k6, k7, k8, k9⟩ := HCC.out wz hb2.l; have k0 := HPC.out wz hb2.l; clear hb2; go_simp; try (with_reducible rfl)
          try simp only [Act.put, List.setIfInBounds_toArray, List.set_cons_zero, List.set_cons_succ, List.getElem_toArray, List.getElem_cons_succ, List.getElem_cons_zero]
          refine take_at (some 23) (i := 12) (v := ?_) rfl rfl (by kernel_rfl) (by kernel_rfl) (by kernel_rfl) (fun _ _ _ h => h) (Or.inl ⟨by kernel_rfl, ?_⟩) hHeld ?_
          rotate_left
          · intro wz hSw; have hb2 := HB.out.on hSw; have k4 : wz.cell? ⟨w.heap.size, 4, none⟩ = some (.slice (some ⟨bb, o, none⟩) n c) := hb2.cell 4; obtain ⟨k5, k6, k7, k8, k9⟩ := HCC.out wz hb2.l; have k0 := HPC.out wz hb2.l; clear hb2; go_simp; try (with_reducible rfl)
          try simp only [Act.put, List.setIfInBounds_toArray, List.set_cons_zero, List.set_cons_succ, List.getElem_toArray, List.getElem_cons_succ, List.getElem_cons_zero]
          refine take_at (some 24) (i := 13) (v := ?_) rfl rfl (by kernel_rfl) (by kernel_rfl) (by kernel_rfl) (fun _ _ _ h => h) (Or.inl ⟨by kernel_rfl, ?_⟩) hHeld ?_
          rotate_left
          · intro wz hSw; have hb2 := HB.out.on hSw; have k4 : wz.cell? ⟨w.heap.size, 4, none⟩ = some (.slice (some ⟨bb, o, none⟩) n c) := hb2.cell 4; obtain ⟨k5, k6, k7, k8, k9⟩ := HCC.out wz hb2.l; have k0 := HPC.out wz hb2.l; clear hb2; go_simp; try (with_reducible rfl)
          try simp only [Act.put, List.setIfInBounds_toArray, List.set_cons_zero, List.set_cons_succ, List.getElem_toArray, List.getElem_cons_succ, List.getElem_cons_zero]
          refine take_at (some 25) (i := 14) (v := ?_) rfl rfl (by kernel_rfl) (by kernel_rfl) (by kernel_rfl) (fun _ _ _ h => h) (Or.inl ⟨by kernel_rfl, ?_⟩) hHeld ?_
          rotate_left
          · intro wz hSw; have hb2 := HB.out.on hSw; have k4 : wz.cell? ⟨w.heap.size, 4, none⟩ = some (.slice (some ⟨bb, o, none⟩) n c) := hb2.cell 4; obtain ⟨k5, k6, k7, k8, k9⟩ := HCC.out wz hb2.l; have k0 := HPC.out wz hb2.l; clear hb2; go_simp; try (with_reducible rfl)
          try simp only [Act.put, List.setIfInBounds_toArray, List.set_cons_zero, List.set_cons_succ, List.getElem_toArray, List.getElem_cons_succ, List.getElem_cons_zero]
          refine take_at (some 26) (i := 15) (v := ?_) rfl rfl (by kernel_rfl) (by kernel_rfl) (by kernel_rfl) (fun _ _ _ h => h) (Or.inl ⟨by kernel_rfl, ?_⟩) hHeld ?_
          rotate_left
          · intro wz hSw; have hb2 := HB.out.on hSw; have k4 : wz.cell? ⟨w.heap.size, 4, none⟩ = some (.slice (some ⟨bb, o, none⟩) n c) := hb2.cell 4; obtain ⟨k5, k6, k7, k8, k9⟩ := HCC.out wz hb2.l; have k0 := HPC.out wz hb2.l; clear hb2; go_simp; try (with_reducible rfl)
          try simp only [Act.put, List.setIfInBounds_toArray, List.set_cons_zero, List.set_cons_succ, List.getElem_toArray, List.getElem_cons_succ, List.getElem_cons_zero]
          refine take_at (some 27) (i := 16) (v := ?_) rfl rfl (by kernel_rfl) (by kernel_rfl) (by kernel_rfl) (fun _ _ _ h => h) (Or.inl ⟨by kernel_rfl, ?_⟩) hHeld ?_
          rotate_left
          · intro wz hSw; have hb2 := HB.out.on hSw; have k4 : wz.cell? ⟨w.heap.size, 4, none⟩ = some (.slice (some ⟨bb, o, none⟩) n c) := hb2.cell 4; obtain ⟨k5, k6, k7, k8, k9⟩ := HCC.out wz hb2.l; have k0 := HPC.out wz hb2.l; clear hb2; go_simp; try (with_reducible rfl)
          try simp only [Act.put, List.setIfInBounds_toArray, List.set_cons_zero, List.set_cons_succ, List.getElem_toArray, List.getElem_cons_succ, List.getElem_cons_zero]
          refine take_at (some 28) (i := 17) (v := ?_) rfl rfl (by kernel_rfl) (by kernel_rfl) (by kernel_rfl) (fun _ _ _ h => h) (Or.inl ⟨by kernel_rfl, ?_⟩) hHeld ?_
          rotate_left
          · intro wz hSw; have hb2 := HB.out.on hSw; have k4 : wz.cell? ⟨w.heap.size, 4, none⟩ = some (.slice (some ⟨bb, o, none⟩) n c) := hb2.cell 4; obtain ⟨k5, k6, k7, k8, k9⟩ := HCC.out wz hb2.l; have k0 := HPC.out wz hb2.l; clear hb2; go_simp; try (with_reducible rfl)
          try simp only [Act.put, List.setIfInBounds_toArray, List.set_cons_zero, List.set_cons_succ, List.getElem_toArray, List.getElem_cons_succ, List.getElem_cons_zero]
          refine take_at (some 29) (i := 18) (v := ?_) rfl rfl (by kernel_rfl) (by kernel_rfl) (by kernel_rfl) (fun _ _ _ h => h) (Or.inl ⟨by kernel_rfl, ?_⟩) hHeld ?_
          rotate_left
          · intro wz hSw; have hb2 := HB.out.on hSw; have k4 : wz.cell? ⟨w.heap.size, 4, none⟩ = some (.slice (some ⟨bb, o, none⟩) n c) := hb2.cell 4; obtain ⟨k5, k6, k7, k8, k9⟩ := HCC.out wz hb2.l; have k0 := HPC.out wz hb2.l; clear hb2; go_simp; try (with_reducible rfl)
          try simp only [Act.put, List.setIfInBounds_toArray, List.set_cons_zero, List.set_cons_succ, List.getElem_toArray, List.getElem_cons_succ, List.getElem_cons_zero]
          refine take_at (some 30) (i := 19) (v := ?_) rfl rfl (by kernel_rfl) (by kernel_rfl) (by kernel_rfl) (fun _ _ _ h => h) (Or.inl ⟨by kernel_rfl, ?_⟩) hHeld ?_
          rotate_left
          · intro wz hSw; have hb2 := HB.out.on hSw; have k4 : wz.cell? ⟨w.heap.size, 4, none⟩ = some (.slice (some ⟨bb, o, none⟩) n c) := hb2.cell 4; obtain ⟨k5, k6, k7, k8, k9⟩ := HCC.out wz hb2.l; have k0 := HPC.out wz hb2.l; clear hb2; go_simp; try (with_reducible rfl)
          try simp only [Act.put, List.setIfInBounds_toArray, List.set_cons_zero, List.set_cons_succ, List.getElem_toArray, List.getElem_cons_succ, List.getElem_cons_zero]
          refine take_at (some 31) (i := 20) (v := ?_) rfl rfl (by kernel_rfl) (by kernel_rfl) (by kernel_rfl) (fun _ _ _ h => h) (Or.inl ⟨by kernel_rfl, ?_⟩) hHeld ?_
          rotate_left
          · intro wz hSw; have hb2 := HB.out.on hSw; have k4 : wz.cell? ⟨w.heap.size, 4, none⟩ = some (.slice (some ⟨bb, o, none⟩) n c) := hb2.cell 4; obtain ⟨k5, k6, k7, k8, k9⟩ := HCC.out wz hb2.l; have k0 := HPC.out wz hb2.l; clear hb2; go_simp; try (with_reducible rfl)
          try simp only [Act.put, List.setIfInBounds_toArray, List.set_cons_zero, List.set_cons_succ, List.getElem_toArray, List.getElem_cons_succ, List.getElem_cons_zero]
          refine take_at (some 32) (i := 21) (v := ?_) rfl rfl (by kernel_rfl) (by kernel_rfl) (by kernel_rfl) (fun _ _ _ h => h) (Or.inl ⟨by kernel_rfl, ?_⟩) hHeld ?_
          rotate_left
          · intro wz hSw; have hb2 := HB.out.on hSw; have k4 : wz.cell? ⟨w.heap.size, 4, none⟩ = some (.slice (some ⟨bb, o, none⟩) n c) := hb2.cell 4; obtain ⟨k5, k6, k7, k8, k9⟩ := HCC.out wz hb2.l; have k0 := HPC.out wz hb2.l; clear hb2; go_simp; try (with_reducible rfl)
          try simp only [Act.put, List.setIfInBounds_toArray, List.set_cons_zero, List.set_cons_succ, List.getElem_toArray, List.getElem_cons_succ, List.getElem_cons_zero]
          refine take_at (some 33) (i := 22) (v := ?_) rfl rfl (by kernel_rfl) (by kernel_rfl) (by kernel_rfl) (fun _ _ _ h => h) (Or.inl ⟨by kernel_rfl, ?_⟩) hHeld ?_
          rotate_left
          · intro wz hSw; have hb2 := HB.out.on hSw; have k4 : wz.cell? ⟨w.heap.size, 4, none⟩ = some (.slice (some ⟨bb, o, none⟩) n c) := hb2.cell 4; obtain ⟨k5, k6, k7, k8, k9⟩ := HCC.out wz hb2.l; have k0 := HPC.out wz hb2.l; clear hb2; go_simp; try (with_reducible rfl)
          try simp only [Act.put, List.setIfInBounds_toArray, List.set_cons_zero, List.set_cons_succ, List.getElem_toArray, List.getElem_cons_succ, List.getElem_cons_zero]
          refine take_at (some 34) (i := 23) (v := ?_) rfl rfl (by kernel_rfl) (by kernel_rfl) (by kernel_rfl) (fun _ _ _ h => h) (Or.inl ⟨by kernel_rfl, ?_⟩) hHeld ?_
          rotate_left
          · intro wz hSw; have hb2 := HB.out.on hSw; have k4 : wz.cell? ⟨w.heap.size, 4, none⟩ = some (.slice (some ⟨bb, o, none⟩) n c) := hb2.cell 4; obtain ⟨k5, k6, k7, k8, k9⟩ := HCC.out wz hb2.l; have k0 := HPC.out wz hb2.l; clear hb2; go_simp; try (with_reducible rfl)
          try simp only [Act.put, List.setIfInBounds_toArray, List.set_cons_zero, List.set_cons_succ, List.getElem_toArray, List.getElem_cons_succ, List.getElem_cons_zero]
          refine take_at (some 35) (i := 24) (v := ?_) rfl rfl (by kernel_rfl) (by kernel_rfl) (by kernel_rfl) (fun _ _ _ h => h) (Or.inl ⟨by kernel_rfl, ?_⟩) hHeld ?_
          rotate_left
          · intro wz hSw; have hb2 := HB.out.on hSw; have k4 : wz.cell? ⟨w.heap.size, 4, none⟩ = some (.slice (some ⟨bb, o, none⟩) n c) := hb2.cell 4; obtain ⟨k5, k6, k7, k8, k9⟩ := HCC.out wz hb2.l; have k0 := HPC.out wz hb2.l; clear hb2; go_simp; try (with_reducible rfl)
          try simp only [Act.put, List.setIfInBounds_toArray, List.set_cons_zero, List.set_cons_succ, List.getElem_toArray, List.getElem_cons_succ, List.getElem_cons_zero]
          refine take_at (some 36) (i := 25) (v := ?_) rfl rfl (by kernel_rfl) (by kernel_rfl) (by kernel_rfl) (fun _ _ _ h => h) (Or.inl ⟨by kernel_rfl, ?_⟩) hHeld ?_
          rotate_left
          · intro wz hSw; have hb2 := HB.out.on hSw; have k4 : wz.cell? ⟨w.heap.size, 4, none⟩ = some (.slice (some ⟨bb, o, none⟩) n c) := hb2.cell 4; obtain ⟨k5, k6, k7, k8, k9⟩ := HCC.out wz hb2.l; have k0 := HPC.out wz hb2.l; clear hb2; go_simp; try (with_reducible rfl)
          try simp only [Act.put, List.setIfInBounds_toArray, List.set_cons_zero, List.set_cons_succ, List.getElem_toArray, List.getElem_cons_succ, List.getElem_cons_zero]
          refine take_at (some 37) (i := 26) (v := ?_) rfl rfl (by kernel_rfl) (by kernel_rfl) (by kernel_rfl) (fun _ _ _ h => h) (Or.inl ⟨by kernel_rfl, ?_⟩) hHeld ?_
          rotate_left
          · intro wz hSw; have hb2 := HB.out.on hSw; have k4 : wz.cell? ⟨w.heap.size, 4, none⟩ = some (.slice (some ⟨bb, o, none⟩) n c) := hb2.cell 4; obtain ⟨k5, k6, k7, k8, k9⟩ := HCC.out wz hb2.l; have k0 := HPC.out wz hb2.l; clear hb2; go_simp; try (with_reducible rfl)
          try simp only [Act.put, List.setIfInBounds_toArray, List.set_cons_zero, List.set_cons_succ, List.getElem_toArray, List.getElem_cons_succ, List.getElem_cons_zero]
          refine wpAnyH_done (by kernel_rfl) ?_ _
          refine gen_qT (fun y => Below wo.heap.size wo y) hHeld (fun y hy => ?_)
          clear hHeld
          have HY := Lib.hid (HB.out.on hy)
          go_wp2
          go_roundw
          case rel => exact ⟨i + 1, by omega, by go_num, Lib.hid (by rw [HNX.out, HD.out, HST.out]; rw [HZ.out]; rfl), HY⟩
          case measure => simp [intOf]; omega
    · have hi2 : ¬ (i : Int) < (n : Int) := by omega
      have HE := Lib.hid (show R2 = true by rw [HD.out, List.drop_eq_nil_of_le (by rw [HNN.out]; omega)]; rfl)
      have e0 : wr.cell? ⟨w.heap.size, 0, none⟩ = some (.int .i64 a0) := HB.out.cell 0
      cases t0 with
      | false =>
        go_wp2_with (go_at_call 48; (with_reducible refine (HT0.out _).mono ?_); rintro e u1 ⟨rfl, hb⟩; have H1 := Lib.hid (HB.out.on hb); clear hb)
        go_ret
        exact ⟨by rw [HE.out]; rfl, H1.out.l⟩
      | true =>
        cases t1 with
        | false =>
          go_wp2_with (first
            | (go_at_call 48; (with_reducible refine (HT0.out _).mono ?_); rintro e u1 ⟨rfl, hb⟩; have H1 := Lib.hid (HB.out.on hb); clear hb; have e1 : u1.cell? ⟨w.heap.size, 1, none⟩ = some (.int .i64 a1) := H1.out.cell 1)
            | (go_at_call 48; (with_reducible refine (HT1.out _).mono ?_); rintro e u2 ⟨rfl, hb⟩; have H2 := Lib.hid (H1.out.on hb); clear hb; have e2 : u2.cell? ⟨w.heap.size, 2, none⟩ = some (.int .i64 a2) := H2.out.cell 2))
          go_ret
          exact ⟨by rw [HE.out]; rfl, H2.out.l⟩
        | true =>
          cases t2 with
          | false =>
            go_wp2_with (first
              | (go_at_call 48; (with_reducible refine (HT0.out _).mono ?_); rintro e u1 ⟨rfl, hb⟩; have H1 := Lib.hid (HB.out.on hb); clear hb; have e1 : u1.cell? ⟨w.heap.size, 1, none⟩ = some (.int .i64 a1) := H1.out.cell 1)
              | (go_at_call 48; (with_reducible refine (HT1.out _).mono ?_); rintro e u2 ⟨rfl, hb⟩; have H2 := Lib.hid (H1.out.on hb); clear hb; have e2 : u2.cell? ⟨w.heap.size, 2, none⟩ = some (.int .i64 a2) := H2.out.cell 2)
              | (go_at_call 48; (with_reducible refine (HT2.out _).mono ?_); rintro e u3 ⟨rfl, hb⟩; have H3 := Lib.hid (H2.out.on hb); clear hb; have e3 : u3.cell? ⟨w.heap.size, 3, none⟩ = some (.int .i64 a3) := H3.out.cell 3))
            go_ret
            exact ⟨by rw [HE.out]; rfl, H3.out.l⟩
          | true =>
            cases t3 with
            | false =>
              go_wp2_with (first
                | (go_at_call 48; (with_reducible refine (HT0.out _).mono ?_); rintro e u1 ⟨rfl, hb⟩; have H1 := Lib.hid (HB.out.on hb); clear hb; have e1 : u1.cell? ⟨w.heap.size, 1, none⟩ = some (.int .i64 a1) := H1.out.cell 1)
                | (go_at_call 48; (with_reducible refine (HT1.out _).mono ?_); rintro e u2 ⟨rfl, hb⟩; have H2 := Lib.hid (H1.out.on hb); clear hb; have e2 : u2.cell? ⟨w.heap.size, 2, none⟩ = some (.int .i64 a2) := H2.out.cell 2)
                | (go_at_call 48; (with_reducible refine (HT2.out _).mono ?_); rintro e u3 ⟨rfl, hb⟩; have H3 := Lib.hid (H2.out.on hb); clear hb; have e3 : u3.cell? ⟨w.heap.size, 3, none⟩ = some (.int .i64 a3) := H3.out.cell 3)
                | (go_at_call 48; (with_reducible refine (HT3.out _).mono ?_); rintro e u4 ⟨rfl, hb⟩; have H4 := Lib.hid (H3.out.on hb); clear hb; have e4 : u4.cell? ⟨w.heap.size, 4, none⟩ = some (.slice A n c) := H4.out.cell 4))
              go_ret
              exact ⟨by rw [HE.out]; rfl, H4.out.l⟩
            | true =>
              by_cases h8 : n ≤ 8
              · have h81 : (n : Int) ≤ 8 := by omega
                have HV := Lib.hid (show (true && (true && true && true && true && decide (n ≤ 8))) = true by rw [decide_eq_true h8]; rfl)
                go_wp2_with (first
                  | (go_at_call 48; (with_reducible refine (HT0.out _).mono ?_); rintro e u1 ⟨rfl, hb⟩; have H1 := Lib.hid (HB.out.on hb); clear hb; have e1 : u1.cell? ⟨w.heap.size, 1, none⟩ = some (.int .i64 a1) := H1.out.cell 1)
                  | (go_at_call 48; (with_reducible refine (HT1.out _).mono ?_); rintro e u2 ⟨rfl, hb⟩; have H2 := Lib.hid (H1.out.on hb); clear hb; have e2 : u2.cell? ⟨w.heap.size, 2, none⟩ = some (.int .i64 a2) := H2.out.cell 2)
                  | (go_at_call 48; (with_reducible refine (HT2.out _).mono ?_); rintro e u3 ⟨rfl, hb⟩; have H3 := Lib.hid (H2.out.on hb); clear hb; have e3 : u3.cell? ⟨w.heap.size, 3, none⟩ = some (.int .i64 a3) := H3.out.cell 3)
                  | (go_at_call 48; (with_reducible refine (HT3.out _).mono ?_); rintro e u4 ⟨rfl, hb⟩; have H4 := Lib.hid (H3.out.on hb); clear hb; have e4 : u4.cell? ⟨w.heap.size, 4, none⟩ = some (.slice A n c) := H4.out.cell 4))
                go_ret
                exact ⟨by rw [HE.out, HV.out]; first | rfl | (simp; omega), H4.out.l⟩
              · have h81 : ¬ (n : Int) ≤ 8 := by omega
                have HV := Lib.hid (show (true && (true && true && true && true && decide (n ≤ 8))) = false by rw [decide_eq_false h8]; rfl)
                go_wp2_with (first
                  | (go_at_call 48; (with_reducible refine (HT0.out _).mono ?_); rintro e u1 ⟨rfl, hb⟩; have H1 := Lib.hid (HB.out.on hb); clear hb; have e1 : u1.cell? ⟨w.heap.size, 1, none⟩ = some (.int .i64 a1) := H1.out.cell 1)
                  | (go_at_call 48; (with_reducible refine (HT1.out _).mono ?_); rintro e u2 ⟨rfl, hb⟩; have H2 := Lib.hid (H1.out.on hb); clear hb; have e2 : u2.cell? ⟨w.heap.size, 2, none⟩ = some (.int .i64 a2) := H2.out.cell 2)
                  | (go_at_call 48; (with_reducible refine (HT2.out _).mono ?_); rintro e u3 ⟨rfl, hb⟩; have H3 := Lib.hid (H2.out.on hb); clear hb; have e3 : u3.cell? ⟨w.heap.size, 3, none⟩ = some (.int .i64 a3) := H3.out.cell 3)
                  | (go_at_call 48; (with_reducible refine (HT3.out _).mono ?_); rintro e u4 ⟨rfl, hb⟩; have H4 := Lib.hid (H3.out.on hb); clear hb; have e4 : u4.cell? ⟨w.heap.size, 4, none⟩ = some (.slice A n c) := H4.out.cell 4))
                go_ret
                exact ⟨by rw [HE.out, HV.out]; first | rfl | (simp; omega), H4.out.l⟩
end Go.Proofs.YtekobdmlgbffnaaGreatDoor
