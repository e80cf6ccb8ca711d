/- PairParts: who parts leaves nobody paired with either: the walk. (Written by gen_prparts.py.) -/
import Derived.Test.YtinjldjpncijjaaPrH
import Derived.Test.YtinjldjpncijjaaG8
namespace Go.Proofs.Ytinjldjpncijjaa
set_option linter.unusedVariables false
set_option maxRecDepth 100000
set_option linter.unusedSimpArgs false
open Go.RowKit

theorem oth_zero {l : List Pp} {id x : Int} (h : othP l id = (x, false)) : x = 0 := by
  unfold othP at h
  split at h
  · exact (congrArg Prod.fst h).symm
  · exact absurd (congrArg Prod.snd h) (by simp)

set_option maxRecDepth 100000 in
set_option maxHeartbeats 16000000 in
theorem walk_PairParts (A : Option Addr) (L : List CoM) (n c : Nat) (id : Int) (W : World) (h : InC W A L n c)  (hwi : WfN id):
    Calls Try.prog 6 #[.slice A n c, .int .i64 id] W fun e w' => e = .returned (.bool true) ∧ Below W.heap.size W w' := by
  have HI := Lib.hid h
  have hcapn : n ≤ 9223372036854775807 := by have h1 := h.cap; have h2 := h.max; unfold maxLen at h2; omega
  clear h
  have HWI := Lib.hid hwi
  clear hwi
  go_enter Try.func6, Try.ntmps6
  go_upto_region 2 with (go_at_call 9; (with_reducible refine (phead_ok _).mono ?_); rintro e u1 ⟨rfl, hb⟩; have HB1 := Lib.hid hb; clear hb)
  go_upto_region 3 with (go_at_call 10; (with_reducible refine (z_pnew HB1.out).mono ?_); rintro e u2 ⟨H2, tb, rfl, h1, h2, h3⟩; have HZ2 := Lib.hid h1; clear h1 h2 h3)
  by_cases hgt : n > 300
  · have hg2 : (n : Int) > 300 := by omega
    have hg3 : decide ((300 : Int) < (n : Int)) = true := decide_eq_true (by omega)
    go_wp2
    go_ret
    exact ⟨rfl, HZ2.out.l⟩
  · have hg2 : ¬ (n : Int) > 300 := by omega
    have hg3 : decide ((300 : Int) < (n : Int)) = false := decide_eq_false (by omega)
    go_wp2_with fail
    go_loopw [7] (fun vI wr => ∃ (i : Nat) (t : Tp) (H : List Nat), i ≤ n ∧ vI = .int .i64 (i : Int) ∧ Hid (Zp W wr H tb t) ∧ Hid (t.l.length ≤ i ∧ t.ev.length ≤ 2 * i ∧ Gp t)) (fun vI _ => n - (intOf vI).toNat)
    case atStart => exact ⟨0, ⟨[], []⟩, H2, by omega, rfl, HZ2, Lib.hid ⟨by simp, by simp, gp_nil⟩⟩
    case round =>
      obtain ⟨i, t, H, hi, rfl, HZ, HE⟩ := hrel
      have HFW := Lib.hid (show t.l.length ≤ 1000 ∧ t.ev.length ≤ 2000 from ⟨by have := HE.out.1; omega, by have := HE.out.2.1; omega⟩)
      by_cases hi1 : i < n
      · have hi2 : (i : Int) < (n : Int) := by omega
        obtain ⟨bx, o, op, rfl, hx, hwf, hc⟩ := HI.out.at_ i hi1
        obtain ⟨ow, oa, ob⟩ := op
        dsimp only at hc
        obtain ⟨x0, x1, x2⟩ := hc wr HZ.out.l
        have HC := Lib.hid hc
        have HWA := Lib.hid (show WfN oa from hwf.2.1)
        have HWB := Lib.hid (show WfN ob from hwf.2.2)
        clear hx hc hwf
        obtain ⟨⟨er, t2⟩, hR⟩ : ∃ R, joinP t oa ob = R := ⟨_, rfl⟩
        have HR := Lib.hid hR
        have HE2 := Lib.hid (show t2.l.length ≤ i + 1 ∧ t2.ev.length ≤ 2 * (i + 1) ∧ Gp t2 from by
          have h1 := join_few t oa ob
          rw [hR] at h1
          have h3 := HE.out.1
          have h4 := HE.out.2.1
          exact ⟨Nat.le_trans h1.1 (by omega), Nat.le_trans h1.2 (by omega), gp_set HE.out.2.2 hR⟩)
        clear hR
        go_upto_region 8 with fail
        clear x0 x1 x2
        try simp only [List.cons_append, List.nil_append]
        refine wp_region_held_drew (S := fun wz => Below W.heap.size W wz) (by kernel_rfl) (HZ.out.l.trans (((Below.refl wr.heap.size wr).drew).mono HZ.out.l.size)) (fun hHeld => ?_)
        refine take_at (some 39) (i := 0) (v := ?_) rfl rfl (by kernel_rfl) (by kernel_rfl) (by kernel_rfl) (fun _ _ _ h => h) (Or.inl ⟨by kernel_rfl, ?_⟩) hHeld ?_
        rotate_left
        · intro wz hSw; go_simp; try (with_reducible rfl)
        try simp only [Act.put, List.setIfInBounds_toArray, List.set_cons_zero, List.set_cons_succ, List.getElem_toArray, List.getElem_cons_succ, List.getElem_cons_zero]
        refine take_at (some 40) (i := 1) (v := ?_) rfl rfl (by kernel_rfl) (by kernel_rfl) (by kernel_rfl) (fun _ _ _ h => h) (Or.inl ⟨by kernel_rfl, ?_⟩) hHeld ?_
        rotate_left
        · intro wz hSw; go_simp; try (with_reducible rfl)
        try simp only [Act.put, List.setIfInBounds_toArray, List.set_cons_zero, List.set_cons_succ, List.getElem_toArray, List.getElem_cons_succ, List.getElem_cons_zero]
        refine take_at (some 41) (i := 2) (v := ?_) rfl rfl (by kernel_rfl) (by kernel_rfl) (by kernel_rfl) (fun _ _ _ h => h) (Or.inl ⟨by kernel_rfl, ?_⟩) hHeld ?_
        rotate_left
        · intro wz hSw; go_simp; try (with_reducible rfl)
        try simp only [Act.put, List.setIfInBounds_toArray, List.set_cons_zero, List.set_cons_succ, List.getElem_toArray, List.getElem_cons_succ, List.getElem_cons_zero]
        refine take_at (some 42) (i := 3) (v := ?_) rfl rfl (by kernel_rfl) (by kernel_rfl) (by kernel_rfl) (fun _ _ _ h => h) (Or.inl ⟨by kernel_rfl, ?_⟩) hHeld ?_
        rotate_left
        · intro wz hSw; go_simp; try (with_reducible rfl)
        try simp only [Act.put, List.setIfInBounds_toArray, List.set_cons_zero, List.set_cons_succ, List.getElem_toArray, List.getElem_cons_succ, List.getElem_cons_zero]
        refine take_at (some 43) (i := 4) (v := ?_) rfl rfl (by kernel_rfl) (by kernel_rfl) (by kernel_rfl) (fun _ _ _ h => h) (Or.inl ⟨by kernel_rfl, ?_⟩) hHeld ?_
        rotate_left
        · intro wz hSw; go_simp; try (with_reducible rfl)
        try simp only [Act.put, List.setIfInBounds_toArray, List.set_cons_zero, List.set_cons_succ, List.getElem_toArray, List.getElem_cons_succ, List.getElem_cons_zero]
        refine take_at (some 44) (i := 5) (v := ?_) rfl rfl (by kernel_rfl) (by kernel_rfl) (by kernel_rfl) (fun _ _ _ h => h) (Or.inl ⟨by kernel_rfl, ?_⟩) hHeld ?_
        rotate_left
        · intro wz hSw; obtain ⟨x0, x1, x2⟩ := HC.out wz hSw; go_simp; try (with_reducible rfl)
        try simp only [Act.put, List.setIfInBounds_toArray, List.set_cons_zero, List.set_cons_succ, List.getElem_toArray, List.getElem_cons_succ, List.getElem_cons_zero]
        refine take_at (some 45) (i := 6) (v := ?_) rfl rfl (by kernel_rfl) (by kernel_rfl) (by kernel_rfl) (fun _ _ _ h => h) (Or.inl ⟨by kernel_rfl, ?_⟩) hHeld ?_
        rotate_left
        · intro wz hSw; go_simp; try (with_reducible rfl)
        try simp only [Act.put, List.setIfInBounds_toArray, List.set_cons_zero, List.set_cons_succ, List.getElem_toArray, List.getElem_cons_succ, List.getElem_cons_zero]
        refine take_at (some 46) (i := 7) (v := ?_) rfl rfl (by kernel_rfl) (by kernel_rfl) (by kernel_rfl) (fun _ _ _ h => h) (Or.inl ⟨by kernel_rfl, ?_⟩) hHeld ?_
        rotate_left
        · intro wz hSw; go_simp; try (with_reducible rfl)
        try simp only [Act.put, List.setIfInBounds_toArray, List.set_cons_zero, List.set_cons_succ, List.getElem_toArray, List.getElem_cons_succ, List.getElem_cons_zero]
        refine take_at (some 47) (i := 8) (v := ?_) rfl rfl (by kernel_rfl) (by kernel_rfl) (by kernel_rfl) (fun _ _ _ h => h) (Or.inl ⟨by kernel_rfl, ?_⟩) hHeld ?_
        rotate_left
        · intro wz hSw; go_simp; try (with_reducible rfl)
        try simp only [Act.put, List.setIfInBounds_toArray, List.set_cons_zero, List.set_cons_succ, List.getElem_toArray, List.getElem_cons_succ, List.getElem_cons_zero]
        refine take_at (some 48) (i := 9) (v := ?_) rfl rfl (by kernel_rfl) (by kernel_rfl) (by kernel_rfl) (fun _ _ _ h => h) (Or.inl ⟨by kernel_rfl, ?_⟩) hHeld ?_
        rotate_left
        · intro wz hSw; go_simp; try (with_reducible rfl)
        try simp only [Act.put, List.setIfInBounds_toArray, List.set_cons_zero, List.set_cons_succ, List.getElem_toArray, List.getElem_cons_succ, List.getElem_cons_zero]
        refine take_at (some 49) (i := 10) (v := ?_) rfl rfl (by kernel_rfl) (by kernel_rfl) (by kernel_rfl) (fun _ _ _ h => h) (Or.inl ⟨by kernel_rfl, ?_⟩) hHeld ?_
        rotate_left
        · intro wz hSw; obtain ⟨x0, x1, x2⟩ := HC.out wz hSw; go_simp; try (with_reducible rfl)
        try simp only [Act.put, List.setIfInBounds_toArray, List.set_cons_zero, List.set_cons_succ, List.getElem_toArray, List.getElem_cons_succ, List.getElem_cons_zero]
        refine wpAnyH_ready (rs := [11]) (by kernel_rfl) (by simp) (AllReadyH.cons rfl (fun K hK => ?_) AllReadyH.nil)
        rw [if_pos (by kernel_rfl)]
        go_simp
        refine (z_join (HZ.out.on ((Below.refl wr.heap.size wr).drew)) HE.out.2.2 HFW.out oa ob er t2 HR.out).mono ?_
        rintro e u3 ⟨H3, rfl, h1, h2⟩
        try dsimp only
        refine hK.out _ _ (h1.l) (fun hHeld => ?_)
        try simp only [Act.put, List.setIfInBounds_toArray, List.set_cons_zero, List.set_cons_succ, List.getElem_toArray, List.getElem_cons_succ, List.getElem_cons_zero]
        refine wpAnyH_done (by kernel_rfl) ?_ _
        have HZ3 := Lib.hid h1
        clear h1 h2 hHeld
        go_wp2_with fail
        go_roundw
        case rel => exact ⟨i + 1, t2, H3, by omega, by go_num, HZ3, HE2⟩
        case measure => simp [intOf] <;> omega
      · have hi2 : ¬ (i : Int) < (n : Int) := by omega
        obtain ⟨M, hM⟩ : ∃ M, t.l.length = M := ⟨_, rfl⟩
        have HM := Lib.hid hM
        have hM1 : M ≤ 300 := by have := HE.out.1; omega
        obtain ⟨⟨⟨x, b⟩, t2⟩, hR⟩ : ∃ R, partP t id = R := ⟨_, rfl⟩
        have HR := Lib.hid hR
        have HO := Lib.hid (show othP t.l id = (x, b) from congrArg Prod.fst hR)
        have HT := Lib.hid (show partL t.l id = t2.l from congrArg (fun r => r.2.l) hR)
        have hev : t2.ev = t.ev := (congrArg (fun r => r.2.ev) hR).symm
        have HG2 := Lib.hid (gp_out HE.out.2.2 hR)
        have HF2 := Lib.hid (show t2.l.length ≤ 1000 ∧ t2.ev.length ≤ 2000 by rw [hev, ← HT.out]; have h1 := part_few t id; exact ⟨Nat.le_trans h1 HFW.out.1, HFW.out.2⟩)
        obtain ⟨m2, hm2⟩ : ∃ m, t2.l.length = m := ⟨_, rfl⟩
        have HM2 := Lib.hid hm2
        have hlen : m2 + (if b = true then 1 else 0) = M := by have h1 := part_len HE.out.2.2.nd id; rw [HT.out, HO.out, hm2, hM] at h1; exact h1
        obtain ⟨⟨x3, b3⟩, hR3⟩ : ∃ R, othP t2.l id = R := ⟨_, rfl⟩
        have hb3 : b3 = false := by
          have h1 := oth_none.2 (part_gone HE.out.2.2.nd id).1
          rw [HT.out, hR3] at h1
          exact h1
        subst hb3
        have HR3 := Lib.hid hR3
        have HXE := Lib.hid (show b = true → x ∈ t2.ev from fun hb => by rw [hev]; exact HE.out.2.2.ev _ (oth_mem HE.out.2.2.nd (by rw [HO.out, hb])))
        obtain ⟨⟨x4, b4⟩, hR4⟩ : ∃ R, othP t2.l x = R := ⟨_, rfl⟩
        have hb4 : b = true → b4 = false := fun hb => by
          have h1 := oth_none.2 ((part_gone HE.out.2.2.nd id).2 (by rw [HO.out]; exact hb))
          rw [HT.out, HO.out] at h1
          dsimp only at h1
          rw [hR4] at h1
          exact h1
        have HR4 := Lib.hid hR4
        clear hM hR hev hm2 hR3 hR4
        go_upto_region 10 with (go_at_call 21; (with_reducible refine (z_all HZ.out HE.out.2.2 HFW.out M HM.out).mono ?_); rintro e u6 ⟨A6, c6, rfl, h1, h2⟩; have HZ6 := Lib.hid (HZ.out.on h2); have HR6 := Lib.hid (Lrk.of h1 HZ.out.l.size HZ.out.hi); clear h1 h2)
        go_upto_region 11 with (go_at_call 16; (with_reducible refine (z_other HZ6.out HE.out.2.2 HFW.out id x b HO.out).mono ?_); rintro e u7 ⟨rfl, h1⟩; have HZ7 := Lib.hid (HZ6.out.on h1); have HR7 := Lib.hid (HR6.out.on h1); clear h1)
        go_upto_region 12 with (go_at_call 12; (with_reducible refine (z_part HZ7.out HE.out.2.2 HFW.out id x b t2 HR.out).mono ?_); rintro e u8 ⟨H8, rfl, h1, h2⟩; have HZ8 := Lib.hid h1; have HR8 := Lib.hid (HR7.out.step h2); clear h1 h2)
        have HRW := Lib.hid (show Rw 2 ppc u8 A6 t.l from Ow.rw_ (fun _ => rfl) HR8.out.o)
        cases b with
        | true =>
          have hlm : m2 + 1 = M := by rw [if_pos rfl] at hlen; exact hlen
          obtain rfl : b4 = false := hb4 rfl
          have HXV := Lib.hid (HXE.out rfl)
          clear hlen hb4
          have hxx : (x != x) = false := by simp
          go_wp2_with fail
          go_loopw [13, 14] (fun v13 v14 wr => ∃ (i m : Nat) (A2 : Option Addr) (c2 : Nat), i ≤ M ∧ v13 = .slice A2 m c2 ∧ v14 = .int .i64 (i : Int) ∧ Hid (Ow 43 2 ppc wr u8.heap.size A2 c2 (partL (t.l.take i) id)) ∧ Hid ((partL (t.l.take i) id).length = m ∧ m ≤ i) ∧ Hid (Below u8.heap.size u8 wr)) (fun v13 v14 _ => M - (intOf v14).toNat)
          case atStart => exact ⟨0, 0, none, 0, by omega, rfl, rfl, Lib.hid (Ow.nil _ _), Lib.hid ⟨rfl, Nat.le_refl _⟩, Lib.hid (Below.refl _ _)⟩
          case round =>
            obtain ⟨j, m, A2, c2, hj, rfl, rfl, HW, HMM, HB⟩ := hrel
            by_cases hj1 : j < M
            · have hj2 : (j : Int) < (M : Int) := by omega
              obtain ⟨b6, o6, y, rfl, hy, hc⟩ := rowPP HRW.out j (by rw [HM.out]; exact hj1)
              obtain ⟨k0, k1⟩ := hc wr HB.out
              have HTK := Lib.hid (part_take hy id)
              obtain ⟨yv, yc⟩ := y
              dsimp only at k0 k1
              obtain ⟨q, hq⟩ : ∃ q, (yv == id) = q := ⟨_, rfl⟩
              obtain ⟨r, hr⟩ : ∃ r, (yc == id) = r := ⟨_, rfl⟩
              have hq2 : (yv != id) = !q := by rw [bne, hq]
              have hr2 : (yc != id) = !r := by rw [bne, hr]
              have HQ := Lib.hid (show Pp.has ⟨yv, yc⟩ id = (q || r) by unfold Pp.has; rw [hq, hr])
              clear hc hy
              cases q with
              | true =>
                simp only [Bool.not_true] at hq2
                have HT2 := Lib.hid (show partL (t.l.take (j + 1)) id = partL (t.l.take j) id by rw [HTK.out, if_pos (by rw [HQ.out]; rfl), List.append_nil])
                go_wp2_with fail
                go_roundw
                case rel => exact ⟨j + 1, m, A2, c2, by omega, rfl, by go_num, Lib.hid (by rw [HT2.out]; exact HW.out), Lib.hid (by rw [HT2.out]; exact ⟨HMM.out.1, by have := HMM.out.2; omega⟩), HB⟩
                case measure => simp [intOf] <;> omega
              | false =>
                simp only [Bool.not_false] at hq2
                cases r with
                | true =>
                  simp only [Bool.not_true] at hr2
                  have HT2 := Lib.hid (show partL (t.l.take (j + 1)) id = partL (t.l.take j) id by rw [HTK.out, if_pos (by rw [HQ.out]; rfl), List.append_nil])
                  go_wp2_with fail
                  go_roundw
                  case rel => exact ⟨j + 1, m, A2, c2, by omega, rfl, by go_num, Lib.hid (by rw [HT2.out]; exact HW.out), Lib.hid (by rw [HT2.out]; exact ⟨HMM.out.1, by have := HMM.out.2; omega⟩), HB⟩
                  case measure => simp [intOf] <;> omega
                | false =>
                  simp only [Bool.not_false] at hr2
                  have HT2 := Lib.hid (show partL (t.l.take (j + 1)) id = partL (t.l.take j) id ++ [⟨yv, yc⟩] by rw [HTK.out, if_neg (by rw [HQ.out]; simp)])
                  have HOA := Lib.hid (HW.out.on ((Below.refl wr.heap.size wr).alloc (Nat.le_refl _) (.cells #[.int .i64 yv, .int .i64 yc] 43)))
                  have HRX := Lib.hid (Rw.bk (f := ppc) (k := 2) (x := (⟨yv, yc⟩ : Pp)) (Bk.new wr 43 #[.int .i64 yv, .int .i64 yc]))
                  have HSA := Lib.hid (show u8.heap.size ≤ (wr.alloc (.cells #[.int .i64 yv, .int .i64 yc] 43)).heap.size by have := HB.out.size; rw [World.size_alloc]; omega)
                  have hmm : m ≤ 1000000 := by have := HMM.out.2; omega
                  go_wp2_with (at_builtin; refine wp_rows_at roPP rfl (.tmp 106) (.tmp 111) rfl m rfl HMM.out.1 HOA.out ⟨yv, yc⟩ wr.heap.size 1 rfl HRX.out (by omega) HSA.out (m + 1) rfl ?_; intro g9 c9 w9 ho hg hb hat; have HY := Lib.hid (And.intro ho (HB.out.trans (((Below.refl wr.heap.size wr).alloc (Nat.le_refl _) _ |>.mono HB.out.size).trans hb))); clear ho hg hb hat)
                  go_roundw
                  case rel => exact ⟨j + 1, m + 1, some ⟨g9, 0, none⟩, c9, by omega, rfl, by go_num, Lib.hid (by rw [HT2.out]; exact HY.out.1), Lib.hid (by rw [HT2.out, List.length_append, HMM.out.1]; exact ⟨rfl, by have := HMM.out.2; omega⟩), Lib.hid HY.out.2⟩
                  case measure => simp [intOf] <;> omega
            · have hj2 : ¬ (j : Int) < (M : Int) := by omega
              have HAL := Lib.hid (show partL (t.l.take j) id = t2.l by rw [← HT.out, List.take_of_length_le (by rw [HM.out]; omega)])
              have hme : m = m2 := by rw [← HMM.out.1, HAL.out]; exact HM2.out
              have HW2 := Lib.hid (show Rw 2 ppc wr A2 t2.l by rw [← HAL.out]; exact Ow.rw_ (fun _ => rfl) HW.out)
              subst hme
              have HZw := Lib.hid (HZ8.out.on HB.out)
              have hmd : m ≤ 1000000 := by omega
              have hw1 : IntKind.i64.wrap ((M : Int) - (m : Int)) = 1 := by rw [IntKind.wrap_i64]; omega
              clear hlm
              go_upto_region 21 with (go_at_call 16; (with_reducible refine (z_other HZw.out HG2.out HF2.out id x3 false HR3.out).mono ?_); rintro e y1 ⟨rfl, h1⟩; have HZ9 := Lib.hid (HZw.out.on h1); have HX9 := Lib.hid (show Rw 2 ppc y1 A2 t2.l from HW2.out.on h1); clear h1)
              go_upto_region 22 with (go_at_call 16; (with_reducible refine (z_other HZ9.out HG2.out HF2.out x x4 false HR4.out).mono ?_); rintro e y2 ⟨rfl, h1⟩; have HZa := Lib.hid (HZ9.out.on h1); have HXa := Lib.hid (show Rw 2 ppc y2 A2 t2.l from HX9.out.on h1); clear h1)
              go_wp2_with (first | (go_at_call 21; (with_reducible refine (z_all HZa.out HG2.out HF2.out m HM2.out).mono ?_); rintro e y3 ⟨A8, c8, rfl, h1, h2⟩; have HZb := Lib.hid (HZa.out.on h2); have HXb := Lib.hid (show Rw 2 ppc y3 A2 t2.l from HXa.out.on h2); have HYb := Lib.hid (show Rw 2 ppc y3 A8 t2.l from Ow.rw_ (fun _ => rfl) h1); clear h1 h2) | (go_at_call 20; (with_reducible refine (pr_same A8 A2 c8 c2 t2.l t2.l y3 m m HM2.out HM2.out HYb.out HXb.out hmd hmd true (decide_eq_true rfl)).mono ?_); rintro e y4 ⟨rfl, h1⟩; have HZc := Lib.hid (HZb.out.on h1); clear h1))
              go_ret
              exact ⟨rfl, HZc.out.l⟩
        | false =>
          have hlm : m2 = M := by rw [if_neg (by simp)] at hlen; exact hlen
          obtain rfl : x = 0 := oth_zero HO.out
          clear hlen hb4
          go_wp2_with fail
          go_loopw [13, 14] (fun v13 v14 wr => ∃ (i m : Nat) (A2 : Option Addr) (c2 : Nat), i ≤ M ∧ v13 = .slice A2 m c2 ∧ v14 = .int .i64 (i : Int) ∧ Hid (Ow 43 2 ppc wr u8.heap.size A2 c2 (partL (t.l.take i) id)) ∧ Hid ((partL (t.l.take i) id).length = m ∧ m ≤ i) ∧ Hid (Below u8.heap.size u8 wr)) (fun v13 v14 _ => M - (intOf v14).toNat)
          case atStart => exact ⟨0, 0, none, 0, by omega, rfl, rfl, Lib.hid (Ow.nil _ _), Lib.hid ⟨rfl, Nat.le_refl _⟩, Lib.hid (Below.refl _ _)⟩
          case round =>
            obtain ⟨j, m, A2, c2, hj, rfl, rfl, HW, HMM, HB⟩ := hrel
            by_cases hj1 : j < M
            · have hj2 : (j : Int) < (M : Int) := by omega
              obtain ⟨b6, o6, y, rfl, hy, hc⟩ := rowPP HRW.out j (by rw [HM.out]; exact hj1)
              obtain ⟨k0, k1⟩ := hc wr HB.out
              have HTK := Lib.hid (part_take hy id)
              obtain ⟨yv, yc⟩ := y
              dsimp only at k0 k1
              obtain ⟨q, hq⟩ : ∃ q, (yv == id) = q := ⟨_, rfl⟩
              obtain ⟨r, hr⟩ : ∃ r, (yc == id) = r := ⟨_, rfl⟩
              have hq2 : (yv != id) = !q := by rw [bne, hq]
              have hr2 : (yc != id) = !r := by rw [bne, hr]
              have HQ := Lib.hid (show Pp.has ⟨yv, yc⟩ id = (q || r) by unfold Pp.has; rw [hq, hr])
              clear hc hy
              cases q with
              | true =>
                simp only [Bool.not_true] at hq2
                have HT2 := Lib.hid (show partL (t.l.take (j + 1)) id = partL (t.l.take j) id by rw [HTK.out, if_pos (by rw [HQ.out]; rfl), List.append_nil])
                go_wp2_with fail
                go_roundw
                case rel => exact ⟨j + 1, m, A2, c2, by omega, rfl, by go_num, Lib.hid (by rw [HT2.out]; exact HW.out), Lib.hid (by rw [HT2.out]; exact ⟨HMM.out.1, by have := HMM.out.2; omega⟩), HB⟩
                case measure => simp [intOf] <;> omega
              | false =>
                simp only [Bool.not_false] at hq2
                cases r with
                | true =>
                  simp only [Bool.not_true] at hr2
                  have HT2 := Lib.hid (show partL (t.l.take (j + 1)) id = partL (t.l.take j) id by rw [HTK.out, if_pos (by rw [HQ.out]; rfl), List.append_nil])
                  go_wp2_with fail
                  go_roundw
                  case rel => exact ⟨j + 1, m, A2, c2, by omega, rfl, by go_num, Lib.hid (by rw [HT2.out]; exact HW.out), Lib.hid (by rw [HT2.out]; exact ⟨HMM.out.1, by have := HMM.out.2; omega⟩), HB⟩
                  case measure => simp [intOf] <;> omega
                | false =>
                  simp only [Bool.not_false] at hr2
                  have HT2 := Lib.hid (show partL (t.l.take (j + 1)) id = partL (t.l.take j) id ++ [⟨yv, yc⟩] by rw [HTK.out, if_neg (by rw [HQ.out]; simp)])
                  have HOA := Lib.hid (HW.out.on ((Below.refl wr.heap.size wr).alloc (Nat.le_refl _) (.cells #[.int .i64 yv, .int .i64 yc] 43)))
                  have HRX := Lib.hid (Rw.bk (f := ppc) (k := 2) (x := (⟨yv, yc⟩ : Pp)) (Bk.new wr 43 #[.int .i64 yv, .int .i64 yc]))
                  have HSA := Lib.hid (show u8.heap.size ≤ (wr.alloc (.cells #[.int .i64 yv, .int .i64 yc] 43)).heap.size by have := HB.out.size; rw [World.size_alloc]; omega)
                  have hmm : m ≤ 1000000 := by have := HMM.out.2; omega
                  go_wp2_with (at_builtin; refine wp_rows_at roPP rfl (.tmp 106) (.tmp 111) rfl m rfl HMM.out.1 HOA.out ⟨yv, yc⟩ wr.heap.size 1 rfl HRX.out (by omega) HSA.out (m + 1) rfl ?_; intro g9 c9 w9 ho hg hb hat; have HY := Lib.hid (And.intro ho (HB.out.trans (((Below.refl wr.heap.size wr).alloc (Nat.le_refl _) _ |>.mono HB.out.size).trans hb))); clear ho hg hb hat)
                  go_roundw
                  case rel => exact ⟨j + 1, m + 1, some ⟨g9, 0, none⟩, c9, by omega, rfl, by go_num, Lib.hid (by rw [HT2.out]; exact HY.out.1), Lib.hid (by rw [HT2.out, List.length_append, HMM.out.1]; exact ⟨rfl, by have := HMM.out.2; omega⟩), Lib.hid HY.out.2⟩
                  case measure => simp [intOf] <;> omega
            · have hj2 : ¬ (j : Int) < (M : Int) := by omega
              have HAL := Lib.hid (show partL (t.l.take j) id = t2.l by rw [← HT.out, List.take_of_length_le (by rw [HM.out]; omega)])
              have hme : m = m2 := by rw [← HMM.out.1, HAL.out]; exact HM2.out
              have HW2 := Lib.hid (show Rw 2 ppc wr A2 t2.l by rw [← HAL.out]; exact Ow.rw_ (fun _ => rfl) HW.out)
              subst hme
              have HZw := Lib.hid (HZ8.out.on HB.out)
              have hmd : m ≤ 1000000 := by omega
              have hw1 : IntKind.i64.wrap ((M : Int) - (m : Int)) = 0 := by rw [IntKind.wrap_i64]; omega
              clear hlm
              go_upto_region 21 with (go_at_call 16; (with_reducible refine (z_other HZw.out HG2.out HF2.out id x3 false HR3.out).mono ?_); rintro e y1 ⟨rfl, h1⟩; have HZ9 := Lib.hid (HZw.out.on h1); have HX9 := Lib.hid (show Rw 2 ppc y1 A2 t2.l from HW2.out.on h1); clear h1)
              go_upto_region 22 with (go_at_call 16; (with_reducible refine (z_other HZ9.out HG2.out HF2.out 0 x4 b4 HR4.out).mono ?_); rintro e y2 ⟨rfl, h1⟩; have HZa := Lib.hid (HZ9.out.on h1); have HXa := Lib.hid (show Rw 2 ppc y2 A2 t2.l from HX9.out.on h1); clear h1)
              go_wp2_with (first | (go_at_call 21; (with_reducible refine (z_all HZa.out HG2.out HF2.out m HM2.out).mono ?_); rintro e y3 ⟨A8, c8, rfl, h1, h2⟩; have HZb := Lib.hid (HZa.out.on h2); have HXb := Lib.hid (show Rw 2 ppc y3 A2 t2.l from HXa.out.on h2); have HYb := Lib.hid (show Rw 2 ppc y3 A8 t2.l from Ow.rw_ (fun _ => rfl) h1); clear h1 h2) | (go_at_call 20; (with_reducible refine (pr_same A8 A2 c8 c2 t2.l t2.l y3 m m HM2.out HM2.out HYb.out HXb.out hmd hmd true (decide_eq_true rfl)).mono ?_); rintro e y4 ⟨rfl, h1⟩; have HZc := Lib.hid (HZb.out.on h1); clear h1))
              go_ret
              exact ⟨rfl, HZc.out.l⟩
end Go.Proofs.Ytinjldjpncijjaa
