/- PairFresh: two that were never paired can be: the walk. (Written by gen_prfresh.py.) -/
import Derived.Test.YtinjldjpncijjaaPrH
import Derived.Test.YtinjldjpncijjaaG8
namespace Go.Proofs.Ytinjldjpncijjaa
set_option linter.unusedVariables false
set_option maxRecDepth 100000
set_option linter.unusedSimpArgs false
open Go.RowKit

theorem fr_in {l : List Pp} (p : Pp) : ∃ n, n ≤ (insP p l).length ∧ p ∈ (insP p l).take n := ⟨_, Nat.le_refl _, by rw [List.take_length]; exact ins_mem.2 (.inl rfl)⟩
theorem fr_step {l : List Pp} {p s : Pp} {j : Nat} {th q : Bool} (hx : l[j]? = some s) (ht : decide (p ∈ l.take j) = th) (hq : eqPp s p = q) : decide (p ∈ l.take (j + 1)) = (th || q) := by
  rw [← ht, ← hq]
  rw [Bool.eq_iff_iff, decide_eq_true_iff, Bool.or_eq_true, decide_eq_true_iff, eqPp_iff, List.take_add_one, hx, List.mem_append]
  simp only [Option.toList, List.mem_singleton]
  constructor
  · rintro (h | h)
    · exact .inl h
    · exact .inr h.symm
  · rintro (h | h)
    · exact .inl h
    · exact .inr h.symm

set_option maxRecDepth 100000 in
set_option maxHeartbeats 16000000 in
theorem walk_PairFresh (A : Option Addr) (L : List CoM) (n c : Nat) (a b : Int) (W : World) (h : InC W A L n c)  (ha : 0 ≤ a ∧ a ≤ 65535) (hb : 0 ≤ b ∧ b ≤ 65535):
    Calls Try.prog 7 #[.slice A n c, .int .u16 a, .int .u16 b] W fun e w' => e = .returned (.bool true) ∧ Below W.heap.size W w' := by
  have HI := Lib.hid h
  have hcapn : n ≤ 9223372036854775807 := by have h1 := h.cap; have h2 := h.max; unfold maxLen at h2; omega
  clear h
  obtain ⟨x, hx⟩ : ∃ x, 1 + a = x := ⟨_, rfl⟩
  obtain ⟨y, hy⟩ : ∃ y, 1 + b = y := ⟨_, rfl⟩
  have hwa : IntKind.i64.wrap a = a := by rw [IntKind.wrap_i64]; omega
  have hwb : IntKind.i64.wrap b = b := by rw [IntKind.wrap_i64]; omega
  have hwx : IntKind.i64.wrap (1 + a) = x := by rw [IntKind.wrap_i64]; omega
  have hwy : IntKind.i64.wrap (1 + b) = y := by rw [IntKind.wrap_i64]; omega
  have hx1 : 1 ≤ x := by omega
  have hy1 : 1 ≤ y := by omega
  have HWX := Lib.hid (show WfN x from wfN_of (by omega) (by omega))
  have HWY := Lib.hid (show WfN y from wfN_of (by omega) (by omega))
  clear ha hb hx hy
  go_enter Try.func7, Try.ntmps7
  go_upto_region 2 with (go_at_call 9; (with_reducible refine (phead_ok _).mono ?_); rintro e u1 ⟨rfl, hb⟩; have HB1 := Lib.hid hb; clear hb)
  go_upto_region 3 with (go_at_call 10; (with_reducible refine (z_pnew HB1.out).mono ?_); rintro e u2 ⟨H2, tb, rfl, h1, h2, h3⟩; have HZ2 := Lib.hid h1; clear h1 h2 h3)
  by_cases hgt : n > 300
  · have hg2 : (n : Int) > 300 := by omega
    have hg3 : decide ((300 : Int) < (n : Int)) = true := decide_eq_true (by omega)
    go_wp2
    go_ret
    exact ⟨rfl, HZ2.out.l⟩
  · have hg2 : ¬ (n : Int) > 300 := by omega
    have hg3 : decide ((300 : Int) < (n : Int)) = false := decide_eq_false (by omega)
    go_wp2_with fail
    go_loopw [9] (fun vI wr => ∃ (i : Nat) (t : Tp) (H : List Nat), i ≤ n ∧ vI = .int .i64 (i : Int) ∧ Hid (Zp W wr H tb t) ∧ Hid (t.l.length ≤ i ∧ t.ev.length ≤ 2 * i ∧ Gp t)) (fun vI _ => n - (intOf vI).toNat)
    case atStart => exact ⟨0, ⟨[], []⟩, H2, by omega, rfl, HZ2, Lib.hid ⟨by simp, by simp, gp_nil⟩⟩
    case round =>
      obtain ⟨i, t, H, hi, rfl, HZ, HE⟩ := hrel
      have HFW := Lib.hid (show t.l.length ≤ 1000 ∧ t.ev.length ≤ 2000 from ⟨by have := HE.out.1; omega, by have := HE.out.2.1; omega⟩)
      by_cases hi1 : i < n
      · have hi2 : (i : Int) < (n : Int) := by omega
        obtain ⟨bx, o, op, rfl, hx, hwf, hc⟩ := HI.out.at_ i hi1
        obtain ⟨ow, oa, ob⟩ := op
        dsimp only at hc
        obtain ⟨x0, x1, x2⟩ := hc wr HZ.out.l
        have HC := Lib.hid hc
        have HWA := Lib.hid (show WfN oa from hwf.2.1)
        have HWB := Lib.hid (show WfN ob from hwf.2.2)
        clear hx hc hwf
        by_cases h2 : ow = 2
        · subst h2
          obtain ⟨⟨⟨x, b⟩, t2⟩, hR⟩ : ∃ R, partP t oa = R := ⟨_, rfl⟩
          have HR := Lib.hid hR
          have HE2 := Lib.hid (show t2.l.length ≤ i + 1 ∧ t2.ev.length ≤ 2 * (i + 1) ∧ Gp t2 from ⟨by have h1 := part_few t oa; rw [hR] at h1; have := HE.out.1; exact Nat.le_trans h1 (by omega), by have h1 : t2.ev = t.ev := (congrArg (fun r => r.2.ev) hR).symm; rw [h1]; have := HE.out.2.1; omega, gp_out HE.out.2.2 hR⟩)
          clear hR
          go_wp2_with (go_at_call 12; (with_reducible refine (z_part HZ.out HE.out.2.2 HFW.out oa x b t2 HR.out).mono ?_); rintro e u3 ⟨H3, rfl, h1, h2⟩; have HZ3 := Lib.hid h1; clear h1 h2)
          go_roundw
          case rel => exact ⟨i + 1, t2, H3, by omega, by go_num, HZ3, HE2⟩
          case measure => simp [intOf] <;> omega
        · have h2b : (ow == 2) = false := by simp [h2]
          obtain ⟨⟨er, t2⟩, hR⟩ : ∃ R, joinP t oa ob = R := ⟨_, rfl⟩
          have HR := Lib.hid hR
          have HE2 := Lib.hid (show t2.l.length ≤ i + 1 ∧ t2.ev.length ≤ 2 * (i + 1) ∧ Gp t2 from by
            have h1 := join_few t oa ob
            rw [hR] at h1
            have h3 := HE.out.1
            have h4 := HE.out.2.1
            exact ⟨Nat.le_trans h1.1 (by omega), Nat.le_trans h1.2 (by omega), gp_set HE.out.2.2 hR⟩)
          clear hR
          go_upto_region 10 with fail
          clear x0 x1 x2
          try simp only [List.cons_append, List.nil_append]
          refine wp_region_held_drew (S := fun wz => Below W.heap.size W wz) (by kernel_rfl) (HZ.out.l.trans (((Below.refl wr.heap.size wr).drew).mono HZ.out.l.size)) (fun hHeld => ?_)
          refine take_at (some 50) (i := 0) (v := ?_) rfl rfl (by kernel_rfl) (by kernel_rfl) (by kernel_rfl) (fun _ _ _ h => h) (Or.inl ⟨by kernel_rfl, ?_⟩) hHeld ?_
          rotate_left
          · intro wz hSw; go_simp; try (with_reducible rfl)
          try simp only [Act.put, List.setIfInBounds_toArray, List.set_cons_zero, List.set_cons_succ, List.getElem_toArray, List.getElem_cons_succ, List.getElem_cons_zero]
          refine take_at (some 51) (i := 1) (v := ?_) rfl rfl (by kernel_rfl) (by kernel_rfl) (by kernel_rfl) (fun _ _ _ h => h) (Or.inl ⟨by kernel_rfl, ?_⟩) hHeld ?_
          rotate_left
          · intro wz hSw; go_simp; try (with_reducible rfl)
          try simp only [Act.put, List.setIfInBounds_toArray, List.set_cons_zero, List.set_cons_succ, List.getElem_toArray, List.getElem_cons_succ, List.getElem_cons_zero]
          refine take_at (some 52) (i := 2) (v := ?_) rfl rfl (by kernel_rfl) (by kernel_rfl) (by kernel_rfl) (fun _ _ _ h => h) (Or.inl ⟨by kernel_rfl, ?_⟩) hHeld ?_
          rotate_left
          · intro wz hSw; go_simp; try (with_reducible rfl)
          try simp only [Act.put, List.setIfInBounds_toArray, List.set_cons_zero, List.set_cons_succ, List.getElem_toArray, List.getElem_cons_succ, List.getElem_cons_zero]
          refine take_at (some 53) (i := 3) (v := ?_) rfl rfl (by kernel_rfl) (by kernel_rfl) (by kernel_rfl) (fun _ _ _ h => h) (Or.inl ⟨by kernel_rfl, ?_⟩) hHeld ?_
          rotate_left
          · intro wz hSw; go_simp; try (with_reducible rfl)
          try simp only [Act.put, List.setIfInBounds_toArray, List.set_cons_zero, List.set_cons_succ, List.getElem_toArray, List.getElem_cons_succ, List.getElem_cons_zero]
          refine take_at (some 54) (i := 4) (v := ?_) rfl rfl (by kernel_rfl) (by kernel_rfl) (by kernel_rfl) (fun _ _ _ h => h) (Or.inl ⟨by kernel_rfl, ?_⟩) hHeld ?_
          rotate_left
          · intro wz hSw; go_simp; try (with_reducible rfl)
          try simp only [Act.put, List.setIfInBounds_toArray, List.set_cons_zero, List.set_cons_succ, List.getElem_toArray, List.getElem_cons_succ, List.getElem_cons_zero]
          refine take_at (some 55) (i := 5) (v := ?_) rfl rfl (by kernel_rfl) (by kernel_rfl) (by kernel_rfl) (fun _ _ _ h => h) (Or.inl ⟨by kernel_rfl, ?_⟩) hHeld ?_
          rotate_left
          · intro wz hSw; obtain ⟨x0, x1, x2⟩ := HC.out wz hSw; go_simp; try (with_reducible rfl)
          try simp only [Act.put, List.setIfInBounds_toArray, List.set_cons_zero, List.set_cons_succ, List.getElem_toArray, List.getElem_cons_succ, List.getElem_cons_zero]
          refine take_at (some 56) (i := 6) (v := ?_) rfl rfl (by kernel_rfl) (by kernel_rfl) (by kernel_rfl) (fun _ _ _ h => h) (Or.inl ⟨by kernel_rfl, ?_⟩) hHeld ?_
          rotate_left
          · intro wz hSw; go_simp; try (with_reducible rfl)
          try simp only [Act.put, List.setIfInBounds_toArray, List.set_cons_zero, List.set_cons_succ, List.getElem_toArray, List.getElem_cons_succ, List.getElem_cons_zero]
          refine take_at (some 57) (i := 7) (v := ?_) rfl rfl (by kernel_rfl) (by kernel_rfl) (by kernel_rfl) (fun _ _ _ h => h) (Or.inl ⟨by kernel_rfl, ?_⟩) hHeld ?_
          rotate_left
          · intro wz hSw; go_simp; try (with_reducible rfl)
          try simp only [Act.put, List.setIfInBounds_toArray, List.set_cons_zero, List.set_cons_succ, List.getElem_toArray, List.getElem_cons_succ, List.getElem_cons_zero]
          refine take_at (some 58) (i := 8) (v := ?_) rfl rfl (by kernel_rfl) (by kernel_rfl) (by kernel_rfl) (fun _ _ _ h => h) (Or.inl ⟨by kernel_rfl, ?_⟩) hHeld ?_
          rotate_left
          · intro wz hSw; go_simp; try (with_reducible rfl)
          try simp only [Act.put, List.setIfInBounds_toArray, List.set_cons_zero, List.set_cons_succ, List.getElem_toArray, List.getElem_cons_succ, List.getElem_cons_zero]
          refine take_at (some 59) (i := 9) (v := ?_) rfl rfl (by kernel_rfl) (by kernel_rfl) (by kernel_rfl) (fun _ _ _ h => h) (Or.inl ⟨by kernel_rfl, ?_⟩) hHeld ?_
          rotate_left
          · intro wz hSw; go_simp; try (with_reducible rfl)
          try simp only [Act.put, List.setIfInBounds_toArray, List.set_cons_zero, List.set_cons_succ, List.getElem_toArray, List.getElem_cons_succ, List.getElem_cons_zero]
          refine take_at (some 60) (i := 10) (v := ?_) rfl rfl (by kernel_rfl) (by kernel_rfl) (by kernel_rfl) (fun _ _ _ h => h) (Or.inl ⟨by kernel_rfl, ?_⟩) hHeld ?_
          rotate_left
          · intro wz hSw; obtain ⟨x0, x1, x2⟩ := HC.out wz hSw; go_simp; try (with_reducible rfl)
          try simp only [Act.put, List.setIfInBounds_toArray, List.set_cons_zero, List.set_cons_succ, List.getElem_toArray, List.getElem_cons_succ, List.getElem_cons_zero]
          refine wpAnyH_ready (rs := [11]) (by kernel_rfl) (by simp) (AllReadyH.cons rfl (fun K hK => ?_) AllReadyH.nil)
          rw [if_pos (by kernel_rfl)]
          go_simp
          refine (z_join (HZ.out.on ((Below.refl wr.heap.size wr).drew)) HE.out.2.2 HFW.out oa ob er t2 HR.out).mono ?_
          rintro e u3 ⟨H3, rfl, h1, h2⟩
          try dsimp only
          refine hK.out _ _ (h1.l) (fun hHeld => ?_)
          try simp only [Act.put, List.setIfInBounds_toArray, List.set_cons_zero, List.set_cons_succ, List.getElem_toArray, List.getElem_cons_succ, List.getElem_cons_zero]
          refine wpAnyH_done (by kernel_rfl) ?_ _
          have HZ3 := Lib.hid h1
          clear h1 h2 hHeld
          go_wp2_with fail
          go_roundw
          case rel => exact ⟨i + 1, t2, H3, by omega, by go_num, HZ3, HE2⟩
          case measure => simp [intOf] <;> omega
      · have hi2 : ¬ (i : Int) < (n : Int) := by omega
        obtain ⟨r1, hr1⟩ : ∃ r, decide (x ∈ t.ev) = r := ⟨_, rfl⟩
        obtain ⟨r2, hr2⟩ : ∃ r, decide (y ∈ t.ev) = r := ⟨_, rfl⟩
        have HRR := Lib.hid (And.intro hr1 hr2)
        go_upto_region 13 with fail
        try rw [hwa]
        try rw [hwb]
        try rw [hwx]
        try rw [hwy]
        clear hwa hwb hwx hwy
        cases r1 with
        | true =>
          go_wp2_with (go_at_call 18; (with_reducible refine (z_was HZ.out HE.out.2.2 HFW.out x true HRR.out.1).mono ?_); rintro e u3 ⟨rfl, h1⟩; have HZ3 := Lib.hid (HZ.out.on h1); clear h1)
          go_ret
          exact ⟨rfl, HZ3.out.l⟩
        | false =>
          cases r2 with
          | true =>
            go_wp2_with (first | (go_at_call 18; (with_reducible refine (z_was HZ.out HE.out.2.2 HFW.out x false HRR.out.1).mono ?_); rintro e u3 ⟨rfl, h1⟩; have HZ3 := Lib.hid (HZ.out.on h1); clear h1) | (go_at_call 18; (with_reducible refine (z_was HZ3.out HE.out.2.2 HFW.out y true HRR.out.2).mono ?_); rintro e u4 ⟨rfl, h1⟩; have HZ4 := Lib.hid (HZ3.out.on h1); clear h1))
            go_ret
            exact ⟨rfl, HZ4.out.l⟩
          | false =>
            by_cases hxy : x = y
            · have hxb : (x == y) = true := by simp [hxy]
              clear hxy
              go_wp2_with (first | (go_at_call 18; (with_reducible refine (z_was HZ.out HE.out.2.2 HFW.out x false HRR.out.1).mono ?_); rintro e u3 ⟨rfl, h1⟩; have HZ3 := Lib.hid (HZ.out.on h1); clear h1) | (go_at_call 18; (with_reducible refine (z_was HZ3.out HE.out.2.2 HFW.out y false HRR.out.2).mono ?_); rintro e u4 ⟨rfl, h1⟩; have HZ4 := Lib.hid (HZ3.out.on h1); clear h1))
              go_ret
              exact ⟨rfl, HZ4.out.l⟩
            · have hxb : (x == y) = false := by simp [hxy]
              go_upto_region 15 with (first | (go_at_call 18; (with_reducible refine (z_was HZ.out HE.out.2.2 HFW.out x false HRR.out.1).mono ?_); rintro e u3 ⟨rfl, h1⟩; have HZ3 := Lib.hid (HZ.out.on h1); clear h1) | (go_at_call 18; (with_reducible refine (z_was HZ3.out HE.out.2.2 HFW.out y false HRR.out.2).mono ?_); rintro e u4 ⟨rfl, h1⟩; have HZ4 := Lib.hid (HZ3.out.on h1); clear h1))
              obtain ⟨t2, ht2⟩ : ∃ t2, (⟨insP ⟨x, y⟩ t.l, t.ev ++ [x, y]⟩ : Tp) = t2 := ⟨_, rfl⟩
              have hj : joinP t x y = (0, t2) := by
                rw [← ht2]
                unfold joinP
                rw [if_neg (by omega), if_neg (fun h => h.elim (of_decide_eq_false hr1) (of_decide_eq_false hr2))]
              have HJ := Lib.hid hj
              have HG2 := Lib.hid (gp_set HE.out.2.2 hj)
              have HIN := Lib.hid (show x ∈ t2.ev ∧ y ∈ t2.ev ∧ (⟨x, y⟩ : Pp) ∈ t2.l ∧ t2.l.length = t.l.length + 1 from by rw [← ht2]; exact ⟨by simp, by simp, ins_mem.2 (.inl rfl), ins_len _ _⟩)
              have HF2 := Lib.hid (show t2.l.length ≤ 1000 ∧ t2.ev.length ≤ 2000 from ⟨by rw [HIN.out.2.2.2]; have := HE.out.1; omega, by rw [← ht2]; show (t.ev ++ [x, y]).length ≤ _; rw [List.length_append]; have := HE.out.2.1; show _ + 2 ≤ _; omega⟩)
              obtain ⟨M, hM⟩ : ∃ M, t.l.length = M := ⟨_, rfl⟩
              have HM := Lib.hid hM
              obtain ⟨M2, hM2⟩ : ∃ M2, t2.l.length = M2 := ⟨_, rfl⟩
              have HM2 := Lib.hid hM2
              have HMM := Lib.hid (show M2 = M + 1 by rw [← hM2, ← hM]; exact HIN.out.2.2.2)
              have hM3 : M ≤ 300 := by rw [← hM]; have := HE.out.1; omega
              have hM4 : M2 ≤ 301 := by have := HMM.out; omega
              clear hM hM2 hj ht2 hr1 hr2
              go_upto_region 16 with (go_at_call 21; (with_reducible refine (z_all HZ4.out HE.out.2.2 HFW.out M HM.out).mono ?_); rintro e u5 ⟨A5, c5, rfl, h1, h2⟩; have HZ5 := Lib.hid (HZ4.out.on h2); clear h1 h2)
              go_upto_region 17 with (go_at_call 14; (with_reducible refine (z_join HZ5.out HE.out.2.2 HFW.out x y 0 t2 HJ.out).mono ?_); rintro e u6 ⟨H6, rfl, h1, h2⟩; have HZ6 := Lib.hid h1; clear h1 h2)
              go_upto_region 18 with (go_at_call 21; (with_reducible refine (z_all HZ6.out HG2.out HF2.out M2 HM2.out).mono ?_); rintro e u7 ⟨A7, c7, rfl, h1, h2⟩; have HZ7 := Lib.hid (HZ6.out.on h2); have HR7 := Lib.hid (Lrk.of h1 HZ6.out.l.size HZ6.out.hi); clear h1 h2)
              go_wp2_with fail
              go_loopw [15, 16] (fun v15 v16 wr => ∃ (j : Nat) (th : Bool), j ≤ M2 ∧ v15 = .bool th ∧ v16 = .int .i64 (j : Int) ∧ Hid (decide ((⟨x, y⟩ : Pp) ∈ t2.l.take j) = th) ∧ Hid (Below u7.heap.size u7 wr)) (fun v15 v16 _ => M2 - (intOf v16).toNat)
              case atStart => exact ⟨0, false, by omega, rfl, rfl, Lib.hid (by simp), Lib.hid (Below.refl _ _)⟩
              case round =>
                obtain ⟨j, th, hj, rfl, rfl, HTH, HB⟩ := hrel
                by_cases hj1 : j < M2
                · have hj2 : (j : Int) < (M2 : Int) := by omega
                  obtain ⟨b6, o6, ⟨pv, pc⟩, rfl, hx, hc⟩ := rowPP (show Rw 2 ppc u7 A7 t2.l from Ow.rw_ (fun _ => rfl) HR7.out.o) j (by rw [HM2.out]; exact hj1)
                  dsimp only at hc
                  obtain ⟨k0, k1⟩ := hc wr HB.out
                  have HX := Lib.hid hx
                  have HCP := Lib.hid hc
                  obtain ⟨q, hq⟩ : ∃ q, eqPp ⟨pv, pc⟩ ⟨x, y⟩ = q := ⟨_, rfl⟩
                  have HQ := Lib.hid hq
                  have HTS := Lib.hid (fr_step hx HTH.out hq)
                  clear hc hx hq
                  by_cases hj0 : j = 0
                  · have g1 : ¬ ((j : Int) > 0) := by omega
                    have g2 : decide ((0 : Int) < (j : Int)) = false := decide_eq_false (by omega)
                    have g8 : ¬ (0 < j) := by omega
                    have g9 : decide (0 < j) = false := decide_eq_false (by omega)
                    clear hj0
                    cases th with
                    | true =>
                      go_upto_region 23 with fail
                      clear k0 k1
                      try simp only [List.cons_append, List.nil_append]
                      refine wp_region_held_drew (S := fun wz => Below wr.heap.size wr wz) (by kernel_rfl) ((Below.refl _ _).drew) (fun hHeld => ?_)
                      refine take_at (some 108) (i := 0) (v := ?_) rfl rfl (by kernel_rfl) (by kernel_rfl) (by kernel_rfl) (fun _ _ _ h => h) (Or.inl ⟨by kernel_rfl, ?_⟩) hHeld ?_
                      rotate_left
                      · intro wz hSw; go_simp; try (with_reducible rfl)
                      try simp only [Act.put, List.setIfInBounds_toArray, List.set_cons_zero, List.set_cons_succ, List.getElem_toArray, List.getElem_cons_succ, List.getElem_cons_zero]
                      refine take_at (some 109) (i := 1) (v := ?_) rfl rfl (by kernel_rfl) (by kernel_rfl) (by kernel_rfl) (fun _ _ _ h => h) (Or.inl ⟨by kernel_rfl, ?_⟩) hHeld ?_
                      rotate_left
                      · intro wz hSw; go_simp; try (with_reducible rfl)
                      try simp only [Act.put, List.setIfInBounds_toArray, List.set_cons_zero, List.set_cons_succ, List.getElem_toArray, List.getElem_cons_succ, List.getElem_cons_zero]
                      refine take_at (some 110) (i := 2) (v := ?_) rfl rfl (by kernel_rfl) (by kernel_rfl) (by kernel_rfl) (fun _ _ _ h => h) (Or.inl ⟨by kernel_rfl, ?_⟩) hHeld ?_
                      rotate_left
                      · intro wz hSw; go_simp; try (with_reducible rfl)
                      try simp only [Act.put, List.setIfInBounds_toArray, List.set_cons_zero, List.set_cons_succ, List.getElem_toArray, List.getElem_cons_succ, List.getElem_cons_zero]
                      refine take_at (some 111) (i := 3) (v := undef) rfl rfl (by kernel_rfl) (by kernel_rfl) (by kernel_rfl) (fun _ _ _ h => h) (Or.inr ⟨by kernel_rfl, rfl⟩) hHeld ?_
                      try simp only [Act.put, List.setIfInBounds_toArray, List.set_cons_zero, List.set_cons_succ, List.getElem_toArray, List.getElem_cons_succ, List.getElem_cons_zero]
                      refine take_at (some 112) (i := 4) (v := undef) rfl rfl (by kernel_rfl) (by kernel_rfl) (by kernel_rfl) (fun _ _ _ h => h) (Or.inr ⟨by kernel_rfl, rfl⟩) hHeld ?_
                      try simp only [Act.put, List.setIfInBounds_toArray, List.set_cons_zero, List.set_cons_succ, List.getElem_toArray, List.getElem_cons_succ, List.getElem_cons_zero]
                      refine take_at (some 113) (i := 5) (v := undef) rfl rfl (by kernel_rfl) (by kernel_rfl) (by kernel_rfl) (fun _ _ _ h => h) (Or.inr ⟨by kernel_rfl, rfl⟩) hHeld ?_
                      try simp only [Act.put, List.setIfInBounds_toArray, List.set_cons_zero, List.set_cons_succ, List.getElem_toArray, List.getElem_cons_succ, List.getElem_cons_zero]
                      refine take_at (some 114) (i := 6) (v := undef) rfl rfl (by kernel_rfl) (by kernel_rfl) (by kernel_rfl) (fun _ _ _ h => h) (Or.inr ⟨by kernel_rfl, rfl⟩) hHeld ?_
                      try simp only [Act.put, List.setIfInBounds_toArray, List.set_cons_zero, List.set_cons_succ, List.getElem_toArray, List.getElem_cons_succ, List.getElem_cons_zero]
                      refine take_at (some 115) (i := 7) (v := undef) rfl rfl (by kernel_rfl) (by kernel_rfl) (by kernel_rfl) (fun _ _ _ h => h) (Or.inr ⟨by kernel_rfl, rfl⟩) hHeld ?_
                      try simp only [Act.put, List.setIfInBounds_toArray, List.set_cons_zero, List.set_cons_succ, List.getElem_toArray, List.getElem_cons_succ, List.getElem_cons_zero]
                      refine take_at (some 116) (i := 8) (v := undef) rfl rfl (by kernel_rfl) (by kernel_rfl) (by kernel_rfl) (fun _ _ _ h => h) (Or.inr ⟨by kernel_rfl, rfl⟩) hHeld ?_
                      try simp only [Act.put, List.setIfInBounds_toArray, List.set_cons_zero, List.set_cons_succ, List.getElem_toArray, List.getElem_cons_succ, List.getElem_cons_zero]
                      refine take_at (some 117) (i := 9) (v := undef) rfl rfl (by kernel_rfl) (by kernel_rfl) (by kernel_rfl) (fun _ _ _ h => h) (Or.inr ⟨by kernel_rfl, rfl⟩) hHeld ?_
                      try simp only [Act.put, List.setIfInBounds_toArray, List.set_cons_zero, List.set_cons_succ, List.getElem_toArray, List.getElem_cons_succ, List.getElem_cons_zero]
                      refine take_at (some 118) (i := 10) (v := undef) rfl rfl (by kernel_rfl) (by kernel_rfl) (by kernel_rfl) (fun _ _ _ h => h) (Or.inr ⟨by kernel_rfl, rfl⟩) hHeld ?_
                      try simp only [Act.put, List.setIfInBounds_toArray, List.set_cons_zero, List.set_cons_succ, List.getElem_toArray, List.getElem_cons_succ, List.getElem_cons_zero]
                      refine take_at (some 119) (i := 11) (v := undef) rfl rfl (by kernel_rfl) (by kernel_rfl) (by kernel_rfl) (fun _ _ _ h => h) (Or.inr ⟨by kernel_rfl, rfl⟩) hHeld ?_
                      try simp only [Act.put, List.setIfInBounds_toArray, List.set_cons_zero, List.set_cons_succ, List.getElem_toArray, List.getElem_cons_succ, List.getElem_cons_zero]
                      refine take_at (some 120) (i := 12) (v := undef) rfl rfl (by kernel_rfl) (by kernel_rfl) (by kernel_rfl) (fun _ _ _ h => h) (Or.inr ⟨by kernel_rfl, rfl⟩) hHeld ?_
                      try simp only [Act.put, List.setIfInBounds_toArray, List.set_cons_zero, List.set_cons_succ, List.getElem_toArray, List.getElem_cons_succ, List.getElem_cons_zero]
                      refine take_at (some 121) (i := 13) (v := undef) rfl rfl (by kernel_rfl) (by kernel_rfl) (by kernel_rfl) (fun _ _ _ h => h) (Or.inr ⟨by kernel_rfl, rfl⟩) hHeld ?_
                      try simp only [Act.put, List.setIfInBounds_toArray, List.set_cons_zero, List.set_cons_succ, List.getElem_toArray, List.getElem_cons_succ, List.getElem_cons_zero]
                      refine take_at (some 122) (i := 14) (v := undef) rfl rfl (by kernel_rfl) (by kernel_rfl) (by kernel_rfl) (fun _ _ _ h => h) (Or.inr ⟨by kernel_rfl, rfl⟩) hHeld ?_
                      try simp only [Act.put, List.setIfInBounds_toArray, List.set_cons_zero, List.set_cons_succ, List.getElem_toArray, List.getElem_cons_succ, List.getElem_cons_zero]
                      refine take_at (some 123) (i := 15) (v := ?_) rfl rfl (by kernel_rfl) (by kernel_rfl) (by kernel_rfl) (fun _ _ _ h => h) (Or.inl ⟨by kernel_rfl, ?_⟩) hHeld ?_
                      rotate_left
                      · intro wz hSw; go_simp; try (with_reducible rfl)
                      try simp only [Act.put, List.setIfInBounds_toArray, List.set_cons_zero, List.set_cons_succ, List.getElem_toArray, List.getElem_cons_succ, List.getElem_cons_zero]
                      refine wpAnyH_done (by kernel_rfl) ?_ _
                      clear hHeld
                      go_wp2_with fail
                      go_roundw
                      case rel => exact ⟨j + 1, _, by omega, rfl, by go_num, HTS, Lib.hid (HB.out.trans ((Below.refl _ _).drew.mono HB.out.size))⟩
                      case measure => simp [intOf] <;> omega
                    | false =>
                      go_upto_region 23 with (refine wpList_eqpp (by kernel_rfl) (.tmp 102) (.tmp 105) _ rfl ⟨pv, pc⟩ ⟨x, y⟩ rfl rfl ?_; rw [HQ.out])
                      clear k0 k1
                      try simp only [List.cons_append, List.nil_append]
                      refine wp_region_held_drew (S := fun wz => Below wr.heap.size wr wz) (by kernel_rfl) ((Below.refl _ _).drew) (fun hHeld => ?_)
                      refine take_at (some 108) (i := 0) (v := ?_) rfl rfl (by kernel_rfl) (by kernel_rfl) (by kernel_rfl) (fun _ _ _ h => h) (Or.inl ⟨by kernel_rfl, ?_⟩) hHeld ?_
                      rotate_left
                      · intro wz hSw; go_simp; try (with_reducible rfl)
                      try simp only [Act.put, List.setIfInBounds_toArray, List.set_cons_zero, List.set_cons_succ, List.getElem_toArray, List.getElem_cons_succ, List.getElem_cons_zero]
                      refine take_at (some 109) (i := 1) (v := ?_) rfl rfl (by kernel_rfl) (by kernel_rfl) (by kernel_rfl) (fun _ _ _ h => h) (Or.inl ⟨by kernel_rfl, ?_⟩) hHeld ?_
                      rotate_left
                      · intro wz hSw; go_simp; try (with_reducible rfl)
                      try simp only [Act.put, List.setIfInBounds_toArray, List.set_cons_zero, List.set_cons_succ, List.getElem_toArray, List.getElem_cons_succ, List.getElem_cons_zero]
                      refine take_at (some 110) (i := 2) (v := ?_) rfl rfl (by kernel_rfl) (by kernel_rfl) (by kernel_rfl) (fun _ _ _ h => h) (Or.inl ⟨by kernel_rfl, ?_⟩) hHeld ?_
                      rotate_left
                      · intro wz hSw; go_simp; try (with_reducible rfl)
                      try simp only [Act.put, List.setIfInBounds_toArray, List.set_cons_zero, List.set_cons_succ, List.getElem_toArray, List.getElem_cons_succ, List.getElem_cons_zero]
                      refine take_at (some 111) (i := 3) (v := undef) rfl rfl (by kernel_rfl) (by kernel_rfl) (by kernel_rfl) (fun _ _ _ h => h) (Or.inr ⟨by kernel_rfl, rfl⟩) hHeld ?_
                      try simp only [Act.put, List.setIfInBounds_toArray, List.set_cons_zero, List.set_cons_succ, List.getElem_toArray, List.getElem_cons_succ, List.getElem_cons_zero]
                      refine take_at (some 112) (i := 4) (v := undef) rfl rfl (by kernel_rfl) (by kernel_rfl) (by kernel_rfl) (fun _ _ _ h => h) (Or.inr ⟨by kernel_rfl, rfl⟩) hHeld ?_
                      try simp only [Act.put, List.setIfInBounds_toArray, List.set_cons_zero, List.set_cons_succ, List.getElem_toArray, List.getElem_cons_succ, List.getElem_cons_zero]
                      refine take_at (some 113) (i := 5) (v := undef) rfl rfl (by kernel_rfl) (by kernel_rfl) (by kernel_rfl) (fun _ _ _ h => h) (Or.inr ⟨by kernel_rfl, rfl⟩) hHeld ?_
                      try simp only [Act.put, List.setIfInBounds_toArray, List.set_cons_zero, List.set_cons_succ, List.getElem_toArray, List.getElem_cons_succ, List.getElem_cons_zero]
                      refine take_at (some 114) (i := 6) (v := undef) rfl rfl (by kernel_rfl) (by kernel_rfl) (by kernel_rfl) (fun _ _ _ h => h) (Or.inr ⟨by kernel_rfl, rfl⟩) hHeld ?_
                      try simp only [Act.put, List.setIfInBounds_toArray, List.set_cons_zero, List.set_cons_succ, List.getElem_toArray, List.getElem_cons_succ, List.getElem_cons_zero]
                      refine take_at (some 115) (i := 7) (v := undef) rfl rfl (by kernel_rfl) (by kernel_rfl) (by kernel_rfl) (fun _ _ _ h => h) (Or.inr ⟨by kernel_rfl, rfl⟩) hHeld ?_
                      try simp only [Act.put, List.setIfInBounds_toArray, List.set_cons_zero, List.set_cons_succ, List.getElem_toArray, List.getElem_cons_succ, List.getElem_cons_zero]
                      refine take_at (some 116) (i := 8) (v := undef) rfl rfl (by kernel_rfl) (by kernel_rfl) (by kernel_rfl) (fun _ _ _ h => h) (Or.inr ⟨by kernel_rfl, rfl⟩) hHeld ?_
                      try simp only [Act.put, List.setIfInBounds_toArray, List.set_cons_zero, List.set_cons_succ, List.getElem_toArray, List.getElem_cons_succ, List.getElem_cons_zero]
                      refine take_at (some 117) (i := 9) (v := undef) rfl rfl (by kernel_rfl) (by kernel_rfl) (by kernel_rfl) (fun _ _ _ h => h) (Or.inr ⟨by kernel_rfl, rfl⟩) hHeld ?_
                      try simp only [Act.put, List.setIfInBounds_toArray, List.set_cons_zero, List.set_cons_succ, List.getElem_toArray, List.getElem_cons_succ, List.getElem_cons_zero]
                      refine take_at (some 118) (i := 10) (v := undef) rfl rfl (by kernel_rfl) (by kernel_rfl) (by kernel_rfl) (fun _ _ _ h => h) (Or.inr ⟨by kernel_rfl, rfl⟩) hHeld ?_
                      try simp only [Act.put, List.setIfInBounds_toArray, List.set_cons_zero, List.set_cons_succ, List.getElem_toArray, List.getElem_cons_succ, List.getElem_cons_zero]
                      refine take_at (some 119) (i := 11) (v := undef) rfl rfl (by kernel_rfl) (by kernel_rfl) (by kernel_rfl) (fun _ _ _ h => h) (Or.inr ⟨by kernel_rfl, rfl⟩) hHeld ?_
                      try simp only [Act.put, List.setIfInBounds_toArray, List.set_cons_zero, List.set_cons_succ, List.getElem_toArray, List.getElem_cons_succ, List.getElem_cons_zero]
                      refine take_at (some 120) (i := 12) (v := undef) rfl rfl (by kernel_rfl) (by kernel_rfl) (by kernel_rfl) (fun _ _ _ h => h) (Or.inr ⟨by kernel_rfl, rfl⟩) hHeld ?_
                      try simp only [Act.put, List.setIfInBounds_toArray, List.set_cons_zero, List.set_cons_succ, List.getElem_toArray, List.getElem_cons_succ, List.getElem_cons_zero]
                      refine take_at (some 121) (i := 13) (v := undef) rfl rfl (by kernel_rfl) (by kernel_rfl) (by kernel_rfl) (fun _ _ _ h => h) (Or.inr ⟨by kernel_rfl, rfl⟩) hHeld ?_
                      try simp only [Act.put, List.setIfInBounds_toArray, List.set_cons_zero, List.set_cons_succ, List.getElem_toArray, List.getElem_cons_succ, List.getElem_cons_zero]
                      refine take_at (some 122) (i := 14) (v := undef) rfl rfl (by kernel_rfl) (by kernel_rfl) (by kernel_rfl) (fun _ _ _ h => h) (Or.inr ⟨by kernel_rfl, rfl⟩) hHeld ?_
                      try simp only [Act.put, List.setIfInBounds_toArray, List.set_cons_zero, List.set_cons_succ, List.getElem_toArray, List.getElem_cons_succ, List.getElem_cons_zero]
                      refine take_at (some 123) (i := 15) (v := ?_) rfl rfl (by kernel_rfl) (by kernel_rfl) (by kernel_rfl) (fun _ _ _ h => h) (Or.inl ⟨by kernel_rfl, ?_⟩) hHeld ?_
                      rotate_left
                      · intro wz hSw; go_simp; try (with_reducible rfl)
                      try simp only [Act.put, List.setIfInBounds_toArray, List.set_cons_zero, List.set_cons_succ, List.getElem_toArray, List.getElem_cons_succ, List.getElem_cons_zero]
                      refine wpAnyH_done (by kernel_rfl) ?_ _
                      clear hHeld
                      go_wp2_with fail
                      go_roundw
                      case rel => exact ⟨j + 1, _, by omega, rfl, by go_num, HTS, Lib.hid (HB.out.trans ((Below.refl _ _).drew.mono HB.out.size))⟩
                      case measure => simp [intOf] <;> omega
                  · obtain ⟨jp, hjp⟩ : ∃ jp, j = jp + 1 := ⟨j - 1, by omega⟩
                    have g1 : ((j : Int) > 0) := by omega
                    have g2 : decide ((0 : Int) < (j : Int)) = true := decide_eq_true (by omega)
                    have g8 : 0 < j := by omega
                    have g9 : decide (0 < j) = true := decide_eq_true (by omega)
                    have g3 : IntKind.i64.wrap ((j : Int) - 1) = (jp : Int) := by have := HMM.out; rw [IntKind.wrap_i64]; omega
                    have g4 : (jp : Int) < (M2 : Int) := by omega
                    obtain ⟨b7, o7, ⟨sv, sc⟩, hA7, hx7, hc7⟩ := rowPP (show Rw 2 ppc u7 (some ⟨b6, o6, none⟩) t2.l from Ow.rw_ (fun _ => rfl) HR7.out.o) jp (by rw [HM2.out]; omega)
                    injection hA7 with hA7
                    injection hA7 with hA8 hA9
                    subst hA8; subst hA9
                    dsimp only at hc7
                    have hap := apart_at HG2.out (show jp < j by omega) hx7 HX.out
                    dsimp only at hap
                    have g5 : ¬ (sv ≥ pv) := by have := hap.1; omega
                    have g6 : decide (pv ≤ sv) = false := decide_eq_false (by have := hap.1; omega)
                    have g7 : IntKind.i64.wrap (jp : Int) = (jp : Int) := by have := HMM.out; rw [IntKind.wrap_i64]; omega
                    have HCQ := Lib.hid hc7
                    clear hc7 hx7 hap hj0 hjp
                    cases th with
                    | true =>
                      go_upto_region 23 with fail
                      clear k0 k1
                      try simp only [List.cons_append, List.nil_append]
                      refine wp_region_held_drew (S := fun wz => Below wr.heap.size wr wz) (by kernel_rfl) ((Below.refl _ _).drew) (fun hHeld => ?_)
                      refine take_at (some 108) (i := 0) (v := ?_) rfl rfl (by kernel_rfl) (by kernel_rfl) (by kernel_rfl) (fun _ _ _ h => h) (Or.inl ⟨by kernel_rfl, ?_⟩) hHeld ?_
                      rotate_left
                      · intro wz hSw; go_simp; try (with_reducible rfl)
                      try simp only [Act.put, List.setIfInBounds_toArray, List.set_cons_zero, List.set_cons_succ, List.getElem_toArray, List.getElem_cons_succ, List.getElem_cons_zero]
                      refine take_at (some 109) (i := 1) (v := ?_) rfl rfl (by kernel_rfl) (by kernel_rfl) (by kernel_rfl) (fun _ _ _ h => h) (Or.inl ⟨by kernel_rfl, ?_⟩) hHeld ?_
                      rotate_left
                      · intro wz hSw; go_simp; try (with_reducible rfl)
                      try simp only [Act.put, List.setIfInBounds_toArray, List.set_cons_zero, List.set_cons_succ, List.getElem_toArray, List.getElem_cons_succ, List.getElem_cons_zero]
                      refine take_at (some 110) (i := 2) (v := ?_) rfl rfl (by kernel_rfl) (by kernel_rfl) (by kernel_rfl) (fun _ _ _ h => h) (Or.inl ⟨by kernel_rfl, ?_⟩) hHeld ?_
                      rotate_left
                      · intro wz hSw; go_simp; try (with_reducible rfl)
                      try simp only [Act.put, List.setIfInBounds_toArray, List.set_cons_zero, List.set_cons_succ, List.getElem_toArray, List.getElem_cons_succ, List.getElem_cons_zero]
                      refine take_at (some 111) (i := 3) (v := ?_) rfl rfl (by kernel_rfl) (by kernel_rfl) (by kernel_rfl) (fun _ _ _ h => h) (Or.inl ⟨by kernel_rfl, ?_⟩) hHeld ?_
                      rotate_left
                      · intro wz hSw; go_simp; try (with_reducible rfl)
                      try simp only [Act.put, List.setIfInBounds_toArray, List.set_cons_zero, List.set_cons_succ, List.getElem_toArray, List.getElem_cons_succ, List.getElem_cons_zero]
                      refine take_at (some 112) (i := 4) (v := ?_) rfl rfl (by kernel_rfl) (by kernel_rfl) (by kernel_rfl) (fun _ _ _ h => h) (Or.inl ⟨by kernel_rfl, ?_⟩) hHeld ?_
                      rotate_left
                      · intro wz hSw; go_simp; try (with_reducible rfl)
                      try simp only [Act.put, List.setIfInBounds_toArray, List.set_cons_zero, List.set_cons_succ, List.getElem_toArray, List.getElem_cons_succ, List.getElem_cons_zero]
                      refine take_at (some 113) (i := 5) (v := ?_) rfl rfl (by kernel_rfl) (by kernel_rfl) (by kernel_rfl) (fun _ _ _ h => h) (Or.inl ⟨by kernel_rfl, ?_⟩) hHeld ?_
                      rotate_left
                      · intro wz hSw; go_simp; try (with_reducible rfl)
                      try simp only [Act.put, List.setIfInBounds_toArray, List.set_cons_zero, List.set_cons_succ, List.getElem_toArray, List.getElem_cons_succ, List.getElem_cons_zero]
                      refine take_at (some 114) (i := 6) (v := ?_) rfl rfl (by kernel_rfl) (by kernel_rfl) (by kernel_rfl) (fun _ _ _ h => h) (Or.inl ⟨by kernel_rfl, ?_⟩) hHeld ?_
                      rotate_left
                      · intro wz hSw; go_simp; try (with_reducible rfl)
                      try simp only [Act.put, List.setIfInBounds_toArray, List.set_cons_zero, List.set_cons_succ, List.getElem_toArray, List.getElem_cons_succ, List.getElem_cons_zero]
                      refine take_at (some 115) (i := 7) (v := ?_) rfl rfl (by kernel_rfl) (by kernel_rfl) (by kernel_rfl) (fun _ _ _ h => h) (Or.inl ⟨by kernel_rfl, ?_⟩) hHeld ?_
                      rotate_left
                      · intro wz hSw; go_simp; try (with_reducible rfl)
                      try simp only [Act.put, List.setIfInBounds_toArray, List.set_cons_zero, List.set_cons_succ, List.getElem_toArray, List.getElem_cons_succ, List.getElem_cons_zero]
                      refine take_at (some 116) (i := 8) (v := ?_) rfl rfl (by kernel_rfl) (by kernel_rfl) (by kernel_rfl) (fun _ _ _ h => h) (Or.inl ⟨by kernel_rfl, ?_⟩) hHeld ?_
                      rotate_left
                      · intro wz hSw; obtain ⟨k0, k1⟩ := HCP.out wz (HB.out.trans (hSw.mono HB.out.size)); obtain ⟨p0, p1⟩ := HCQ.out wz (HB.out.trans (hSw.mono HB.out.size)); go_simp; try (with_reducible rfl)
                      try simp only [Act.put, List.setIfInBounds_toArray, List.set_cons_zero, List.set_cons_succ, List.getElem_toArray, List.getElem_cons_succ, List.getElem_cons_zero]
                      refine take_at (some 117) (i := 9) (v := ?_) rfl rfl (by kernel_rfl) (by kernel_rfl) (by kernel_rfl) (fun _ _ _ h => h) (Or.inl ⟨by kernel_rfl, ?_⟩) hHeld ?_
                      rotate_left
                      · intro wz hSw; go_simp; try (with_reducible rfl)
                      try simp only [Act.put, List.setIfInBounds_toArray, List.set_cons_zero, List.set_cons_succ, List.getElem_toArray, List.getElem_cons_succ, List.getElem_cons_zero]
                      refine take_at (some 118) (i := 10) (v := ?_) rfl rfl (by kernel_rfl) (by kernel_rfl) (by kernel_rfl) (fun _ _ _ h => h) (Or.inl ⟨by kernel_rfl, ?_⟩) hHeld ?_
                      rotate_left
                      · intro wz hSw; go_simp; try (with_reducible rfl)
                      try simp only [Act.put, List.setIfInBounds_toArray, List.set_cons_zero, List.set_cons_succ, List.getElem_toArray, List.getElem_cons_succ, List.getElem_cons_zero]
                      refine take_at (some 119) (i := 11) (v := ?_) rfl rfl (by kernel_rfl) (by kernel_rfl) (by kernel_rfl) (fun _ _ _ h => h) (Or.inl ⟨by kernel_rfl, ?_⟩) hHeld ?_
                      rotate_left
                      · intro wz hSw; go_simp; try (with_reducible rfl)
                      try simp only [Act.put, List.setIfInBounds_toArray, List.set_cons_zero, List.set_cons_succ, List.getElem_toArray, List.getElem_cons_succ, List.getElem_cons_zero]
                      refine take_at (some 120) (i := 12) (v := ?_) rfl rfl (by kernel_rfl) (by kernel_rfl) (by kernel_rfl) (fun _ _ _ h => h) (Or.inl ⟨by kernel_rfl, ?_⟩) hHeld ?_
                      rotate_left
                      · intro wz hSw; go_simp; try (with_reducible rfl)
                      try simp only [Act.put, List.setIfInBounds_toArray, List.set_cons_zero, List.set_cons_succ, List.getElem_toArray, List.getElem_cons_succ, List.getElem_cons_zero]
                      refine take_at (some 121) (i := 13) (v := ?_) rfl rfl (by kernel_rfl) (by kernel_rfl) (by kernel_rfl) (fun _ _ _ h => h) (Or.inl ⟨by kernel_rfl, ?_⟩) hHeld ?_
                      rotate_left
                      · intro wz hSw; obtain ⟨k0, k1⟩ := HCP.out wz (HB.out.trans (hSw.mono HB.out.size)); obtain ⟨p0, p1⟩ := HCQ.out wz (HB.out.trans (hSw.mono HB.out.size)); go_simp; try (with_reducible rfl)
                      try simp only [Act.put, List.setIfInBounds_toArray, List.set_cons_zero, List.set_cons_succ, List.getElem_toArray, List.getElem_cons_succ, List.getElem_cons_zero]
                      refine take_at (some 122) (i := 14) (v := ?_) rfl rfl (by kernel_rfl) (by kernel_rfl) (by kernel_rfl) (fun _ _ _ h => h) (Or.inl ⟨by kernel_rfl, ?_⟩) hHeld ?_
                      rotate_left
                      · intro wz hSw; go_simp; try (with_reducible rfl)
                      try simp only [Act.put, List.setIfInBounds_toArray, List.set_cons_zero, List.set_cons_succ, List.getElem_toArray, List.getElem_cons_succ, List.getElem_cons_zero]
                      refine take_at (some 123) (i := 15) (v := ?_) rfl rfl (by kernel_rfl) (by kernel_rfl) (by kernel_rfl) (fun _ _ _ h => h) (Or.inl ⟨by kernel_rfl, ?_⟩) hHeld ?_
                      rotate_left
                      · intro wz hSw; go_simp; try (with_reducible rfl)
                      try simp only [Act.put, List.setIfInBounds_toArray, List.set_cons_zero, List.set_cons_succ, List.getElem_toArray, List.getElem_cons_succ, List.getElem_cons_zero]
                      refine wpAnyH_done (by kernel_rfl) ?_ _
                      clear hHeld
                      go_wp2_with fail
                      go_roundw
                      case rel => exact ⟨j + 1, _, by omega, rfl, by go_num, HTS, Lib.hid (HB.out.trans ((Below.refl _ _).drew.mono HB.out.size))⟩
                      case measure => simp [intOf] <;> omega
                    | false =>
                      go_upto_region 23 with (refine wpList_eqpp (by kernel_rfl) (.tmp 102) (.tmp 105) _ rfl ⟨pv, pc⟩ ⟨x, y⟩ rfl rfl ?_; rw [HQ.out])
                      clear k0 k1
                      try simp only [List.cons_append, List.nil_append]
                      refine wp_region_held_drew (S := fun wz => Below wr.heap.size wr wz) (by kernel_rfl) ((Below.refl _ _).drew) (fun hHeld => ?_)
                      refine take_at (some 108) (i := 0) (v := ?_) rfl rfl (by kernel_rfl) (by kernel_rfl) (by kernel_rfl) (fun _ _ _ h => h) (Or.inl ⟨by kernel_rfl, ?_⟩) hHeld ?_
                      rotate_left
                      · intro wz hSw; go_simp; try (with_reducible rfl)
                      try simp only [Act.put, List.setIfInBounds_toArray, List.set_cons_zero, List.set_cons_succ, List.getElem_toArray, List.getElem_cons_succ, List.getElem_cons_zero]
                      refine take_at (some 109) (i := 1) (v := ?_) rfl rfl (by kernel_rfl) (by kernel_rfl) (by kernel_rfl) (fun _ _ _ h => h) (Or.inl ⟨by kernel_rfl, ?_⟩) hHeld ?_
                      rotate_left
                      · intro wz hSw; go_simp; try (with_reducible rfl)
                      try simp only [Act.put, List.setIfInBounds_toArray, List.set_cons_zero, List.set_cons_succ, List.getElem_toArray, List.getElem_cons_succ, List.getElem_cons_zero]
                      refine take_at (some 110) (i := 2) (v := ?_) rfl rfl (by kernel_rfl) (by kernel_rfl) (by kernel_rfl) (fun _ _ _ h => h) (Or.inl ⟨by kernel_rfl, ?_⟩) hHeld ?_
                      rotate_left
                      · intro wz hSw; go_simp; try (with_reducible rfl)
                      try simp only [Act.put, List.setIfInBounds_toArray, List.set_cons_zero, List.set_cons_succ, List.getElem_toArray, List.getElem_cons_succ, List.getElem_cons_zero]
                      refine take_at (some 111) (i := 3) (v := ?_) rfl rfl (by kernel_rfl) (by kernel_rfl) (by kernel_rfl) (fun _ _ _ h => h) (Or.inl ⟨by kernel_rfl, ?_⟩) hHeld ?_
                      rotate_left
                      · intro wz hSw; go_simp; try (with_reducible rfl)
                      try simp only [Act.put, List.setIfInBounds_toArray, List.set_cons_zero, List.set_cons_succ, List.getElem_toArray, List.getElem_cons_succ, List.getElem_cons_zero]
                      refine take_at (some 112) (i := 4) (v := ?_) rfl rfl (by kernel_rfl) (by kernel_rfl) (by kernel_rfl) (fun _ _ _ h => h) (Or.inl ⟨by kernel_rfl, ?_⟩) hHeld ?_
                      rotate_left
                      · intro wz hSw; go_simp; try (with_reducible rfl)
                      try simp only [Act.put, List.setIfInBounds_toArray, List.set_cons_zero, List.set_cons_succ, List.getElem_toArray, List.getElem_cons_succ, List.getElem_cons_zero]
                      refine take_at (some 113) (i := 5) (v := ?_) rfl rfl (by kernel_rfl) (by kernel_rfl) (by kernel_rfl) (fun _ _ _ h => h) (Or.inl ⟨by kernel_rfl, ?_⟩) hHeld ?_
                      rotate_left
                      · intro wz hSw; go_simp; try (with_reducible rfl)
                      try simp only [Act.put, List.setIfInBounds_toArray, List.set_cons_zero, List.set_cons_succ, List.getElem_toArray, List.getElem_cons_succ, List.getElem_cons_zero]
                      refine take_at (some 114) (i := 6) (v := ?_) rfl rfl (by kernel_rfl) (by kernel_rfl) (by kernel_rfl) (fun _ _ _ h => h) (Or.inl ⟨by kernel_rfl, ?_⟩) hHeld ?_
                      rotate_left
                      · intro wz hSw; go_simp; try (with_reducible rfl)
                      try simp only [Act.put, List.setIfInBounds_toArray, List.set_cons_zero, List.set_cons_succ, List.getElem_toArray, List.getElem_cons_succ, List.getElem_cons_zero]
                      refine take_at (some 115) (i := 7) (v := ?_) rfl rfl (by kernel_rfl) (by kernel_rfl) (by kernel_rfl) (fun _ _ _ h => h) (Or.inl ⟨by kernel_rfl, ?_⟩) hHeld ?_
                      rotate_left
                      · intro wz hSw; go_simp; try (with_reducible rfl)
                      try simp only [Act.put, List.setIfInBounds_toArray, List.set_cons_zero, List.set_cons_succ, List.getElem_toArray, List.getElem_cons_succ, List.getElem_cons_zero]
                      refine take_at (some 116) (i := 8) (v := ?_) rfl rfl (by kernel_rfl) (by kernel_rfl) (by kernel_rfl) (fun _ _ _ h => h) (Or.inl ⟨by kernel_rfl, ?_⟩) hHeld ?_
                      rotate_left
                      · intro wz hSw; obtain ⟨k0, k1⟩ := HCP.out wz (HB.out.trans (hSw.mono HB.out.size)); obtain ⟨p0, p1⟩ := HCQ.out wz (HB.out.trans (hSw.mono HB.out.size)); go_simp; try (with_reducible rfl)
                      try simp only [Act.put, List.setIfInBounds_toArray, List.set_cons_zero, List.set_cons_succ, List.getElem_toArray, List.getElem_cons_succ, List.getElem_cons_zero]
                      refine take_at (some 117) (i := 9) (v := ?_) rfl rfl (by kernel_rfl) (by kernel_rfl) (by kernel_rfl) (fun _ _ _ h => h) (Or.inl ⟨by kernel_rfl, ?_⟩) hHeld ?_
                      rotate_left
                      · intro wz hSw; go_simp; try (with_reducible rfl)
                      try simp only [Act.put, List.setIfInBounds_toArray, List.set_cons_zero, List.set_cons_succ, List.getElem_toArray, List.getElem_cons_succ, List.getElem_cons_zero]
                      refine take_at (some 118) (i := 10) (v := ?_) rfl rfl (by kernel_rfl) (by kernel_rfl) (by kernel_rfl) (fun _ _ _ h => h) (Or.inl ⟨by kernel_rfl, ?_⟩) hHeld ?_
                      rotate_left
                      · intro wz hSw; go_simp; try (with_reducible rfl)
                      try simp only [Act.put, List.setIfInBounds_toArray, List.set_cons_zero, List.set_cons_succ, List.getElem_toArray, List.getElem_cons_succ, List.getElem_cons_zero]
                      refine take_at (some 119) (i := 11) (v := ?_) rfl rfl (by kernel_rfl) (by kernel_rfl) (by kernel_rfl) (fun _ _ _ h => h) (Or.inl ⟨by kernel_rfl, ?_⟩) hHeld ?_
                      rotate_left
                      · intro wz hSw; go_simp; try (with_reducible rfl)
                      try simp only [Act.put, List.setIfInBounds_toArray, List.set_cons_zero, List.set_cons_succ, List.getElem_toArray, List.getElem_cons_succ, List.getElem_cons_zero]
                      refine take_at (some 120) (i := 12) (v := ?_) rfl rfl (by kernel_rfl) (by kernel_rfl) (by kernel_rfl) (fun _ _ _ h => h) (Or.inl ⟨by kernel_rfl, ?_⟩) hHeld ?_
                      rotate_left
                      · intro wz hSw; go_simp; try (with_reducible rfl)
                      try simp only [Act.put, List.setIfInBounds_toArray, List.set_cons_zero, List.set_cons_succ, List.getElem_toArray, List.getElem_cons_succ, List.getElem_cons_zero]
                      refine take_at (some 121) (i := 13) (v := ?_) rfl rfl (by kernel_rfl) (by kernel_rfl) (by kernel_rfl) (fun _ _ _ h => h) (Or.inl ⟨by kernel_rfl, ?_⟩) hHeld ?_
                      rotate_left
                      · intro wz hSw; obtain ⟨k0, k1⟩ := HCP.out wz (HB.out.trans (hSw.mono HB.out.size)); obtain ⟨p0, p1⟩ := HCQ.out wz (HB.out.trans (hSw.mono HB.out.size)); go_simp; try (with_reducible rfl)
                      try simp only [Act.put, List.setIfInBounds_toArray, List.set_cons_zero, List.set_cons_succ, List.getElem_toArray, List.getElem_cons_succ, List.getElem_cons_zero]
                      refine take_at (some 122) (i := 14) (v := ?_) rfl rfl (by kernel_rfl) (by kernel_rfl) (by kernel_rfl) (fun _ _ _ h => h) (Or.inl ⟨by kernel_rfl, ?_⟩) hHeld ?_
                      rotate_left
                      · intro wz hSw; go_simp; try (with_reducible rfl)
                      try simp only [Act.put, List.setIfInBounds_toArray, List.set_cons_zero, List.set_cons_succ, List.getElem_toArray, List.getElem_cons_succ, List.getElem_cons_zero]
                      refine take_at (some 123) (i := 15) (v := ?_) rfl rfl (by kernel_rfl) (by kernel_rfl) (by kernel_rfl) (fun _ _ _ h => h) (Or.inl ⟨by kernel_rfl, ?_⟩) hHeld ?_
                      rotate_left
                      · intro wz hSw; go_simp; try (with_reducible rfl)
                      try simp only [Act.put, List.setIfInBounds_toArray, List.set_cons_zero, List.set_cons_succ, List.getElem_toArray, List.getElem_cons_succ, List.getElem_cons_zero]
                      refine wpAnyH_done (by kernel_rfl) ?_ _
                      clear hHeld
                      go_wp2_with fail
                      go_roundw
                      case rel => exact ⟨j + 1, _, by omega, rfl, by go_num, HTS, Lib.hid (HB.out.trans ((Below.refl _ _).drew.mono HB.out.size))⟩
                      case measure => simp [intOf] <;> omega
                · have hj2 : ¬ (j : Int) < (M2 : Int) := by omega
                  have hth : th = true := by rw [← HTH.out, List.take_of_length_le (by rw [HM2.out]; omega)]; exact decide_eq_true HIN.out.2.2.1
                  subst hth
                  have g1 : IntKind.i64.wrap ((M : Int) + 1) = (M2 : Int) := by have := HMM.out; rw [IntKind.wrap_i64]; omega
                  have g2 : ((M2 : Int) == (M2 : Int)) = true := by simp
                  have HZ8 := Lib.hid (HZ7.out.on HB.out)
                  go_wp2_with (first | (go_at_call 18; (with_reducible refine (z_was HZ8.out HG2.out HF2.out x true (decide_eq_true HIN.out.1)).mono ?_); rintro e y1 ⟨rfl, h1⟩; have HZ9 := Lib.hid (HZ8.out.on h1); clear h1) | (go_at_call 18; (with_reducible refine (z_was HZ9.out HG2.out HF2.out y true (decide_eq_true HIN.out.2.1)).mono ?_); rintro e y2 ⟨rfl, h1⟩; have HZa := Lib.hid (HZ9.out.on h1); clear h1))
                  go_ret
                  exact ⟨rfl, HZa.out.l⟩
end Go.Proofs.Ytinjldjpncijjaa
