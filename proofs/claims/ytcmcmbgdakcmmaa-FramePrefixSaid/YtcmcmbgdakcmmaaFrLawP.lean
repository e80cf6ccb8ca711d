/- The walk of FramePrefix. (Written by gen_frprefix.py.) -/
import Derived.Test.YtcmcmbgdakcmmaaFrHead
import Derived.Test.YtcmcmbgdakcmmaaConvR
import Derived.Deep.Cut
import Derived.Test.YtcmcmbgdakcmmaaFrLib
namespace Go.Proofs.Ytcmcmbgdakcmmaa
set_option linter.unusedVariables false
set_option linter.unusedSimpArgs false
open Go.RowKit

theorem join_take (C : List (List UInt8)) (i : Nat) (h : i < C.length) : joinF (C.take (i + 1)) = joinF (C.take i) ++ putF C[i] := by
  rw [List.take_add_one, List.getElem?_eq_getElem h, Option.toList_some, join_snoc]
theorem join_take_le (C : List (List UInt8)) (i : Nat) : (joinF (C.take i)).length ≤ (joinF C).length := by
  have : joinF C = joinF (C.take i) ++ joinF (C.drop i) := by rw [← join_app, List.take_append_drop]
  rw [this, List.length_append]; omega

set_option maxRecDepth 100000 in
set_option maxHeartbeats 8000000 in
theorem walk_FramePrefix (A : Option Addr) (l : List UInt8) (n c : Nat) (W : World) (w0 : InB W A l n c) :
    Calls Try.prog 6 #[.slice A n c] W fun e w' => e = .returned (.bool true) ∧ Below W.heap.size W w' := by
  have hmx := w0.max
  have hcn := w0.cap
  have hrb := w0.rb
  have hnl := w0.nil_
  have hl := w0.len
  unfold maxLen at hmx
  clear w0
  have HNL := Lib.hid hnl
  have HL := Lib.hid hl
  have HRB := Lib.hid hrb
  clear hnl hl hrb
  go_enter Try.func6, Try.ntmps6
  go_wp2_with fail
  refine (fhead_ok _).mono ?_
  rintro e w1 ⟨rfl, hb1⟩
  have B1 := Lib.hid hb1
  clear hb1
  by_cases hg : 20000 < n
  · have hg2 : (20000 : Int) < (n : Int) := by omega
    go_wp2_with fail
    go_ret
    exact ⟨rfl, B1.out⟩
  have hg2 : decide ((20000 : Int) < (n : Int)) = false := decide_eq_false (by omega)
  have hn9 : n ≤ 20000 := by omega
  clear hg
  have R1 := Lib.hid (HRB.out.on B1.out)
  have HC := Lib.hid (cut_ok A n c l w1 HL.out hcn hmx (by omega) R1.out)
  obtain ⟨C, hC⟩ : ∃ C, cutF l = C := ⟨_, rfl⟩
  obtain ⟨D, hD⟩ : ∃ D, doneF l = D := ⟨_, rfl⟩
  obtain ⟨E, hE⟩ : ∃ E, errF (restF l) = E := ⟨_, rfl⟩
  have hdn : D ≤ n := by rw [← hD, ← HL.out]; exact done_le l
  have HJN := Lib.hid (show (joinF C).length = D ∧ l.take D = joinF C ∧ lenF (l.drop D) = 0 ∧ errF (l.drop D) = E from by
    subst hC; subst hD; subst hE
    exact ⟨rfl, take_done l, (cut_is l).2.2.1, rfl⟩)
  have hkn : C.length ≤ n := by rw [← hC, ← HL.out]; exact cut_count l
  rw [hC, hD, hE] at HC
  obtain ⟨k, hk⟩ : ∃ k, C.length = k := ⟨_, rfl⟩
  rw [hk] at HC hkn
  have HK := Lib.hid hk
  clear hC hD hE hk
  go_wp2_with fail
  refine HC.out.mono ?_
  rintro e w2 ⟨A2, c2, rfl, ho2, hb2⟩
  have R2 := Lib.hid (And.intro (R1.out.on hb2) (B1.out.trans (hb2.mono B1.out.size)))
  have HCAP := Lib.hid ho2.cap
  have HRL := Lib.hid ho2.rl
  clear ho2 hb2 HC
  have hd0 : decide ((D : Int) < 0) = false := decide_eq_false (by omega)
  have hd1 : decide (n < D) = false := decide_eq_false (by omega)
  go_wp2_with fail
  go_loopw [7, 8] (fun v7 v8 wr => ∃ (i m : Nat) (A3 : Option Addr) (c3 : Nat), i ≤ k ∧ v8 = .int .i64 (i : Int) ∧ v7 = .slice A3 m c3 ∧ Hid ((joinF (C.take i)).length = m) ∧ Hid (OB wr w2.heap.size 5 A3 c3 (joinF (C.take i))) ∧ Hid (A3 = none → m = 0 ∧ c3 = 0) ∧ Hid (Below w2.heap.size w2 wr)) (fun _ v8 _ => k - (intOf v8).toNat)
  case atStart => exact ⟨0, 0, none, 0, by omega, rfl, rfl, Lib.hid rfl, Lib.hid (OB.nil _ _ _), Lib.hid (fun _ => ⟨rfl, rfl⟩), Lib.hid (Below.refl _ _)⟩
  case round =>
    obtain ⟨i, m, A3, c3, hi, rfl, rfl, HM, HO, HN, HB⟩ := hrel
    have HJL := Lib.hid (join_take_le C (i + 1))
    clear hd0 hd1 hg2
    by_cases hi1 : i < k
    · have hi2 : (i : Int) < (k : Int) := by omega
      have hiC : i < C.length := by rw [HK.out]; exact hi1
      obtain ⟨b1, o1, X1, y1, rfl, hb1, hc1, he1⟩ := (HRL.out.below HB.out).at_ i hiC
      have HJ := Lib.hid (join_take C i hiC)
      obtain ⟨x, hx⟩ : ∃ x, C[i] = x := ⟨_, rfl⟩
      rw [hx] at hc1 he1 HJ
      obtain ⟨xn, hxn⟩ : ∃ xn, x.length = xn := ⟨_, rfl⟩
      rw [hxn] at hc1
      have HPUT := Lib.hid (put_ok X1 xn y1 x wr hxn (fun h => by have := he1.nil_ h; omega) he1.rb)
      obtain ⟨P, hP⟩ : ∃ P, putF x = P := ⟨_, rfl⟩
      rw [hP] at HPUT HJ
      obtain ⟨pn, hpn⟩ : ∃ pn, P.length = pn := ⟨_, rfl⟩
      rw [hpn] at HPUT
      have HPN := Lib.hid hpn
      clear hiC he1 hx hxn hP hpn
      go_wp2_with fail
      refine HPUT.out.mono ?_
      rintro e w4 ⟨A4, c4, rfl, ho4, hn4, hb4⟩
      have HO4 := Lib.hid ho4
      have HN4 := Lib.hid (show A4 = none → pn = 0 ∧ c4 = 0 from fun h => by
        have h1 := hn4 h
        have h2 := ho4.cap.1
        have := HPN.out
        omega)
      have HB4 := Lib.hid hb4
      have HO3 := Lib.hid (HO.out.stay hb4 (Nat.le_refl _))
      clear ho4 hn4 hb4 HO HPUT
      go_wp2_with (at_builtin; refine wp_app_any rfl (.tmp 37) (.tmp 42) 22 5 rfl Try.underlying22 bytesInfo w2.heap.size _ _ _ _ rfl HM.out HO3.out P A4 pn _ _ rfl HPN.out HN4.out HO4.out.rb (by have h1 := HJL.out; have h2 := HJN.out.1; rw [HJ.out, List.length_append] at h1; omega) (by have h1 := HB.out.size; have h2 := HB4.out.size; omega) ?_; intro A5 c5 w5 ho5 hg5 hb5)
      go_roundw
      case rel =>
        refine ⟨i + 1, _, A5, c5, by omega, by go_num, rfl, Lib.hid (by rw [HJ.out]; simp), Lib.hid (by rw [HJ.out]; exact ho5), Lib.hid ?_, Lib.hid ((HB.out.trans (HB4.out.mono HB.out.size)).trans hb5)⟩
        intro h
        rcases ho5.2 with ⟨hv, h0⟩ | ⟨g, cap, cur, hv, _⟩
        · injection hv with _ e2 e3
          exact ⟨by simpa using h0, e3⟩
        · rw [h] at hv; cases hv
      case measure => simp [intOf]; omega
    · have hi3 : i = k := by omega
      have hi2 : decide ((i : Int) < (k : Int)) = false := decide_eq_false (by omega)
      have HCT := Lib.hid (show C.take i = C by rw [List.take_of_length_le]; rw [HK.out]; omega)
      rw [HCT.out] at HM HO
      have R3 := Lib.hid (R2.out.1.on HB.out)
      have HF := first_ok (tailA A c D) (n - D) (c - D) (l.drop D) wr (by rw [List.length_drop, HL.out]) (by omega) (by omega) (R3.out.tail D (by rw [HL.out]; exact hcn))
      rw [part_nil _ HJN.out.2.2.1, HJN.out.2.2.1, HJN.out.2.2.2] at HF
      have HSL := fun u => slice_fr A n c D hdn hcn u
      obtain ⟨TA, hTA⟩ : ∃ TA, tailA A c D = TA := ⟨_, rfl⟩
      rw [hTA] at HF HSL
      have HF := Lib.hid HF
      have HSL := Lib.hid HSL
      clear hi3 hTA
      go_wp2_with ((with_reducible refine wpList_here ?_); refine wpList_from rfl 22 (.tmp 45) (.tmp 46) rfl _ _ _ rfl rfl (HSL.out _) ?_)
      refine HF.out.mono ?_
      rintro e w6 ⟨A6, c6, rfl, ho6, hn6, hb6⟩
      have HS := Lib.hid (show Rb w6.drew w6.heap.size A3 (joinF C) ∧ Rb w6.drew w6.heap.size A (joinF C) ∧ Below W.heap.size W w6.drew from ⟨(HO.out.rb.on hb6 : Rb w6 _ _ _), (HJN.out.2.1 ▸ ((R3.out.on hb6).front D) : Rb w6 _ _ _), (((R2.out.2.trans (HB.out.mono R2.out.2.size)).trans (hb6.mono (Nat.le_trans R2.out.2.size HB.out.size)))).drew⟩)
      have HSF := Lib.hid (fun u => slice_to A n c D hdn hcn u)
      clear ho6 hn6 hb6 HF
      go_upto_region 13 with (fail)
      try simp only [List.cons_append, List.nil_append]
      refine wp_region_held_drew (S := fun u => Rb u w6.heap.size A3 (joinF C) ∧ Rb u w6.heap.size A (joinF C) ∧ Below W.heap.size W u) (by kernel_rfl) (HS.out) (fun hHeld => ?_)
      refine take_at (some 52) (i := 0) (v := ?_) rfl rfl (by kernel_rfl) (by kernel_rfl) (by kernel_rfl) (fun _ _ _ h => h) (Or.inl ⟨by kernel_rfl, ?_⟩) hHeld ?_
      rotate_left
      · intro wz hSw; go_simp; try (with_reducible rfl)
      try simp only [Act.put, List.setIfInBounds_toArray, List.set_cons_zero, List.set_cons_succ, List.getElem_toArray, List.getElem_cons_succ, List.getElem_cons_zero]
      refine take_at (some 53) (i := 1) (v := ?_) rfl rfl (by kernel_rfl) (by kernel_rfl) (by kernel_rfl) (fun _ _ _ h => h) (Or.inl ⟨by kernel_rfl, ?_⟩) hHeld ?_
      rotate_left
      · intro wz hSw; go_simp; try (with_reducible rfl)
      try simp only [Act.put, List.setIfInBounds_toArray, List.set_cons_zero, List.set_cons_succ, List.getElem_toArray, List.getElem_cons_succ, List.getElem_cons_zero]
      refine take_at (some 54) (i := 2) (v := ?_) rfl rfl (by kernel_rfl) (by kernel_rfl) (by kernel_rfl) (fun _ _ _ h => h) (Or.inl ⟨by kernel_rfl, ?_⟩) hHeld ?_
      rotate_left
      · intro wz hSw; go_simp; try (with_reducible rfl)
      try simp only [Act.put, List.setIfInBounds_toArray, List.set_cons_zero, List.set_cons_succ, List.getElem_toArray, List.getElem_cons_succ, List.getElem_cons_zero]
      refine take_at (some 55) (i := 3) rfl rfl (by kernel_rfl) (by kernel_rfl) (by kernel_rfl) (fun _ _ _ h => h) (yieldsIf_conv (by kernel_rfl) 22 5 9 (.tmp 54) rfl A3 m c3 (joinF C) rfl HM.out (fun w h => h.1) Try.underlying22 Try.underlying5 Try.underlying9) hHeld ?_
      try simp only [Act.put, List.setIfInBounds_toArray, List.set_cons_zero, List.set_cons_succ, List.getElem_toArray, List.getElem_cons_succ, List.getElem_cons_zero]
      refine take_at (some 56) (i := 4) (v := ?_) rfl rfl (by kernel_rfl) (by kernel_rfl) (by kernel_rfl) (fun _ _ _ h => h) (Or.inl ⟨by kernel_rfl, ?_⟩) hHeld ?_
      rotate_left
      · intro wz hSw; go_simp; try (with_reducible rfl)
      try simp only [Act.put, List.setIfInBounds_toArray, List.set_cons_zero, List.set_cons_succ, List.getElem_toArray, List.getElem_cons_succ, List.getElem_cons_zero]
      refine take_at (some 57) (i := 5) (v := ?_) rfl rfl (by kernel_rfl) (by kernel_rfl) (by kernel_rfl) (fun _ _ _ h => h) (Or.inl ⟨by kernel_rfl, ?_⟩) hHeld ?_
      rotate_left
      · intro wz hSw; go_simp; try (with_reducible rfl)
      try simp only [Act.put, List.setIfInBounds_toArray, List.set_cons_zero, List.set_cons_succ, List.getElem_toArray, List.getElem_cons_succ, List.getElem_cons_zero]
      refine take_at (some 58) (i := 6) rfl rfl (by kernel_rfl) (by kernel_rfl) (by kernel_rfl) (fun _ _ _ h => h) (yieldsIf_slice (by kernel_rfl) 22 (.tmp 56) none (some (.tmp 57)) rfl (.slice A D c) (fun u => HSF.out u)) hHeld ?_
      try simp only [Act.put, List.setIfInBounds_toArray, List.set_cons_zero, List.set_cons_succ, List.getElem_toArray, List.getElem_cons_succ, List.getElem_cons_zero]
      refine take_at (some 59) (i := 7) rfl rfl (by kernel_rfl) (by kernel_rfl) (by kernel_rfl) (fun _ _ _ h => h) (yieldsIf_conv (by kernel_rfl) 22 5 9 (.tmp 58) rfl A D c (joinF C) rfl HJN.out.1 (fun w h => h.2.1) Try.underlying22 Try.underlying5 Try.underlying9) hHeld ?_
      try simp only [Act.put, List.setIfInBounds_toArray, List.set_cons_zero, List.set_cons_succ, List.getElem_toArray, List.getElem_cons_succ, List.getElem_cons_zero]
      refine take_at (some 60) (i := 8) (v := ?_) rfl rfl (by kernel_rfl) (by kernel_rfl) (by kernel_rfl) (fun _ _ _ h => h) (Or.inl ⟨by kernel_rfl, ?_⟩) hHeld ?_
      rotate_left
      · intro wz hSw; go_simp; try (with_reducible rfl)
      try simp only [Act.put, List.setIfInBounds_toArray, List.set_cons_zero, List.set_cons_succ, List.getElem_toArray, List.getElem_cons_succ, List.getElem_cons_zero]
      refine take_at (some 61) (i := 9) (v := ?_) rfl rfl (by kernel_rfl) (by kernel_rfl) (by kernel_rfl) (fun _ _ _ h => h) (Or.inl ⟨by kernel_rfl, ?_⟩) hHeld ?_
      rotate_left
      · intro wz hSw; go_simp; try (with_reducible rfl)
      try simp only [Act.put, List.setIfInBounds_toArray, List.set_cons_zero, List.set_cons_succ, List.getElem_toArray, List.getElem_cons_succ, List.getElem_cons_zero]
      refine take_at (some 62) (i := 10) (v := ?_) rfl rfl (by kernel_rfl) (by kernel_rfl) (by kernel_rfl) (fun _ _ _ h => h) (Or.inl ⟨by kernel_rfl, ?_⟩) hHeld ?_
      rotate_left
      · intro wz hSw; go_simp; try (with_reducible rfl)
      try simp only [Act.put, List.setIfInBounds_toArray, List.set_cons_zero, List.set_cons_succ, List.getElem_toArray, List.getElem_cons_succ, List.getElem_cons_zero]
      refine take_at (some 63) (i := 11) (v := ?_) rfl rfl (by kernel_rfl) (by kernel_rfl) (by kernel_rfl) (fun _ _ _ h => h) (Or.inl ⟨by kernel_rfl, ?_⟩) hHeld ?_
      rotate_left
      · intro wz hSw; go_simp; try (with_reducible rfl)
      try simp only [Act.put, List.setIfInBounds_toArray, List.set_cons_zero, List.set_cons_succ, List.getElem_toArray, List.getElem_cons_succ, List.getElem_cons_zero]
      refine take_at (some 64) (i := 12) (v := ?_) rfl rfl (by kernel_rfl) (by kernel_rfl) (by kernel_rfl) (fun _ _ _ h => h) (Or.inl ⟨by kernel_rfl, ?_⟩) hHeld ?_
      rotate_left
      · intro wz hSw; go_simp; try (with_reducible rfl)
      try simp only [Act.put, List.setIfInBounds_toArray, List.set_cons_zero, List.set_cons_succ, List.getElem_toArray, List.getElem_cons_succ, List.getElem_cons_zero]
      refine take_at (some 65) (i := 13) (v := ?_) rfl rfl (by kernel_rfl) (by kernel_rfl) (by kernel_rfl) (fun _ _ _ h => h) (Or.inl ⟨by kernel_rfl, ?_⟩) hHeld ?_
      rotate_left
      · intro wz hSw; go_simp; try (with_reducible rfl)
      try simp only [Act.put, List.setIfInBounds_toArray, List.set_cons_zero, List.set_cons_succ, List.getElem_toArray, List.getElem_cons_succ, List.getElem_cons_zero]
      refine take_at (some 66) (i := 14) (v := ?_) rfl rfl (by kernel_rfl) (by kernel_rfl) (by kernel_rfl) (fun _ _ _ h => h) (Or.inl ⟨by kernel_rfl, ?_⟩) hHeld ?_
      rotate_left
      · intro wz hSw; go_simp; try (with_reducible rfl)
      try simp only [Act.put, List.setIfInBounds_toArray, List.set_cons_zero, List.set_cons_succ, List.getElem_toArray, List.getElem_cons_succ, List.getElem_cons_zero]
      refine take_at (some 67) (i := 15) (v := ?_) rfl rfl (by kernel_rfl) (by kernel_rfl) (by kernel_rfl) (fun _ _ _ h => h) (Or.inl ⟨by kernel_rfl, ?_⟩) hHeld ?_
      rotate_left
      · intro wz hSw; go_simp; try (with_reducible rfl)
      try simp only [Act.put, List.setIfInBounds_toArray, List.set_cons_zero, List.set_cons_succ, List.getElem_toArray, List.getElem_cons_succ, List.getElem_cons_zero]
      refine take_at (some 68) (i := 16) (v := ?_) rfl rfl (by kernel_rfl) (by kernel_rfl) (by kernel_rfl) (fun _ _ _ h => h) (Or.inl ⟨by kernel_rfl, ?_⟩) hHeld ?_
      rotate_left
      · intro wz hSw; go_simp; try (with_reducible rfl)
      try simp only [Act.put, List.setIfInBounds_toArray, List.set_cons_zero, List.set_cons_succ, List.getElem_toArray, List.getElem_cons_succ, List.getElem_cons_zero]
      refine take_at (some 69) (i := 17) (v := ?_) rfl rfl (by kernel_rfl) (by kernel_rfl) (by kernel_rfl) (fun _ _ _ h => h) (Or.inl ⟨by kernel_rfl, ?_⟩) hHeld ?_
      rotate_left
      · intro wz hSw; go_simp; try (with_reducible rfl)
      try simp only [Act.put, List.setIfInBounds_toArray, List.set_cons_zero, List.set_cons_succ, List.getElem_toArray, List.getElem_cons_succ, List.getElem_cons_zero]
      refine take_at (some 70) (i := 18) (v := ?_) rfl rfl (by kernel_rfl) (by kernel_rfl) (by kernel_rfl) (fun _ _ _ h => h) (Or.inl ⟨by kernel_rfl, ?_⟩) hHeld ?_
      rotate_left
      · intro wz hSw; go_simp; try (with_reducible rfl)
      try simp only [Act.put, List.setIfInBounds_toArray, List.set_cons_zero, List.set_cons_succ, List.getElem_toArray, List.getElem_cons_succ, List.getElem_cons_zero]
      refine take_at (some 71) (i := 19) (v := ?_) rfl rfl (by kernel_rfl) (by kernel_rfl) (by kernel_rfl) (fun _ _ _ h => h) (Or.inl ⟨by kernel_rfl, ?_⟩) hHeld ?_
      rotate_left
      · intro wz hSw; go_simp; try (with_reducible rfl)
      try simp only [Act.put, List.setIfInBounds_toArray, List.set_cons_zero, List.set_cons_succ, List.getElem_toArray, List.getElem_cons_succ, List.getElem_cons_zero]
      refine take_at (some 72) (i := 20) (v := ?_) rfl rfl (by kernel_rfl) (by kernel_rfl) (by kernel_rfl) (fun _ _ _ h => h) (Or.inl ⟨by kernel_rfl, ?_⟩) hHeld ?_
      rotate_left
      · intro wz hSw; go_simp; try (with_reducible rfl)
      try simp only [Act.put, List.setIfInBounds_toArray, List.set_cons_zero, List.set_cons_succ, List.getElem_toArray, List.getElem_cons_succ, List.getElem_cons_zero]
      refine take_at (some 73) (i := 21) (v := ?_) rfl rfl (by kernel_rfl) (by kernel_rfl) (by kernel_rfl) (fun _ _ _ h => h) (Or.inl ⟨by kernel_rfl, ?_⟩) hHeld ?_
      rotate_left
      · intro wz hSw; go_simp; try (with_reducible rfl)
      try simp only [Act.put, List.setIfInBounds_toArray, List.set_cons_zero, List.set_cons_succ, List.getElem_toArray, List.getElem_cons_succ, List.getElem_cons_zero]
      refine take_at (some 74) (i := 22) (v := ?_) rfl rfl (by kernel_rfl) (by kernel_rfl) (by kernel_rfl) (fun _ _ _ h => h) (Or.inl ⟨by kernel_rfl, ?_⟩) hHeld ?_
      rotate_left
      · intro wz hSw; go_simp; try (with_reducible rfl)
      try simp only [Act.put, List.setIfInBounds_toArray, List.set_cons_zero, List.set_cons_succ, List.getElem_toArray, List.getElem_cons_succ, List.getElem_cons_zero]
      refine take_at (some 75) (i := 23) (v := ?_) rfl rfl (by kernel_rfl) (by kernel_rfl) (by kernel_rfl) (fun _ _ _ h => h) (Or.inl ⟨by kernel_rfl, ?_⟩) hHeld ?_
      rotate_left
      · intro wz hSw; go_simp; try (with_reducible rfl)
      try simp only [Act.put, List.setIfInBounds_toArray, List.set_cons_zero, List.set_cons_succ, List.getElem_toArray, List.getElem_cons_succ, List.getElem_cons_zero]
      refine take_at (some 2) (i := 24) (v := ?_) rfl rfl (by kernel_rfl) (by kernel_rfl) (by kernel_rfl) (fun _ _ _ h => h) (Or.inl ⟨by kernel_rfl, ?_⟩) hHeld ?_
      rotate_left
      · intro wz hSw; go_simp; try (with_reducible rfl)
      try simp only [Act.put, List.setIfInBounds_toArray, List.set_cons_zero, List.set_cons_succ, List.getElem_toArray, List.getElem_cons_succ, List.getElem_cons_zero]
      refine wpAnyH_done (by kernel_rfl) ?_ _
      have HBD := Lib.hid hHeld.2.2
      clear hHeld
      go_wp2
      go_ret
      exact ⟨rfl, HBD.out⟩
end Go.Proofs.Ytcmcmbgdakcmmaa
