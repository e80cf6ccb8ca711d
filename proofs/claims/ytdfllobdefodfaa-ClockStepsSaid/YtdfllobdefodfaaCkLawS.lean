/- ClockSteps: the walk. -/
import Derived.Test.YtdfllobdefodfaaCkHead
import Derived.Test.YtdfllobdefodfaaCkApp
import Derived.Test.YtdfllobdefodfaaCkOps
namespace Go.Proofs.Ytdfllobdefodfaa
set_option linter.unusedVariables false
set_option linter.unusedSimpArgs false
open Go.RowKit

/-- What the law's end asks, of any alarms. -/
structure StM (S : List Ky) (a b : Nat) (X Y Z : List Int) (S1 S2 : List Ky) : Prop where
  x : goM (a : Int) S = X
  s1 : stayM (a : Int) S = S1
  y : goM ((a + b : Nat) : Int) S1 = Y
  s2 : stayM ((a + b : Nat) : Int) S1 = S2
  z : goM ((a + b : Nat) : Int) S = Z
  s3 : stayM ((a + b : Nat) : Int) S = S2
  e : X ++ Y = Z
  lx : X.length ≤ 1024
  ly : Y.length ≤ 1024
  lz : Z.length ≤ 1024
  l2 : S2.length ≤ 1024
theorem stM (S : List Ky) (a b : Nat) (hs : Srt S) (hl : S.length ≤ 1024) : ∃ X Y Z S1 S2, StM S a b X Y Z S1 S2 :=
  ⟨_, _, _, _, _, rfl, rfl, rfl, rfl, rfl, (stay_two (by omega) S).symm, go_two (by omega) hs, Nat.le_trans (go_length_le _ _) hl, Nat.le_trans (go_length_le _ _) (Nat.le_trans (List.length_filter_le _ _) hl), Nat.le_trans (go_length_le _ _) hl, Nat.le_trans (List.length_filter_le _ _) (Nat.le_trans (List.length_filter_le _ _) hl)⟩

set_option maxRecDepth 100000 in
set_option maxHeartbeats 8000000 in
theorem walk_ClockSteps (A : Option Addr) (l : List CoM) (n cp : Nat) (a1 a2 : Int) (W : World) (w0 : InC W A l n cp) (w1 : (Lit.int .u16 a1).wf = true) (w2 : (Lit.int .u16 a2).wf = true) :
    Calls Try.prog 5 #[.slice A n cp, .int .u16 a1, .int .u16 a2] W fun e w' => e = .returned (.bool true) ∧ Below W.heap.size W w' := by
  have HH := Lib.hid (chead_ok W)
  have HIN := Lib.hid w0
  have hnm : n ≤ 9223372036854775807 := by have h1 := w0.cap; have h2 := w0.max; unfold maxLen at h2; omega
  obtain ⟨a, rfl, ha⟩ := u16_nat w1
  obtain ⟨b, rfl, hb⟩ := u16_nat w2
  clear w0 w1 w2
  go_enter Try.func5, Try.ntmps5
  go_upto_region 2 with (go_at_call 9; refine HH.out.mono ?_; rintro e u1 ⟨rfl, h1⟩)
  have HB1 := Lib.hid ((Below.refl W.heap.size W).trans (h1.below (Nat.le_refl _) (by simp)))
  clear h1
  go_upto_region 3 with (go_at_call 10; refine (w_new HB1.out).mono ?_; rintro e u2 ⟨G0, c, rfl, h1, _, _⟩)
  have R2 := Lib.hid h1
  clear h1
  go_upto_region 4 with (go_at_call 10; refine (w_new R2.out.b).mono ?_; rintro e u3 ⟨H0, d, rfl, h1, h2, h3⟩)
  have R3 := Lib.hid (show C2 W u3 G0 c 0 [] H0 d 0 [] from ⟨R2.out.ke h2, h1, fun y hy hH => by have := R2.out.ck.low y hy; have := h3 y hH; omega⟩)
  clear h1 h2 h3
  by_cases hbig : 200 < n
  · have hb2 : (200 : Int) < (n : Int) := by omega
    go_wp2_with fail
    go_ret
    exact ⟨rfl, R3.out.l.b⟩
  · have hb2 : ¬ (200 : Int) < (n : Int) := by omega
    have hb3 : n ≤ 200 := by omega
    go_wp2_with fail
    go_loopw [10] (fun v10 wr => ∃ i : Nat, i ≤ n ∧ v10 = .int .i64 (i : Int) ∧ Hid (∃ G H S, C2 W wr G c 0 S H d 0 S)) (fun v10 _ => n - (intOf v10).toNat)
    case atStart => exact ⟨0, by omega, rfl, Lib.hid ⟨_, _, _, R3.out⟩⟩
    case round =>
      obtain ⟨i, hi, rfl, HR⟩ := hrel
      obtain ⟨G, H, S, HC⟩ := HR.out
      have HCC := Lib.hid HC
      clear HC HR
      by_cases hin : i < n
      · have hi2 : (i : Int) < (n : Int) := by omega
        obtain ⟨b', o', m, rfl, _, hwf, hcl⟩ := HIN.out.at_ i hin
        obtain ⟨c0, c1, c2⟩ := hcl wr HCC.out.l.b
        have HWF := Lib.hid hwf
        have HCL := Lib.hid hcl
        clear hwf hcl
        by_cases h2 : m.what = 2
        · rw [h2] at c0
          go_upto_region 11 with (go_at_call 12; refine (w_drop HCC.out.l m.id HWF.out.2.1 _ rfl).mono ?_; rintro e u4 ⟨rfl, h1, hs⟩; have R4 := Lib.hid (HCC.out.left hs h1); clear h1 hs)
          obtain ⟨d0, d1, d2⟩ := HCL.out u4 R4.out.l.b
          go_wp2_with (go_at_call 12; refine (w_drop R4.out.r m.id HWF.out.2.1 _ rfl).mono ?_; rintro e u5 ⟨rfl, h1, hs⟩; have R5 := Lib.hid (R4.out.right hs h1); clear h1 hs)
          go_roundw
          case rel => exact ⟨i + 1, by omega, by go_num, Lib.hid ⟨_, _, _, R5.out⟩⟩
          case measure => simp [intOf]; omega
        · have hb2' : (m.what == 2) = false := by simp [h2]
          by_cases h3 : m.what = 3
          · rw [h3] at c0
            go_wp2_with fail
            go_roundw
            case rel => exact ⟨i + 1, by omega, by go_num, Lib.hid ⟨_, _, _, HCC.out⟩⟩
            case measure => simp [intOf]; omega
          · have hb3' : (m.what == 3) = false := by simp [h3]
            go_upto_region 13 with fail
            go_region_with (go_at_call 17; refine (w_set (HCC.out.l.ke (Ke.refl _ _).drew) m.id HWF.out.2.1 m.n _ _ rfl rfl).mono ?_; rintro e u4 ⟨G1, rfl, h1, hs⟩; have R4 := Lib.hid ((HCC.out.ke (Ke.refl _ _).drew).left hs h1); clear h1 hs; have d1 := (HCL.out u4 R4.out.l.b).2.1; have d2 := (HCL.out u4 R4.out.l.b).2.2)
            all_goals go_wp2_with fail
            all_goals (go_region_with (go_at_call 17; refine (w_set (R4.out.r.ke (Ke.refl _ _).drew) m.id HWF.out.2.1 m.n _ _ rfl rfl).mono ?_; rintro e u5 ⟨G2, rfl, h1, hs⟩; have R5 := Lib.hid ((R4.out.ke (Ke.refl _ _).drew).right hs h1); clear h1 hs))
            all_goals go_wp2_with fail
            all_goals exact ⟨⟨i + 1, by omega, by go_num, Lib.hid ⟨_, _, _, R5.out⟩⟩, by simp [intOf]; omega⟩
      · have hi2 : ¬ (i : Int) < (n : Int) := by omega
        have hd : decide ((i : Int) < (n : Int)) = false := by simp; omega
        obtain ⟨X, Y, Z, S1, S2, hst⟩ := stM S a b HCC.out.l.ck.srt HCC.out.l.ck.few
        have HS := Lib.hid hst
        obtain ⟨x, hx⟩ : ∃ x, X.length = x := ⟨_, rfl⟩
        obtain ⟨y, hy⟩ : ∃ y, Y.length = y := ⟨_, rfl⟩
        obtain ⟨z, hz⟩ : ∃ z, Z.length = z := ⟨_, rfl⟩
        obtain ⟨q, hq⟩ : ∃ q, S2.length = q := ⟨_, rfl⟩
        have hx1 : x ≤ 1024 := hx ▸ hst.lx
        have hy1 : y ≤ 1024 := hy ▸ hst.ly
        have hz1 : z ≤ 1024 := hz ▸ hst.lz
        have hq1 : q ≤ 1024 := hq ▸ hst.l2
        have HLN := Lib.hid (And.intro hx (And.intro hy (And.intro hz hq)))
        have hxz : x + y = z := by rw [← hx, ← hy, ← hz, ← hst.e, List.length_append]
        have HWF := Lib.hid (show Wf (a : Int) ∧ Wf (b : Int) ∧ Wf ((a + b : Nat) : Int) from ⟨wf_nat (by omega), wf_nat (by omega), wf_nat (by omega)⟩)
        obtain ⟨s, hs⟩ : ∃ s, s = a + b := ⟨_, rfl⟩
        have hs2 : (a : Int) + (b : Int) = (s : Int) := by omega
        rw [← hs] at HWF
        have HST := Lib.hid (show goM (s : Int) S1 = Y ∧ stayM (s : Int) S1 = S2 ∧ goM (s : Int) S = Z ∧ stayM (s : Int) S = S2 by rw [hs]; exact ⟨hst.y, hst.s2, hst.z, hst.s3⟩)
        have hs3 : s ≤ 131070 := by omega
        clear hst hx hy hz hq hs
        have HK := Lib.hid (show ∀ x ∈ G ++ H, x < wr.heap.size from fun x hx => by
          rcases List.mem_append.1 hx with h | h
          · exact HCC.out.l.ck.low x h
          · exact HCC.out.r.ck.low x h)
        go_upto_region 16 with (go_at_call 14; refine (w_tickK HCC.out.l (G ++ H) HK.out (a : Int) HWF.out.1 (by omega) (by omega) (a : Int) X S1 x (by omega) HS.out.x HS.out.s1 HLN.out.1).mono ?_; rintro e u4 ⟨A1, p1, rfl, h1, _, hp1, hn1, h5, h6⟩; have R4 := Lib.hid (And.intro (HCC.out.left h6 h5) (And.intro h1 hn1)); have K4 := Lib.hid (fun x hx => Nat.lt_of_lt_of_le (HK.out x hx) h6.k.size); clear h1 hn1 h5 h6)
        go_upto_region 17 with (go_at_call 14; refine (w_tickK R4.out.1.l (G ++ H) K4.out (b : Int) HWF.out.2.1 (by omega) (by omega) (s : Int) Y S2 y (by omega) HST.out.1 HST.out.2.1 HLN.out.2.1).mono ?_; rintro e u5 ⟨A2, p2, rfl, h1, _, hp2, hn2, h5, h6⟩; have R5 := Lib.hid (And.intro (R4.out.1.left h6 h5) (And.intro h1 (And.intro hn2 (And.intro (R4.out.2.1.keep h6.k (fun x hx => List.mem_append_left _ hx)) R4.out.2.2)))); clear h1 hn2 h5 h6)
        go_upto_region 18 with (go_at_call 14; refine (w_tick R5.out.1.r (s : Int) HWF.out.2.2 (by omega) (by omega) (s : Int) Z S2 z (by omega) HST.out.2.2.1 HST.out.2.2.2 HLN.out.2.2.1).mono ?_; rintro e u6 ⟨A3, p3, rfl, h1, _, hp3, hn3, h5, h6⟩; have R6 := Lib.hid (And.intro (R5.out.1.right h6 h5) (And.intro h1 (And.intro (R5.out.2.1.keep h6.k (fun x hx => List.mem_append_right _ hx)) (R5.out.2.2.2.1.keep h6.k (fun x hx => List.mem_append_right _ hx))))); clear h1 hn3 h5 h6)
        have hbz : u6.heap.size ≤ (u6.alloc (.cells #[] 3)).heap.size := by simp
        have HBL := Lib.hid (show Below u6.heap.size u6 (u6.alloc (.cells #[] 3)) from (Below.refl _ _).alloc (Nat.le_refl _) _)
        go_wp2_with (first
          | ((with_reducible refine wp_appi (by kernel_rfl) (.tmp 134) (.tmp 135) rfl u6.heap.size [] (some ⟨u6.heap.size, 0, none⟩) 0 0 rfl rfl (OI.empty u6) X A1 x p1 rfl HLN.out.1 R5.out.2.2.2.2 _ (R6.out.2.2.2.below HBL.out (Nat.le_refl _)) (by omega) hbz x (by omega) ?_); intro A4 p4 w1 k1 k2; have W1 := Lib.hid (And.intro (show OI w1 u6.heap.size A4 p4 X from k1) (HBL.out.trans k2)); clear k1 k2)
          | ((with_reducible refine wp_appi (by kernel_rfl) (.tmp 136) (.tmp 137) rfl u6.heap.size X A4 x p4 rfl HLN.out.1 W1.out.1 Y A2 y p2 rfl HLN.out.2.1 R5.out.2.2.1 _ (R6.out.2.2.1.below W1.out.2 (Nat.le_refl _)) (by omega) W1.out.2.size z hxz ?_); intro A5 p5 w2 k1 k2; have HSM := Lib.hid (same_b A5 A3 p5 p3 Z [] H w2 z HLN.out.2.2.1 (OI.ri (HS.out.e ▸ k1) (by simp)) (R6.out.2.1.below (W1.out.2.trans k2) (Nat.le_refl _)) (by omega)); have C3 := Lib.hid (R6.out.1.below (W1.out.2.trans k2)); clear k1 k2)
          | (go_at_call 16; refine HSM.out.mono ?_; rintro e w3 ⟨rfl, k1⟩; have C4 := Lib.hid (C3.out.ke k1); have HN1 := Lib.hid (w_now C4.out.l); have HN2 := Lib.hid (w_now C4.out.r); have HM1 := Lib.hid (w_many C4.out.l q HLN.out.2.2.2); have HM2 := Lib.hid (w_many C4.out.r q HLN.out.2.2.2); clear k1)
          | (go_at_call 21; (with_reducible refine HN1.out.mono ?_); rintro e w4 ⟨rfl, rfl⟩)
          | (go_at_call 21; (with_reducible refine HN2.out.mono ?_); rintro e w4 ⟨rfl, rfl⟩)
          | (go_at_call 22; (with_reducible refine HM1.out.mono ?_); rintro e w4 ⟨rfl, rfl⟩)
          | (go_at_call 22; (with_reducible refine HM2.out.mono ?_); rintro e w4 ⟨rfl, rfl⟩))
        go_ret
        exact ⟨rfl, C4.out.l.b⟩
end Go.Proofs.Ytdfllobdefodfaa
