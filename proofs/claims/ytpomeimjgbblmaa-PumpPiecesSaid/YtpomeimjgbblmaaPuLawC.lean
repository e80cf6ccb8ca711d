/- PumpPieces: bytes that come in pieces go out as those that come at once: the walk. (Written by gen_pupieces.py.) -/
import Derived.Test.YtpomeimjgbblmaaPuQ
import Derived.Test.YtpomeimjgbblmaaRgTwo
import Derived.Test.YtpomeimjgbblmaaCat
namespace Go.Proofs.Ytpomeimjgbblmaa
set_option linter.unusedVariables false
set_option maxRecDepth 100000
set_option linter.unusedSimpArgs false
open Go.RowKit

theorem pc_in {M : Nat} {q B : List UInt8} {to : Bool} {mv : Int} {b : Wy} (h : q.length + B.length ≤ M) : inP M ⟨⟨q, false, to, mv⟩, b, false⟩ 0 B = (B.length, ⟨⟨q ++ B, false, to, mv⟩, b, false⟩) := by
  show (min B.length (M - q.length), (⟨⟨q ++ B.take (M - q.length), false, to, mv⟩, b, false⟩ : Pu)) = _
  rw [Nat.min_eq_left (by omega), List.take_of_length_le (by omega)]
abbrev qk (l : List UInt8) : Pu := ⟨⟨l, false, false, 0⟩, wy0, false⟩
abbrev qe (l : List UInt8) (to : Bool) (n : Nat) : Pu := ⟨⟨l, true, to, (n : Int)⟩, wy0, false⟩
theorem gu_qk {M : Nat} {l : List UInt8} (h : l.length ≤ M) : Gu M (qk l) := ⟨⟨h, fun hh => by cases hh⟩, ⟨by simp, fun hh => by cases hh⟩⟩
theorem gu_qe {M n : Nat} {l : List UInt8} {to : Bool} (h : l.length ≤ M) (h2 : to = true → l = []) : Gu M (qe l to n) := ⟨⟨h, fun hh => ⟨rfl, h2 hh⟩⟩, ⟨by simp, fun hh => by cases hh⟩⟩
theorem fu_qe {n : Nat} {l : List UInt8} {to : Bool} (h : n ≤ 100000) : Fu (qe l to n) := ⟨⟨by show (0 : Int) ≤ (n : Int); omega, by show (n : Int) ≤ _; omega⟩, ⟨by show (0 : Int) ≤ 0; decide, by show (0 : Int) ≤ _; decide⟩⟩
theorem pc_out {l : List UInt8} {to : Bool} {n T N : Nat} {x : Int} {e : Bool} (hT : takeM x l.length = T) (hN : n + T = N) (he : enO ⟨l, true, to, (n : Int)⟩ T = e) : outP (qe l to n) 1 x = ((l.take T, e), qe (l.drop T) (to || e) N) := by
  subst hT; subst hN; subst he
  show ((_, _), _) = _
  rfl
structure PcO (l out rest : List UInt8) (to : Bool) (en i m : Nat) : Prop where
  cat : out ++ rest = l
  told : to = true → rest = []
  en : en = (if to = true then 1 else 0)
  last : i = m → to = true
set_option maxRecDepth 100000 in
set_option maxHeartbeats 16000000 in
theorem walk_PumpPieces (M : Nat) (A : Option Addr) (l : List UInt8) (n c : Nat) (A1 : Option Addr) (l1 : List UInt8) (n1 c1 : Nat) (A2 : Option Addr) (l2 : List UInt8) (n2 c2 : Nat) (W : World) (hM : M ≤ 255) (w0 : InB W A l n c) (w1 : InB W A1 l1 n1 c1) (w2 : InB W A2 l2 n2 c2) :
    Calls Try.prog 8 #[.int .u8 (M : Int), .slice A n c, .slice A1 n1 c1, .slice A2 n2 c2] W fun e w' => e = .returned (.bool true) ∧ Below W.heap.size W w' := by
  have hcn := w0.cap
  have hmx := w0.max
  have hcm : c ≤ 9223372036854775807 := by unfold maxLen at hmx; omega
  have HN := Lib.hid w0.nil_
  have HL := Lib.hid w0.len
  have HL1 := Lib.hid w1.len
  have HL2 := Lib.hid w2.len
  have HR := Lib.hid (And.intro w0.rb (And.intro w1.rb w2.rb))
  have hb1 : n1 ≤ 9223372036854775807 := by have h1 := w1.cap; have h2 := w1.max; unfold maxLen at h2; omega
  have hb2 : n2 ≤ 9223372036854775807 := by have h1 := w2.cap; have h2 := w2.max; unfold maxLen at h2; omega
  have hwM : IntKind.i64.wrap (M : Int) = (M : Int) := by rw [IntKind.wrap_i64]; omega
  have hm6 : M ≤ 65536 := by omega
  have HMM := Lib.hid (mostM_nat M hm6)
  clear w0 w1 w2 hmx
  go_enter Try.func8, Try.ntmps8
  go_upto_region 2 with (go_at_call 10; (with_reducible refine (puhead_ok _).mono ?_); rintro e u1 ⟨rfl, hb⟩; have HB1 := Lib.hid hb; clear hb)
  go_upto_region 3 with (go_at_call 11; (with_reducible refine (y_new (M : Int) M HMM.out HB1.out).mono ?_); rintro e u2 ⟨G2, pb, rfl, h1, h2, h3⟩; have HZ2 := Lib.hid h1; clear h1 h2 h3)
  go_upto_region 4 with (go_at_call 11; (with_reducible refine (y_new (M : Int) M HMM.out HZ2.out.l).mono ?_); rintro e u3 ⟨K3, qb, rfl, h1, h2, h3⟩; have HV3 := Lib.hid (show Vq W u3 G2 pb pu0 K3 qb pu0 M from ⟨HZ2.out.on h2, h1, fun y hy hH => absurd (HZ2.out.hi y hy) (Nat.not_lt.2 (h3 y hH))⟩); clear h1 h2 h3)
  by_cases hg : M < n
  · have hg2 : (M : Int) < (n : Int) := by omega
    have hg3 : decide ((M : Int) < (n : Int)) = true := decide_eq_true hg2
    have hg4 : decide (M < n) = true := decide_eq_true hg
    go_wp2_with fail
    go_ret
    exact ⟨rfl, HV3.out.z.l⟩
  have hg2 : decide ((M : Int) < (n : Int)) = false := decide_eq_false (by omega)
  have hg2b : decide (M < n) = false := decide_eq_false hg
  have hnM : n ≤ M := by omega
  by_cases hq : 300 < n1
  · have hg3 : (300 : Int) < (n1 : Int) := by omega
    have hg4 : decide ((300 : Int) < (n1 : Int)) = true := decide_eq_true hg3
    go_wp2_with fail
    go_ret
    exact ⟨rfl, HV3.out.z.l⟩
  have hg3 : decide ((300 : Int) < (n1 : Int)) = false := decide_eq_false (by omega)
  have hn1 : n1 ≤ 300 := by omega
  clear hq
  by_cases hq : 300 < n2
  · have hg4 : (300 : Int) < (n2 : Int) := by omega
    have hg5 : decide ((300 : Int) < (n2 : Int)) = true := decide_eq_true hg4
    go_wp2_with fail
    go_ret
    exact ⟨rfl, HV3.out.z.l⟩
  have hg4 : decide ((300 : Int) < (n2 : Int)) = false := decide_eq_false (by omega)
  have hn2 : n2 ≤ 300 := by omega
  clear hq
  have HP1 := Lib.hid (show inP M pu0 0 l = (n, qk l) by have h := pc_in (M := M) (q := []) (B := l) (to := false) (mv := 0) (b := wy0) (by rw [HL.out]; simp; omega); rw [HL.out] at h; exact h)
  have HP2 := Lib.hid (show endP (qk l) 0 = (true, qe l false 0) from rfl)
  have HP3 := Lib.hid (show outP (qe l false 0) 1 (n : Int) = ((l, true), qe [] true n) by
    have h := pc_out (l := l) (to := false) (n := 0) (T := n) (N := n) (x := (n : Int)) (e := true) (by rw [HL.out]; unfold takeM; omega) (by omega) (by unfold enO; rw [HL.out]; simp)
    rw [List.take_of_length_le (by rw [HL.out]; exact Nat.le_refl _), List.drop_eq_nil_of_le (by rw [HL.out]; exact Nat.le_refl _)] at h
    exact h)
  have HRW := Lib.hid (fun v (hv : Below W.heap.size W v) => HR.out.1.below hv (Nat.le_refl _))
  go_upto_region 7 with (go_at_call 20; (with_reducible refine (y_in HV3.out.z (gu_new M) hm6 0 A n c l HL.out hcn hcm HN.out ((HRW.out _ HV3.out.z.l).rf HV3.out.z.lo) n (qk l) HP1.out).mono ?_); rintro e u4 ⟨G4, rfl, h1, h2⟩; have HV4 := Lib.hid (HV3.out.left h2 h1); clear h1 h2)
  clear hg2 hg2b hg3 hg4 hg
  go_upto_region 8 with (go_at_call 16; (with_reducible refine (y_end HV4.out.z 0 true (qe l false 0) HP2.out).mono ?_); rintro e u5 ⟨G5, rfl, h1, h2⟩; have HV5 := Lib.hid (HV4.out.left h2 h1); clear h1 h2)
  go_upto_region 9 with (go_at_call 14; (with_reducible refine (y_out HV5.out.z (gu_qe (by rw [HL.out]; exact hnM) (fun h => by cases h)) hm6 (fu_qe (by omega)) 1 (n : Int) n l true (qe [] true n) HP3.out HL.out).mono ?_); rintro e u6 ⟨G, A4, c4, rfl, h0, h1, h2⟩; have HV6 := Lib.hid (HV5.out.left h2 h1); have HX6 := Lib.hid (h0.rf (G := G ++ K3) (fun y hy => by rcases List.mem_append.1 hy with e | e; exact .inl e; exact .inr (HV5.out.y.hi y e))); clear h0 h1 h2)
  go_wp2_with fail
  go_loopw [15, 16] (fun v15 v16 wr => ∃ (i k : Nat) (K : List Nat), i ≤ n1 + 1 ∧ k ≤ n ∧ v15 = .int .i64 (k : Int) ∧ v16 = .int .i64 (i : Int) ∧ Hid (i = n1 + 1 → k = n) ∧ Hid (Vq W wr G pb (qe [] true n) K qb (qk (l.take k)) M) ∧ Hid (Rf wr (G ++ K) A4 l)) (fun _ v16 _ => n1 + 1 - (intOf v16).toNat)
  case atStart => exact ⟨0, 0, K3, by omega, by omega, rfl, rfl, Lib.hid (fun h => by omega), HV6, HX6⟩
  case round =>
    obtain ⟨i, k, K, hi, hk, rfl, rfl, HEND, HV, HX⟩ := hrel
    by_cases hi1 : i ≤ n1
    · have hi2 : (i : Int) ≤ (n1 : Int) := by omega
      obtain ⟨t, ht⟩ : ∃ t, t = n - k := ⟨_, rfl⟩
      have htk : k + t = n := by omega
      obtain ⟨y1, y2⟩ := iwrap ((n : Int) - (k : Int)) t (by omega) (by omega)
      have ht9 : t ≤ 255 := by omega
      clear ht
      by_cases hin : i < n1
      · have hi3 : (i : Int) < (n1 : Int) := by omega
        obtain ⟨b', o', rfl, _, cc⟩ := (HR.out.2.1.below HV.out.z.l (Nat.le_refl _)).byteR i (by rw [HL1.out]; exact hin)
        obtain ⟨u, hu⟩ : ∃ u, (l1[i]'(by rw [HL1.out]; exact hin)).toNat = u := ⟨_, rfl⟩
        rw [hu] at cc
        have hu9 : u ≤ 255 := by rw [← hu]; have := (l1[i]'(by rw [HL1.out]; exact hin)).toNat_lt; omega
        clear hu
        have hwu : IntKind.i64.wrap (u : Int) = (u : Int) := by rw [IntKind.wrap_i64]; omega
        obtain ⟨q, hq⟩ : ∃ q, min u t = q := ⟨_, rfl⟩
        have HMIN := Lib.hid (show min (u : Int) (t : Int) = (q : Int) by omega)
        have hkq : k + q ≤ n := by omega
        have HQE := Lib.hid (show i + 1 = n1 + 1 → k + q = n by omega)
        obtain ⟨X, hX⟩ : ∃ X, (l.drop k).take q = X := ⟨_, rfl⟩
        have HXL := Lib.hid (show X.length = q by rw [← hX, List.length_take, List.length_drop, HL.out]; omega)
        have HIN := Lib.hid (show inP M (qk (l.take k)) 0 X = (q, qk (l.take (k + q))) by
          have h := pc_in (M := M) (q := l.take k) (B := X) (to := false) (mv := 0) (b := wy0) (by rw [HXL.out, List.length_take, HL.out]; omega)
          rw [HXL.out, ← hX, ← List.take_add] at h
          rw [← hX]
          exact h)
        have hxr : ∀ v, Below W.heap.size W v → Rb v W.heap.size (tailA A c k) X := fun v hv => by rw [← hX]; exact ((HRW.out v hv).tail k (by rw [HL.out]; exact hcn)).front q
        have hsm := fun u => slice_mid A n c k q hkq hcn u
        have hnn : tailA A c k = none → q = 0 ∧ c - k = 0 := fun e => by have := HN.out (tailA_none A c k e); omega
        obtain ⟨TA, hTA⟩ : ∃ TA, tailA A c k = TA := ⟨_, rfl⟩
        rw [hTA] at hxr hsm hnn
        have HXR := Lib.hid hxr
        have HSM := Lib.hid hsm
        have HNN := Lib.hid hnn
        have hqc : q ≤ c - k := by omega
        have hcc : c - k ≤ 9223372036854775807 := by omega
        have hqq : ((q : Int) != (q : Int)) = false := by simp
        clear hxr hsm hTA hX hnn
        go_wp2_with (first
          | (refine wpList_min rfl (.tmp 93) (.tmp 94) 3 rfl _ _ _ rfl rfl HMIN.out ?_)
          | ((with_reducible refine wpList_here ?_); refine wpList_two rfl 29 (.tmp 97) (.tmp 98) (.tmp 101) rfl _ _ _ _ rfl rfl rfl (HSM.out _) ?_)
          | (go_at_call 20; (with_reducible refine (y_in HV.out.y (gu_qk (by rw [List.length_take, HL.out]; omega)) hm6 0 TA q (c - k) X HXL.out hqc hcc HNN.out ((HXR.out _ HV.out.y.l).rf HV.out.y.lo) q (qk (l.take (k + q))) HIN.out).mono ?_); rintro e u7 ⟨K7, rfl, h1, h2⟩; have HV7 := Lib.hid (HV.out.right h2 h1); have HX7 := Lib.hid (HX.out.step (h2.right G)); clear h1 h2))
        go_roundw
        case rel => exact ⟨i + 1, k + q, K7, by omega, hkq, by go_num, by go_num, HQE, HV7, HX7⟩
        case measure => simp [intOf]; omega
      · have hi3 : ¬ (i : Int) < (n1 : Int) := by omega
        obtain ⟨q, hq⟩ : ∃ q, q = t := ⟨_, rfl⟩
        subst hq
        have hkq : k + q ≤ n := by omega
        have HQE := Lib.hid (show i + 1 = n1 + 1 → k + q = n by omega)
        obtain ⟨X, hX⟩ : ∃ X, (l.drop k).take q = X := ⟨_, rfl⟩
        have HXL := Lib.hid (show X.length = q by rw [← hX, List.length_take, List.length_drop, HL.out]; omega)
        have HIN := Lib.hid (show inP M (qk (l.take k)) 0 X = (q, qk (l.take (k + q))) by
          have h := pc_in (M := M) (q := l.take k) (B := X) (to := false) (mv := 0) (b := wy0) (by rw [HXL.out, List.length_take, HL.out]; omega)
          rw [HXL.out, ← hX, ← List.take_add] at h
          rw [← hX]
          exact h)
        have hxr : ∀ v, Below W.heap.size W v → Rb v W.heap.size (tailA A c k) X := fun v hv => by rw [← hX]; exact ((HRW.out v hv).tail k (by rw [HL.out]; exact hcn)).front q
        have hsm := fun u => slice_mid A n c k q hkq hcn u
        have hnn : tailA A c k = none → q = 0 ∧ c - k = 0 := fun e => by have := HN.out (tailA_none A c k e); omega
        obtain ⟨TA, hTA⟩ : ∃ TA, tailA A c k = TA := ⟨_, rfl⟩
        rw [hTA] at hxr hsm hnn
        have HXR := Lib.hid hxr
        have HSM := Lib.hid hsm
        have HNN := Lib.hid hnn
        have hqc : q ≤ c - k := by omega
        have hcc : c - k ≤ 9223372036854775807 := by omega
        have hqq : ((q : Int) != (q : Int)) = false := by simp
        clear hxr hsm hTA hX hnn
        go_wp2_with (first
          | ((with_reducible refine wpList_here ?_); refine wpList_two rfl 29 (.tmp 97) (.tmp 98) (.tmp 101) rfl _ _ _ _ rfl rfl rfl (HSM.out _) ?_)
          | (go_at_call 20; (with_reducible refine (y_in HV.out.y (gu_qk (by rw [List.length_take, HL.out]; omega)) hm6 0 TA q (c - k) X HXL.out hqc hcc HNN.out ((HXR.out _ HV.out.y.l).rf HV.out.y.lo) q (qk (l.take (k + q))) HIN.out).mono ?_); rintro e u7 ⟨K7, rfl, h1, h2⟩; have HV7 := Lib.hid (HV.out.right h2 h1); have HX7 := Lib.hid (HX.out.step (h2.right G)); clear h1 h2))
        go_roundw
        case rel => exact ⟨i + 1, k + q, K7, by omega, hkq, by go_num, by go_num, HQE, HV7, HX7⟩
        case measure => simp [intOf]; omega
    · have hi2 : ¬ (i : Int) ≤ (n1 : Int) := by omega
      have hkn := HEND.out (by omega)
      rw [hkn, List.take_of_length_le (by rw [HL.out]; exact Nat.le_refl _)] at HV
      clear hkn HEND
      go_upto_region 20 with (go_at_call 16; (with_reducible refine (y_end HV.out.y 0 true (qe l false 0) HP2.out).mono ?_); rintro e u8 ⟨K8, rfl, h1, h2⟩; have HV8 := Lib.hid (HV.out.right h2 h1); have HX8 := Lib.hid (HX.out.step (h2.right G)); clear h1 h2)
      go_wp2_with fail
      go_loopw [18, 19, 20] (fun v18 v19 v20 w9 => ∃ (i en : Nat) (out rest : List UInt8) (to : Bool) (K : List Nat), i ≤ n2 + 1 ∧ v18 = .string (bs out) ∧ v19 = .int .i64 (en : Int) ∧ v20 = .int .i64 (i : Int) ∧ Hid (PcO l out rest to en i (n2 + 1)) ∧ Hid (Vq W w9 G pb (qe [] true n) K qb (qe rest to out.length) M) ∧ Hid (Rf w9 (G ++ K) A4 l)) (fun _ _ v20 _ => n2 + 1 - (intOf v20).toNat)
      case atStart => exact ⟨0, 0, [], l, false, K8, by omega, rfl, rfl, rfl, Lib.hid ⟨rfl, fun h => (by cases h), rfl, fun h => by omega⟩, HV8, HX8⟩
      case round =>
        obtain ⟨i, en, out, rest, to, K9, hi, rfl, rfl, rfl, HO, HV9, HX9⟩ := hrel
        have hlen : out.length + rest.length = n := by rw [← List.length_append, HO.out.cat, HL.out]
        by_cases hi1 : i ≤ n2
        · have hi3 : (i : Int) ≤ (n2 : Int) := by omega
          by_cases hin : i < n2
          · have hi4 : (i : Int) < (n2 : Int) := by omega
            obtain ⟨b', o', rfl, _, cc⟩ := (HR.out.2.2.below HV9.out.z.l (Nat.le_refl _)).byteR i (by rw [HL2.out]; exact hin)
            obtain ⟨u, hu⟩ : ∃ u, (l2[i]'(by rw [HL2.out]; exact hin)).toNat = u := ⟨_, rfl⟩
            rw [hu] at cc
            have hu9 : u ≤ 255 := by rw [← hu]; have := (l2[i]'(by rw [HL2.out]; exact hin)).toNat_lt; omega
            clear hu
            have hwu : IntKind.i64.wrap (u : Int) = (u : Int) := by rw [IntKind.wrap_i64]; omega
            obtain ⟨T, hT⟩ : ∃ T, takeM (u : Int) rest.length = T := ⟨_, rfl⟩
            have hTr : T ≤ rest.length := by rw [← hT]; exact takeM_le2 _ _
            obtain ⟨Y, hY⟩ : ∃ Y, rest.take T = Y := ⟨_, rfl⟩
            obtain ⟨D, hD⟩ : ∃ D, rest.drop T = D := ⟨_, rfl⟩
            have hYl : Y.length = T := by rw [← hY, List.length_take]; omega
            have hYD : Y ++ D = rest := by rw [← hY, ← hD, List.take_append_drop]
            have hlast : i = n2 → T = rest.length := fun hh => by omega
            cases to with
            | true =>
              have hrz : rest = [] := HO.out.told rfl
              have he : enO ⟨rest, true, true, (out.length : Int)⟩ T = false := by unfold enO; simp
              have HOU := Lib.hid (show outP (qe rest true out.length) 1 (u : Int) = ((Y, false), qe D true (out ++ Y).length) by have h := pc_out (l := rest) (to := true) (n := out.length) (T := T) (N := (out ++ Y).length) (x := (u : Int)) (e := false) hT (by rw [List.length_append, hYl]) he; rw [hY, hD] at h; exact h)
              have HT := Lib.hid (show Y.length = T ∧ out.length + Y.length ≤ 9223372036854775807 from ⟨hYl, by rw [hYl]; omega⟩)
              have HRS := Lib.hid (show rest.length ≤ M ∧ out.length ≤ 100000 from ⟨by omega, by omega⟩)
              have HTO := Lib.hid HO.out.told
              have HO2 := Lib.hid (show PcO l (out ++ Y) D true 1 (i + 1) (n2 + 1) from ⟨by rw [List.append_assoc, hYD]; exact HO.out.cat, fun _ => by rw [← hD]; exact List.drop_eq_nil_of_le (by rw [HO.out.told rfl]; simp), rfl, fun _ => rfl⟩)
              obtain rfl : en = 1 := HO.out.en
              clear hrz he hT hTr hY hD hYl hYD hlast hlen
              go_wp2_with (first
                | (go_at_call 14; (with_reducible refine (y_out HV9.out.y (gu_qe HRS.out.1 HTO.out) hm6 (fu_qe HRS.out.2) 1 (u : Int) T Y false _ HOU.out HT.out.1).mono ?_); rintro e u9 ⟨K5, A5, c5, rfl, h0, h1, h2⟩; have HVa := Lib.hid (HV9.out.right h2 h1); have HXa := Lib.hid (HX9.out.step (h2.right G)); have HYa := Lib.hid (h0.rf (G := K5) (fun y hy => .inl hy)); clear h0 h1 h2)
                | (refine wpList_conv (by kernel_rfl) 29 5 9 (.tmp 133) rfl _ T c5 Y rfl HT.out.1 HYa.out.rb Try.underlying29 Try.underlying5 Try.underlying9 ?_)
                | (refine wpList_cat (by kernel_rfl) (.tmp 132) (.tmp 134) 9 9 rfl out Y _ rfl rfl HT.out.2 rfl ?_))
              go_roundw
              case rel => exact ⟨i + 1, 1, out ++ Y, D, true, K5, by omega, rfl, by first | rfl | go_num, by go_num, HO2, HVa, HXa⟩
              case measure => simp [intOf]; omega
            | false =>
              by_cases hz : T = rest.length
              · skip
                have he : enO ⟨rest, true, false, (out.length : Int)⟩ T = true := by unfold enO; simp; omega
                have HOU := Lib.hid (show outP (qe rest false out.length) 1 (u : Int) = ((Y, true), qe D true (out ++ Y).length) by have h := pc_out (l := rest) (to := false) (n := out.length) (T := T) (N := (out ++ Y).length) (x := (u : Int)) (e := true) hT (by rw [List.length_append, hYl]) he; rw [hY, hD] at h; exact h)
                have HT := Lib.hid (show Y.length = T ∧ out.length + Y.length ≤ 9223372036854775807 from ⟨hYl, by rw [hYl]; omega⟩)
                have HRS := Lib.hid (show rest.length ≤ M ∧ out.length ≤ 100000 from ⟨by omega, by omega⟩)
                have HTO := Lib.hid HO.out.told
                have HO2 := Lib.hid (show PcO l (out ++ Y) D true 1 (i + 1) (n2 + 1) from ⟨by rw [List.append_assoc, hYD]; exact HO.out.cat, fun _ => by rw [← hD]; exact List.drop_eq_nil_of_le (by omega), rfl, fun _ => rfl⟩)
                obtain rfl : en = 0 := HO.out.en
                clear he hT hTr hY hD hYl hYD hlast hlen hz
                go_wp2_with (first
                  | (go_at_call 14; (with_reducible refine (y_out HV9.out.y (gu_qe HRS.out.1 HTO.out) hm6 (fu_qe HRS.out.2) 1 (u : Int) T Y true _ HOU.out HT.out.1).mono ?_); rintro e u9 ⟨K5, A5, c5, rfl, h0, h1, h2⟩; have HVa := Lib.hid (HV9.out.right h2 h1); have HXa := Lib.hid (HX9.out.step (h2.right G)); have HYa := Lib.hid (h0.rf (G := K5) (fun y hy => .inl hy)); clear h0 h1 h2)
                  | (refine wpList_conv (by kernel_rfl) 29 5 9 (.tmp 133) rfl _ T c5 Y rfl HT.out.1 HYa.out.rb Try.underlying29 Try.underlying5 Try.underlying9 ?_)
                  | (refine wpList_cat (by kernel_rfl) (.tmp 132) (.tmp 134) 9 9 rfl out Y _ rfl rfl HT.out.2 rfl ?_))
                go_roundw
                case rel => exact ⟨i + 1, 1, out ++ Y, D, true, K5, by omega, rfl, by first | rfl | go_num, by go_num, HO2, HVa, HXa⟩
                case measure => simp [intOf]; omega
              · skip
                have he : enO ⟨rest, true, false, (out.length : Int)⟩ T = false := by unfold enO; simp; omega
                have HOU := Lib.hid (show outP (qe rest false out.length) 1 (u : Int) = ((Y, false), qe D false (out ++ Y).length) by have h := pc_out (l := rest) (to := false) (n := out.length) (T := T) (N := (out ++ Y).length) (x := (u : Int)) (e := false) hT (by rw [List.length_append, hYl]) he; rw [hY, hD] at h; exact h)
                have HT := Lib.hid (show Y.length = T ∧ out.length + Y.length ≤ 9223372036854775807 from ⟨hYl, by rw [hYl]; omega⟩)
                have HRS := Lib.hid (show rest.length ≤ M ∧ out.length ≤ 100000 from ⟨by omega, by omega⟩)
                have HTO := Lib.hid HO.out.told
                have HO2 := Lib.hid (show PcO l (out ++ Y) D false 0 (i + 1) (n2 + 1) from ⟨by rw [List.append_assoc, hYD]; exact HO.out.cat, (fun h => by cases h), rfl, fun h => absurd (hlast (by omega)) hz⟩)
                obtain rfl : en = 0 := HO.out.en
                clear he hT hTr hY hD hYl hYD hlast hlen hz
                go_wp2_with (first
                  | (go_at_call 14; (with_reducible refine (y_out HV9.out.y (gu_qe HRS.out.1 HTO.out) hm6 (fu_qe HRS.out.2) 1 (u : Int) T Y false _ HOU.out HT.out.1).mono ?_); rintro e u9 ⟨K5, A5, c5, rfl, h0, h1, h2⟩; have HVa := Lib.hid (HV9.out.right h2 h1); have HXa := Lib.hid (HX9.out.step (h2.right G)); have HYa := Lib.hid (h0.rf (G := K5) (fun y hy => .inl hy)); clear h0 h1 h2)
                  | (refine wpList_conv (by kernel_rfl) 29 5 9 (.tmp 133) rfl _ T c5 Y rfl HT.out.1 HYa.out.rb Try.underlying29 Try.underlying5 Try.underlying9 ?_)
                  | (refine wpList_cat (by kernel_rfl) (.tmp 132) (.tmp 134) 9 9 rfl out Y _ rfl rfl HT.out.2 rfl ?_))
                go_roundw
                case rel => exact ⟨i + 1, 0, out ++ Y, D, false, K5, by omega, rfl, by first | rfl | go_num, by go_num, HO2, HVa, HXa⟩
                case measure => simp [intOf]; omega
          · have hi4 : ¬ (i : Int) < (n2 : Int) := by omega
            obtain ⟨T, hT⟩ : ∃ T, takeM 300 rest.length = T := ⟨_, rfl⟩
            have hTr : T ≤ rest.length := by rw [← hT]; exact takeM_le2 _ _
            obtain ⟨Y, hY⟩ : ∃ Y, rest.take T = Y := ⟨_, rfl⟩
            obtain ⟨D, hD⟩ : ∃ D, rest.drop T = D := ⟨_, rfl⟩
            have hYl : Y.length = T := by rw [← hY, List.length_take]; omega
            have hYD : Y ++ D = rest := by rw [← hY, ← hD, List.take_append_drop]
            have hlast : i = n2 → T = rest.length := fun hh => by rw [← hT]; unfold takeM; omega
            cases to with
            | true =>
              have hrz : rest = [] := HO.out.told rfl
              have he : enO ⟨rest, true, true, (out.length : Int)⟩ T = false := by unfold enO; simp
              have HOU := Lib.hid (show outP (qe rest true out.length) 1 300 = ((Y, false), qe D true (out ++ Y).length) by have h := pc_out (l := rest) (to := true) (n := out.length) (T := T) (N := (out ++ Y).length) (x := 300) (e := false) hT (by rw [List.length_append, hYl]) he; rw [hY, hD] at h; exact h)
              have HT := Lib.hid (show Y.length = T ∧ out.length + Y.length ≤ 9223372036854775807 from ⟨hYl, by rw [hYl]; omega⟩)
              have HRS := Lib.hid (show rest.length ≤ M ∧ out.length ≤ 100000 from ⟨by omega, by omega⟩)
              have HTO := Lib.hid HO.out.told
              have HO2 := Lib.hid (show PcO l (out ++ Y) D true 1 (i + 1) (n2 + 1) from ⟨by rw [List.append_assoc, hYD]; exact HO.out.cat, fun _ => by rw [← hD]; exact List.drop_eq_nil_of_le (by rw [HO.out.told rfl]; simp), rfl, fun _ => rfl⟩)
              obtain rfl : en = 1 := HO.out.en
              clear hrz he hT hTr hY hD hYl hYD hlast hlen
              go_wp2_with (first
                | (go_at_call 14; (with_reducible refine (y_out HV9.out.y (gu_qe HRS.out.1 HTO.out) hm6 (fu_qe HRS.out.2) 1 300 T Y false _ HOU.out HT.out.1).mono ?_); rintro e u9 ⟨K5, A5, c5, rfl, h0, h1, h2⟩; have HVa := Lib.hid (HV9.out.right h2 h1); have HXa := Lib.hid (HX9.out.step (h2.right G)); have HYa := Lib.hid (h0.rf (G := K5) (fun y hy => .inl hy)); clear h0 h1 h2)
                | (refine wpList_conv (by kernel_rfl) 29 5 9 (.tmp 133) rfl _ T c5 Y rfl HT.out.1 HYa.out.rb Try.underlying29 Try.underlying5 Try.underlying9 ?_)
                | (refine wpList_cat (by kernel_rfl) (.tmp 132) (.tmp 134) 9 9 rfl out Y _ rfl rfl HT.out.2 rfl ?_))
              go_roundw
              case rel => exact ⟨i + 1, 1, out ++ Y, D, true, K5, by omega, rfl, by first | rfl | go_num, by go_num, HO2, HVa, HXa⟩
              case measure => simp [intOf]; omega
            | false =>
              by_cases hz : T = rest.length
              · skip
                have he : enO ⟨rest, true, false, (out.length : Int)⟩ T = true := by unfold enO; simp; omega
                have HOU := Lib.hid (show outP (qe rest false out.length) 1 300 = ((Y, true), qe D true (out ++ Y).length) by have h := pc_out (l := rest) (to := false) (n := out.length) (T := T) (N := (out ++ Y).length) (x := 300) (e := true) hT (by rw [List.length_append, hYl]) he; rw [hY, hD] at h; exact h)
                have HT := Lib.hid (show Y.length = T ∧ out.length + Y.length ≤ 9223372036854775807 from ⟨hYl, by rw [hYl]; omega⟩)
                have HRS := Lib.hid (show rest.length ≤ M ∧ out.length ≤ 100000 from ⟨by omega, by omega⟩)
                have HTO := Lib.hid HO.out.told
                have HO2 := Lib.hid (show PcO l (out ++ Y) D true 1 (i + 1) (n2 + 1) from ⟨by rw [List.append_assoc, hYD]; exact HO.out.cat, fun _ => by rw [← hD]; exact List.drop_eq_nil_of_le (by omega), rfl, fun _ => rfl⟩)
                obtain rfl : en = 0 := HO.out.en
                clear he hT hTr hY hD hYl hYD hlast hlen hz
                go_wp2_with (first
                  | (go_at_call 14; (with_reducible refine (y_out HV9.out.y (gu_qe HRS.out.1 HTO.out) hm6 (fu_qe HRS.out.2) 1 300 T Y true _ HOU.out HT.out.1).mono ?_); rintro e u9 ⟨K5, A5, c5, rfl, h0, h1, h2⟩; have HVa := Lib.hid (HV9.out.right h2 h1); have HXa := Lib.hid (HX9.out.step (h2.right G)); have HYa := Lib.hid (h0.rf (G := K5) (fun y hy => .inl hy)); clear h0 h1 h2)
                  | (refine wpList_conv (by kernel_rfl) 29 5 9 (.tmp 133) rfl _ T c5 Y rfl HT.out.1 HYa.out.rb Try.underlying29 Try.underlying5 Try.underlying9 ?_)
                  | (refine wpList_cat (by kernel_rfl) (.tmp 132) (.tmp 134) 9 9 rfl out Y _ rfl rfl HT.out.2 rfl ?_))
                go_roundw
                case rel => exact ⟨i + 1, 1, out ++ Y, D, true, K5, by omega, rfl, by first | rfl | go_num, by go_num, HO2, HVa, HXa⟩
                case measure => simp [intOf]; omega
              · skip
                have he : enO ⟨rest, true, false, (out.length : Int)⟩ T = false := by unfold enO; simp; omega
                have HOU := Lib.hid (show outP (qe rest false out.length) 1 300 = ((Y, false), qe D false (out ++ Y).length) by have h := pc_out (l := rest) (to := false) (n := out.length) (T := T) (N := (out ++ Y).length) (x := 300) (e := false) hT (by rw [List.length_append, hYl]) he; rw [hY, hD] at h; exact h)
                have HT := Lib.hid (show Y.length = T ∧ out.length + Y.length ≤ 9223372036854775807 from ⟨hYl, by rw [hYl]; omega⟩)
                have HRS := Lib.hid (show rest.length ≤ M ∧ out.length ≤ 100000 from ⟨by omega, by omega⟩)
                have HTO := Lib.hid HO.out.told
                have HO2 := Lib.hid (show PcO l (out ++ Y) D false 0 (i + 1) (n2 + 1) from ⟨by rw [List.append_assoc, hYD]; exact HO.out.cat, (fun h => by cases h), rfl, fun h => absurd (hlast (by omega)) hz⟩)
                obtain rfl : en = 0 := HO.out.en
                clear he hT hTr hY hD hYl hYD hlast hlen hz
                go_wp2_with (first
                  | (go_at_call 14; (with_reducible refine (y_out HV9.out.y (gu_qe HRS.out.1 HTO.out) hm6 (fu_qe HRS.out.2) 1 300 T Y false _ HOU.out HT.out.1).mono ?_); rintro e u9 ⟨K5, A5, c5, rfl, h0, h1, h2⟩; have HVa := Lib.hid (HV9.out.right h2 h1); have HXa := Lib.hid (HX9.out.step (h2.right G)); have HYa := Lib.hid (h0.rf (G := K5) (fun y hy => .inl hy)); clear h0 h1 h2)
                  | (refine wpList_conv (by kernel_rfl) 29 5 9 (.tmp 133) rfl _ T c5 Y rfl HT.out.1 HYa.out.rb Try.underlying29 Try.underlying5 Try.underlying9 ?_)
                  | (refine wpList_cat (by kernel_rfl) (.tmp 132) (.tmp 134) 9 9 rfl out Y _ rfl rfl HT.out.2 rfl ?_))
                go_roundw
                case rel => exact ⟨i + 1, 0, out ++ Y, D, false, K5, by omega, rfl, by first | rfl | go_num, by go_num, HO2, HVa, HXa⟩
                case measure => simp [intOf]; omega
        · have hi3 : ¬ (i : Int) ≤ (n2 : Int) := by omega
          have hto := HO.out.last (by omega)
          subst hto
          have hrz := HO.out.told rfl
          subst hrz
          have hol : out = l := by rw [← HO.out.cat, List.append_nil]
          obtain rfl : en = 1 := HO.out.en
          have q4 := str_of (P := Try.prog) HX9.out.rb 29 5 9 Try.underlying29 Try.underlying5 Try.underlying9 n c4 HL.out
          have q5 := str_of (P := Try.prog) (HRW.out wr HV9.out.z.l) 29 5 9 Try.underlying29 Try.underlying5 Try.underlying9 n c HL.out
          have e8 : bs out = ⟨l.toArray⟩ := by rw [hol]; rfl
          rw [e8]
          obtain ⟨S, hS⟩ : ∃ S : ByteArray, (⟨l.toArray⟩ : ByteArray) = S := ⟨_, rfl⟩
          rw [hS] at q4 q5 ⊢
          have hxx : (S.toList == S.toList) = true := by simp
          have hnn : ((n : Int) == (n : Int)) = true := by simp
          clear hol hlen e8 hS
          go_wp2_with fail
          go_ret
          exact ⟨rfl, HV9.out.z.l⟩
end Go.Proofs.Ytpomeimjgbblmaa
