/- great, of frame's laws: is it too much? -/
import Derived.Test.YtcmcmbgdakcmmaaFrOpen
import Derived.Test.YtcmcmbgdakcmmaaFrLib2
namespace Go.Proofs.Ytcmcmbgdakcmmaa
set_option linter.unusedVariables false
set_option linter.unusedSimpArgs false
open Go.RowKit

/-- How many bytes, each row counted up to 20000. -/
def capS : List (List UInt8) → Nat
  | [] => 0
  | x :: L => min x.length 20000 + capS L
theorem capS_snoc (L : List (List UInt8)) (x : List UInt8) : capS (L ++ [x]) = capS L + min x.length 20000 := by
  induction L with
  | nil => show min x.length 20000 + 0 = 0 + _; omega
  | cons y L ih => show min y.length 20000 + capS (L ++ [x]) = min y.length 20000 + capS L + _; rw [ih]; omega
theorem capS_take (L : List (List UInt8)) (i : Nat) (h : i < L.length) : capS (L.take (i + 1)) = capS (L.take i) + min L[i].length 20000 := by
  rw [List.take_add_one, List.getElem?_eq_getElem h, Option.toList_some, capS_snoc]

set_option maxRecDepth 100000 in
set_option maxHeartbeats 4000000 in
theorem fgreat_ok (A : Option Addr) (n c : Nat) (L : List (List UInt8)) (B : Nat) (w : World) (hl : L.length = n) (hc : n ≤ c) (hmax : c ≤ 9223372036854775807) (hR : Rl w B A L) :
    Calls Try.prog 17 #[.slice A n c] w fun e w' => ∃ v : Bool, e = .returned (.bool v) ∧ (v = false → n + capS L < 20000) ∧ Below w.heap.size w w' := by
  have HL := Lib.hid hl
  have HR := Lib.hid hR
  clear hl hR
  go_enter Try.func17, Try.ntmps17
  go_wp2_with fail
  go_loopw [3, 4] (fun v3 v4 wr => ∃ i s : Nat, i ≤ n ∧ v4 = .int .i64 (i : Int) ∧ v3 = .int .i64 (s : Int) ∧ (i = 0 ∧ s = n ∨ s ≤ 40000) ∧ Hid (s = n + capS (L.take i)) ∧ Hid (Below w.heap.size w wr)) (fun _ v4 _ => n - (intOf v4).toNat)
  case atStart => exact ⟨0, n, by omega, rfl, rfl, .inl ⟨rfl, rfl⟩, Lib.hid (by rw [List.take_zero]; rfl), Lib.hid (Below.refl _ _)⟩
  case round =>
    obtain ⟨i, s, hi, rfl, rfl, hs, HS, HB⟩ := hrel
    by_cases hi1 : i < n
    · have hi2 : (i : Int) < (n : Int) := by omega
      have hi5 : decide (i < n) = true := decide_eq_true hi1
      by_cases hs1 : s < 20000
      · have hs2 : (s : Int) < 20000 := by omega
        have hiL : i < L.length := by rw [HL.out]; exact hi1
        obtain ⟨b1, o1, X1, y1, rfl, hb1, hc1, he1⟩ := (HR.out.below HB.out).at_ i hiL
        have HT := Lib.hid (capS_take L i hiL)
        obtain ⟨x, hx⟩ : ∃ x, L[i].length = x := ⟨_, rfl⟩
        rw [hx] at hc1 HT
        have hxy : x ≤ 9223372036854775807 := by have h1 := he1.cap; have h2 := he1.max; rw [hx] at h1; omega
        obtain ⟨q, hq⟩ : ∃ q, min x 20000 = q := ⟨_, rfl⟩
        rw [hq] at HT
        have hmin : min (x : Int) 20000 = (q : Int) := by omega
        have hq2 : q ≤ 20000 := by omega
        clear hq he1 hx hiL hs
        go_wp2_with fail
        go_roundw
        case rel => exact ⟨i + 1, s + q, by omega, by go_num, by go_num, .inr (by omega), Lib.hid (by rw [HT.out, HS.out]; omega), HB⟩
        case measure => simp [intOf]; omega
      · have hs2 : decide ((s : Int) < 20000) = false := decide_eq_false (by omega)
        have hs3 : decide ((20000 : Int) ≤ (s : Int)) = true := decide_eq_true (by omega)
        have hs4 : (20000 : Int) ≤ (s : Int) := by omega
        go_wp2_with fail
        go_ret
        exact ⟨true, rfl, fun h => (by cases h), HB.out⟩
    · have hi2 : decide ((i : Int) < (n : Int)) = false := decide_eq_false (by omega)
      have hi5 : decide (i < n) = false := decide_eq_false hi1
      have HT := Lib.hid (show L.take i = L by rw [List.take_of_length_le]; rw [HL.out]; omega)
      obtain ⟨v, hv⟩ : ∃ v, decide ((20000 : Int) ≤ (s : Int)) = v := ⟨_, rfl⟩
      have HV := Lib.hid (show v = false → s < 20000 from fun h => by rw [← hv] at h; have := of_decide_eq_false h; omega)
      go_wp2_with fail
      go_ret
      refine ⟨v, ?_, fun h => ?_, HB.out⟩
      · rw [← hv]; rfl
      · have := HV.out h
        have h2 := HS.out
        rw [HT.out] at h2
        omega
end Go.Proofs.Ytcmcmbgdakcmmaa
