/- Blocks of a row of bytes: what a part of it has for words. Nothing of the program is named here. -/
import Derived.Test.YtoekdiefbpnekaaDoorState
namespace Go.Proofs.YtoekdiefbpnekaaDoor
set_option linter.unusedVariables false
set_option linter.unusedSimpArgs false
open Go.RowKit

theorem byteAt_part (l : List UInt8) (p j : Nat) (h : j < 64) : byteAt ((l.drop p).take 64) j = byteAt l (p + j) := by
  unfold byteAt
  rw [List.getD, List.getD, List.getElem?_take_of_lt h, List.getElem?_drop]
theorem words16_part (l : List UInt8) (p : Nat) : words16 ((l.drop p).take 64) 0 = words16 l p := by
  unfold words16
  apply List.map_congr_left
  intro i hi
  have hi' : i < 16 := List.mem_range.1 hi
  unfold wordAt
  rw [byteAt_part l p _ (by omega), byteAt_part l p _ (by omega), byteAt_part l p _ (by omega), byteAt_part l p _ (by omega)]
  rw [show p + (0 + 4 * i) = p + 4 * i by omega, show p + (0 + 4 * i + 1) = p + 4 * i + 1 by omega, show p + (0 + 4 * i + 2) = p + 4 * i + 2 by omega, show p + (0 + 4 * i + 3) = p + 4 * i + 3 by omega]
theorem byteAt_left (l r : List UInt8) (j : Nat) (h : j < l.length) : byteAt (l ++ r) j = byteAt l j := by
  unfold byteAt; rw [List.getD, List.getD, List.getElem?_append_left h]
theorem byteAt_right (l r : List UInt8) (j : Nat) : byteAt (l ++ r) (l.length + j) = byteAt r j := by
  unfold byteAt; rw [List.getD, List.getD, List.getElem?_append_right (by omega), Nat.add_sub_cancel_left]
theorem words16_left (l r : List UInt8) (p : Nat) (h : p + 64 ≤ l.length) : words16 (l ++ r) p = words16 l p := by
  unfold words16
  apply List.map_congr_left
  intro i hi
  have hi' : i < 16 := List.mem_range.1 hi
  unfold wordAt
  rw [byteAt_left l r _ (by omega), byteAt_left l r _ (by omega), byteAt_left l r _ (by omega), byteAt_left l r _ (by omega)]
theorem words16_right (l r : List UInt8) (p : Nat) : words16 (l ++ r) (l.length + p) = words16 r p := by
  unfold words16
  apply List.map_congr_left
  intro i hi
  unfold wordAt
  rw [show l.length + p + 4 * i = l.length + (p + 4 * i) by omega, show l.length + (p + 4 * i) + 1 = l.length + (p + 4 * i + 1) by omega, show l.length + (p + 4 * i) + 2 = l.length + (p + 4 * i + 2) by omega, show l.length + (p + 4 * i) + 3 = l.length + (p + 4 * i + 3) by omega]
  rw [byteAt_right, byteAt_right, byteAt_right, byteAt_right]
theorem thr_left (s : St) (l r : List UInt8) : ∀ n, 64 * n ≤ l.length → thr s (l ++ r) n = thr s l n
  | 0, _ => by rw [thr, thr]
  | n + 1, h => by rw [thr, thr, thr_left s l r n (by omega), words16_left l r _ (by omega)]
theorem thr_app (s : St) (l r : List UInt8) (m : Nat) (hl : l.length = 64 * m) : ∀ n, thr s (l ++ r) (m + n) = thr (thr s l m) r n
  | 0 => by rw [Nat.add_zero, thr_left s l r m (by omega), thr]
  | n + 1 => by
    rw [← Nat.add_assoc, thr, thr_app s l r m hl n, thr]
    have e : 64 * (m + n) = l.length + 64 * n := by omega
    rw [e, words16_right]
/-- Of bytes that a slice reads as, 64 from p on. -/
theorem Rb.part {w : World} {B b o p : Nat} {l : List UInt8} (h : Rb w B (some ⟨b, o, none⟩) l) : Rb w B (some ⟨b, o + p, none⟩) ((l.drop p).take 64) := by
  rcases h with h | ⟨b', o', e, hb, hc⟩
  · left; rw [h]; simp
  · injection e with e
    injection e with e1 e2
    subst e1; subst e2
    refine .inr ⟨b, o + p, rfl, hb, fun i hi => ?_⟩
    have hi1 : i < 64 ∧ p + i < l.length := by rw [List.length_take, List.length_drop] at hi; omega
    have := hc (p + i) hi1.2
    rw [← Nat.add_assoc] at this
    rw [this, List.getElem_take, List.getElem_drop]
end Go.Proofs.YtoekdiefbpnekaaDoor
