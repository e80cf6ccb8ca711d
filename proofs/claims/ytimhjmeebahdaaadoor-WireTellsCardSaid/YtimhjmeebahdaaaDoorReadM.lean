/- Texts there and back; the first, the last of bytes that a slice reads as. -/
import Derived.Test.YtimhjmeebahdaaaDoorRead
import Derived.Test.YtimhjmeebahdaaaDoorText
import Derived.Test.YtimhjmeebahdaaaDoorDigMath
namespace Go.Proofs.YtimhjmeebahdaaaDoor
set_option linter.unusedVariables false
set_option linter.unusedSimpArgs false
open Go.RowKit

theorem read_back (s l : List UInt8) (h : s.length ≤ 255) : readS ((UInt8.ofNat s.length :: s) ++ l) = some s := by
  have e : (UInt8.ofNat s.length).toNat = s.length := u8_ofNat _ (by omega)
  simp [readS, e]
theorem read_cut (s : List UInt8) (h : s.length ≤ 255) : readS ((UInt8.ofNat s.length :: s).take s.length) = none := by
  have e : (UInt8.ofNat s.length).toNat = s.length := u8_ofNat _ (by omega)
  cases hs : s.length with
  | zero => simp [readS]
  | succ k =>
    rw [hs] at e
    simp only [List.take_succ_cons, readS, e]
    rw [if_neg (by simp; omega)]

/-- Of bytes that a slice reads as, the first few. -/
theorem Rb.take {w : World} {B : Nat} {A : Option Addr} {l : List UInt8} (h : Rb w B A l) (k : Nat) : Rb w B A (l.take k) := by
  rcases h with h | ⟨b, o, e, hb, hc⟩
  · left; rw [h]; simp
  · right
    refine ⟨b, o, e, hb, fun i hi => ?_⟩
    have hi' : i < l.length := by rw [List.length_take] at hi; omega
    rw [hc i hi', List.getElem_take]
theorem Rb.drop {w : World} {B g k : Nat} {l : List UInt8} (h : Rb w B (some ⟨g, 0, none⟩) l) : Rb w B (some ⟨g, k, none⟩) (l.drop k) := by
  rcases h with h | ⟨b, o, e, hb, hc⟩
  · left; rw [h]; simp
  · injection e with e
    injection e with e1 e2
    subst e1; subst e2
    refine .inr ⟨g, k, rfl, hb, fun i hi => ?_⟩
    have hi' : k + i < l.length := by rw [List.length_drop] at hi; omega
    have := hc (k + i) hi'
    rw [Nat.zero_add] at this
    rw [this, List.getElem_drop]

end Go.Proofs.YtimhjmeebahdaaaDoor
