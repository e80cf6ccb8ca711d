/- The head of ring's laws: its live question is always answered yes. -/
import Derived.Test.YtpomeimjgbblmaaRing3
namespace Go.Proofs.Ytpomeimjgbblmaa
set_option linter.unusedVariables false
set_option maxRecDepth 100000
set_option linter.unusedSimpArgs false
open Go.RowKit

/-- New, its blocks being letters. -/
theorem new_at (x : Int) (u : World) :
    Calls Try.prog 30 #[.int .i64 x] u fun e u' => ∃ r g, e = .returned (.pointer (some ⟨r, 0, none⟩)) ∧ Rg u' r g (mostM x) [] ∧ Ke [] u u' ∧ u.heap.size ≤ r ∧ u.heap.size ≤ g :=
  (new_ok x u).mono fun e u' ⟨h1, h2, h3⟩ => ⟨_, _, h1, h2, h3, by omega, by omega⟩
/-- A row of bytes that was just laid, at a block that is none of the ring's. -/
theorem lit_far {u : World} {r g : Nat} {t : TypeId} {l : List UInt8} {fr : Nat × Nat} (hr : r < u.heap.size) (hg : g < u.heap.size) : Rf (u.alloc (.cells (bcells l) t fr)) [r, g] (some ⟨u.heap.size, 0, none⟩) l :=
  .inr ⟨u.heap.size, 0, rfl, by simp; omega, by rw [World.size_alloc]; omega, fun i hi => by rw [cell_of_row _ _ _ _ t fr (heap_alloc_new u _), Nat.zero_add, bcells_at l i hi]⟩
theorem Ke.one (L : List Nat) (u : World) (o : Obj) : Ke L u (u.alloc o) := (Ke.refl L u).alloc o

end Go.Proofs.Ytpomeimjgbblmaa
