/- Two rings of the law's own, none of whose blocks is the other one's. -/
import Derived.Test.YtpomeimjgbblmaaRgLaw
namespace Go.Proofs.Ytpomeimjgbblmaa
set_option linter.unusedVariables false
set_option maxRecDepth 100000
set_option linter.unusedSimpArgs false
open Go.RowKit

theorem Rw.keep {W u u' : World} {r g m : Nat} {q : List UInt8} {L : List Nat} (h : Rw W u r g m q) (k : Ke L u u') (hr : r ∉ L) (hg : g ∉ L) (hb : Below W.heap.size W u') : Rw W u' r g m q := ⟨h.rg.ke k hr hg, hb, h.lr, h.lg⟩

/-- Rings at r, g and at r', g'. -/
structure Two (W u : World) (r g r' g' m : Nat) (q q' : List UInt8) : Prop where
  a : Rw W u r g m q
  b : Rw W u r' g' m q'
  d : r ≠ r' ∧ r ≠ g' ∧ g ≠ r' ∧ g ≠ g'
theorem Two.ke {W u u' : World} {r g r' g' m : Nat} {q q' : List UInt8} (h : Two W u r g r' g' m q q') (k : Ke [] u u') : Two W u' r g r' g' m q q' := ⟨h.a.ke k, h.b.ke k, h.d⟩
theorem Two.first {W u u' : World} {r g r' g' m : Nat} {q q' p : List UInt8} {L : List Nat} (h : Two W u r g r' g' m q q') (k : Ke L u u') (hL : ∀ x ∈ L, x = r ∨ x = g) (hp : Rw W u' r g m p) : Two W u' r g r' g' m p q' :=
  ⟨hp, h.b.keep k (fun hx => by rcases hL _ hx with e | e; exact h.d.1 e.symm; exact h.d.2.2.1 e.symm) (fun hx => by rcases hL _ hx with e | e; exact h.d.2.1 e.symm; exact h.d.2.2.2 e.symm) hp.b, h.d⟩
theorem Two.second {W u u' : World} {r g r' g' m : Nat} {q q' p : List UInt8} {L : List Nat} (h : Two W u r g r' g' m q q') (k : Ke L u u') (hL : ∀ x ∈ L, x = r' ∨ x = g') (hp : Rw W u' r' g' m p) : Two W u' r g r' g' m q p :=
  ⟨h.a.keep k (fun hx => by rcases hL _ hx with e | e; exact h.d.1 e; exact h.d.2.1 e) (fun hx => by rcases hL _ hx with e | e; exact h.d.2.2.1 e; exact h.d.2.2.2 e) hp.b, hp, h.d⟩
theorem Two.of {W u u' : World} {r g r' g' m : Nat} {q q' : List UInt8} (h : Rw W u r g m q) (k : Ke [] u u') (hp : Rg u' r' g' m q') (hr : u.heap.size ≤ r') (hg : u.heap.size ≤ g') : Two W u' r g r' g' m q q' := by
  have h1 := h.rg.lt
  have h2 := h.b.size
  have h3 := h.ke k
  exact ⟨h3, ⟨hp, h3.b, by omega, by omega⟩, by omega, by omega, by omega, by omega⟩
theorem Rb.byteR {w : World} {B : Nat} {A : Option Addr} {l : List UInt8} (h : Rb w B A l) (i : Nat) (hi : i < l.length) : ∃ b o, A = some ⟨b, o, none⟩ ∧ b < B ∧ w.cell? ⟨b, o + i, none⟩ = some (.int .u8 ((l[i]).toNat : Int)) := by
  rcases h with h0 | ⟨b, o, e, hb, hc⟩
  · subst h0; simp at hi
  · exact ⟨b, o, e, hb, hc i hi⟩
/-- What comes of a piece. -/
theorem piece_add (l : List UInt8) (at_ m M : Nat) (h : at_ + m ≤ l.length) : l.take (min at_ M) ++ ((l.drop at_).take m).take (M - min at_ M) = l.take (min (at_ + m) M) ∧ min m (M - min at_ M) + min at_ M = min (at_ + m) M := by
  refine ⟨?_, by omega⟩
  rcases Nat.lt_or_ge at_ M with h1 | h1
  · have e1 : min at_ M = at_ := by omega
    have e2 : min (at_ + m) M = at_ + min (M - at_) m := by omega
    rw [e1, e2, List.take_take, List.take_add]
  · have e1 : min at_ M = M := by omega
    have e2 : min (at_ + m) M = M := by omega
    rw [e1, e2, Nat.sub_self, List.take_zero, List.append_nil]
end Go.Proofs.Ytpomeimjgbblmaa
