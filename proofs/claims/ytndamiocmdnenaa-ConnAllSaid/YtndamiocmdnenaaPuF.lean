/- Bytes that were just laid, away from some blocks; bounds of a pump's counts. Nothing of the program is named here. -/
import Derived.Test.YtndamiocmdnenaaPuM
import Derived.Test.YtndamiocmdnenaaSp
import Derived.Test.YtndamiocmdnenaaBytes
namespace Go.Proofs.Ytndamiocmdnenaa
set_option linter.unusedVariables false
set_option maxRecDepth 100000
set_option linter.unusedSimpArgs false
open Go.RowKit

/-- What went out is counted, up to a bound. -/
structure Fu (p : Pu) : Prop where
  a : 0 ≤ p.a.mv ∧ p.a.mv ≤ 1099511627776
  b : 0 ≤ p.b.mv ∧ p.b.mv ≤ 1099511627776
theorem Fu.w {p : Pu} (h : Fu p) (k : Bool) : 0 ≤ (p.w k).mv ∧ (p.w k).mv ≤ 1099511627776 := by cases k; exact h.a; exact h.b
/-- A slice of t bytes, l, in a block at B or behind it, away from H. -/
structure Fs (u : World) (B : Nat) (H : List Nat) (A : Option Addr) (t c : Nat) (l : List UInt8) : Prop where
  len : l.length = t
  cap : t ≤ c
  max : c ≤ 9223372036854775807
  nil_ : A = none → t = 0 ∧ c = 0
  rb : l = [] ∨ ∃ g o, A = some ⟨g, o, none⟩ ∧ B ≤ g ∧ g ∉ H ∧ g < u.heap.size ∧ ∀ i, (h : i < l.length) → u.cell? ⟨g, o + i, none⟩ = some (.int .u8 (l[i].toNat : Int))
theorem Fs.rf {u : World} {B : Nat} {H G : List Nat} {A : Option Addr} {t c : Nat} {l : List UInt8} (h : Fs u B H A t c l) (hG : ∀ y ∈ G, y ∈ H ∨ y < B) : Rf u G A l := by
  rcases h.rb with h0 | ⟨g, o, e, h1, h2, h3, h4⟩
  · exact .inl h0
  · exact .inr ⟨g, o, e, fun hm => by
      rcases hG g hm with h5 | h5
      · exact h2 h5
      · omega, h3, h4⟩
theorem Rf.step {u u' : World} {G G' : List Nat} {A : Option Addr} {l : List UInt8} (h : Rf u G A l) (s : Sp u u' G G') : Rf u' G' A l := by
  rcases h with h0 | ⟨b, o, e, h1, h2, h3⟩
  · exact .inl h0
  · exact .inr ⟨b, o, e, fun hm => by
      rcases s.g b hm with h5 | h5
      · exact h1 h5
      · omega, Nat.lt_of_lt_of_le h2 s.k.size, fun i hi => (World.cell?_of_block (w := u) (a := ⟨b, o + i, none⟩) (s.k.block b h2 h1)).trans (h3 i hi)⟩
theorem Rf.on {u u' : World} {G : List Nat} {A : Option Addr} {l : List UInt8} (h : Rf u G A l) (hb : Below u.heap.size u u') : Rf u' G A l := h.step (Sp.of (Ke.of hb).nil)
/-- A row of bytes that was just laid. -/
theorem lit_pu {u : World} {H : List Nat} {t : TypeId} {l : List UInt8} {fr : Nat × Nat} (hH : ∀ y ∈ H, y < u.heap.size) : Rf (u.alloc (.cells (bcells l) t fr)) H (some ⟨u.heap.size, 0, none⟩) l :=
  .inr ⟨u.heap.size, 0, rfl, fun hm => by have := hH _ hm; omega, by rw [World.size_alloc]; omega, fun i hi => by rw [cell_of_row _ _ _ _ t fr (heap_alloc_new u _), Nat.zero_add, bcells_at l i hi]⟩
end Go.Proofs.Ytndamiocmdnenaa
