/- Two nets in blocks of their own; numbers that came in. -/
import Derived.Test.YtmdijhfkobcbjaaSHead
import Derived.Test.YtmdijhfkobcbjaaSNet
import Derived.Test.YtmdijhfkobcbjaaSMath
import Derived.Test.YtmdijhfkobcbjaaOpen
namespace Go.Proofs.Ytmdijhfkobcbjaa
set_option linter.unusedVariables false
set_option linter.unusedSimpArgs false
open Go.RowKit

theorem nat_u32 (a : Int) (h : (Lit.int .u32 a).wf = true) : ∃ n : Nat, n < 4294967296 ∧ a = n := by
  have e1 : IntKind.u32.min = 0 := by decide
  have e2 : IntKind.u32.max = 4294967295 := by decide
  simp only [Lit.wf, e1, e2, Bool.and_eq_true, decide_eq_true_eq] at h
  exact ⟨a.toNat, by omega, by omega⟩
theorem nat_u8 (a : Int) (h : (Lit.int .u8 a).wf = true) : ∃ n : Nat, n < 256 ∧ a = n := by
  have e1 : IntKind.u8.min = 0 := by decide
  have e2 : IntKind.u8.max = 255 := by decide
  simp only [Lit.wf, e1, e2, Bool.and_eq_true, decide_eq_true_eq] at h
  exact ⟨a.toNat, by omega, by omega⟩
theorem modC (i n : Nat) : ((i % n : Nat) : Int) = (i : Int) % (n : Int) := Int.natCast_emod _ _

abbrev netC (a : Nat) (bits : Nat) : Array Value := #[.int .u32 (a : Int), .int .i64 (bits : Int)]
structure Net2 (B : Nat) (w : World) (g h a m b n : Nat) (u : World) : Prop where
  x : Bk u g 24 (netC a m)
  y : Bk u h 24 (netC b n)
  b : Below B w u
theorem Net2.on {B : Nat} {w u u' : World} {g h a m b n : Nat} (H : Net2 B w g h a m b n u) (hB : B ≤ w.heap.size) (hb : Below u.heap.size u u') : Net2 B w g h a m b n u' :=
  ⟨H.x.below hb H.x.lt, H.y.below hb H.y.lt, H.b.trans (hb.mono (Nat.le_trans hB H.b.size))⟩
theorem Net2.c {B : Nat} {w u : World} {g h a m b n : Nat} (H : Net2 B w g h a m b n u) :
    u.cell? ⟨g, 0, none⟩ = some (.int .u32 (a : Int)) ∧ u.cell? ⟨g, 1, none⟩ = some (.int .i64 (m : Int)) ∧ u.cell? ⟨h, 0, none⟩ = some (.int .u32 (b : Int)) ∧ u.cell? ⟨h, 1, none⟩ = some (.int .i64 (n : Int)) :=
  ⟨by rw [H.x.cell]; rfl, by rw [H.x.cell]; rfl, by rw [H.y.cell]; rfl, by rw [H.y.cell]; rfl⟩
end Go.Proofs.Ytmdijhfkobcbjaa
