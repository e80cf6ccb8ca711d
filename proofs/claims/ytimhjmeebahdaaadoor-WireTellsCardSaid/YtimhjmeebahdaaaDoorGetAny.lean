/- What Get answers, by letters. -/
import Derived.Test.YtimhjmeebahdaaaDoorWire6
namespace Go.Proofs.YtimhjmeebahdaaaDoor
set_option linter.unusedVariables false
set_option linter.unusedSimpArgs false
open Go.RowKit

theorem getE_any (r : Option Mg) : ∃ (k n m : Int) (a b : ByteArray) (is : Bool), r.isSome = is ∧ (is = true → r = some ⟨k, a, b, n, m⟩) ∧ (is = false → r = none ∧ k = 0 ∧ a = bs [] ∧ b = bs [] ∧ n = 0 ∧ m = 0) ∧ getE r = .returned (.tuple #[.agg #[.int .i64 k, .string a, .string b, .int .i64 n, .int .i64 m], .bool is]) := by
  cases r with
  | none => exact ⟨0, 0, 0, bs [], bs [], false, rfl, (fun h => by cases h), fun _ => ⟨rfl, rfl, rfl, rfl, rfl, rfl⟩, rfl⟩
  | some x => exact ⟨x.k, x.n, x.m, x.a, x.b, true, rfl, fun _ => rfl, (fun h => by cases h), rfl⟩
end Go.Proofs.YtimhjmeebahdaaaDoor
