/- An element of an array by value, its place a letter. Nothing of the program is named here. -/
import Derived.Test.YtimhjmeebahdaaaDoorArr
namespace Go.Proofs.YtimhjmeebahdaaaDoor
set_option linter.unusedVariables false
set_option linter.unusedSimpArgs false
open Go.RowKit
theorem run_idx {P : Program} (t e : TypeId) (n : Nat) (cs : Array Value) (i : Nat) (v : Value) (h : P.underlying t = some (.array n e)) (ha : ∀ w, (isAgg e).run P w = .ok false w) (hz : ∀ w, (sizeOf e).run P w = .ok 1 w) (hi : i < n) (hv : cs[i]? = some v) (u : World) :
    (Instr.index t (.agg cs) (.int .i64 (i : Int))).run P u = .ok v u := by
  have h2 : (0 ≤ (i : Int) ∧ (i : Int) < (n : Int)) := by omega
  have h3 : ¬ n ≤ i := by omega
  simp [Instr.index, run_underlying h, asIntOf, h2, h3, go_sem, ha, hz, hv]
end Go.Proofs.YtimhjmeebahdaaaDoor
