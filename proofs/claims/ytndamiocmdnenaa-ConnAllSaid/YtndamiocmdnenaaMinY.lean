/- min as one operation of a region that draws its order. -/
import Derived.Test.YtndamiocmdnenaaRegion
import Derived.WalkKit
import Derived.Lib.Hide
namespace Go.Proofs.Ytndamiocmdnenaa
set_option linter.unusedVariables false
set_option maxRecDepth 100000
set_option linter.unusedSimpArgs false
open Go.RowKit

theorem yieldsIf_min {P : Program} {ops : Array Oper} {S : World → Prop} {oi : Oper} {a : Act} (hw : Region.wanted oi (yielded ops a.tmps) = true) (x y : Operand) (t : TypeId) (ho : oi.op = .call { callee := .builtin .min, args := #[x, y], argTypes := #[t, t] }) (u v m : Int) (hx : a.eval x = .int .i64 u) (hy : a.eval y = .int .i64 v) (hm : min u v = m) : YieldsIf P ops S oi (.int .i64 m) a :=
  .inl ⟨hw, fun w _ => by
    have e : (if v < u then v else u) = min u v := by split <;> omega
    have hr : (Builtin.min_ #[t, t] oi.type #[.int .i64 u, .int .i64 v]).run P w = .ok (.int .i64 (min u v)) w := by rw [← e]; simp [Builtin.min_, Builtin.min2]
    unfold execOp
    simp only [ho, resolve, invoke, builtin, Sem.run_bind, Sem.run_pure, Result.andThen_ok, List.map_toArray, List.map_cons, List.map_nil, hx, hy, hr, hm]⟩
end Go.Proofs.Ytndamiocmdnenaa
