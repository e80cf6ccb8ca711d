/- Messages that are held against one another. -/
import Derived.Test.YtimhjmeebahdaaaDoorWire1
import Derived.Test.YtimhjmeebahdaaaDoorAppOp
namespace Go.Proofs.YtimhjmeebahdaaaDoor
set_option linter.unusedVariables false
set_option linter.unusedSimpArgs false
open Go.RowKit

def eqM (x y : Mg) : Bool := (x.k == y.k) && (x.a.toList == y.a.toList) && (x.b.toList == y.b.toList) && (x.n == y.n) && (x.m == y.m)
theorem bytes_eq {a b : ByteArray} (h : a.toList = b.toList) : a = b := by
  rw [ByteArray.toList_eq, ByteArray.toList_eq] at h
  rw [← bs_of a, ← bs_of b, h]
theorem eqM_iff (x y : Mg) : eqM x y = true ↔ x = y := by
  unfold eqM
  simp only [Bool.and_eq_true, beq_iff_eq]
  constructor
  · rintro ⟨⟨⟨⟨h1, h2⟩, h3⟩, h4⟩, h5⟩
    cases x; cases y
    simp only at h1 h2 h3 h4 h5
    rw [h1, bytes_eq h2, bytes_eq h3, h4, h5]
  · rintro rfl
    exact ⟨⟨⟨⟨rfl, rfl⟩, rfl⟩, rfl⟩, rfl⟩
theorem eqM_same (x : Mg) : eqM x x = true := (eqM_iff x x).2 rfl

set_option maxRecDepth 100000 in
set_option maxHeartbeats 2000000 in
theorem eqm_run (x y : Mg) (p q : Operand) (w : World) : ((do eqGuard .eql 23 p q (.agg x.cells) (.agg y.cells); binOp .eql 23 (.agg x.cells) (.agg y.cells)) : Sem Value).run Tryd.prog w = .ok (.bool (eqM x y)) w := by
  obtain ⟨k, a, b, n, m⟩ := x
  obtain ⟨k', a', b', n', m'⟩ := y
  unfold eqM
  go_simp
  repeat' split
  all_goals simp_all

set_option maxRecDepth 100000 in
set_option maxHeartbeats 2000000 in
theorem nem_run (x y : Mg) (p q : Operand) (w : World) : ((do eqGuard .neq 23 p q (.agg x.cells) (.agg y.cells); binOp .neq 23 (.agg x.cells) (.agg y.cells)) : Sem Value).run Tryd.prog w = .ok (.bool (!eqM x y)) w := by
  obtain ⟨k, a, b, n, m⟩ := x
  obtain ⟨k', a', b', n', m'⟩ := y
  unfold eqM
  go_simp
  repeat' split
  all_goals simp_all

theorem yieldsIf_eqm {ops : Array Oper} {S : World → Prop} {oi : Oper} {a : Act} (hw : Region.wanted oi (yielded ops a.tmps) = true) (p q : Operand) (d : TypeId) (ho : oi.op = .binOp .eql 23 p q d) (x y : Mg) (hx : a.eval p = .agg x.cells) (hy : a.eval q = .agg y.cells) : YieldsIf Tryd.prog ops S oi (.bool (eqM x y)) a :=
  .inl ⟨hw, fun w hw' => by
    have h1 := eqm_run x y p q w
    unfold execOp
    simp only [ho, hx, hy]
    rw [Sem.run_bind, h1]
    rfl⟩
theorem wpList_eqm {ops : Array Oper} {Q : Exit → Act → World → Prop} {a : Act} {w : World} {rest : List Oper} {o : Oper} (hw : Region.wanted o (yielded ops a.tmps) = true) (p q : Operand) (d : TypeId) (ho : o.op = .binOp .eql 23 p q d) (x y : Mg) (hx : a.eval p = .agg x.cells) (hy : a.eval q = .agg y.cells)
    (h : wpList Tryd.prog ops Q rest (a.put o.dst (.bool (eqM x y))) w) : wpList Tryd.prog ops Q (o :: rest) a w :=
  wpList_wanted hw fun K hK => by
    have h1 := eqm_run x y p q w
    unfold Oper.wp execOp
    simp only [ho, hx, hy]
    rw [Sem.run_bind, h1]
    exact hK _ _ h
theorem wpList_nem {ops : Array Oper} {Q : Exit → Act → World → Prop} {a : Act} {w : World} {rest : List Oper} {o : Oper} (hw : Region.wanted o (yielded ops a.tmps) = true) (p q : Operand) (d : TypeId) (ho : o.op = .binOp .neq 23 p q d) (x y : Mg) (hx : a.eval p = .agg x.cells) (hy : a.eval q = .agg y.cells)
    (h : wpList Tryd.prog ops Q rest (a.put o.dst (.bool (!eqM x y))) w) : wpList Tryd.prog ops Q (o :: rest) a w :=
  wpList_wanted hw fun K hK => by
    have h1 := nem_run x y p q w
    unfold Oper.wp execOp
    simp only [ho, hx, hy]
    rw [Sem.run_bind, h1]
    exact hK _ _ h
end Go.Proofs.YtimhjmeebahdaaaDoor
