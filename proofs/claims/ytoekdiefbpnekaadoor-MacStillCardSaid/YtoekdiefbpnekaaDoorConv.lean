/- A text as bytes anew; sums that are held against one another. -/
import Derived.Test.YtoekdiefbpnekaaDoorRow
import Derived.Test.YtoekdiefbpnekaaDoorSumL
import Derived.Test.YtoekdiefbpnekaaDoorAppOp
import Derived.Stop.BytesEq
namespace Go.Proofs.YtoekdiefbpnekaaDoor
set_option linter.unusedVariables false
set_option linter.unusedSimpArgs false
open Go.RowKit

theorem conv_back (B : ByteArray) (hB : B.size ≤ 1099511627776) (w : World) : ∃ (cap : Nat) (ob : Obj), (convert 9 22 (.string B)).run Tryd.prog w = .ok (.slice (some ⟨w.heap.size, 0, none⟩) B.size cap) (w.drew.alloc ob) ∧ B.size ≤ cap ∧ cap ≤ 9223372036854775807 ∧ Rb (w.drew.alloc ob) (w.drew.alloc ob).heap.size (some ⟨w.heap.size, 0, none⟩) B.data.toList := by
  refine ⟨_, _, run_bytes_of_string w 9 22 5 B Tryd.underlying9 Tryd.underlying22 Tryd.underlying5, grownCap_ge _ _ _ _, ?_, ?_⟩
  · have h := grownCap_le_maxLen w B.size 0 5 (by unfold maxLen; omega)
    unfold maxLen at h
    omega
  · refine .inr ⟨w.heap.size, 0, rfl, by show _ < (w.heap.push _).size; rw [Array.size_push]; omega, fun i hi => ?_⟩
    have hi' : i < B.data.size := by simpa using hi
    refine (cell_of_row (w.drew.alloc _) w.heap.size (0 + i) _ _ _ (heap_alloc_new w.drew _)).trans ?_
    rw [Nat.zero_add, bytesRow_at B _ i hi']
    rfl
theorem eq_arr (l : List UInt8) (hl : l.length = 32) (x y : Operand) (w : World) : ((do eqGuard .eql 26 x y (.agg (bcells l)) (.agg (bcells l)); binOp .eql 26 (.agg (bcells l)) (.agg (bcells l))) : Sem Value).run Tryd.prog w = .ok (.bool true) w := by
  have h1 := run_equalIn_bytes (P := Tryd.prog) w 9998 26 5 32 Tryd.underlying26 Tryd.underlying5 (fun w => Tryd.sizeOf5 w) l l hl hl
  have h2 : (Op.equal 26 (.agg (bcells l)) (.agg (bcells l))).run Tryd.prog w = .ok true w := by
    refine Eq.trans h1 ?_
    simp
  have h3 : Tryd.prog.eqGuardType Tryd.prog.depth 26 = false := by kernel_rfl
  simp [eqGuard, binOp, h2, h3]

/-- '==' of two sums that are one, in a region that draws nothing. -/
theorem wpList_eqarr {ops : Array Oper} {Q : Exit → Act → World → Prop} {a : Act} {w : World} {rest : List Oper} {o : Oper} (hw : Region.wanted o (yielded ops a.tmps) = true) (x y : Operand) (d : TypeId) (ho : o.op = .binOp .eql 26 x y d)
    (l : List UInt8) (hl : l.length = 32) (hx : a.eval x = .agg (bcells l)) (hy : a.eval y = .agg (bcells l)) (h : wpList Tryd.prog ops Q rest (a.put o.dst (.bool true)) w) : wpList Tryd.prog ops Q (o :: rest) a w :=
  wpList_wanted hw fun K hK => by
    have h1 := eq_arr l hl x y w
    unfold Oper.wp execOp
    simp only [ho, hx, hy]
    rw [Sem.run_bind, h1]
    exact hK _ _ h
end Go.Proofs.YtoekdiefbpnekaaDoor
