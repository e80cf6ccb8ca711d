/- frame.frames, and its iterator: their contracts. -/
import Derived.RangeFuncNested
import Derived.RangeFuncBound
import Derived.RangeFuncCalls
import Derived.RangeFuncLeaves
import Derived.Shelf.Abstract
import Derived.Shelf.RegionOpen
import Derived.WalkKit
import Derived.OwnWalkIn
import Derived.TacticsInMore
import Derived.LoopNIn
import Derived.LoopIn
import Derived.Test.YtndamiocmdnenaaFr2
import Derived.Test.YtndamiocmdnenaaRangeMem
import Derived.Test.YtndamiocmdnenaaTailIn
namespace Go.Proofs.Ytndamiocmdnenaa
set_option linter.unusedVariables false
set_option maxRecDepth 100000
set_option linter.unusedSimpArgs false
open Go.RowKit Go.Shelf
attribute [local go_sem] Oper.semAt_some

/-- What the iterator hands over: a slice of bytes, and an error. -/
structure Fr where
  A : Option Addr
  c : Nat
  l : List UInt8
  e : Nat
  small : l.length ≤ 200
abbrev fcs (x : Fr) : Array Value := #[.slice x.A x.l.length x.c, .int .i64 (x.e : Int)]
/-- What is told of it in each round. -/
def Told (B : Nat) (x : Fr) (W : World) : Prop := El W B x.A x.c x.l
theorem told_own (B B' : Nat) : OwnFrom B' (Told B) := fun x W W' row hs hg hr => El.own B B' x.A x.c x.l () W W' row hs hg hr
def meaF : Value → Nat
  | .slice _ n _ => n
  | _ => 0
theorem grown_of_below {w w' : World} (h : Below w.heap.size w w') : w.grownBy w' none := ⟨h.os, h.tape, h.output, h.size, fun k hk _ => h.block k hk⟩
def allF (l : List UInt8) (xs : List Fr) : Prop := (xs.map (·.l) = cutF l ∧ (∀ x ∈ xs, x.e = 0) ∧ begB (restF l) = true) ∨ ∃ x ∈ xs, x.e ≠ 0
def someF (l : List UInt8) (pre : List Fr) : Prop := (∀ x ∈ pre, x.e = 0) ∨ ∃ ys x, pre = ys ++ [x] ∧ ys.map (·.l) = cutF l ∧ (∀ y ∈ ys, y.e = 0) ∧ x.e = 61 ∧ begB (restF l) = false

end Go.Proofs.Ytndamiocmdnenaa
