/- Two words that look at a goal's head alone: is it a list of operations, is it a call? Nothing of the program is named here. -/
import Derived.Test.YtndamiocmdnenaaBase
namespace Go.Proofs.Ytndamiocmdnenaa
theorem wpList_here {P : Program} {ops : Array Oper} {Q : Exit → Act → World → Prop} {l : List Oper} {a : Act} {w : World} (h : wpList P ops Q l a w) : wpList P ops Q l a w := h
theorem calls_here {P : Program} {f : FuncId} {args : Array Value} {w : World} {Q : Ending → World → Prop} (h : Calls P f args w Q) : Calls P f args w Q := h
end Go.Proofs.Ytndamiocmdnenaa
