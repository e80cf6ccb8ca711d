/- Small words for the walks of frame's laws. -/
import Derived.Test.YtcmcmbgdakcmmaaTail
import Derived.Test.YtcmcmbgdakcmmaaOpen
import Derived.Test.YtcmcmbgdakcmmaaFrs
import Derived.Test.YtcmcmbgdakcmmaaConvR
import Derived.Test.YtcmcmbgdakcmmaaAppOp
namespace Go.Proofs.Ytcmcmbgdakcmmaa
set_option linter.unusedVariables false
set_option linter.unusedSimpArgs false
open Go.RowKit

theorem Rb.on {u u' : World} {A : Option Addr} {l : List UInt8} (h : Rb u u.heap.size A l) (hb : Below u.heap.size u u') : Rb u' u'.heap.size A l := (h.below hb (Nat.le_refl _)).more hb.size
/-- b[:hi]. -/
theorem slice_to (A : Option Addr) (n c hi : Nat) (h : hi ≤ n) (hc : n ≤ c) (u : World) : (Instr.sliceAt 22 (.slice A n c) none (some (.int .i64 (hi : Int))) none).run Try.prog u = .ok (.slice A hi c) u := by
  have h1 : (hi : Int) ≤ (n : Int) := by omega
  have h2 : (hi : Int) ≤ (c : Int) := by omega
  go_simp
/-- string(b), where an operation's guard is met, in a region that draws nothing. -/
theorem wpList_conv {P : Program} {ops : Array Oper} {Q : Exit → Act → World → Prop} {a : Act} {w : World} {rest : List Oper} {o : Oper} (hw : Region.wanted o (yielded ops a.tmps) = true) (src e dst : TypeId) (x : Operand) (ho : o.op = .convert src dst x)
    (A : Option Addr) (n c : Nat) (l : List UInt8) (hx : a.eval x = .slice A n c) (hn : l.length = n) {B : Nat} (hR : Rb w B A l) (hs : P.underlying src = some (.slice e)) (he : P.underlying e = some (.int .u8)) (hd : P.underlying dst = some .string)
    (h : wpList P ops Q rest (a.put o.dst (.string (bs l))) w) : wpList P ops Q (o :: rest) a w :=
  wpList_wanted hw fun K hK => by
    have h1 := str_of (P := P) hR src e dst hs he hd n c hn
    unfold Oper.wp execOp
    simp only [ho, hx, Sem.run_bind, h1, Result.andThen_ok, Sem.run_pure]
    exact hK _ _ h
end Go.Proofs.Ytcmcmbgdakcmmaa
