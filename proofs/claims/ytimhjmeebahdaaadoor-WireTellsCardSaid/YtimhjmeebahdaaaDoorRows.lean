/-
  NARROWER THAN 'FOR EVERY INPUT', by the rows' own cells (each row's printed sentence says how): WireTells: laid · WireBack: laid · WireKinds: laid · WireOther: laid · WireBounds: laid · WireFirst: laid.
  DERIVED. THE GIVEN ROWS OF THIS SEAT. 6 by the template 'for every input the law returns true; each argument reads behind the call as it read before'; 0 by the template 'total and deterministic' (their statements: YtimhjmeebahdaaaDoorTotals.lean).
  GIVEN WITH THE SEED: the statements are not yours to turn. If you find one false, say at which input.
  Laid BY PROGRAM, IN A SANDBOX (cutbox-rows.mjs): the forced cells as the released guide's own fill.sh prints them over the translation d368f6272cea647b… (all of the seat's roots in one cut). By AI agents, Wed Nov 11 2026. No macro, syntax, notation, axiom, sorry.
-/
import Derived.Test.YtimhjmeebahdaaaDoorChecked
import GoSem.Claim
import GoSem.ClaimJoined
import GoSem.ClaimMapViews
import Derived.JoinedTies
import Derived.KernelRfl
namespace Go.Proofs.YtimhjmeebahdaaaDoor
/- THE CELL 'sum', in the pinned program and in every row, IS THE sha256 OF THE DUMP (.gsa) THAT YtimhjmeebahdaaaDoorProg.lean LOADS. Nothing in Lean hashes anything: it is a label: what it is worth is what the hold of that sum in a sandbox is worth. -/
noncomputable def Tryd.pinned : Pinned := { name := "ytimhjmeebahdaaadoor", sum := "d368f6272cea647b8c0112e17a393f1e829047130772285358971648f69ff437", checked := Tryd.checked }
namespace Rows
def none {H : Type} : Left H := { results := [], args := [] }

/- WHAT THE LISTED PACKAGE-LEVEL VARIABLES READ AS WHEN THE CALL BEGINS. Each datum BY PROGRAM (the guide's laid-datum.mjs) off the statement by which the dump's own 'gosem.cut.vars' lays the variable. In a bare row this is a premise. The card (YtimhjmeebahdaaaDoorCards.lean) ties it to the program's text. -/
def laid_subway_wire_parts {H : Type} : DataW H := .agg [.lit (.int .i64 0), .lit (.int .i64 3), .lit (.int .i64 1), .lit (.int .i64 1), .lit (.int .i64 0), .lit (.int .i64 4), .lit (.int .i64 5), .lit (.int .i64 13), .lit (.int .i64 13), .lit (.int .i64 5), .lit (.int .i64 5), .lit (.int .i64 3), .lit (.int .i64 2), .lit (.int .i64 0), .lit (.int .i64 1)]

/-- 'subwaylaw05.WireTells': WHATEVER THE INPUT: true; the input reads as it did. -/
def wireTellsSpec : ChangeSpec := { name := "wireTells", fn := fun _ => fun
  | [d1, d2] => { results := [.lit (.bool true)], args := [d1, d2] }
  | _ => none }
def wireTellsRow : OpenClaim := { program := "ytimhjmeebahdaaadoor", sum := "d368f6272cea647b8c0112e17a393f1e829047130772285358971648f69ff437", func := "subway/subwaylaw05.WireTells", spec := "wireTells", unfollowed := true, recurses := true, named := ["subway/wire.parts"], apart := false, laid := [("subway/wire.parts", laid_subway_wire_parts)] }
def WireTellsSaid : Prop := wireTellsRow.holds Tryd.pinned (OpenSpec.ofChange wireTellsSpec)

/-- ITS FALSE NEIGHBOUR: 'it returns false'. Refute it at one input. -/
def wireTellsWrong : ChangeSpec := { name := "wireTells", fn := fun _ => fun
  | [d1, d2] => { results := [.lit (.bool false)], args := [d1, d2] }
  | _ => none }
def WireTellsWrongFalsely : Prop := wireTellsRow.holds Tryd.pinned (OpenSpec.ofChange wireTellsWrong)

/-- 'subwaylaw05.WireBack': WHATEVER THE INPUT: true; the input reads as it did. -/
def wireBackSpec : ChangeSpec := { name := "wireBack", fn := fun _ => fun
  | [d1, d2, d3, d4] => { results := [.lit (.bool true)], args := [d1, d2, d3, d4] }
  | _ => none }
def wireBackRow : OpenClaim := { program := "ytimhjmeebahdaaadoor", sum := "d368f6272cea647b8c0112e17a393f1e829047130772285358971648f69ff437", func := "subway/subwaylaw05.WireBack", spec := "wireBack", unfollowed := true, recurses := true, named := ["subway/wire.parts"], apart := false, laid := [("subway/wire.parts", laid_subway_wire_parts)] }
def WireBackSaid : Prop := wireBackRow.holds Tryd.pinned (OpenSpec.ofChange wireBackSpec)

/-- ITS FALSE NEIGHBOUR: 'it returns false'. Refute it at one input. -/
def wireBackWrong : ChangeSpec := { name := "wireBack", fn := fun _ => fun
  | [d1, d2, d3, d4] => { results := [.lit (.bool false)], args := [d1, d2, d3, d4] }
  | _ => none }
def WireBackWrongFalsely : Prop := wireBackRow.holds Tryd.pinned (OpenSpec.ofChange wireBackWrong)

/-- 'subwaylaw05.WireKinds': WHATEVER THE INPUT: true; the input reads as it did. -/
def wireKindsSpec : ChangeSpec := { name := "wireKinds", fn := fun _ => fun
  | [d1, d2, d3, d4] => { results := [.lit (.bool true)], args := [d1, d2, d3, d4] }
  | _ => none }
def wireKindsRow : OpenClaim := { program := "ytimhjmeebahdaaadoor", sum := "d368f6272cea647b8c0112e17a393f1e829047130772285358971648f69ff437", func := "subway/subwaylaw05.WireKinds", spec := "wireKinds", unfollowed := true, recurses := true, named := ["subway/wire.parts"], apart := false, laid := [("subway/wire.parts", laid_subway_wire_parts)] }
def WireKindsSaid : Prop := wireKindsRow.holds Tryd.pinned (OpenSpec.ofChange wireKindsSpec)

/-- ITS FALSE NEIGHBOUR: 'it returns false'. Refute it at one input. -/
def wireKindsWrong : ChangeSpec := { name := "wireKinds", fn := fun _ => fun
  | [d1, d2, d3, d4] => { results := [.lit (.bool false)], args := [d1, d2, d3, d4] }
  | _ => none }
def WireKindsWrongFalsely : Prop := wireKindsRow.holds Tryd.pinned (OpenSpec.ofChange wireKindsWrong)

/-- 'subwaylaw05.WireOther': WHATEVER THE INPUT: true; the input reads as it did. -/
def wireOtherSpec : ChangeSpec := { name := "wireOther", fn := fun _ => fun
  | [d1, d2] => { results := [.lit (.bool true)], args := [d1, d2] }
  | _ => none }
def wireOtherRow : OpenClaim := { program := "ytimhjmeebahdaaadoor", sum := "d368f6272cea647b8c0112e17a393f1e829047130772285358971648f69ff437", func := "subway/subwaylaw05.WireOther", spec := "wireOther", unfollowed := true, recurses := true, named := ["subway/wire.parts"], apart := false, laid := [("subway/wire.parts", laid_subway_wire_parts)] }
def WireOtherSaid : Prop := wireOtherRow.holds Tryd.pinned (OpenSpec.ofChange wireOtherSpec)

/-- ITS FALSE NEIGHBOUR: 'it returns false'. Refute it at one input. -/
def wireOtherWrong : ChangeSpec := { name := "wireOther", fn := fun _ => fun
  | [d1, d2] => { results := [.lit (.bool false)], args := [d1, d2] }
  | _ => none }
def WireOtherWrongFalsely : Prop := wireOtherRow.holds Tryd.pinned (OpenSpec.ofChange wireOtherWrong)

/-- 'subwaylaw05.WireBounds': WHATEVER THE INPUT: true; the input reads as it did. -/
def wireBoundsSpec : ChangeSpec := { name := "wireBounds", fn := fun _ => fun
  | [d1, d2] => { results := [.lit (.bool true)], args := [d1, d2] }
  | _ => none }
def wireBoundsRow : OpenClaim := { program := "ytimhjmeebahdaaadoor", sum := "d368f6272cea647b8c0112e17a393f1e829047130772285358971648f69ff437", func := "subway/subwaylaw05.WireBounds", spec := "wireBounds", unfollowed := true, recurses := true, named := ["subway/wire.parts"], apart := false, laid := [("subway/wire.parts", laid_subway_wire_parts)] }
def WireBoundsSaid : Prop := wireBoundsRow.holds Tryd.pinned (OpenSpec.ofChange wireBoundsSpec)

/-- ITS FALSE NEIGHBOUR: 'it returns false'. Refute it at one input. -/
def wireBoundsWrong : ChangeSpec := { name := "wireBounds", fn := fun _ => fun
  | [d1, d2] => { results := [.lit (.bool false)], args := [d1, d2] }
  | _ => none }
def WireBoundsWrongFalsely : Prop := wireBoundsRow.holds Tryd.pinned (OpenSpec.ofChange wireBoundsWrong)

/-- 'subwaylaw05.WireFirst': WHATEVER THE INPUT: true; the input reads as it did. -/
def wireFirstSpec : ChangeSpec := { name := "wireFirst", fn := fun _ => fun
  | [d1, d2] => { results := [.lit (.bool true)], args := [d1, d2] }
  | _ => none }
def wireFirstRow : OpenClaim := { program := "ytimhjmeebahdaaadoor", sum := "d368f6272cea647b8c0112e17a393f1e829047130772285358971648f69ff437", func := "subway/subwaylaw05.WireFirst", spec := "wireFirst", unfollowed := true, recurses := true, named := ["subway/wire.parts"], apart := false, laid := [("subway/wire.parts", laid_subway_wire_parts)] }
def WireFirstSaid : Prop := wireFirstRow.holds Tryd.pinned (OpenSpec.ofChange wireFirstSpec)

/-- ITS FALSE NEIGHBOUR: 'it returns false'. Refute it at one input. -/
def wireFirstWrong : ChangeSpec := { name := "wireFirst", fn := fun _ => fun
  | [d1, d2] => { results := [.lit (.bool false)], args := [d1, d2] }
  | _ => none }
def WireFirstWrongFalsely : Prop := wireFirstRow.holds Tryd.pinned (OpenSpec.ofChange wireFirstWrong)

/- THE SECOND FORM. 'bulk': how many values and letters a reading holds, each counted each time it is reached (what is shared counts as often as it is met; a slice's spare places count too). A statement '..UptoSaid' is the law's where the arguments, and the package variables that the reading takes, are together of bulk at most 1048576: NARROWER than '..Said'. Prove '..Said' where nothing that the law and all that it calls make is longer than what came in: it says more and counts as full. Else prove '..UptoSaid'. A law counts once. -/
mutual
def uptoBulk {H : Type} : DataW H → Nat
  | .lit (.string bytes) => bytes.length + 1
  | .lit _ => 1
  | .nil => 1
  | .ptr d => uptoBulk d + 1
  | .slice elems spare => uptoBulkAll elems + uptoBulkAll spare + 1
  | .agg parts => uptoBulkAll parts + 1
  | .iface _ d => uptoBulk d + 1
  | .map entries => uptoBulkEntries entries + 1
  | .held _ => 1
def uptoBulkAll {H : Type} : List (DataW H) → Nat
  | [] => 0
  | d :: r => uptoBulk d + uptoBulkAll r
def uptoBulkEntries {H : Type} : List (Lit × DataW H) → Nat
  | [] => 0
  | x :: r => uptoBulkEntry x + uptoBulkEntries r
def uptoBulkEntry {H : Type} : Lit × DataW H → Nat
  | (.string bytes, d) => bytes.length + uptoBulk d + 1
  | (_, d) => uptoBulk d + 1
 end
def uptoSmall : (H : Type) → List (DataW H) → Bool := fun _ ds => decide (uptoBulkAll ds ≤ 1048576)
def OpenSpec.upto (s : _root_.Go.ChangeSpec) : _root_.Go.OpenSpec := { _root_.Go.OpenSpec.ofChange s with cond := some uptoSmall }

/-- 'subwaylaw05.WireTells', WHERE WHAT IT READS IS OF BULK AT MOST 1048576: true; the input reads as it did. -/
def wireTellsUptoRow : OpenClaim := { program := "ytimhjmeebahdaaadoor", sum := "d368f6272cea647b8c0112e17a393f1e829047130772285358971648f69ff437", func := "subway/subwaylaw05.WireTells", spec := "wireTells", unfollowed := true, recurses := true, named := ["subway/wire.parts"], apart := false, laid := [("subway/wire.parts", laid_subway_wire_parts)], narrowed := true }
def WireTellsUptoSaid : Prop := wireTellsUptoRow.holds Tryd.pinned (OpenSpec.upto wireTellsSpec)

/-- 'subwaylaw05.WireBack', WHERE WHAT IT READS IS OF BULK AT MOST 1048576: true; the input reads as it did. -/
def wireBackUptoRow : OpenClaim := { program := "ytimhjmeebahdaaadoor", sum := "d368f6272cea647b8c0112e17a393f1e829047130772285358971648f69ff437", func := "subway/subwaylaw05.WireBack", spec := "wireBack", unfollowed := true, recurses := true, named := ["subway/wire.parts"], apart := false, laid := [("subway/wire.parts", laid_subway_wire_parts)], narrowed := true }
def WireBackUptoSaid : Prop := wireBackUptoRow.holds Tryd.pinned (OpenSpec.upto wireBackSpec)

/-- 'subwaylaw05.WireKinds', WHERE WHAT IT READS IS OF BULK AT MOST 1048576: true; the input reads as it did. -/
def wireKindsUptoRow : OpenClaim := { program := "ytimhjmeebahdaaadoor", sum := "d368f6272cea647b8c0112e17a393f1e829047130772285358971648f69ff437", func := "subway/subwaylaw05.WireKinds", spec := "wireKinds", unfollowed := true, recurses := true, named := ["subway/wire.parts"], apart := false, laid := [("subway/wire.parts", laid_subway_wire_parts)], narrowed := true }
def WireKindsUptoSaid : Prop := wireKindsUptoRow.holds Tryd.pinned (OpenSpec.upto wireKindsSpec)

/-- 'subwaylaw05.WireOther', WHERE WHAT IT READS IS OF BULK AT MOST 1048576: true; the input reads as it did. -/
def wireOtherUptoRow : OpenClaim := { program := "ytimhjmeebahdaaadoor", sum := "d368f6272cea647b8c0112e17a393f1e829047130772285358971648f69ff437", func := "subway/subwaylaw05.WireOther", spec := "wireOther", unfollowed := true, recurses := true, named := ["subway/wire.parts"], apart := false, laid := [("subway/wire.parts", laid_subway_wire_parts)], narrowed := true }
def WireOtherUptoSaid : Prop := wireOtherUptoRow.holds Tryd.pinned (OpenSpec.upto wireOtherSpec)

/-- 'subwaylaw05.WireBounds', WHERE WHAT IT READS IS OF BULK AT MOST 1048576: true; the input reads as it did. -/
def wireBoundsUptoRow : OpenClaim := { program := "ytimhjmeebahdaaadoor", sum := "d368f6272cea647b8c0112e17a393f1e829047130772285358971648f69ff437", func := "subway/subwaylaw05.WireBounds", spec := "wireBounds", unfollowed := true, recurses := true, named := ["subway/wire.parts"], apart := false, laid := [("subway/wire.parts", laid_subway_wire_parts)], narrowed := true }
def WireBoundsUptoSaid : Prop := wireBoundsUptoRow.holds Tryd.pinned (OpenSpec.upto wireBoundsSpec)

/-- 'subwaylaw05.WireFirst', WHERE WHAT IT READS IS OF BULK AT MOST 1048576: true; the input reads as it did. -/
def wireFirstUptoRow : OpenClaim := { program := "ytimhjmeebahdaaadoor", sum := "d368f6272cea647b8c0112e17a393f1e829047130772285358971648f69ff437", func := "subway/subwaylaw05.WireFirst", spec := "wireFirst", unfollowed := true, recurses := true, named := ["subway/wire.parts"], apart := false, laid := [("subway/wire.parts", laid_subway_wire_parts)], narrowed := true }
def WireFirstUptoSaid : Prop := wireFirstUptoRow.holds Tryd.pinned (OpenSpec.upto wireFirstSpec)

end Rows
end Go.Proofs.YtimhjmeebahdaaaDoor
