/-
  No cell of these rows narrows 'for every input' (looked for: loops, veiled, ifaces, maps, wideKeys, modest, calm, conditions, laid).
  DERIVED. THE GIVEN ROWS OF THIS SEAT. 7 by the template 'for every input the law returns true; each argument reads behind the call as it read before'; 0 by the template 'total and deterministic' (their statements: YtmdijhfkobcbjaaTotals.lean).
  GIVEN WITH THE SEED: the statements are not yours to turn. If you find one false, say at which input.
  Laid BY PROGRAM, IN A SANDBOX (cutbox-rows.mjs): the forced cells as the released guide's own fill.sh prints them over the translation 9ea6f1647e6cb75e… (all of the seat's roots in one cut). By AI agents, Wed Nov 11 2026. No macro, syntax, notation, axiom, sorry.
-/
import Derived.Test.YtmdijhfkobcbjaaChecked
import GoSem.Claim
import GoSem.ClaimJoined
import GoSem.ClaimMapViews
import Derived.JoinedTies
import Derived.KernelRfl
namespace Go.Proofs.Ytmdijhfkobcbjaa
/- THE CELL 'sum', in the pinned program and in every row, IS THE sha256 OF THE DUMP (.gsa) THAT YtmdijhfkobcbjaaProg.lean LOADS. Nothing in Lean hashes anything: it is a label: what it is worth is what the hold of that sum in a sandbox is worth. -/
noncomputable def Try.pinned : Pinned := { name := "ytmdijhfkobcbjaa", sum := "9ea6f1647e6cb75eb724e9d7664509e6cad23a969255d9e420d158bf85ab32b6", checked := Try.checked }
namespace Rows
def none {H : Type} : Left H := { results := [], args := [] }

/-- 'subwaylaw04.SyntaxTells': WHATEVER THE INPUT: true; the input reads as it did. -/
def syntaxTellsSpec : ChangeSpec := { name := "syntaxTells", fn := fun _ => fun
  | [d1, d2, d3] => { results := [.lit (.bool true)], args := [d1, d2, d3] }
  | _ => none }
def syntaxTellsRow : OpenClaim := { program := "ytmdijhfkobcbjaa", sum := "9ea6f1647e6cb75eb724e9d7664509e6cad23a969255d9e420d158bf85ab32b6", func := "subway/subwaylaw04.SyntaxTells", spec := "syntaxTells", inPlace := ["internal/bytealg.IndexByteString", "internal/bytealg.IndexString", "internal/abi.NoEscape", "internal/bytealg.MakeNoZero"], unfollowed := true, recurses := true, named := ["internal/bytealg.MaxLen"], apart := false }
def SyntaxTellsSaid : Prop := syntaxTellsRow.holds Try.pinned (OpenSpec.ofChange syntaxTellsSpec)

/-- ITS FALSE NEIGHBOUR: 'it returns false'. Refute it at one input. -/
def syntaxTellsWrong : ChangeSpec := { name := "syntaxTells", fn := fun _ => fun
  | [d1, d2, d3] => { results := [.lit (.bool false)], args := [d1, d2, d3] }
  | _ => none }
def SyntaxTellsWrongFalsely : Prop := syntaxTellsRow.holds Try.pinned (OpenSpec.ofChange syntaxTellsWrong)

/-- 'subwaylaw04.SyntaxBack': WHATEVER THE INPUT: true; the input reads as it did. -/
def syntaxBackSpec : ChangeSpec := { name := "syntaxBack", fn := fun _ => fun
  | [d1, d2, d3] => { results := [.lit (.bool true)], args := [d1, d2, d3] }
  | _ => none }
def syntaxBackRow : OpenClaim := { program := "ytmdijhfkobcbjaa", sum := "9ea6f1647e6cb75eb724e9d7664509e6cad23a969255d9e420d158bf85ab32b6", func := "subway/subwaylaw04.SyntaxBack", spec := "syntaxBack", inPlace := ["internal/bytealg.IndexByteString", "internal/bytealg.IndexString", "internal/abi.NoEscape", "internal/bytealg.MakeNoZero"], unfollowed := true, recurses := true, named := ["internal/bytealg.MaxLen"], apart := false }
def SyntaxBackSaid : Prop := syntaxBackRow.holds Try.pinned (OpenSpec.ofChange syntaxBackSpec)

/-- ITS FALSE NEIGHBOUR: 'it returns false'. Refute it at one input. -/
def syntaxBackWrong : ChangeSpec := { name := "syntaxBack", fn := fun _ => fun
  | [d1, d2, d3] => { results := [.lit (.bool false)], args := [d1, d2, d3] }
  | _ => none }
def SyntaxBackWrongFalsely : Prop := syntaxBackRow.holds Try.pinned (OpenSpec.ofChange syntaxBackWrong)

/-- 'subwaylaw04.SyntaxNets': WHATEVER THE INPUT: true; the input reads as it did. -/
def syntaxNetsSpec : ChangeSpec := { name := "syntaxNets", fn := fun _ => fun
  | [d1, d2, d3, d4] => { results := [.lit (.bool true)], args := [d1, d2, d3, d4] }
  | _ => none }
def syntaxNetsRow : OpenClaim := { program := "ytmdijhfkobcbjaa", sum := "9ea6f1647e6cb75eb724e9d7664509e6cad23a969255d9e420d158bf85ab32b6", func := "subway/subwaylaw04.SyntaxNets", spec := "syntaxNets", inPlace := ["internal/bytealg.IndexByteString", "internal/bytealg.IndexString", "internal/abi.NoEscape", "internal/bytealg.MakeNoZero"], unfollowed := true, recurses := true, named := ["internal/bytealg.MaxLen"], apart := false }
def SyntaxNetsSaid : Prop := syntaxNetsRow.holds Try.pinned (OpenSpec.ofChange syntaxNetsSpec)

/-- ITS FALSE NEIGHBOUR: 'it returns false'. Refute it at one input. -/
def syntaxNetsWrong : ChangeSpec := { name := "syntaxNets", fn := fun _ => fun
  | [d1, d2, d3, d4] => { results := [.lit (.bool false)], args := [d1, d2, d3, d4] }
  | _ => none }
def SyntaxNetsWrongFalsely : Prop := syntaxNetsRow.holds Try.pinned (OpenSpec.ofChange syntaxNetsWrong)

/-- 'subwaylaw04.SyntaxIn': WHATEVER THE INPUT: true; the input reads as it did. -/
def syntaxInSpec : ChangeSpec := { name := "syntaxIn", fn := fun _ => fun
  | [d1, d2, d3] => { results := [.lit (.bool true)], args := [d1, d2, d3] }
  | _ => none }
def syntaxInRow : OpenClaim := { program := "ytmdijhfkobcbjaa", sum := "9ea6f1647e6cb75eb724e9d7664509e6cad23a969255d9e420d158bf85ab32b6", func := "subway/subwaylaw04.SyntaxIn", spec := "syntaxIn", inPlace := ["internal/bytealg.IndexByteString", "internal/bytealg.IndexString", "internal/abi.NoEscape", "internal/bytealg.MakeNoZero"], unfollowed := true, recurses := true, named := ["internal/bytealg.MaxLen"], apart := false }
def SyntaxInSaid : Prop := syntaxInRow.holds Try.pinned (OpenSpec.ofChange syntaxInSpec)

/-- ITS FALSE NEIGHBOUR: 'it returns false'. Refute it at one input. -/
def syntaxInWrong : ChangeSpec := { name := "syntaxIn", fn := fun _ => fun
  | [d1, d2, d3] => { results := [.lit (.bool false)], args := [d1, d2, d3] }
  | _ => none }
def SyntaxInWrongFalsely : Prop := syntaxInRow.holds Try.pinned (OpenSpec.ofChange syntaxInWrong)

/-- 'subwaylaw04.SyntaxNames': WHATEVER THE INPUT: true; the input reads as it did. -/
def syntaxNamesSpec : ChangeSpec := { name := "syntaxNames", fn := fun _ => fun
  | [d1, d2] => { results := [.lit (.bool true)], args := [d1, d2] }
  | _ => none }
def syntaxNamesRow : OpenClaim := { program := "ytmdijhfkobcbjaa", sum := "9ea6f1647e6cb75eb724e9d7664509e6cad23a969255d9e420d158bf85ab32b6", func := "subway/subwaylaw04.SyntaxNames", spec := "syntaxNames", inPlace := ["internal/bytealg.IndexByteString", "internal/bytealg.IndexString", "internal/abi.NoEscape", "internal/bytealg.MakeNoZero"], unfollowed := true, recurses := true, named := ["internal/bytealg.MaxLen"], apart := false }
def SyntaxNamesSaid : Prop := syntaxNamesRow.holds Try.pinned (OpenSpec.ofChange syntaxNamesSpec)

/-- ITS FALSE NEIGHBOUR: 'it returns false'. Refute it at one input. -/
def syntaxNamesWrong : ChangeSpec := { name := "syntaxNames", fn := fun _ => fun
  | [d1, d2] => { results := [.lit (.bool false)], args := [d1, d2] }
  | _ => none }
def SyntaxNamesWrongFalsely : Prop := syntaxNamesRow.holds Try.pinned (OpenSpec.ofChange syntaxNamesWrong)

/-- 'subwaylaw04.SyntaxHalves': WHATEVER THE INPUT: true; the input reads as it did. -/
def syntaxHalvesSpec : ChangeSpec := { name := "syntaxHalves", fn := fun _ => fun
  | [d1, d2, d3] => { results := [.lit (.bool true)], args := [d1, d2, d3] }
  | _ => none }
def syntaxHalvesRow : OpenClaim := { program := "ytmdijhfkobcbjaa", sum := "9ea6f1647e6cb75eb724e9d7664509e6cad23a969255d9e420d158bf85ab32b6", func := "subway/subwaylaw04.SyntaxHalves", spec := "syntaxHalves", inPlace := ["internal/bytealg.IndexByteString", "internal/bytealg.IndexString", "internal/abi.NoEscape", "internal/bytealg.MakeNoZero"], unfollowed := true, recurses := true, named := ["internal/bytealg.MaxLen"], apart := false }
def SyntaxHalvesSaid : Prop := syntaxHalvesRow.holds Try.pinned (OpenSpec.ofChange syntaxHalvesSpec)

/-- ITS FALSE NEIGHBOUR: 'it returns false'. Refute it at one input. -/
def syntaxHalvesWrong : ChangeSpec := { name := "syntaxHalves", fn := fun _ => fun
  | [d1, d2, d3] => { results := [.lit (.bool false)], args := [d1, d2, d3] }
  | _ => none }
def SyntaxHalvesWrongFalsely : Prop := syntaxHalvesRow.holds Try.pinned (OpenSpec.ofChange syntaxHalvesWrong)

/-- 'subwaylaw04.SyntaxParts': WHATEVER THE INPUT: true; the input reads as it did. -/
def syntaxPartsSpec : ChangeSpec := { name := "syntaxParts", fn := fun _ => fun
  | [d] => { results := [.lit (.bool true)], args := [d] }
  | _ => none }
def syntaxPartsRow : OpenClaim := { program := "ytmdijhfkobcbjaa", sum := "9ea6f1647e6cb75eb724e9d7664509e6cad23a969255d9e420d158bf85ab32b6", func := "subway/subwaylaw04.SyntaxParts", spec := "syntaxParts", inPlace := ["internal/bytealg.IndexByteString", "internal/bytealg.IndexString", "internal/abi.NoEscape", "internal/bytealg.MakeNoZero"], unfollowed := true, recurses := true, named := ["internal/bytealg.MaxLen"], apart := false }
def SyntaxPartsSaid : Prop := syntaxPartsRow.holds Try.pinned (OpenSpec.ofChange syntaxPartsSpec)

/-- ITS FALSE NEIGHBOUR: 'it returns false'. Refute it at one input. -/
def syntaxPartsWrong : ChangeSpec := { name := "syntaxParts", fn := fun _ => fun
  | [d] => { results := [.lit (.bool false)], args := [d] }
  | _ => none }
def SyntaxPartsWrongFalsely : Prop := syntaxPartsRow.holds Try.pinned (OpenSpec.ofChange syntaxPartsWrong)

/- THE SECOND FORM. 'bulk': how many values and letters a reading holds, each counted each time it is reached (what is shared counts as often as it is met; a slice's spare places count too). A statement '..UptoSaid' is the law's where the arguments, and the package variables that the reading takes, are together of bulk at most 1048576: NARROWER than '..Said'. Prove '..Said' where nothing that the law and all that it calls make is longer than what came in: it says more and counts as full. Else prove '..UptoSaid'. A law counts once. -/
mutual
def uptoBulk {H : Type} : DataW H → Nat
  | .lit (.string bytes) => bytes.length + 1
  | .lit _ => 1
  | .nil => 1
  | .ptr d => uptoBulk d + 1
  | .slice elems spare => uptoBulkAll elems + uptoBulkAll spare + 1
  | .agg parts => uptoBulkAll parts + 1
  | .iface _ d => uptoBulk d + 1
  | .map entries => uptoBulkEntries entries + 1
  | .held _ => 1
def uptoBulkAll {H : Type} : List (DataW H) → Nat
  | [] => 0
  | d :: r => uptoBulk d + uptoBulkAll r
def uptoBulkEntries {H : Type} : List (Lit × DataW H) → Nat
  | [] => 0
  | x :: r => uptoBulkEntry x + uptoBulkEntries r
def uptoBulkEntry {H : Type} : Lit × DataW H → Nat
  | (.string bytes, d) => bytes.length + uptoBulk d + 1
  | (_, d) => uptoBulk d + 1
 end
def uptoSmall : (H : Type) → List (DataW H) → Bool := fun _ ds => decide (uptoBulkAll ds ≤ 1048576)
def OpenSpec.upto (s : _root_.Go.ChangeSpec) : _root_.Go.OpenSpec := { _root_.Go.OpenSpec.ofChange s with cond := some uptoSmall }

/-- 'subwaylaw04.SyntaxTells', WHERE WHAT IT READS IS OF BULK AT MOST 1048576: true; the input reads as it did. -/
def syntaxTellsUptoRow : OpenClaim := { program := "ytmdijhfkobcbjaa", sum := "9ea6f1647e6cb75eb724e9d7664509e6cad23a969255d9e420d158bf85ab32b6", func := "subway/subwaylaw04.SyntaxTells", spec := "syntaxTells", inPlace := ["internal/bytealg.IndexByteString", "internal/bytealg.IndexString", "internal/abi.NoEscape", "internal/bytealg.MakeNoZero"], unfollowed := true, recurses := true, named := ["internal/bytealg.MaxLen"], apart := false, narrowed := true }
def SyntaxTellsUptoSaid : Prop := syntaxTellsUptoRow.holds Try.pinned (OpenSpec.upto syntaxTellsSpec)

/-- 'subwaylaw04.SyntaxBack', WHERE WHAT IT READS IS OF BULK AT MOST 1048576: true; the input reads as it did. -/
def syntaxBackUptoRow : OpenClaim := { program := "ytmdijhfkobcbjaa", sum := "9ea6f1647e6cb75eb724e9d7664509e6cad23a969255d9e420d158bf85ab32b6", func := "subway/subwaylaw04.SyntaxBack", spec := "syntaxBack", inPlace := ["internal/bytealg.IndexByteString", "internal/bytealg.IndexString", "internal/abi.NoEscape", "internal/bytealg.MakeNoZero"], unfollowed := true, recurses := true, named := ["internal/bytealg.MaxLen"], apart := false, narrowed := true }
def SyntaxBackUptoSaid : Prop := syntaxBackUptoRow.holds Try.pinned (OpenSpec.upto syntaxBackSpec)

/-- 'subwaylaw04.SyntaxNets', WHERE WHAT IT READS IS OF BULK AT MOST 1048576: true; the input reads as it did. -/
def syntaxNetsUptoRow : OpenClaim := { program := "ytmdijhfkobcbjaa", sum := "9ea6f1647e6cb75eb724e9d7664509e6cad23a969255d9e420d158bf85ab32b6", func := "subway/subwaylaw04.SyntaxNets", spec := "syntaxNets", inPlace := ["internal/bytealg.IndexByteString", "internal/bytealg.IndexString", "internal/abi.NoEscape", "internal/bytealg.MakeNoZero"], unfollowed := true, recurses := true, named := ["internal/bytealg.MaxLen"], apart := false, narrowed := true }
def SyntaxNetsUptoSaid : Prop := syntaxNetsUptoRow.holds Try.pinned (OpenSpec.upto syntaxNetsSpec)

/-- 'subwaylaw04.SyntaxIn', WHERE WHAT IT READS IS OF BULK AT MOST 1048576: true; the input reads as it did. -/
def syntaxInUptoRow : OpenClaim := { program := "ytmdijhfkobcbjaa", sum := "9ea6f1647e6cb75eb724e9d7664509e6cad23a969255d9e420d158bf85ab32b6", func := "subway/subwaylaw04.SyntaxIn", spec := "syntaxIn", inPlace := ["internal/bytealg.IndexByteString", "internal/bytealg.IndexString", "internal/abi.NoEscape", "internal/bytealg.MakeNoZero"], unfollowed := true, recurses := true, named := ["internal/bytealg.MaxLen"], apart := false, narrowed := true }
def SyntaxInUptoSaid : Prop := syntaxInUptoRow.holds Try.pinned (OpenSpec.upto syntaxInSpec)

/-- 'subwaylaw04.SyntaxNames', WHERE WHAT IT READS IS OF BULK AT MOST 1048576: true; the input reads as it did. -/
def syntaxNamesUptoRow : OpenClaim := { program := "ytmdijhfkobcbjaa", sum := "9ea6f1647e6cb75eb724e9d7664509e6cad23a969255d9e420d158bf85ab32b6", func := "subway/subwaylaw04.SyntaxNames", spec := "syntaxNames", inPlace := ["internal/bytealg.IndexByteString", "internal/bytealg.IndexString", "internal/abi.NoEscape", "internal/bytealg.MakeNoZero"], unfollowed := true, recurses := true, named := ["internal/bytealg.MaxLen"], apart := false, narrowed := true }
def SyntaxNamesUptoSaid : Prop := syntaxNamesUptoRow.holds Try.pinned (OpenSpec.upto syntaxNamesSpec)

/-- 'subwaylaw04.SyntaxHalves', WHERE WHAT IT READS IS OF BULK AT MOST 1048576: true; the input reads as it did. -/
def syntaxHalvesUptoRow : OpenClaim := { program := "ytmdijhfkobcbjaa", sum := "9ea6f1647e6cb75eb724e9d7664509e6cad23a969255d9e420d158bf85ab32b6", func := "subway/subwaylaw04.SyntaxHalves", spec := "syntaxHalves", inPlace := ["internal/bytealg.IndexByteString", "internal/bytealg.IndexString", "internal/abi.NoEscape", "internal/bytealg.MakeNoZero"], unfollowed := true, recurses := true, named := ["internal/bytealg.MaxLen"], apart := false, narrowed := true }
def SyntaxHalvesUptoSaid : Prop := syntaxHalvesUptoRow.holds Try.pinned (OpenSpec.upto syntaxHalvesSpec)

/-- 'subwaylaw04.SyntaxParts', WHERE WHAT IT READS IS OF BULK AT MOST 1048576: true; the input reads as it did. -/
def syntaxPartsUptoRow : OpenClaim := { program := "ytmdijhfkobcbjaa", sum := "9ea6f1647e6cb75eb724e9d7664509e6cad23a969255d9e420d158bf85ab32b6", func := "subway/subwaylaw04.SyntaxParts", spec := "syntaxParts", inPlace := ["internal/bytealg.IndexByteString", "internal/bytealg.IndexString", "internal/abi.NoEscape", "internal/bytealg.MakeNoZero"], unfollowed := true, recurses := true, named := ["internal/bytealg.MaxLen"], apart := false, narrowed := true }
def SyntaxPartsUptoSaid : Prop := syntaxPartsUptoRow.holds Try.pinned (OpenSpec.upto syntaxPartsSpec)

end Rows
end Go.Proofs.Ytmdijhfkobcbjaa
