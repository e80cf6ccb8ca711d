/-
  No cell of these rows narrows 'for every input' (looked for: loops, veiled, ifaces, maps, wideKeys, modest, calm, conditions, laid).
  DERIVED. THE GIVEN ROWS OF THIS SEAT. 6 by the template 'for every input the law returns true; each argument reads behind the call as it read before'; 0 by the template 'total and deterministic' (their statements: YtcplebbaiambgaaTotals.lean).
  GIVEN WITH THE SEED: the statements are not yours to turn. If you find one false, say at which input.
  Laid BY PROGRAM, IN A SANDBOX (cutbox-rows.mjs): the forced cells as the released guide's own fill.sh prints them over the translation 386500b76f83164b… (all of the seat's roots in one cut). By AI agents, Wed Nov 11 2026. No macro, syntax, notation, axiom, sorry.
-/
import Derived.Test.YtcplebbaiambgaaChecked
import GoSem.Claim
import GoSem.ClaimJoined
import GoSem.ClaimMapViews
import Derived.JoinedTies
import Derived.KernelRfl
namespace Go.Proofs.Ytcplebbaiambgaa
/- THE CELL 'sum', in the pinned program and in every row, IS THE sha256 OF THE DUMP (.gsa) THAT YtcplebbaiambgaaProg.lean LOADS. Nothing in Lean hashes anything: it is a label: what it is worth is what the hold of that sum in a sandbox is worth. -/
noncomputable def Try.pinned : Pinned := { name := "ytcplebbaiambgaa", sum := "386500b76f83164b965ec91e34ac348cc9c2c56e2ee410d2b47fc328f62d4368", checked := Try.checked }
namespace Rows
def none {H : Type} : Left H := { results := [], args := [] }

/-- 'subwaylaw11.GatePlays': WHATEVER THE INPUT: true; the input reads as it did. -/
def gatePlaysSpec : ChangeSpec := { name := "gatePlays", fn := fun _ => fun
  | [d1, d2] => { results := [.lit (.bool true)], args := [d1, d2] }
  | _ => none }
def gatePlaysRow : OpenClaim := { program := "ytcplebbaiambgaa", sum := "386500b76f83164b965ec91e34ac348cc9c2c56e2ee410d2b47fc328f62d4368", func := "subway/subwaylaw11.GatePlays", spec := "gatePlays", inPlace := ["internal/abi.NoEscape", "internal/bytealg.MakeNoZero"], unfollowed := true, recurses := true, apart := false }
def GatePlaysSaid : Prop := gatePlaysRow.holds Try.pinned (OpenSpec.ofChange gatePlaysSpec)

/-- ITS FALSE NEIGHBOUR: 'it returns false'. Refute it at one input. -/
def gatePlaysWrong : ChangeSpec := { name := "gatePlays", fn := fun _ => fun
  | [d1, d2] => { results := [.lit (.bool false)], args := [d1, d2] }
  | _ => none }
def GatePlaysWrongFalsely : Prop := gatePlaysRow.holds Try.pinned (OpenSpec.ofChange gatePlaysWrong)

/-- 'subwaylaw11.GateCounts': WHATEVER THE INPUT: true; the input reads as it did. -/
def gateCountsSpec : ChangeSpec := { name := "gateCounts", fn := fun _ => fun
  | [d1, d2, d3, d4] => { results := [.lit (.bool true)], args := [d1, d2, d3, d4] }
  | _ => none }
def gateCountsRow : OpenClaim := { program := "ytcplebbaiambgaa", sum := "386500b76f83164b965ec91e34ac348cc9c2c56e2ee410d2b47fc328f62d4368", func := "subway/subwaylaw11.GateCounts", spec := "gateCounts", inPlace := ["internal/abi.NoEscape", "internal/bytealg.MakeNoZero"], unfollowed := true, recurses := true, apart := false }
def GateCountsSaid : Prop := gateCountsRow.holds Try.pinned (OpenSpec.ofChange gateCountsSpec)

/-- ITS FALSE NEIGHBOUR: 'it returns false'. Refute it at one input. -/
def gateCountsWrong : ChangeSpec := { name := "gateCounts", fn := fun _ => fun
  | [d1, d2, d3, d4] => { results := [.lit (.bool false)], args := [d1, d2, d3, d4] }
  | _ => none }
def GateCountsWrongFalsely : Prop := gateCountsRow.holds Try.pinned (OpenSpec.ofChange gateCountsWrong)

/-- 'subwaylaw11.GateApart': WHATEVER THE INPUT: true; the input reads as it did. -/
def gateApartSpec : ChangeSpec := { name := "gateApart", fn := fun _ => fun
  | [d1, d2, d3] => { results := [.lit (.bool true)], args := [d1, d2, d3] }
  | _ => none }
def gateApartRow : OpenClaim := { program := "ytcplebbaiambgaa", sum := "386500b76f83164b965ec91e34ac348cc9c2c56e2ee410d2b47fc328f62d4368", func := "subway/subwaylaw11.GateApart", spec := "gateApart", inPlace := ["internal/abi.NoEscape", "internal/bytealg.MakeNoZero"], unfollowed := true, recurses := true, apart := false }
def GateApartSaid : Prop := gateApartRow.holds Try.pinned (OpenSpec.ofChange gateApartSpec)

/-- ITS FALSE NEIGHBOUR: 'it returns false'. Refute it at one input. -/
def gateApartWrong : ChangeSpec := { name := "gateApart", fn := fun _ => fun
  | [d1, d2, d3] => { results := [.lit (.bool false)], args := [d1, d2, d3] }
  | _ => none }
def GateApartWrongFalsely : Prop := gateApartRow.holds Try.pinned (OpenSpec.ofChange gateApartWrong)

/-- 'subwaylaw11.GateNets': WHATEVER THE INPUT: true; the input reads as it did. -/
def gateNetsSpec : ChangeSpec := { name := "gateNets", fn := fun _ => fun
  | [d1, d2, d3] => { results := [.lit (.bool true)], args := [d1, d2, d3] }
  | _ => none }
def gateNetsRow : OpenClaim := { program := "ytcplebbaiambgaa", sum := "386500b76f83164b965ec91e34ac348cc9c2c56e2ee410d2b47fc328f62d4368", func := "subway/subwaylaw11.GateNets", spec := "gateNets", inPlace := ["internal/abi.NoEscape", "internal/bytealg.MakeNoZero"], unfollowed := true, recurses := true, apart := false }
def GateNetsSaid : Prop := gateNetsRow.holds Try.pinned (OpenSpec.ofChange gateNetsSpec)

/-- ITS FALSE NEIGHBOUR: 'it returns false'. Refute it at one input. -/
def gateNetsWrong : ChangeSpec := { name := "gateNets", fn := fun _ => fun
  | [d1, d2, d3] => { results := [.lit (.bool false)], args := [d1, d2, d3] }
  | _ => none }
def GateNetsWrongFalsely : Prop := gateNetsRow.holds Try.pinned (OpenSpec.ofChange gateNetsWrong)

/-- 'subwaylaw11.GateFill': WHATEVER THE INPUT: true; the input reads as it did. -/
def gateFillSpec : ChangeSpec := { name := "gateFill", fn := fun _ => fun
  | [d1, d2, d3] => { results := [.lit (.bool true)], args := [d1, d2, d3] }
  | _ => none }
def gateFillRow : OpenClaim := { program := "ytcplebbaiambgaa", sum := "386500b76f83164b965ec91e34ac348cc9c2c56e2ee410d2b47fc328f62d4368", func := "subway/subwaylaw11.GateFill", spec := "gateFill", inPlace := ["internal/abi.NoEscape", "internal/bytealg.MakeNoZero"], unfollowed := true, recurses := true, apart := false }
def GateFillSaid : Prop := gateFillRow.holds Try.pinned (OpenSpec.ofChange gateFillSpec)

/-- ITS FALSE NEIGHBOUR: 'it returns false'. Refute it at one input. -/
def gateFillWrong : ChangeSpec := { name := "gateFill", fn := fun _ => fun
  | [d1, d2, d3] => { results := [.lit (.bool false)], args := [d1, d2, d3] }
  | _ => none }
def GateFillWrongFalsely : Prop := gateFillRow.holds Try.pinned (OpenSpec.ofChange gateFillWrong)

/-- 'subwaylaw11.GateLook': WHATEVER THE INPUT: true; the input reads as it did. -/
def gateLookSpec : ChangeSpec := { name := "gateLook", fn := fun _ => fun
  | [d1, d2, d3, d4] => { results := [.lit (.bool true)], args := [d1, d2, d3, d4] }
  | _ => none }
def gateLookRow : OpenClaim := { program := "ytcplebbaiambgaa", sum := "386500b76f83164b965ec91e34ac348cc9c2c56e2ee410d2b47fc328f62d4368", func := "subway/subwaylaw11.GateLook", spec := "gateLook", inPlace := ["internal/abi.NoEscape", "internal/bytealg.MakeNoZero"], unfollowed := true, recurses := true, apart := false }
def GateLookSaid : Prop := gateLookRow.holds Try.pinned (OpenSpec.ofChange gateLookSpec)

/-- ITS FALSE NEIGHBOUR: 'it returns false'. Refute it at one input. -/
def gateLookWrong : ChangeSpec := { name := "gateLook", fn := fun _ => fun
  | [d1, d2, d3, d4] => { results := [.lit (.bool false)], args := [d1, d2, d3, d4] }
  | _ => none }
def GateLookWrongFalsely : Prop := gateLookRow.holds Try.pinned (OpenSpec.ofChange gateLookWrong)

/- THE SECOND FORM. 'bulk': how many values and letters a reading holds, each counted each time it is reached (what is shared counts as often as it is met; a slice's spare places count too). A statement '..UptoSaid' is the law's where the arguments, and the package variables that the reading takes, are together of bulk at most 1048576: NARROWER than '..Said'. Prove '..Said' where nothing that the law and all that it calls make is longer than what came in: it says more and counts as full. Else prove '..UptoSaid'. A law counts once. -/
mutual
def uptoBulk {H : Type} : DataW H → Nat
  | .lit (.string bytes) => bytes.length + 1
  | .lit _ => 1
  | .nil => 1
  | .ptr d => uptoBulk d + 1
  | .slice elems spare => uptoBulkAll elems + uptoBulkAll spare + 1
  | .agg parts => uptoBulkAll parts + 1
  | .iface _ d => uptoBulk d + 1
  | .map entries => uptoBulkEntries entries + 1
  | .held _ => 1
def uptoBulkAll {H : Type} : List (DataW H) → Nat
  | [] => 0
  | d :: r => uptoBulk d + uptoBulkAll r
def uptoBulkEntries {H : Type} : List (Lit × DataW H) → Nat
  | [] => 0
  | x :: r => uptoBulkEntry x + uptoBulkEntries r
def uptoBulkEntry {H : Type} : Lit × DataW H → Nat
  | (.string bytes, d) => bytes.length + uptoBulk d + 1
  | (_, d) => uptoBulk d + 1
 end
def uptoSmall : (H : Type) → List (DataW H) → Bool := fun _ ds => decide (uptoBulkAll ds ≤ 1048576)
def OpenSpec.upto (s : _root_.Go.ChangeSpec) : _root_.Go.OpenSpec := { _root_.Go.OpenSpec.ofChange s with cond := some uptoSmall }

/-- 'subwaylaw11.GatePlays', WHERE WHAT IT READS IS OF BULK AT MOST 1048576: true; the input reads as it did. -/
def gatePlaysUptoRow : OpenClaim := { program := "ytcplebbaiambgaa", sum := "386500b76f83164b965ec91e34ac348cc9c2c56e2ee410d2b47fc328f62d4368", func := "subway/subwaylaw11.GatePlays", spec := "gatePlays", inPlace := ["internal/abi.NoEscape", "internal/bytealg.MakeNoZero"], unfollowed := true, recurses := true, apart := false, narrowed := true }
def GatePlaysUptoSaid : Prop := gatePlaysUptoRow.holds Try.pinned (OpenSpec.upto gatePlaysSpec)

/-- 'subwaylaw11.GateCounts', WHERE WHAT IT READS IS OF BULK AT MOST 1048576: true; the input reads as it did. -/
def gateCountsUptoRow : OpenClaim := { program := "ytcplebbaiambgaa", sum := "386500b76f83164b965ec91e34ac348cc9c2c56e2ee410d2b47fc328f62d4368", func := "subway/subwaylaw11.GateCounts", spec := "gateCounts", inPlace := ["internal/abi.NoEscape", "internal/bytealg.MakeNoZero"], unfollowed := true, recurses := true, apart := false, narrowed := true }
def GateCountsUptoSaid : Prop := gateCountsUptoRow.holds Try.pinned (OpenSpec.upto gateCountsSpec)

/-- 'subwaylaw11.GateApart', WHERE WHAT IT READS IS OF BULK AT MOST 1048576: true; the input reads as it did. -/
def gateApartUptoRow : OpenClaim := { program := "ytcplebbaiambgaa", sum := "386500b76f83164b965ec91e34ac348cc9c2c56e2ee410d2b47fc328f62d4368", func := "subway/subwaylaw11.GateApart", spec := "gateApart", inPlace := ["internal/abi.NoEscape", "internal/bytealg.MakeNoZero"], unfollowed := true, recurses := true, apart := false, narrowed := true }
def GateApartUptoSaid : Prop := gateApartUptoRow.holds Try.pinned (OpenSpec.upto gateApartSpec)

/-- 'subwaylaw11.GateNets', WHERE WHAT IT READS IS OF BULK AT MOST 1048576: true; the input reads as it did. -/
def gateNetsUptoRow : OpenClaim := { program := "ytcplebbaiambgaa", sum := "386500b76f83164b965ec91e34ac348cc9c2c56e2ee410d2b47fc328f62d4368", func := "subway/subwaylaw11.GateNets", spec := "gateNets", inPlace := ["internal/abi.NoEscape", "internal/bytealg.MakeNoZero"], unfollowed := true, recurses := true, apart := false, narrowed := true }
def GateNetsUptoSaid : Prop := gateNetsUptoRow.holds Try.pinned (OpenSpec.upto gateNetsSpec)

/-- 'subwaylaw11.GateFill', WHERE WHAT IT READS IS OF BULK AT MOST 1048576: true; the input reads as it did. -/
def gateFillUptoRow : OpenClaim := { program := "ytcplebbaiambgaa", sum := "386500b76f83164b965ec91e34ac348cc9c2c56e2ee410d2b47fc328f62d4368", func := "subway/subwaylaw11.GateFill", spec := "gateFill", inPlace := ["internal/abi.NoEscape", "internal/bytealg.MakeNoZero"], unfollowed := true, recurses := true, apart := false, narrowed := true }
def GateFillUptoSaid : Prop := gateFillUptoRow.holds Try.pinned (OpenSpec.upto gateFillSpec)

/-- 'subwaylaw11.GateLook', WHERE WHAT IT READS IS OF BULK AT MOST 1048576: true; the input reads as it did. -/
def gateLookUptoRow : OpenClaim := { program := "ytcplebbaiambgaa", sum := "386500b76f83164b965ec91e34ac348cc9c2c56e2ee410d2b47fc328f62d4368", func := "subway/subwaylaw11.GateLook", spec := "gateLook", inPlace := ["internal/abi.NoEscape", "internal/bytealg.MakeNoZero"], unfollowed := true, recurses := true, apart := false, narrowed := true }
def GateLookUptoSaid : Prop := gateLookUptoRow.holds Try.pinned (OpenSpec.upto gateLookSpec)

end Rows
end Go.Proofs.Ytcplebbaiambgaa
