/-
  No cell of these rows narrows 'for every input' (looked for: loops, veiled, ifaces, maps, wideKeys, modest, calm, conditions, laid).
  DERIVED. THE GIVEN ROWS OF THIS SEAT. 7 by the template 'for every input the law returns true; each argument reads behind the call as it read before'; 0 by the template 'total and deterministic' (their statements: YtpbobmiajjgekaaTotals.lean).
  GIVEN WITH THE SEED: the statements are not yours to turn. If you find one false, say at which input.
  Laid BY PROGRAM, IN A SANDBOX (cutbox-rows.mjs): the forced cells as the released guide's own fill.sh prints them over the translation 7fb332d6e3acba8b… (all of the seat's roots in one cut). By AI agents, Wed Nov 11 2026. No macro, syntax, notation, axiom, sorry.
-/
import Derived.Test.YtpbobmiajjgekaaChecked
import GoSem.Claim
import GoSem.ClaimJoined
import GoSem.ClaimMapViews
import Derived.JoinedTies
import Derived.KernelRfl
namespace Go.Proofs.Ytpbobmiajjgekaa
/- THE CELL 'sum', in the pinned program and in every row, IS THE sha256 OF THE DUMP (.gsa) THAT YtpbobmiajjgekaaProg.lean LOADS. Nothing in Lean hashes anything: it is a label: what it is worth is what the hold of that sum in a sandbox is worth. -/
noncomputable def Try.pinned : Pinned := { name := "ytpbobmiajjgekaa", sum := "7fb332d6e3acba8b06eb8ce35787d59b0e5a9b58cb7d9434a5445de694fbc2dd", checked := Try.checked }
namespace Rows
def none {H : Type} : Left H := { results := [], args := [] }

/-- 'subwaylaw13.LeasePlays': WHATEVER THE INPUT: true; the input reads as it did. -/
def leasePlaysSpec : ChangeSpec := { name := "leasePlays", fn := fun _ => fun
  | [d1, d2, d3] => { results := [.lit (.bool true)], args := [d1, d2, d3] }
  | _ => none }
def leasePlaysRow : OpenClaim := { program := "ytpbobmiajjgekaa", sum := "7fb332d6e3acba8b06eb8ce35787d59b0e5a9b58cb7d9434a5445de694fbc2dd", func := "subway/subwaylaw13.LeasePlays", spec := "leasePlays", unfollowed := true, recurses := true, apart := false }
def LeasePlaysSaid : Prop := leasePlaysRow.holds Try.pinned (OpenSpec.ofChange leasePlaysSpec)

/-- ITS FALSE NEIGHBOUR: 'it returns false'. Refute it at one input. -/
def leasePlaysWrong : ChangeSpec := { name := "leasePlays", fn := fun _ => fun
  | [d1, d2, d3] => { results := [.lit (.bool false)], args := [d1, d2, d3] }
  | _ => none }
def LeasePlaysWrongFalsely : Prop := leasePlaysRow.holds Try.pinned (OpenSpec.ofChange leasePlaysWrong)

/-- 'subwaylaw13.LeaseOne': WHATEVER THE INPUT: true; the input reads as it did. -/
def leaseOneSpec : ChangeSpec := { name := "leaseOne", fn := fun _ => fun
  | [d1, d2, d3, d4, d5] => { results := [.lit (.bool true)], args := [d1, d2, d3, d4, d5] }
  | _ => none }
def leaseOneRow : OpenClaim := { program := "ytpbobmiajjgekaa", sum := "7fb332d6e3acba8b06eb8ce35787d59b0e5a9b58cb7d9434a5445de694fbc2dd", func := "subway/subwaylaw13.LeaseOne", spec := "leaseOne", unfollowed := true, recurses := true, apart := false }
def LeaseOneSaid : Prop := leaseOneRow.holds Try.pinned (OpenSpec.ofChange leaseOneSpec)

/-- ITS FALSE NEIGHBOUR: 'it returns false'. Refute it at one input. -/
def leaseOneWrong : ChangeSpec := { name := "leaseOne", fn := fun _ => fun
  | [d1, d2, d3, d4, d5] => { results := [.lit (.bool false)], args := [d1, d2, d3, d4, d5] }
  | _ => none }
def LeaseOneWrongFalsely : Prop := leaseOneRow.holds Try.pinned (OpenSpec.ofChange leaseOneWrong)

/-- 'subwaylaw13.LeaseEpochs': WHATEVER THE INPUT: true; the input reads as it did. -/
def leaseEpochsSpec : ChangeSpec := { name := "leaseEpochs", fn := fun _ => fun
  | [d] => { results := [.lit (.bool true)], args := [d] }
  | _ => none }
def leaseEpochsRow : OpenClaim := { program := "ytpbobmiajjgekaa", sum := "7fb332d6e3acba8b06eb8ce35787d59b0e5a9b58cb7d9434a5445de694fbc2dd", func := "subway/subwaylaw13.LeaseEpochs", spec := "leaseEpochs", unfollowed := true, recurses := true, apart := false }
def LeaseEpochsSaid : Prop := leaseEpochsRow.holds Try.pinned (OpenSpec.ofChange leaseEpochsSpec)

/-- ITS FALSE NEIGHBOUR: 'it returns false'. Refute it at one input. -/
def leaseEpochsWrong : ChangeSpec := { name := "leaseEpochs", fn := fun _ => fun
  | [d] => { results := [.lit (.bool false)], args := [d] }
  | _ => none }
def LeaseEpochsWrongFalsely : Prop := leaseEpochsRow.holds Try.pinned (OpenSpec.ofChange leaseEpochsWrong)

/-- 'subwaylaw13.LeaseKept': WHATEVER THE INPUT: true; the input reads as it did. -/
def leaseKeptSpec : ChangeSpec := { name := "leaseKept", fn := fun _ => fun
  | [d1, d2, d3, d4, d5, d6] => { results := [.lit (.bool true)], args := [d1, d2, d3, d4, d5, d6] }
  | _ => none }
def leaseKeptRow : OpenClaim := { program := "ytpbobmiajjgekaa", sum := "7fb332d6e3acba8b06eb8ce35787d59b0e5a9b58cb7d9434a5445de694fbc2dd", func := "subway/subwaylaw13.LeaseKept", spec := "leaseKept", unfollowed := true, recurses := true, apart := false }
def LeaseKeptSaid : Prop := leaseKeptRow.holds Try.pinned (OpenSpec.ofChange leaseKeptSpec)

/-- ITS FALSE NEIGHBOUR: 'it returns false'. Refute it at one input. -/
def leaseKeptWrong : ChangeSpec := { name := "leaseKept", fn := fun _ => fun
  | [d1, d2, d3, d4, d5, d6] => { results := [.lit (.bool false)], args := [d1, d2, d3, d4, d5, d6] }
  | _ => none }
def LeaseKeptWrongFalsely : Prop := leaseKeptRow.holds Try.pinned (OpenSpec.ofChange leaseKeptWrong)

/-- 'subwaylaw13.LeaseTimes': WHATEVER THE INPUT: true; the input reads as it did. -/
def leaseTimesSpec : ChangeSpec := { name := "leaseTimes", fn := fun _ => fun
  | [d1, d2, d3, d4, d5, d6] => { results := [.lit (.bool true)], args := [d1, d2, d3, d4, d5, d6] }
  | _ => none }
def leaseTimesRow : OpenClaim := { program := "ytpbobmiajjgekaa", sum := "7fb332d6e3acba8b06eb8ce35787d59b0e5a9b58cb7d9434a5445de694fbc2dd", func := "subway/subwaylaw13.LeaseTimes", spec := "leaseTimes", unfollowed := true, recurses := true, apart := false }
def LeaseTimesSaid : Prop := leaseTimesRow.holds Try.pinned (OpenSpec.ofChange leaseTimesSpec)

/-- ITS FALSE NEIGHBOUR: 'it returns false'. Refute it at one input. -/
def leaseTimesWrong : ChangeSpec := { name := "leaseTimes", fn := fun _ => fun
  | [d1, d2, d3, d4, d5, d6] => { results := [.lit (.bool false)], args := [d1, d2, d3, d4, d5, d6] }
  | _ => none }
def LeaseTimesWrongFalsely : Prop := leaseTimesRow.holds Try.pinned (OpenSpec.ofChange leaseTimesWrong)

/-- 'subwaylaw13.LeaseFull': WHATEVER THE INPUT: true; the input reads as it did. -/
def leaseFullSpec : ChangeSpec := { name := "leaseFull", fn := fun _ => fun
  | [d1, d2, d3] => { results := [.lit (.bool true)], args := [d1, d2, d3] }
  | _ => none }
def leaseFullRow : OpenClaim := { program := "ytpbobmiajjgekaa", sum := "7fb332d6e3acba8b06eb8ce35787d59b0e5a9b58cb7d9434a5445de694fbc2dd", func := "subway/subwaylaw13.LeaseFull", spec := "leaseFull", unfollowed := true, recurses := true, apart := false }
def LeaseFullSaid : Prop := leaseFullRow.holds Try.pinned (OpenSpec.ofChange leaseFullSpec)

/-- ITS FALSE NEIGHBOUR: 'it returns false'. Refute it at one input. -/
def leaseFullWrong : ChangeSpec := { name := "leaseFull", fn := fun _ => fun
  | [d1, d2, d3] => { results := [.lit (.bool false)], args := [d1, d2, d3] }
  | _ => none }
def LeaseFullWrongFalsely : Prop := leaseFullRow.holds Try.pinned (OpenSpec.ofChange leaseFullWrong)

/-- 'subwaylaw13.LeaseLeaves': WHATEVER THE INPUT: true; the input reads as it did. -/
def leaseLeavesSpec : ChangeSpec := { name := "leaseLeaves", fn := fun _ => fun
  | [d1, d2, d3] => { results := [.lit (.bool true)], args := [d1, d2, d3] }
  | _ => none }
def leaseLeavesRow : OpenClaim := { program := "ytpbobmiajjgekaa", sum := "7fb332d6e3acba8b06eb8ce35787d59b0e5a9b58cb7d9434a5445de694fbc2dd", func := "subway/subwaylaw13.LeaseLeaves", spec := "leaseLeaves", unfollowed := true, recurses := true, apart := false }
def LeaseLeavesSaid : Prop := leaseLeavesRow.holds Try.pinned (OpenSpec.ofChange leaseLeavesSpec)

/-- ITS FALSE NEIGHBOUR: 'it returns false'. Refute it at one input. -/
def leaseLeavesWrong : ChangeSpec := { name := "leaseLeaves", fn := fun _ => fun
  | [d1, d2, d3] => { results := [.lit (.bool false)], args := [d1, d2, d3] }
  | _ => none }
def LeaseLeavesWrongFalsely : Prop := leaseLeavesRow.holds Try.pinned (OpenSpec.ofChange leaseLeavesWrong)

/- THE SECOND FORM. 'bulk': how many values and letters a reading holds, each counted each time it is reached (what is shared counts as often as it is met; a slice's spare places count too). A statement '..UptoSaid' is the law's where the arguments, and the package variables that the reading takes, are together of bulk at most 1048576: NARROWER than '..Said'. Prove '..Said' where nothing that the law and all that it calls make is longer than what came in: it says more and counts as full. Else prove '..UptoSaid'. A law counts once. -/
mutual
def uptoBulk {H : Type} : DataW H → Nat
  | .lit (.string bytes) => bytes.length + 1
  | .lit _ => 1
  | .nil => 1
  | .ptr d => uptoBulk d + 1
  | .slice elems spare => uptoBulkAll elems + uptoBulkAll spare + 1
  | .agg parts => uptoBulkAll parts + 1
  | .iface _ d => uptoBulk d + 1
  | .map entries => uptoBulkEntries entries + 1
  | .held _ => 1
def uptoBulkAll {H : Type} : List (DataW H) → Nat
  | [] => 0
  | d :: r => uptoBulk d + uptoBulkAll r
def uptoBulkEntries {H : Type} : List (Lit × DataW H) → Nat
  | [] => 0
  | x :: r => uptoBulkEntry x + uptoBulkEntries r
def uptoBulkEntry {H : Type} : Lit × DataW H → Nat
  | (.string bytes, d) => bytes.length + uptoBulk d + 1
  | (_, d) => uptoBulk d + 1
 end
def uptoSmall : (H : Type) → List (DataW H) → Bool := fun _ ds => decide (uptoBulkAll ds ≤ 1048576)
def OpenSpec.upto (s : _root_.Go.ChangeSpec) : _root_.Go.OpenSpec := { _root_.Go.OpenSpec.ofChange s with cond := some uptoSmall }

/-- 'subwaylaw13.LeasePlays', WHERE WHAT IT READS IS OF BULK AT MOST 1048576: true; the input reads as it did. -/
def leasePlaysUptoRow : OpenClaim := { program := "ytpbobmiajjgekaa", sum := "7fb332d6e3acba8b06eb8ce35787d59b0e5a9b58cb7d9434a5445de694fbc2dd", func := "subway/subwaylaw13.LeasePlays", spec := "leasePlays", unfollowed := true, recurses := true, apart := false, narrowed := true }
def LeasePlaysUptoSaid : Prop := leasePlaysUptoRow.holds Try.pinned (OpenSpec.upto leasePlaysSpec)

/-- 'subwaylaw13.LeaseOne', WHERE WHAT IT READS IS OF BULK AT MOST 1048576: true; the input reads as it did. -/
def leaseOneUptoRow : OpenClaim := { program := "ytpbobmiajjgekaa", sum := "7fb332d6e3acba8b06eb8ce35787d59b0e5a9b58cb7d9434a5445de694fbc2dd", func := "subway/subwaylaw13.LeaseOne", spec := "leaseOne", unfollowed := true, recurses := true, apart := false, narrowed := true }
def LeaseOneUptoSaid : Prop := leaseOneUptoRow.holds Try.pinned (OpenSpec.upto leaseOneSpec)

/-- 'subwaylaw13.LeaseEpochs', WHERE WHAT IT READS IS OF BULK AT MOST 1048576: true; the input reads as it did. -/
def leaseEpochsUptoRow : OpenClaim := { program := "ytpbobmiajjgekaa", sum := "7fb332d6e3acba8b06eb8ce35787d59b0e5a9b58cb7d9434a5445de694fbc2dd", func := "subway/subwaylaw13.LeaseEpochs", spec := "leaseEpochs", unfollowed := true, recurses := true, apart := false, narrowed := true }
def LeaseEpochsUptoSaid : Prop := leaseEpochsUptoRow.holds Try.pinned (OpenSpec.upto leaseEpochsSpec)

/-- 'subwaylaw13.LeaseKept', WHERE WHAT IT READS IS OF BULK AT MOST 1048576: true; the input reads as it did. -/
def leaseKeptUptoRow : OpenClaim := { program := "ytpbobmiajjgekaa", sum := "7fb332d6e3acba8b06eb8ce35787d59b0e5a9b58cb7d9434a5445de694fbc2dd", func := "subway/subwaylaw13.LeaseKept", spec := "leaseKept", unfollowed := true, recurses := true, apart := false, narrowed := true }
def LeaseKeptUptoSaid : Prop := leaseKeptUptoRow.holds Try.pinned (OpenSpec.upto leaseKeptSpec)

/-- 'subwaylaw13.LeaseTimes', WHERE WHAT IT READS IS OF BULK AT MOST 1048576: true; the input reads as it did. -/
def leaseTimesUptoRow : OpenClaim := { program := "ytpbobmiajjgekaa", sum := "7fb332d6e3acba8b06eb8ce35787d59b0e5a9b58cb7d9434a5445de694fbc2dd", func := "subway/subwaylaw13.LeaseTimes", spec := "leaseTimes", unfollowed := true, recurses := true, apart := false, narrowed := true }
def LeaseTimesUptoSaid : Prop := leaseTimesUptoRow.holds Try.pinned (OpenSpec.upto leaseTimesSpec)

/-- 'subwaylaw13.LeaseFull', WHERE WHAT IT READS IS OF BULK AT MOST 1048576: true; the input reads as it did. -/
def leaseFullUptoRow : OpenClaim := { program := "ytpbobmiajjgekaa", sum := "7fb332d6e3acba8b06eb8ce35787d59b0e5a9b58cb7d9434a5445de694fbc2dd", func := "subway/subwaylaw13.LeaseFull", spec := "leaseFull", unfollowed := true, recurses := true, apart := false, narrowed := true }
def LeaseFullUptoSaid : Prop := leaseFullUptoRow.holds Try.pinned (OpenSpec.upto leaseFullSpec)

/-- 'subwaylaw13.LeaseLeaves', WHERE WHAT IT READS IS OF BULK AT MOST 1048576: true; the input reads as it did. -/
def leaseLeavesUptoRow : OpenClaim := { program := "ytpbobmiajjgekaa", sum := "7fb332d6e3acba8b06eb8ce35787d59b0e5a9b58cb7d9434a5445de694fbc2dd", func := "subway/subwaylaw13.LeaseLeaves", spec := "leaseLeaves", unfollowed := true, recurses := true, apart := false, narrowed := true }
def LeaseLeavesUptoSaid : Prop := leaseLeavesUptoRow.holds Try.pinned (OpenSpec.upto leaseLeavesSpec)

end Rows
end Go.Proofs.Ytpbobmiajjgekaa
