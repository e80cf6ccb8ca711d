/-
  DERIVED. GIVEN WITH THE SEED: THE CARDS: each row of YtjgapkbobmbhbaaDoorRows.lean that lists a variable, with what it lists TIED to the program's text (the seventh form; the later family's looks); each row that meets fmt, with fmt's text TOLD by the authors' own Lean function (tested against real Go, not proved from fmt's source: count such statements apart). THE CARD IS WHAT COUNTS. Prove the row's statement (the work); the ties are given (YtjgapkbobmbhbaaDoorTie.lean); close each card by the builder's one call (the guide's Derived/Test/ToyasCard.lean, 'card_holds'). Laid BY PROGRAM, IN A SANDBOX (cutbox-door.mjs). By AI agents, Wed Nov 11 2026. No macro, syntax, notation, axiom, sorry.
-/
import Derived.Test.YtjgapkbobmbhbaaDoorRows
import GoSem.ClaimSeven
namespace Go.Proofs.YtjgapkbobmbhbaaDoor
namespace Rows

/-- THE TIED CARD OF 'subwaylaw02.DigestTells'. -/
def digestTellsCard : Claim7 := { stood := { row := digestTellsRow, standIns := [], harness := (true, "618af3d5e264fe4f1676761df9ed370e30dde36bb448937a24d77d72d4d5f4b8"), looks := false }, kinds := [], alts := [], laidByText := true, laidKinds := [.data, .data], laidTests := true, laidLooks := .later }
def DigestTellsCardSaid : Prop := Claim7.holds Tryd.pinned (.plain (OpenSpec.ofChange digestTellsSpec)) digestTellsCard

/-- THE TIED CARD OF 'subwaylaw02.DigestLengths'. -/
def digestLengthsCard : Claim7 := { stood := { row := digestLengthsRow, standIns := [], harness := (true, "618af3d5e264fe4f1676761df9ed370e30dde36bb448937a24d77d72d4d5f4b8"), looks := false }, kinds := [], alts := [], laidByText := true, laidKinds := [.data, .data], laidTests := true, laidLooks := .later }
def DigestLengthsCardSaid : Prop := Claim7.holds Tryd.pinned (.plain (OpenSpec.ofChange digestLengthsSpec)) digestLengthsCard

/-- THE TIED CARD OF 'subwaylaw02.DigestBack'. -/
def digestBackCard : Claim7 := { stood := { row := digestBackRow, standIns := [], harness := (true, "618af3d5e264fe4f1676761df9ed370e30dde36bb448937a24d77d72d4d5f4b8"), looks := false }, kinds := [], alts := [], laidByText := true, laidKinds := [.data, .data], laidTests := true, laidLooks := .later }
def DigestBackCardSaid : Prop := Claim7.holds Tryd.pinned (.plain (OpenSpec.ofChange digestBackSpec)) digestBackCard

/-- THE TIED CARD OF 'subwaylaw02.DigestStill'. -/
def digestStillCard : Claim7 := { stood := { row := digestStillRow, standIns := [], harness := (true, "618af3d5e264fe4f1676761df9ed370e30dde36bb448937a24d77d72d4d5f4b8"), looks := false }, kinds := [], alts := [], laidByText := true, laidKinds := [.data, .data], laidTests := true, laidLooks := .later }
def DigestStillCardSaid : Prop := Claim7.holds Tryd.pinned (.plain (OpenSpec.ofChange digestStillSpec)) digestStillCard

/-- THE TIED CARD OF 'subwaylaw02.DigestJoin'. -/
def digestJoinCard : Claim7 := { stood := { row := digestJoinRow, standIns := [], harness := (true, "618af3d5e264fe4f1676761df9ed370e30dde36bb448937a24d77d72d4d5f4b8"), looks := false }, kinds := [], alts := [], laidByText := true, laidKinds := [.data, .data], laidTests := true, laidLooks := .later }
def DigestJoinCardSaid : Prop := Claim7.holds Tryd.pinned (.plain (OpenSpec.ofChange digestJoinSpec)) digestJoinCard

/-- THE TIED CARD OF 'subwaylaw02.DigestDigits'. -/
def digestDigitsCard : Claim7 := { stood := { row := digestDigitsRow, standIns := [], harness := (true, "618af3d5e264fe4f1676761df9ed370e30dde36bb448937a24d77d72d4d5f4b8"), looks := false }, kinds := [], alts := [], laidByText := true, laidKinds := [.data, .data], laidTests := true, laidLooks := .later }
def DigestDigitsCardSaid : Prop := Claim7.holds Tryd.pinned (.plain (OpenSpec.ofChange digestDigitsSpec)) digestDigitsCard

/-- THE SECOND FORM's CARD OF 'subwaylaw02.DigestTells'. -/
def digestTellsUptoCard : Claim7 := { stood := { row := digestTellsUptoRow, standIns := [], harness := (true, "618af3d5e264fe4f1676761df9ed370e30dde36bb448937a24d77d72d4d5f4b8"), looks := false }, kinds := [], alts := [], laidByText := true, laidKinds := [.data, .data], laidTests := true, laidLooks := .later }
def DigestTellsUptoCardSaid : Prop := Claim7.holds Tryd.pinned (.plain (OpenSpec.upto digestTellsSpec)) digestTellsUptoCard

/-- THE SECOND FORM's CARD OF 'subwaylaw02.DigestLengths'. -/
def digestLengthsUptoCard : Claim7 := { stood := { row := digestLengthsUptoRow, standIns := [], harness := (true, "618af3d5e264fe4f1676761df9ed370e30dde36bb448937a24d77d72d4d5f4b8"), looks := false }, kinds := [], alts := [], laidByText := true, laidKinds := [.data, .data], laidTests := true, laidLooks := .later }
def DigestLengthsUptoCardSaid : Prop := Claim7.holds Tryd.pinned (.plain (OpenSpec.upto digestLengthsSpec)) digestLengthsUptoCard

/-- THE SECOND FORM's CARD OF 'subwaylaw02.DigestBack'. -/
def digestBackUptoCard : Claim7 := { stood := { row := digestBackUptoRow, standIns := [], harness := (true, "618af3d5e264fe4f1676761df9ed370e30dde36bb448937a24d77d72d4d5f4b8"), looks := false }, kinds := [], alts := [], laidByText := true, laidKinds := [.data, .data], laidTests := true, laidLooks := .later }
def DigestBackUptoCardSaid : Prop := Claim7.holds Tryd.pinned (.plain (OpenSpec.upto digestBackSpec)) digestBackUptoCard

/-- THE SECOND FORM's CARD OF 'subwaylaw02.DigestStill'. -/
def digestStillUptoCard : Claim7 := { stood := { row := digestStillUptoRow, standIns := [], harness := (true, "618af3d5e264fe4f1676761df9ed370e30dde36bb448937a24d77d72d4d5f4b8"), looks := false }, kinds := [], alts := [], laidByText := true, laidKinds := [.data, .data], laidTests := true, laidLooks := .later }
def DigestStillUptoCardSaid : Prop := Claim7.holds Tryd.pinned (.plain (OpenSpec.upto digestStillSpec)) digestStillUptoCard

/-- THE SECOND FORM's CARD OF 'subwaylaw02.DigestJoin'. -/
def digestJoinUptoCard : Claim7 := { stood := { row := digestJoinUptoRow, standIns := [], harness := (true, "618af3d5e264fe4f1676761df9ed370e30dde36bb448937a24d77d72d4d5f4b8"), looks := false }, kinds := [], alts := [], laidByText := true, laidKinds := [.data, .data], laidTests := true, laidLooks := .later }
def DigestJoinUptoCardSaid : Prop := Claim7.holds Tryd.pinned (.plain (OpenSpec.upto digestJoinSpec)) digestJoinUptoCard

/-- THE SECOND FORM's CARD OF 'subwaylaw02.DigestDigits'. -/
def digestDigitsUptoCard : Claim7 := { stood := { row := digestDigitsUptoRow, standIns := [], harness := (true, "618af3d5e264fe4f1676761df9ed370e30dde36bb448937a24d77d72d4d5f4b8"), looks := false }, kinds := [], alts := [], laidByText := true, laidKinds := [.data, .data], laidTests := true, laidLooks := .later }
def DigestDigitsUptoCardSaid : Prop := Claim7.holds Tryd.pinned (.plain (OpenSpec.upto digestDigitsSpec)) digestDigitsUptoCard
end Rows
end Go.Proofs.YtjgapkbobmbhbaaDoor
