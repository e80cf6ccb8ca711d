/-
  DERIVED. GIVEN WITH THE SEED: THE CARDS: each row of YtoekdiefbpnekaaDoorRows.lean that lists a variable, with what it lists TIED to the program's text (the seventh form; the later family's looks); each row that meets fmt, with fmt's text TOLD by the authors' own Lean function (tested against real Go, not proved from fmt's source: count such statements apart). THE CARD IS WHAT COUNTS. Prove the row's statement (the work); the ties are given (YtoekdiefbpnekaaDoorTie.lean); close each card by the builder's one call (the guide's Derived/Test/ToyasCard.lean, 'card_holds'). Laid BY PROGRAM, IN A SANDBOX (cutbox-door.mjs). By AI agents, Wed Nov 11 2026. No macro, syntax, notation, axiom, sorry.
-/
import Derived.Test.YtoekdiefbpnekaaDoorRows
import GoSem.ClaimSeven
namespace Go.Proofs.YtoekdiefbpnekaaDoor
namespace Rows

/-- THE TIED CARD OF 'subwaylaw02.DigestTells'. -/
def digestTellsCard : Claim7 := { stood := { row := digestTellsRow, standIns := [], harness := (true, "6bc477cb2f856065d2098fc5a1262ff98b928c5c26e8792bf58289db9e3de876"), looks := false }, kinds := [], alts := [], laidByText := true, laidKinds := [.data, .data], laidTests := true, laidLooks := .later }
def DigestTellsCardSaid : Prop := Claim7.holds Tryd.pinned (.plain (OpenSpec.ofChange digestTellsSpec)) digestTellsCard

/-- THE TIED CARD OF 'subwaylaw02.DigestLengths'. -/
def digestLengthsCard : Claim7 := { stood := { row := digestLengthsRow, standIns := [], harness := (true, "6bc477cb2f856065d2098fc5a1262ff98b928c5c26e8792bf58289db9e3de876"), looks := false }, kinds := [], alts := [], laidByText := true, laidKinds := [.data, .data], laidTests := true, laidLooks := .later }
def DigestLengthsCardSaid : Prop := Claim7.holds Tryd.pinned (.plain (OpenSpec.ofChange digestLengthsSpec)) digestLengthsCard

/-- THE TIED CARD OF 'subwaylaw02.DigestJoin'. -/
def digestJoinCard : Claim7 := { stood := { row := digestJoinRow, standIns := [], harness := (true, "6bc477cb2f856065d2098fc5a1262ff98b928c5c26e8792bf58289db9e3de876"), looks := false }, kinds := [], alts := [], laidByText := true, laidKinds := [.data, .data], laidTests := true, laidLooks := .later }
def DigestJoinCardSaid : Prop := Claim7.holds Tryd.pinned (.plain (OpenSpec.ofChange digestJoinSpec)) digestJoinCard

/-- THE TIED CARD OF 'subwaylaw03.MacTells'. -/
def macTellsCard : Claim7 := { stood := { row := macTellsRow, standIns := [], harness := (true, "6bc477cb2f856065d2098fc5a1262ff98b928c5c26e8792bf58289db9e3de876"), looks := false }, kinds := [], alts := [], laidByText := true, laidKinds := [.data, .data], laidTests := true, laidLooks := .later }
def MacTellsCardSaid : Prop := Claim7.holds Tryd.pinned (.plain (OpenSpec.ofChange macTellsSpec)) macTellsCard

/-- THE TIED CARD OF 'subwaylaw03.MacKeys'. -/
def macKeysCard : Claim7 := { stood := { row := macKeysRow, standIns := [], harness := (true, "6bc477cb2f856065d2098fc5a1262ff98b928c5c26e8792bf58289db9e3de876"), looks := false }, kinds := [], alts := [], laidByText := true, laidKinds := [.data, .data], laidTests := true, laidLooks := .later }
def MacKeysCardSaid : Prop := Claim7.holds Tryd.pinned (.plain (OpenSpec.ofChange macKeysSpec)) macKeysCard

/-- THE TIED CARD OF 'subwaylaw03.MacWords'. -/
def macWordsCard : Claim7 := { stood := { row := macWordsRow, standIns := [], harness := (true, "6bc477cb2f856065d2098fc5a1262ff98b928c5c26e8792bf58289db9e3de876"), looks := false }, kinds := [], alts := [], laidByText := true, laidKinds := [.data, .data], laidTests := true, laidLooks := .later }
def MacWordsCardSaid : Prop := Claim7.holds Tryd.pinned (.plain (OpenSpec.ofChange macWordsSpec)) macWordsCard

/-- THE TIED CARD OF 'subwaylaw03.MacSame'. -/
def macSameCard : Claim7 := { stood := { row := macSameRow, standIns := [], harness := (true, "6bc477cb2f856065d2098fc5a1262ff98b928c5c26e8792bf58289db9e3de876"), looks := false }, kinds := [], alts := [], laidByText := true, laidKinds := [.data, .data], laidTests := true, laidLooks := .later }
def MacSameCardSaid : Prop := Claim7.holds Tryd.pinned (.plain (OpenSpec.ofChange macSameSpec)) macSameCard

/-- THE TIED CARD OF 'subwaylaw03.MacInner'. -/
def macInnerCard : Claim7 := { stood := { row := macInnerRow, standIns := [], harness := (true, "6bc477cb2f856065d2098fc5a1262ff98b928c5c26e8792bf58289db9e3de876"), looks := false }, kinds := [], alts := [], laidByText := true, laidKinds := [.data, .data], laidTests := true, laidLooks := .later }
def MacInnerCardSaid : Prop := Claim7.holds Tryd.pinned (.plain (OpenSpec.ofChange macInnerSpec)) macInnerCard

/-- THE TIED CARD OF 'subwaylaw03.MacStill'. -/
def macStillCard : Claim7 := { stood := { row := macStillRow, standIns := [], harness := (true, "6bc477cb2f856065d2098fc5a1262ff98b928c5c26e8792bf58289db9e3de876"), looks := false }, kinds := [], alts := [], laidByText := true, laidKinds := [.data, .data], laidTests := true, laidLooks := .later }
def MacStillCardSaid : Prop := Claim7.holds Tryd.pinned (.plain (OpenSpec.ofChange macStillSpec)) macStillCard

/-- THE SECOND FORM's CARD OF 'subwaylaw02.DigestTells'. -/
def digestTellsUptoCard : Claim7 := { stood := { row := digestTellsUptoRow, standIns := [], harness := (true, "6bc477cb2f856065d2098fc5a1262ff98b928c5c26e8792bf58289db9e3de876"), looks := false }, kinds := [], alts := [], laidByText := true, laidKinds := [.data, .data], laidTests := true, laidLooks := .later }
def DigestTellsUptoCardSaid : Prop := Claim7.holds Tryd.pinned (.plain (OpenSpec.upto digestTellsSpec)) digestTellsUptoCard

/-- THE SECOND FORM's CARD OF 'subwaylaw02.DigestLengths'. -/
def digestLengthsUptoCard : Claim7 := { stood := { row := digestLengthsUptoRow, standIns := [], harness := (true, "6bc477cb2f856065d2098fc5a1262ff98b928c5c26e8792bf58289db9e3de876"), looks := false }, kinds := [], alts := [], laidByText := true, laidKinds := [.data, .data], laidTests := true, laidLooks := .later }
def DigestLengthsUptoCardSaid : Prop := Claim7.holds Tryd.pinned (.plain (OpenSpec.upto digestLengthsSpec)) digestLengthsUptoCard

/-- THE SECOND FORM's CARD OF 'subwaylaw02.DigestJoin'. -/
def digestJoinUptoCard : Claim7 := { stood := { row := digestJoinUptoRow, standIns := [], harness := (true, "6bc477cb2f856065d2098fc5a1262ff98b928c5c26e8792bf58289db9e3de876"), looks := false }, kinds := [], alts := [], laidByText := true, laidKinds := [.data, .data], laidTests := true, laidLooks := .later }
def DigestJoinUptoCardSaid : Prop := Claim7.holds Tryd.pinned (.plain (OpenSpec.upto digestJoinSpec)) digestJoinUptoCard

/-- THE SECOND FORM's CARD OF 'subwaylaw03.MacTells'. -/
def macTellsUptoCard : Claim7 := { stood := { row := macTellsUptoRow, standIns := [], harness := (true, "6bc477cb2f856065d2098fc5a1262ff98b928c5c26e8792bf58289db9e3de876"), looks := false }, kinds := [], alts := [], laidByText := true, laidKinds := [.data, .data], laidTests := true, laidLooks := .later }
def MacTellsUptoCardSaid : Prop := Claim7.holds Tryd.pinned (.plain (OpenSpec.upto macTellsSpec)) macTellsUptoCard

/-- THE SECOND FORM's CARD OF 'subwaylaw03.MacKeys'. -/
def macKeysUptoCard : Claim7 := { stood := { row := macKeysUptoRow, standIns := [], harness := (true, "6bc477cb2f856065d2098fc5a1262ff98b928c5c26e8792bf58289db9e3de876"), looks := false }, kinds := [], alts := [], laidByText := true, laidKinds := [.data, .data], laidTests := true, laidLooks := .later }
def MacKeysUptoCardSaid : Prop := Claim7.holds Tryd.pinned (.plain (OpenSpec.upto macKeysSpec)) macKeysUptoCard

/-- THE SECOND FORM's CARD OF 'subwaylaw03.MacWords'. -/
def macWordsUptoCard : Claim7 := { stood := { row := macWordsUptoRow, standIns := [], harness := (true, "6bc477cb2f856065d2098fc5a1262ff98b928c5c26e8792bf58289db9e3de876"), looks := false }, kinds := [], alts := [], laidByText := true, laidKinds := [.data, .data], laidTests := true, laidLooks := .later }
def MacWordsUptoCardSaid : Prop := Claim7.holds Tryd.pinned (.plain (OpenSpec.upto macWordsSpec)) macWordsUptoCard

/-- THE SECOND FORM's CARD OF 'subwaylaw03.MacSame'. -/
def macSameUptoCard : Claim7 := { stood := { row := macSameUptoRow, standIns := [], harness := (true, "6bc477cb2f856065d2098fc5a1262ff98b928c5c26e8792bf58289db9e3de876"), looks := false }, kinds := [], alts := [], laidByText := true, laidKinds := [.data, .data], laidTests := true, laidLooks := .later }
def MacSameUptoCardSaid : Prop := Claim7.holds Tryd.pinned (.plain (OpenSpec.upto macSameSpec)) macSameUptoCard

/-- THE SECOND FORM's CARD OF 'subwaylaw03.MacInner'. -/
def macInnerUptoCard : Claim7 := { stood := { row := macInnerUptoRow, standIns := [], harness := (true, "6bc477cb2f856065d2098fc5a1262ff98b928c5c26e8792bf58289db9e3de876"), looks := false }, kinds := [], alts := [], laidByText := true, laidKinds := [.data, .data], laidTests := true, laidLooks := .later }
def MacInnerUptoCardSaid : Prop := Claim7.holds Tryd.pinned (.plain (OpenSpec.upto macInnerSpec)) macInnerUptoCard

/-- THE SECOND FORM's CARD OF 'subwaylaw03.MacStill'. -/
def macStillUptoCard : Claim7 := { stood := { row := macStillUptoRow, standIns := [], harness := (true, "6bc477cb2f856065d2098fc5a1262ff98b928c5c26e8792bf58289db9e3de876"), looks := false }, kinds := [], alts := [], laidByText := true, laidKinds := [.data, .data], laidTests := true, laidLooks := .later }
def MacStillUptoCardSaid : Prop := Claim7.holds Tryd.pinned (.plain (OpenSpec.upto macStillSpec)) macStillUptoCard
end Rows
end Go.Proofs.YtoekdiefbpnekaaDoor
