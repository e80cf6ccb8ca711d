/-
  DERIVED. GIVEN WITH THE SEED: THE CARDS: each row of YtimhjmeebahdaaaDoorRows.lean that lists a variable, with what it lists TIED to the program's text (the seventh form; the later family's looks); each row that meets fmt, with fmt's text TOLD by the authors' own Lean function (tested against real Go, not proved from fmt's source: count such statements apart). THE CARD IS WHAT COUNTS. Prove the row's statement (the work); the ties are given (YtimhjmeebahdaaaDoorTie.lean); close each card by the builder's one call (the guide's Derived/Test/ToyasCard.lean, 'card_holds'). Laid BY PROGRAM, IN A SANDBOX (cutbox-door.mjs). By AI agents, Wed Nov 11 2026. No macro, syntax, notation, axiom, sorry.
-/
import Derived.Test.YtimhjmeebahdaaaDoorRows
import GoSem.ClaimSeven
namespace Go.Proofs.YtimhjmeebahdaaaDoor
namespace Rows

/-- THE TIED CARD OF 'subwaylaw05.WireTells'. -/
def wireTellsCard : Claim7 := { stood := { row := wireTellsRow, standIns := [], harness := (true, "b469f26724653d63e6ef9f55b611c963b5cf0c3c7673beffc01429f4abb7b877"), looks := false }, kinds := [], alts := [], laidByText := true, laidKinds := [.data], laidTests := true, laidLooks := .later }
def WireTellsCardSaid : Prop := Claim7.holds Tryd.pinned (.plain (OpenSpec.ofChange wireTellsSpec)) wireTellsCard

/-- THE TIED CARD OF 'subwaylaw05.WireBack'. -/
def wireBackCard : Claim7 := { stood := { row := wireBackRow, standIns := [], harness := (true, "b469f26724653d63e6ef9f55b611c963b5cf0c3c7673beffc01429f4abb7b877"), looks := false }, kinds := [], alts := [], laidByText := true, laidKinds := [.data], laidTests := true, laidLooks := .later }
def WireBackCardSaid : Prop := Claim7.holds Tryd.pinned (.plain (OpenSpec.ofChange wireBackSpec)) wireBackCard

/-- THE TIED CARD OF 'subwaylaw05.WireKinds'. -/
def wireKindsCard : Claim7 := { stood := { row := wireKindsRow, standIns := [], harness := (true, "b469f26724653d63e6ef9f55b611c963b5cf0c3c7673beffc01429f4abb7b877"), looks := false }, kinds := [], alts := [], laidByText := true, laidKinds := [.data], laidTests := true, laidLooks := .later }
def WireKindsCardSaid : Prop := Claim7.holds Tryd.pinned (.plain (OpenSpec.ofChange wireKindsSpec)) wireKindsCard

/-- THE TIED CARD OF 'subwaylaw05.WireOther'. -/
def wireOtherCard : Claim7 := { stood := { row := wireOtherRow, standIns := [], harness := (true, "b469f26724653d63e6ef9f55b611c963b5cf0c3c7673beffc01429f4abb7b877"), looks := false }, kinds := [], alts := [], laidByText := true, laidKinds := [.data], laidTests := true, laidLooks := .later }
def WireOtherCardSaid : Prop := Claim7.holds Tryd.pinned (.plain (OpenSpec.ofChange wireOtherSpec)) wireOtherCard

/-- THE TIED CARD OF 'subwaylaw05.WireBounds'. -/
def wireBoundsCard : Claim7 := { stood := { row := wireBoundsRow, standIns := [], harness := (true, "b469f26724653d63e6ef9f55b611c963b5cf0c3c7673beffc01429f4abb7b877"), looks := false }, kinds := [], alts := [], laidByText := true, laidKinds := [.data], laidTests := true, laidLooks := .later }
def WireBoundsCardSaid : Prop := Claim7.holds Tryd.pinned (.plain (OpenSpec.ofChange wireBoundsSpec)) wireBoundsCard

/-- THE TIED CARD OF 'subwaylaw05.WireFirst'. -/
def wireFirstCard : Claim7 := { stood := { row := wireFirstRow, standIns := [], harness := (true, "b469f26724653d63e6ef9f55b611c963b5cf0c3c7673beffc01429f4abb7b877"), looks := false }, kinds := [], alts := [], laidByText := true, laidKinds := [.data], laidTests := true, laidLooks := .later }
def WireFirstCardSaid : Prop := Claim7.holds Tryd.pinned (.plain (OpenSpec.ofChange wireFirstSpec)) wireFirstCard

/-- THE SECOND FORM's CARD OF 'subwaylaw05.WireTells'. -/
def wireTellsUptoCard : Claim7 := { stood := { row := wireTellsUptoRow, standIns := [], harness := (true, "b469f26724653d63e6ef9f55b611c963b5cf0c3c7673beffc01429f4abb7b877"), looks := false }, kinds := [], alts := [], laidByText := true, laidKinds := [.data], laidTests := true, laidLooks := .later }
def WireTellsUptoCardSaid : Prop := Claim7.holds Tryd.pinned (.plain (OpenSpec.upto wireTellsSpec)) wireTellsUptoCard

/-- THE SECOND FORM's CARD OF 'subwaylaw05.WireBack'. -/
def wireBackUptoCard : Claim7 := { stood := { row := wireBackUptoRow, standIns := [], harness := (true, "b469f26724653d63e6ef9f55b611c963b5cf0c3c7673beffc01429f4abb7b877"), looks := false }, kinds := [], alts := [], laidByText := true, laidKinds := [.data], laidTests := true, laidLooks := .later }
def WireBackUptoCardSaid : Prop := Claim7.holds Tryd.pinned (.plain (OpenSpec.upto wireBackSpec)) wireBackUptoCard

/-- THE SECOND FORM's CARD OF 'subwaylaw05.WireKinds'. -/
def wireKindsUptoCard : Claim7 := { stood := { row := wireKindsUptoRow, standIns := [], harness := (true, "b469f26724653d63e6ef9f55b611c963b5cf0c3c7673beffc01429f4abb7b877"), looks := false }, kinds := [], alts := [], laidByText := true, laidKinds := [.data], laidTests := true, laidLooks := .later }
def WireKindsUptoCardSaid : Prop := Claim7.holds Tryd.pinned (.plain (OpenSpec.upto wireKindsSpec)) wireKindsUptoCard

/-- THE SECOND FORM's CARD OF 'subwaylaw05.WireOther'. -/
def wireOtherUptoCard : Claim7 := { stood := { row := wireOtherUptoRow, standIns := [], harness := (true, "b469f26724653d63e6ef9f55b611c963b5cf0c3c7673beffc01429f4abb7b877"), looks := false }, kinds := [], alts := [], laidByText := true, laidKinds := [.data], laidTests := true, laidLooks := .later }
def WireOtherUptoCardSaid : Prop := Claim7.holds Tryd.pinned (.plain (OpenSpec.upto wireOtherSpec)) wireOtherUptoCard

/-- THE SECOND FORM's CARD OF 'subwaylaw05.WireBounds'. -/
def wireBoundsUptoCard : Claim7 := { stood := { row := wireBoundsUptoRow, standIns := [], harness := (true, "b469f26724653d63e6ef9f55b611c963b5cf0c3c7673beffc01429f4abb7b877"), looks := false }, kinds := [], alts := [], laidByText := true, laidKinds := [.data], laidTests := true, laidLooks := .later }
def WireBoundsUptoCardSaid : Prop := Claim7.holds Tryd.pinned (.plain (OpenSpec.upto wireBoundsSpec)) wireBoundsUptoCard

/-- THE SECOND FORM's CARD OF 'subwaylaw05.WireFirst'. -/
def wireFirstUptoCard : Claim7 := { stood := { row := wireFirstUptoRow, standIns := [], harness := (true, "b469f26724653d63e6ef9f55b611c963b5cf0c3c7673beffc01429f4abb7b877"), looks := false }, kinds := [], alts := [], laidByText := true, laidKinds := [.data], laidTests := true, laidLooks := .later }
def WireFirstUptoCardSaid : Prop := Claim7.holds Tryd.pinned (.plain (OpenSpec.upto wireFirstSpec)) wireFirstUptoCard
end Rows
end Go.Proofs.YtimhjmeebahdaaaDoor
