/-
  DERIVED. GIVEN WITH THE SEED: THE CARDS: each row of YtfpjkedcpnmfeaaDoorRows.lean that lists a variable, with what it lists TIED to the program's text (the seventh form; the later family's looks); each row that meets fmt, with fmt's text TOLD by the authors' own Lean function (tested against real Go, not proved from fmt's source: count such statements apart). THE CARD IS WHAT COUNTS. Prove the row's statement (the work); the ties are given (YtfpjkedcpnmfeaaDoorTie.lean); close each card by the builder's one call (the guide's Derived/Test/ToyasCard.lean, 'card_holds'). Laid BY PROGRAM, IN A SANDBOX (cutbox-door.mjs). By AI agents, Wed Nov 11 2026. No macro, syntax, notation, axiom, sorry.
-/
import Derived.Test.YtfpjkedcpnmfeaaDoorRows
import GoSem.ClaimSeven
namespace Go.Proofs.YtfpjkedcpnmfeaaDoor
namespace Rows

/-- THE TIED CARD OF 'subwaylaw09.ConfigBack'. -/
def configBackCard : Claim7 := { stood := { row := configBackRow, standIns := [], harness := (true, "492fd5d414af17e3c5f7e6cac3f0e94c983918f0646f6dcd1a9f9fa4769f04ba"), looks := false }, kinds := [], alts := [], laidByText := true, laidKinds := [.data, .pinned], laidTests := true, laidLooks := .later }
def ConfigBackCardSaid : Prop := Claim7.holds Tryd.pinned (.plain (OpenSpec.ofChange configBackSpec)) configBackCard

/-- THE TIED CARD OF 'subwaylaw09.ConfigLines'. -/
def configLinesCard : Claim7 := { stood := { row := configLinesRow, standIns := [], harness := (true, "492fd5d414af17e3c5f7e6cac3f0e94c983918f0646f6dcd1a9f9fa4769f04ba"), looks := false }, kinds := [], alts := [], laidByText := true, laidKinds := [.data, .pinned], laidTests := true, laidLooks := .later }
def ConfigLinesCardSaid : Prop := Claim7.holds Tryd.pinned (.plain (OpenSpec.ofChange configLinesSpec)) configLinesCard

/-- THE TIED CARD OF 'subwaylaw09.ConfigChanged'. -/
def configChangedCard : Claim7 := { stood := { row := configChangedRow, standIns := [], harness := (true, "492fd5d414af17e3c5f7e6cac3f0e94c983918f0646f6dcd1a9f9fa4769f04ba"), looks := false }, kinds := [], alts := [], laidByText := true, laidKinds := [.data, .pinned], laidTests := true, laidLooks := .later }
def ConfigChangedCardSaid : Prop := Claim7.holds Tryd.pinned (.plain (OpenSpec.ofChange configChangedSpec)) configChangedCard

/-- THE TIED CARD OF 'subwaylaw09.ConfigFinds'. -/
def configFindsCard : Claim7 := { stood := { row := configFindsRow, standIns := [], harness := (true, "492fd5d414af17e3c5f7e6cac3f0e94c983918f0646f6dcd1a9f9fa4769f04ba"), looks := false }, kinds := [], alts := [], laidByText := true, laidKinds := [.data, .pinned], laidTests := true, laidLooks := .later }
def ConfigFindsCardSaid : Prop := Claim7.holds Tryd.pinned (.plain (OpenSpec.ofChange configFindsSpec)) configFindsCard

/-- THE TIED CARD OF 'subwaylaw09.ConfigGrows'. -/
def configGrowsCard : Claim7 := { stood := { row := configGrowsRow, standIns := [], harness := (true, "492fd5d414af17e3c5f7e6cac3f0e94c983918f0646f6dcd1a9f9fa4769f04ba"), looks := false }, kinds := [], alts := [], laidByText := true, laidKinds := [.data, .pinned], laidTests := true, laidLooks := .later }
def ConfigGrowsCardSaid : Prop := Claim7.holds Tryd.pinned (.plain (OpenSpec.ofChange configGrowsSpec)) configGrowsCard

/-- THE SECOND FORM's CARD OF 'subwaylaw09.ConfigBack'. -/
def configBackUptoCard : Claim7 := { stood := { row := configBackUptoRow, standIns := [], harness := (true, "492fd5d414af17e3c5f7e6cac3f0e94c983918f0646f6dcd1a9f9fa4769f04ba"), looks := false }, kinds := [], alts := [], laidByText := true, laidKinds := [.data, .pinned], laidTests := true, laidLooks := .later }
def ConfigBackUptoCardSaid : Prop := Claim7.holds Tryd.pinned (.plain (OpenSpec.upto configBackSpec)) configBackUptoCard

/-- THE SECOND FORM's CARD OF 'subwaylaw09.ConfigLines'. -/
def configLinesUptoCard : Claim7 := { stood := { row := configLinesUptoRow, standIns := [], harness := (true, "492fd5d414af17e3c5f7e6cac3f0e94c983918f0646f6dcd1a9f9fa4769f04ba"), looks := false }, kinds := [], alts := [], laidByText := true, laidKinds := [.data, .pinned], laidTests := true, laidLooks := .later }
def ConfigLinesUptoCardSaid : Prop := Claim7.holds Tryd.pinned (.plain (OpenSpec.upto configLinesSpec)) configLinesUptoCard

/-- THE SECOND FORM's CARD OF 'subwaylaw09.ConfigChanged'. -/
def configChangedUptoCard : Claim7 := { stood := { row := configChangedUptoRow, standIns := [], harness := (true, "492fd5d414af17e3c5f7e6cac3f0e94c983918f0646f6dcd1a9f9fa4769f04ba"), looks := false }, kinds := [], alts := [], laidByText := true, laidKinds := [.data, .pinned], laidTests := true, laidLooks := .later }
def ConfigChangedUptoCardSaid : Prop := Claim7.holds Tryd.pinned (.plain (OpenSpec.upto configChangedSpec)) configChangedUptoCard

/-- THE SECOND FORM's CARD OF 'subwaylaw09.ConfigFinds'. -/
def configFindsUptoCard : Claim7 := { stood := { row := configFindsUptoRow, standIns := [], harness := (true, "492fd5d414af17e3c5f7e6cac3f0e94c983918f0646f6dcd1a9f9fa4769f04ba"), looks := false }, kinds := [], alts := [], laidByText := true, laidKinds := [.data, .pinned], laidTests := true, laidLooks := .later }
def ConfigFindsUptoCardSaid : Prop := Claim7.holds Tryd.pinned (.plain (OpenSpec.upto configFindsSpec)) configFindsUptoCard

/-- THE SECOND FORM's CARD OF 'subwaylaw09.ConfigGrows'. -/
def configGrowsUptoCard : Claim7 := { stood := { row := configGrowsUptoRow, standIns := [], harness := (true, "492fd5d414af17e3c5f7e6cac3f0e94c983918f0646f6dcd1a9f9fa4769f04ba"), looks := false }, kinds := [], alts := [], laidByText := true, laidKinds := [.data, .pinned], laidTests := true, laidLooks := .later }
def ConfigGrowsUptoCardSaid : Prop := Claim7.holds Tryd.pinned (.plain (OpenSpec.upto configGrowsSpec)) configGrowsUptoCard
end Rows
end Go.Proofs.YtfpjkedcpnmfeaaDoor
