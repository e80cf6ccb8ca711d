/-
  DERIVED. GIVEN WITH THE SEED: THE CARDS: each row of YtekobdmlgbffnaaDoorRows.lean that lists a variable, with what it lists TIED to the program's text (the seventh form; the later family's looks); each row that meets fmt, with fmt's text TOLD by the authors' own Lean function (tested against real Go, not proved from fmt's source: count such statements apart). THE CARD IS WHAT COUNTS. Prove the row's statement (the work); the ties are given (YtekobdmlgbffnaaDoorTie.lean); close each card by the builder's one call (the guide's Derived/Test/ToyasCard.lean, 'card_holds'). Laid BY PROGRAM, IN A SANDBOX (cutbox-door.mjs). By AI agents, Wed Nov 11 2026. No macro, syntax, notation, axiom, sorry.
-/
import Derived.Test.YtekobdmlgbffnaaDoorRows
import GoSem.ClaimSeven
namespace Go.Proofs.YtekobdmlgbffnaaDoor
namespace Rows

/-- THE TIED CARD OF 'subwaylaw12.ShakeJust'. -/
def shakeJustCard : Claim7 := { stood := { row := shakeJustRow, standIns := [], harness := (true, "55ff8f054d3461d70ae39897fc587c40fa1da009b4b800e7289ae8e6fc3afb9d"), looks := false }, kinds := [], alts := [], laidByText := true, laidKinds := [.data, .data], laidTests := true, laidLooks := .later }
def ShakeJustCardSaid : Prop := Claim7.holds Tryd.pinned (.plain (OpenSpec.ofChange shakeJustSpec)) shakeJustCard

/-- THE TIED CARD OF 'subwaylaw12.ShakeOver'. -/
def shakeOverCard : Claim7 := { stood := { row := shakeOverRow, standIns := [], harness := (true, "55ff8f054d3461d70ae39897fc587c40fa1da009b4b800e7289ae8e6fc3afb9d"), looks := false }, kinds := [], alts := [], laidByText := true, laidKinds := [.data, .data], laidTests := true, laidLooks := .later }
def ShakeOverCardSaid : Prop := Claim7.holds Tryd.pinned (.plain (OpenSpec.ofChange shakeOverSpec)) shakeOverCard

/-- THE TIED CARD OF 'subwaylaw12.ShakeNonce'. -/
def shakeNonceCard : Claim7 := { stood := { row := shakeNonceRow, standIns := [], harness := (true, "55ff8f054d3461d70ae39897fc587c40fa1da009b4b800e7289ae8e6fc3afb9d"), looks := false }, kinds := [], alts := [], laidByText := true, laidKinds := [.data, .data], laidTests := true, laidLooks := .later }
def ShakeNonceCardSaid : Prop := Claim7.holds Tryd.pinned (.plain (OpenSpec.ofChange shakeNonceSpec)) shakeNonceCard

/-- THE TIED CARD OF 'subwaylaw12.ShakeBetween'. -/
def shakeBetweenCard : Claim7 := { stood := { row := shakeBetweenRow, standIns := [], harness := (true, "55ff8f054d3461d70ae39897fc587c40fa1da009b4b800e7289ae8e6fc3afb9d"), looks := false }, kinds := [], alts := [], laidByText := true, laidKinds := [.data, .data], laidTests := true, laidLooks := .later }
def ShakeBetweenCardSaid : Prop := Claim7.holds Tryd.pinned (.plain (OpenSpec.ofChange shakeBetweenSpec)) shakeBetweenCard

/-- THE TIED CARD OF 'subwaylaw12.ShakeSays'. -/
def shakeSaysCard : Claim7 := { stood := { row := shakeSaysRow, standIns := [], harness := (true, "55ff8f054d3461d70ae39897fc587c40fa1da009b4b800e7289ae8e6fc3afb9d"), looks := false }, kinds := [], alts := [], laidByText := true, laidKinds := [.data, .data], laidTests := true, laidLooks := .later }
def ShakeSaysCardSaid : Prop := Claim7.holds Tryd.pinned (.plain (OpenSpec.ofChange shakeSaysSpec)) shakeSaysCard

/-- THE SECOND FORM's CARD OF 'subwaylaw12.ShakeJust'. -/
def shakeJustUptoCard : Claim7 := { stood := { row := shakeJustUptoRow, standIns := [], harness := (true, "55ff8f054d3461d70ae39897fc587c40fa1da009b4b800e7289ae8e6fc3afb9d"), looks := false }, kinds := [], alts := [], laidByText := true, laidKinds := [.data, .data], laidTests := true, laidLooks := .later }
def ShakeJustUptoCardSaid : Prop := Claim7.holds Tryd.pinned (.plain (OpenSpec.upto shakeJustSpec)) shakeJustUptoCard

/-- THE SECOND FORM's CARD OF 'subwaylaw12.ShakeOver'. -/
def shakeOverUptoCard : Claim7 := { stood := { row := shakeOverUptoRow, standIns := [], harness := (true, "55ff8f054d3461d70ae39897fc587c40fa1da009b4b800e7289ae8e6fc3afb9d"), looks := false }, kinds := [], alts := [], laidByText := true, laidKinds := [.data, .data], laidTests := true, laidLooks := .later }
def ShakeOverUptoCardSaid : Prop := Claim7.holds Tryd.pinned (.plain (OpenSpec.upto shakeOverSpec)) shakeOverUptoCard

/-- THE SECOND FORM's CARD OF 'subwaylaw12.ShakeNonce'. -/
def shakeNonceUptoCard : Claim7 := { stood := { row := shakeNonceUptoRow, standIns := [], harness := (true, "55ff8f054d3461d70ae39897fc587c40fa1da009b4b800e7289ae8e6fc3afb9d"), looks := false }, kinds := [], alts := [], laidByText := true, laidKinds := [.data, .data], laidTests := true, laidLooks := .later }
def ShakeNonceUptoCardSaid : Prop := Claim7.holds Tryd.pinned (.plain (OpenSpec.upto shakeNonceSpec)) shakeNonceUptoCard

/-- THE SECOND FORM's CARD OF 'subwaylaw12.ShakeBetween'. -/
def shakeBetweenUptoCard : Claim7 := { stood := { row := shakeBetweenUptoRow, standIns := [], harness := (true, "55ff8f054d3461d70ae39897fc587c40fa1da009b4b800e7289ae8e6fc3afb9d"), looks := false }, kinds := [], alts := [], laidByText := true, laidKinds := [.data, .data], laidTests := true, laidLooks := .later }
def ShakeBetweenUptoCardSaid : Prop := Claim7.holds Tryd.pinned (.plain (OpenSpec.upto shakeBetweenSpec)) shakeBetweenUptoCard

/-- THE SECOND FORM's CARD OF 'subwaylaw12.ShakeSays'. -/
def shakeSaysUptoCard : Claim7 := { stood := { row := shakeSaysUptoRow, standIns := [], harness := (true, "55ff8f054d3461d70ae39897fc587c40fa1da009b4b800e7289ae8e6fc3afb9d"), looks := false }, kinds := [], alts := [], laidByText := true, laidKinds := [.data, .data], laidTests := true, laidLooks := .later }
def ShakeSaysUptoCardSaid : Prop := Claim7.holds Tryd.pinned (.plain (OpenSpec.upto shakeSaysSpec)) shakeSaysUptoCard
end Rows
end Go.Proofs.YtekobdmlgbffnaaDoor
