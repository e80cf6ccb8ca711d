/-
  DERIVED. GIVEN WITH THE SEED: THE CARDS: each row of YtijboiepockmjaaDoorRows.lean that lists a variable, with what it lists TIED to the program's text (the seventh form; the later family's looks); each row that meets fmt, with fmt's text TOLD by the authors' own Lean function (tested against real Go, not proved from fmt's source: count such statements apart). THE CARD IS WHAT COUNTS. Prove the row's statement (the work); the ties are given (YtijboiepockmjaaDoorTie.lean); close each card by the builder's one call (the guide's Derived/Test/ToyasCard.lean, 'card_holds'). Laid BY PROGRAM, IN A SANDBOX (cutbox-door.mjs). By AI agents, Wed Nov 11 2026. No macro, syntax, notation, axiom, sorry.
-/
import Derived.Test.YtijboiepockmjaaDoorRows
import GoSem.ClaimSeven
namespace Go.Proofs.YtijboiepockmjaaDoor
namespace Rows

/-- THE TIED CARD OF 'subwaylaw10.VaultPlays'. -/
def vaultPlaysCard : Claim7 := { stood := { row := vaultPlaysRow, standIns := [], harness := (true, "fd01fd7c2ee0f9fc27bcba953e5cae1ec23289f18d2e60d1dc6365eff6f9fed9"), looks := false }, kinds := [], alts := [], laidByText := true, laidKinds := [.data, .data], laidTests := true, laidLooks := .later }
def VaultPlaysCardSaid : Prop := Claim7.holds Tryd.pinned (.plain (OpenSpec.ofChange vaultPlaysSpec)) vaultPlaysCard

/-- THE TIED CARD OF 'subwaylaw10.VaultProof'. -/
def vaultProofCard : Claim7 := { stood := { row := vaultProofRow, standIns := [], harness := (true, "fd01fd7c2ee0f9fc27bcba953e5cae1ec23289f18d2e60d1dc6365eff6f9fed9"), looks := false }, kinds := [], alts := [], laidByText := true, laidKinds := [.data, .data], laidTests := true, laidLooks := .later }
def VaultProofCardSaid : Prop := Claim7.holds Tryd.pinned (.plain (OpenSpec.ofChange vaultProofSpec)) vaultProofCard

/-- THE TIED CARD OF 'subwaylaw10.VaultGone'. -/
def vaultGoneCard : Claim7 := { stood := { row := vaultGoneRow, standIns := [], harness := (true, "fd01fd7c2ee0f9fc27bcba953e5cae1ec23289f18d2e60d1dc6365eff6f9fed9"), looks := false }, kinds := [], alts := [], laidByText := true, laidKinds := [.data, .data], laidTests := true, laidLooks := .later }
def VaultGoneCardSaid : Prop := Claim7.holds Tryd.pinned (.plain (OpenSpec.ofChange vaultGoneSpec)) vaultGoneCard

/-- THE TIED CARD OF 'subwaylaw10.VaultTime'. -/
def vaultTimeCard : Claim7 := { stood := { row := vaultTimeRow, standIns := [], harness := (true, "fd01fd7c2ee0f9fc27bcba953e5cae1ec23289f18d2e60d1dc6365eff6f9fed9"), looks := false }, kinds := [], alts := [], laidByText := true, laidKinds := [.data, .data], laidTests := true, laidLooks := .later }
def VaultTimeCardSaid : Prop := Claim7.holds Tryd.pinned (.plain (OpenSpec.ofChange vaultTimeSpec)) vaultTimeCard

/-- THE TIED CARD OF 'subwaylaw10.VaultWants'. -/
def vaultWantsCard : Claim7 := { stood := { row := vaultWantsRow, standIns := [], harness := (true, "fd01fd7c2ee0f9fc27bcba953e5cae1ec23289f18d2e60d1dc6365eff6f9fed9"), looks := false }, kinds := [], alts := [], laidByText := true, laidKinds := [.data, .data], laidTests := true, laidLooks := .later }
def VaultWantsCardSaid : Prop := Claim7.holds Tryd.pinned (.plain (OpenSpec.ofChange vaultWantsSpec)) vaultWantsCard

/-- THE TIED CARD OF 'subwaylaw10.VaultRevokes'. -/
def vaultRevokesCard : Claim7 := { stood := { row := vaultRevokesRow, standIns := [], harness := (true, "fd01fd7c2ee0f9fc27bcba953e5cae1ec23289f18d2e60d1dc6365eff6f9fed9"), looks := false }, kinds := [], alts := [], laidByText := true, laidKinds := [.data, .data], laidTests := true, laidLooks := .later }
def VaultRevokesCardSaid : Prop := Claim7.holds Tryd.pinned (.plain (OpenSpec.ofChange vaultRevokesSpec)) vaultRevokesCard

/-- THE SECOND FORM's CARD OF 'subwaylaw10.VaultPlays'. -/
def vaultPlaysUptoCard : Claim7 := { stood := { row := vaultPlaysUptoRow, standIns := [], harness := (true, "fd01fd7c2ee0f9fc27bcba953e5cae1ec23289f18d2e60d1dc6365eff6f9fed9"), looks := false }, kinds := [], alts := [], laidByText := true, laidKinds := [.data, .data], laidTests := true, laidLooks := .later }
def VaultPlaysUptoCardSaid : Prop := Claim7.holds Tryd.pinned (.plain (OpenSpec.upto vaultPlaysSpec)) vaultPlaysUptoCard

/-- THE SECOND FORM's CARD OF 'subwaylaw10.VaultProof'. -/
def vaultProofUptoCard : Claim7 := { stood := { row := vaultProofUptoRow, standIns := [], harness := (true, "fd01fd7c2ee0f9fc27bcba953e5cae1ec23289f18d2e60d1dc6365eff6f9fed9"), looks := false }, kinds := [], alts := [], laidByText := true, laidKinds := [.data, .data], laidTests := true, laidLooks := .later }
def VaultProofUptoCardSaid : Prop := Claim7.holds Tryd.pinned (.plain (OpenSpec.upto vaultProofSpec)) vaultProofUptoCard

/-- THE SECOND FORM's CARD OF 'subwaylaw10.VaultGone'. -/
def vaultGoneUptoCard : Claim7 := { stood := { row := vaultGoneUptoRow, standIns := [], harness := (true, "fd01fd7c2ee0f9fc27bcba953e5cae1ec23289f18d2e60d1dc6365eff6f9fed9"), looks := false }, kinds := [], alts := [], laidByText := true, laidKinds := [.data, .data], laidTests := true, laidLooks := .later }
def VaultGoneUptoCardSaid : Prop := Claim7.holds Tryd.pinned (.plain (OpenSpec.upto vaultGoneSpec)) vaultGoneUptoCard

/-- THE SECOND FORM's CARD OF 'subwaylaw10.VaultTime'. -/
def vaultTimeUptoCard : Claim7 := { stood := { row := vaultTimeUptoRow, standIns := [], harness := (true, "fd01fd7c2ee0f9fc27bcba953e5cae1ec23289f18d2e60d1dc6365eff6f9fed9"), looks := false }, kinds := [], alts := [], laidByText := true, laidKinds := [.data, .data], laidTests := true, laidLooks := .later }
def VaultTimeUptoCardSaid : Prop := Claim7.holds Tryd.pinned (.plain (OpenSpec.upto vaultTimeSpec)) vaultTimeUptoCard

/-- THE SECOND FORM's CARD OF 'subwaylaw10.VaultWants'. -/
def vaultWantsUptoCard : Claim7 := { stood := { row := vaultWantsUptoRow, standIns := [], harness := (true, "fd01fd7c2ee0f9fc27bcba953e5cae1ec23289f18d2e60d1dc6365eff6f9fed9"), looks := false }, kinds := [], alts := [], laidByText := true, laidKinds := [.data, .data], laidTests := true, laidLooks := .later }
def VaultWantsUptoCardSaid : Prop := Claim7.holds Tryd.pinned (.plain (OpenSpec.upto vaultWantsSpec)) vaultWantsUptoCard

/-- THE SECOND FORM's CARD OF 'subwaylaw10.VaultRevokes'. -/
def vaultRevokesUptoCard : Claim7 := { stood := { row := vaultRevokesUptoRow, standIns := [], harness := (true, "fd01fd7c2ee0f9fc27bcba953e5cae1ec23289f18d2e60d1dc6365eff6f9fed9"), looks := false }, kinds := [], alts := [], laidByText := true, laidKinds := [.data, .data], laidTests := true, laidLooks := .later }
def VaultRevokesUptoCardSaid : Prop := Claim7.holds Tryd.pinned (.plain (OpenSpec.upto vaultRevokesSpec)) vaultRevokesUptoCard
end Rows
end Go.Proofs.YtijboiepockmjaaDoor
