/-
  DERIVED. GIVEN WITH THE SEED: THE CARDS: each row of YtbbckjpgmpfkgaaDoorRows.lean that lists a variable, with what it lists TIED to the program's text (the seventh form; the later family's looks); each row that meets fmt, with fmt's text TOLD by the authors' own Lean function (tested against real Go, not proved from fmt's source: count such statements apart). THE CARD IS WHAT COUNTS. Prove the row's statement (the work); the ties are given (YtbbckjpgmpfkgaaDoorTie.lean); close each card by the builder's one call (the guide's Derived/Test/ToyasCard.lean, 'card_holds'). Laid BY PROGRAM, IN A SANDBOX (cutbox-door.mjs). By AI agents, Wed Nov 11 2026. No macro, syntax, notation, axiom, sorry.
-/
import Derived.Test.YtbbckjpgmpfkgaaDoorRows
import GoSem.ClaimSeven
namespace Go.Proofs.YtbbckjpgmpfkgaaDoor
namespace Rows

/-- THE TIED CARD OF 'tabellionlaw06.ProofChecks'. -/
def proofChecksCard : Claim7 := { stood := { row := proofChecksRow, standIns := [], harness := (true, "9f4ed799facb4cdb3f14c2b33bc0a6ff50cee91c7b6659f77c8d47ce1feba06d"), looks := false }, kinds := [], alts := [], laidByText := true, laidKinds := [.data, .data], laidTests := true, laidLooks := .later }
def ProofChecksCardSaid : Prop := Claim7.holds Tryd.pinned (.plain (OpenSpec.ofChange proofChecksSpec)) proofChecksCard

/-- THE TIED CARD OF 'tabellionlaw06.ProofClash'. -/
def proofClashCard : Claim7 := { stood := { row := proofClashRow, standIns := [], harness := (true, "9f4ed799facb4cdb3f14c2b33bc0a6ff50cee91c7b6659f77c8d47ce1feba06d"), looks := false }, kinds := [], alts := [], laidByText := true, laidKinds := [.data, .data], laidTests := true, laidLooks := .later }
def ProofClashCardSaid : Prop := Claim7.holds Tryd.pinned (.plain (OpenSpec.ofChange proofClashSpec)) proofClashCard

/-- THE TIED CARD OF 'tabellionlaw06.ProofBinds'. -/
def proofBindsCard : Claim7 := { stood := { row := proofBindsRow, standIns := [], harness := (true, "9f4ed799facb4cdb3f14c2b33bc0a6ff50cee91c7b6659f77c8d47ce1feba06d"), looks := false }, kinds := [], alts := [], laidByText := true, laidKinds := [.data], laidTests := true, laidLooks := .later }
def ProofBindsCardSaid : Prop := Claim7.holds Tryd.pinned (.plain (OpenSpec.ofChange proofBindsSpec)) proofBindsCard

/-- THE TIED CARD OF 'tabellionlaw06.ProofDepth'. -/
def proofDepthCard : Claim7 := { stood := { row := proofDepthRow, standIns := [], harness := (true, "9f4ed799facb4cdb3f14c2b33bc0a6ff50cee91c7b6659f77c8d47ce1feba06d"), looks := false }, kinds := [], alts := [], laidByText := true, laidKinds := [.data], laidTests := true, laidLooks := .later }
def ProofDepthCardSaid : Prop := Claim7.holds Tryd.pinned (.plain (OpenSpec.ofChange proofDepthSpec)) proofDepthCard

/-- THE TIED CARD OF 'tabellionlaw07.VersionPuts'. -/
def versionPutsCard : Claim7 := { stood := { row := versionPutsRow, standIns := [], harness := (true, "9f4ed799facb4cdb3f14c2b33bc0a6ff50cee91c7b6659f77c8d47ce1feba06d"), looks := false }, kinds := [], alts := [], laidByText := true, laidKinds := [.data], laidTests := true, laidLooks := .later }
def VersionPutsCardSaid : Prop := Claim7.holds Tryd.pinned (.plain (OpenSpec.ofChange versionPutsSpec)) versionPutsCard

/-- THE SECOND FORM's CARD OF 'tabellionlaw06.ProofChecks'. -/
def proofChecksUptoCard : Claim7 := { stood := { row := proofChecksUptoRow, standIns := [], harness := (true, "9f4ed799facb4cdb3f14c2b33bc0a6ff50cee91c7b6659f77c8d47ce1feba06d"), looks := false }, kinds := [], alts := [], laidByText := true, laidKinds := [.data, .data], laidTests := true, laidLooks := .later }
def ProofChecksUptoCardSaid : Prop := Claim7.holds Tryd.pinned (.plain (OpenSpec.upto proofChecksSpec)) proofChecksUptoCard

/-- THE SECOND FORM's CARD OF 'tabellionlaw06.ProofClash'. -/
def proofClashUptoCard : Claim7 := { stood := { row := proofClashUptoRow, standIns := [], harness := (true, "9f4ed799facb4cdb3f14c2b33bc0a6ff50cee91c7b6659f77c8d47ce1feba06d"), looks := false }, kinds := [], alts := [], laidByText := true, laidKinds := [.data, .data], laidTests := true, laidLooks := .later }
def ProofClashUptoCardSaid : Prop := Claim7.holds Tryd.pinned (.plain (OpenSpec.upto proofClashSpec)) proofClashUptoCard

/-- THE SECOND FORM's CARD OF 'tabellionlaw06.ProofBinds'. -/
def proofBindsUptoCard : Claim7 := { stood := { row := proofBindsUptoRow, standIns := [], harness := (true, "9f4ed799facb4cdb3f14c2b33bc0a6ff50cee91c7b6659f77c8d47ce1feba06d"), looks := false }, kinds := [], alts := [], laidByText := true, laidKinds := [.data], laidTests := true, laidLooks := .later }
def ProofBindsUptoCardSaid : Prop := Claim7.holds Tryd.pinned (.plain (OpenSpec.upto proofBindsSpec)) proofBindsUptoCard

/-- THE SECOND FORM's CARD OF 'tabellionlaw06.ProofDepth'. -/
def proofDepthUptoCard : Claim7 := { stood := { row := proofDepthUptoRow, standIns := [], harness := (true, "9f4ed799facb4cdb3f14c2b33bc0a6ff50cee91c7b6659f77c8d47ce1feba06d"), looks := false }, kinds := [], alts := [], laidByText := true, laidKinds := [.data], laidTests := true, laidLooks := .later }
def ProofDepthUptoCardSaid : Prop := Claim7.holds Tryd.pinned (.plain (OpenSpec.upto proofDepthSpec)) proofDepthUptoCard

/-- THE SECOND FORM's CARD OF 'tabellionlaw07.VersionPuts'. -/
def versionPutsUptoCard : Claim7 := { stood := { row := versionPutsUptoRow, standIns := [], harness := (true, "9f4ed799facb4cdb3f14c2b33bc0a6ff50cee91c7b6659f77c8d47ce1feba06d"), looks := false }, kinds := [], alts := [], laidByText := true, laidKinds := [.data], laidTests := true, laidLooks := .later }
def VersionPutsUptoCardSaid : Prop := Claim7.holds Tryd.pinned (.plain (OpenSpec.upto versionPutsSpec)) versionPutsUptoCard
end Rows
end Go.Proofs.YtbbckjpgmpfkgaaDoor
