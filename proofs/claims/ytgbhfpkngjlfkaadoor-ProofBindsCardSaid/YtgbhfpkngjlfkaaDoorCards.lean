/-
  DERIVED. GIVEN WITH THE SEED: THE CARDS: each row of YtgbhfpkngjlfkaaDoorRows.lean that lists a variable, with what it lists TIED to the program's text (the seventh form; the later family's looks); each row that meets fmt, with fmt's text TOLD by the authors' own Lean function (tested against real Go, not proved from fmt's source: count such statements apart). THE CARD IS WHAT COUNTS. Prove the row's statement (the work); the ties are given (YtgbhfpkngjlfkaaDoorTie.lean); close each card by the builder's one call (the guide's Derived/Test/ToyasCard.lean, 'card_holds'). Laid BY PROGRAM, IN A SANDBOX (cutbox-door.mjs). By AI agents, Wed Nov 11 2026. No macro, syntax, notation, axiom, sorry.
-/
import Derived.Test.YtgbhfpkngjlfkaaDoorRows
import GoSem.ClaimSeven
namespace Go.Proofs.YtgbhfpkngjlfkaaDoor
namespace Rows

/-- THE TIED CARD OF 'tabellionlaw06.ProofChecks'. -/
def proofChecksCard : Claim7 := { stood := { row := proofChecksRow, standIns := [], harness := (true, "68c30a70546b0d4eeba1a59f7c4fda7d6769e5e3ce58a27e42f7c08125eab590"), looks := false }, kinds := [], alts := [], laidByText := true, laidKinds := [.data, .data], laidTests := true, laidLooks := .later }
def ProofChecksCardSaid : Prop := Claim7.holds Tryd.pinned (.plain (OpenSpec.ofChange proofChecksSpec)) proofChecksCard

/-- THE TIED CARD OF 'tabellionlaw06.ProofClash'. -/
def proofClashCard : Claim7 := { stood := { row := proofClashRow, standIns := [], harness := (true, "68c30a70546b0d4eeba1a59f7c4fda7d6769e5e3ce58a27e42f7c08125eab590"), looks := false }, kinds := [], alts := [], laidByText := true, laidKinds := [.data, .data], laidTests := true, laidLooks := .later }
def ProofClashCardSaid : Prop := Claim7.holds Tryd.pinned (.plain (OpenSpec.ofChange proofClashSpec)) proofClashCard

/-- THE TIED CARD OF 'tabellionlaw06.ProofBinds'. -/
def proofBindsCard : Claim7 := { stood := { row := proofBindsRow, standIns := [], harness := (true, "68c30a70546b0d4eeba1a59f7c4fda7d6769e5e3ce58a27e42f7c08125eab590"), looks := false }, kinds := [], alts := [], laidByText := true, laidKinds := [.data], laidTests := true, laidLooks := .later }
def ProofBindsCardSaid : Prop := Claim7.holds Tryd.pinned (.plain (OpenSpec.ofChange proofBindsSpec)) proofBindsCard

/-- THE TIED CARD OF 'tabellionlaw06.ProofDepth'. -/
def proofDepthCard : Claim7 := { stood := { row := proofDepthRow, standIns := [], harness := (true, "68c30a70546b0d4eeba1a59f7c4fda7d6769e5e3ce58a27e42f7c08125eab590"), looks := false }, kinds := [], alts := [], laidByText := true, laidKinds := [.data], laidTests := true, laidLooks := .later }
def ProofDepthCardSaid : Prop := Claim7.holds Tryd.pinned (.plain (OpenSpec.ofChange proofDepthSpec)) proofDepthCard

/-- THE SECOND FORM's CARD OF 'tabellionlaw06.ProofChecks'. -/
def proofChecksUptoCard : Claim7 := { stood := { row := proofChecksUptoRow, standIns := [], harness := (true, "68c30a70546b0d4eeba1a59f7c4fda7d6769e5e3ce58a27e42f7c08125eab590"), looks := false }, kinds := [], alts := [], laidByText := true, laidKinds := [.data, .data], laidTests := true, laidLooks := .later }
def ProofChecksUptoCardSaid : Prop := Claim7.holds Tryd.pinned (.plain (OpenSpec.upto proofChecksSpec)) proofChecksUptoCard

/-- THE SECOND FORM's CARD OF 'tabellionlaw06.ProofClash'. -/
def proofClashUptoCard : Claim7 := { stood := { row := proofClashUptoRow, standIns := [], harness := (true, "68c30a70546b0d4eeba1a59f7c4fda7d6769e5e3ce58a27e42f7c08125eab590"), looks := false }, kinds := [], alts := [], laidByText := true, laidKinds := [.data, .data], laidTests := true, laidLooks := .later }
def ProofClashUptoCardSaid : Prop := Claim7.holds Tryd.pinned (.plain (OpenSpec.upto proofClashSpec)) proofClashUptoCard

/-- THE SECOND FORM's CARD OF 'tabellionlaw06.ProofBinds'. -/
def proofBindsUptoCard : Claim7 := { stood := { row := proofBindsUptoRow, standIns := [], harness := (true, "68c30a70546b0d4eeba1a59f7c4fda7d6769e5e3ce58a27e42f7c08125eab590"), looks := false }, kinds := [], alts := [], laidByText := true, laidKinds := [.data], laidTests := true, laidLooks := .later }
def ProofBindsUptoCardSaid : Prop := Claim7.holds Tryd.pinned (.plain (OpenSpec.upto proofBindsSpec)) proofBindsUptoCard

/-- THE SECOND FORM's CARD OF 'tabellionlaw06.ProofDepth'. -/
def proofDepthUptoCard : Claim7 := { stood := { row := proofDepthUptoRow, standIns := [], harness := (true, "68c30a70546b0d4eeba1a59f7c4fda7d6769e5e3ce58a27e42f7c08125eab590"), looks := false }, kinds := [], alts := [], laidByText := true, laidKinds := [.data], laidTests := true, laidLooks := .later }
def ProofDepthUptoCardSaid : Prop := Claim7.holds Tryd.pinned (.plain (OpenSpec.upto proofDepthSpec)) proofDepthUptoCard
end Rows
end Go.Proofs.YtgbhfpkngjlfkaaDoor
