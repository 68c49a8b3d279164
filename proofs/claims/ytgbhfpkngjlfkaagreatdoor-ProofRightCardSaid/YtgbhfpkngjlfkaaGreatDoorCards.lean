/-
  DERIVED. GIVEN WITH THE SEED: THE CARDS: each row of YtgbhfpkngjlfkaaGreatDoorRows.lean that lists a variable, with what it lists TIED to the program's text (the seventh form; the later family's looks); each row that meets fmt, with fmt's text TOLD by the authors' own Lean function (tested against real Go, not proved from fmt's source: count such statements apart). THE CARD IS WHAT COUNTS. Prove the row's statement (the work); the ties are given (YtgbhfpkngjlfkaaGreatDoorTie.lean); close each card by the builder's one call (the guide's Derived/Test/ToyasCard.lean, 'card_holds'). Laid BY PROGRAM, IN A SANDBOX (cutbox-door.mjs). By AI agents, Wed Nov 11 2026. No macro, syntax, notation, axiom, sorry.
-/
import Derived.Test.YtgbhfpkngjlfkaaGreatDoorRows
import GoSem.ClaimSeven
namespace Go.Proofs.YtgbhfpkngjlfkaaGreatDoor
namespace Rows

/-- THE TIED CARD OF 'tabellionlaw06.ProofRight'. -/
def proofRightCard : Claim7 := { stood := { row := proofRightRow, standIns := [], harness := (true, "a12bc3675c1e4811eafeeccd8517ae74f2435e0816b03ad4837c31e4886698b5"), looks := false }, kinds := [], alts := [], laidByText := true, laidKinds := [.data], laidTests := true, laidLooks := .later }
def ProofRightCardSaid : Prop := Claim7.holds Tryz.pinned (.plain (OpenSpec.ofChange proofRightSpec)) proofRightCard

/-- THE SECOND FORM's CARD OF 'tabellionlaw06.ProofRight'. -/
def proofRightUptoCard : Claim7 := { stood := { row := proofRightUptoRow, standIns := [], harness := (true, "a12bc3675c1e4811eafeeccd8517ae74f2435e0816b03ad4837c31e4886698b5"), looks := false }, kinds := [], alts := [], laidByText := true, laidKinds := [.data], laidTests := true, laidLooks := .later }
def ProofRightUptoCardSaid : Prop := Claim7.holds Tryz.pinned (.plain (OpenSpec.upto proofRightSpec)) proofRightUptoCard
end Rows
end Go.Proofs.YtgbhfpkngjlfkaaGreatDoor
