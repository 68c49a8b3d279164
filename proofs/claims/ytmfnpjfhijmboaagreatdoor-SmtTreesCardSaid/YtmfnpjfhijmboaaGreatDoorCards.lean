/-
  DERIVED. GIVEN WITH THE SEED: THE CARDS: each row of YtmfnpjfhijmboaaGreatDoorRows.lean that lists a variable, with what it lists TIED to the program's text (the seventh form; the later family's looks); each row that meets fmt, with fmt's text TOLD by the authors' own Lean function (tested against real Go, not proved from fmt's source: count such statements apart). THE CARD IS WHAT COUNTS. Prove the row's statement (the work); the ties are given (YtmfnpjfhijmboaaGreatDoorTie.lean); close each card by the builder's one call (the guide's Derived/Test/ToyasCard.lean, 'card_holds'). Laid BY PROGRAM, IN A SANDBOX (cutbox-door.mjs). By AI agents, Wed Nov 11 2026. No macro, syntax, notation, axiom, sorry.
-/
import Derived.Test.YtmfnpjfhijmboaaGreatDoorRows
import GoSem.ClaimSeven
namespace Go.Proofs.YtmfnpjfhijmboaaGreatDoor
namespace Rows

/-- THE TIED CARD OF 'tabellionlaw05.SmtTrees'. -/
def smtTreesCard : Claim7 := { stood := { row := smtTreesRow, standIns := [], harness := (true, "e9600597fbfb429853443030992597849528ec232a0e4e503705942a0e615976"), looks := false }, kinds := [], alts := [], laidByText := true, laidKinds := [.data, .data], laidTests := true, laidLooks := .later }
def SmtTreesCardSaid : Prop := Claim7.holds Tryz.pinned (.plain (OpenSpec.ofChange smtTreesSpec)) smtTreesCard

/-- THE TIED CARD OF 'tabellionlaw05.SmtGrows'. -/
def smtGrowsCard : Claim7 := { stood := { row := smtGrowsRow, standIns := [], harness := (true, "e9600597fbfb429853443030992597849528ec232a0e4e503705942a0e615976"), looks := false }, kinds := [], alts := [], laidByText := true, laidKinds := [.data], laidTests := true, laidLooks := .later }
def SmtGrowsCardSaid : Prop := Claim7.holds Tryz.pinned (.plain (OpenSpec.ofChange smtGrowsSpec)) smtGrowsCard

/-- THE TIED CARD OF 'tabellionlaw05.SmtBatches'. -/
def smtBatchesCard : Claim7 := { stood := { row := smtBatchesRow, standIns := [], harness := (true, "e9600597fbfb429853443030992597849528ec232a0e4e503705942a0e615976"), looks := false }, kinds := [], alts := [], laidByText := true, laidKinds := [.data], laidTests := true, laidLooks := .later }
def SmtBatchesCardSaid : Prop := Claim7.holds Tryz.pinned (.plain (OpenSpec.ofChange smtBatchesSpec)) smtBatchesCard

/-- THE TIED CARD OF 'tabellionlaw05.SmtFull'. -/
def smtFullCard : Claim7 := { stood := { row := smtFullRow, standIns := [], harness := (true, "e9600597fbfb429853443030992597849528ec232a0e4e503705942a0e615976"), looks := false }, kinds := [], alts := [], laidByText := true, laidKinds := [.data], laidTests := true, laidLooks := .later }
def SmtFullCardSaid : Prop := Claim7.holds Tryz.pinned (.plain (OpenSpec.ofChange smtFullSpec)) smtFullCard

/-- THE TIED CARD OF 'tabellionlaw06.ProofMakes'. -/
def proofMakesCard : Claim7 := { stood := { row := proofMakesRow, standIns := [], harness := (true, "e9600597fbfb429853443030992597849528ec232a0e4e503705942a0e615976"), looks := false }, kinds := [], alts := [], laidByText := true, laidKinds := [.data, .data], laidTests := true, laidLooks := .later }
def ProofMakesCardSaid : Prop := Claim7.holds Tryz.pinned (.plain (OpenSpec.ofChange proofMakesSpec)) proofMakesCard

/-- THE TIED CARD OF 'tabellionlaw06.ProofRight'. -/
def proofRightCard : Claim7 := { stood := { row := proofRightRow, standIns := [], harness := (true, "e9600597fbfb429853443030992597849528ec232a0e4e503705942a0e615976"), looks := false }, kinds := [], alts := [], laidByText := true, laidKinds := [.data], laidTests := true, laidLooks := .later }
def ProofRightCardSaid : Prop := Claim7.holds Tryz.pinned (.plain (OpenSpec.ofChange proofRightSpec)) proofRightCard

/-- THE SECOND FORM's CARD OF 'tabellionlaw05.SmtTrees'. -/
def smtTreesUptoCard : Claim7 := { stood := { row := smtTreesUptoRow, standIns := [], harness := (true, "e9600597fbfb429853443030992597849528ec232a0e4e503705942a0e615976"), looks := false }, kinds := [], alts := [], laidByText := true, laidKinds := [.data, .data], laidTests := true, laidLooks := .later }
def SmtTreesUptoCardSaid : Prop := Claim7.holds Tryz.pinned (.plain (OpenSpec.upto smtTreesSpec)) smtTreesUptoCard

/-- THE SECOND FORM's CARD OF 'tabellionlaw05.SmtGrows'. -/
def smtGrowsUptoCard : Claim7 := { stood := { row := smtGrowsUptoRow, standIns := [], harness := (true, "e9600597fbfb429853443030992597849528ec232a0e4e503705942a0e615976"), looks := false }, kinds := [], alts := [], laidByText := true, laidKinds := [.data], laidTests := true, laidLooks := .later }
def SmtGrowsUptoCardSaid : Prop := Claim7.holds Tryz.pinned (.plain (OpenSpec.upto smtGrowsSpec)) smtGrowsUptoCard

/-- THE SECOND FORM's CARD OF 'tabellionlaw05.SmtBatches'. -/
def smtBatchesUptoCard : Claim7 := { stood := { row := smtBatchesUptoRow, standIns := [], harness := (true, "e9600597fbfb429853443030992597849528ec232a0e4e503705942a0e615976"), looks := false }, kinds := [], alts := [], laidByText := true, laidKinds := [.data], laidTests := true, laidLooks := .later }
def SmtBatchesUptoCardSaid : Prop := Claim7.holds Tryz.pinned (.plain (OpenSpec.upto smtBatchesSpec)) smtBatchesUptoCard

/-- THE SECOND FORM's CARD OF 'tabellionlaw05.SmtFull'. -/
def smtFullUptoCard : Claim7 := { stood := { row := smtFullUptoRow, standIns := [], harness := (true, "e9600597fbfb429853443030992597849528ec232a0e4e503705942a0e615976"), looks := false }, kinds := [], alts := [], laidByText := true, laidKinds := [.data], laidTests := true, laidLooks := .later }
def SmtFullUptoCardSaid : Prop := Claim7.holds Tryz.pinned (.plain (OpenSpec.upto smtFullSpec)) smtFullUptoCard

/-- THE SECOND FORM's CARD OF 'tabellionlaw06.ProofMakes'. -/
def proofMakesUptoCard : Claim7 := { stood := { row := proofMakesUptoRow, standIns := [], harness := (true, "e9600597fbfb429853443030992597849528ec232a0e4e503705942a0e615976"), looks := false }, kinds := [], alts := [], laidByText := true, laidKinds := [.data, .data], laidTests := true, laidLooks := .later }
def ProofMakesUptoCardSaid : Prop := Claim7.holds Tryz.pinned (.plain (OpenSpec.upto proofMakesSpec)) proofMakesUptoCard

/-- THE SECOND FORM's CARD OF 'tabellionlaw06.ProofRight'. -/
def proofRightUptoCard : Claim7 := { stood := { row := proofRightUptoRow, standIns := [], harness := (true, "e9600597fbfb429853443030992597849528ec232a0e4e503705942a0e615976"), looks := false }, kinds := [], alts := [], laidByText := true, laidKinds := [.data], laidTests := true, laidLooks := .later }
def ProofRightUptoCardSaid : Prop := Claim7.holds Tryz.pinned (.plain (OpenSpec.upto proofRightSpec)) proofRightUptoCard
end Rows
end Go.Proofs.YtmfnpjfhijmboaaGreatDoor
