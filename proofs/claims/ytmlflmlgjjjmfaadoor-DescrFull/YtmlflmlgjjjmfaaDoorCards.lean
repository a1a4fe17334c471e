/-
  DERIVED. GIVEN WITH THE SEED: THE CARDS: each row of YtmlflmlgjjjmfaaDoorRows.lean that lists a variable, with what it lists TIED to the program's text (the seventh form; the later family's looks); each row that meets fmt, with fmt's text TOLD by the authors' own Lean function (tested against real Go, not proved from fmt's source: count such statements apart). THE CARD IS WHAT COUNTS. Prove the row's statement (the work); the ties are given (YtmlflmlgjjjmfaaDoorTie.lean); close each card by the builder's one call (the guide's Derived/Test/ToyasCard.lean, 'card_holds'). Laid BY PROGRAM, IN A SANDBOX (cutbox-door.mjs). By AI agents, Wed Nov 11 2026. No macro, syntax, notation, axiom, sorry.
-/
import Derived.Test.YtmlflmlgjjjmfaaDoorRows
import GoSem.ClaimSeven
namespace Go.Proofs.YtmlflmlgjjjmfaaDoor
namespace Rows

/-- THE TIED CARD OF 'symbolonlaw04.DescrTells'. -/
def descrTellsCard : Claim7 := { stood := { row := descrTellsRow, standIns := [], harness := (true, "d76d119fb44e5fc36d6dac4663a7baa0fde6fc4005e671bb2fee4dad32d32da0"), looks := false }, kinds := [], alts := [], laidByText := true, laidKinds := [.data, .data, .data, .data], laidTests := true, laidLooks := .later }
def DescrTellsCardSaid : Prop := Claim7.holds Tryd.pinned (.plain (OpenSpec.ofChange descrTellsSpec)) descrTellsCard

/-- THE TIED CARD OF 'symbolonlaw04.DescrBack'. -/
def descrBackCard : Claim7 := { stood := { row := descrBackRow, standIns := [], harness := (true, "d76d119fb44e5fc36d6dac4663a7baa0fde6fc4005e671bb2fee4dad32d32da0"), looks := false }, kinds := [], alts := [], laidByText := true, laidKinds := [.data, .data, .data, .data], laidTests := true, laidLooks := .later }
def DescrBackCardSaid : Prop := Claim7.holds Tryd.pinned (.plain (OpenSpec.ofChange descrBackSpec)) descrBackCard

/-- THE TIED CARD OF 'symbolonlaw04.DescrPrints'. -/
def descrPrintsCard : Claim7 := { stood := { row := descrPrintsRow, standIns := [], harness := (true, "d76d119fb44e5fc36d6dac4663a7baa0fde6fc4005e671bb2fee4dad32d32da0"), looks := false }, kinds := [], alts := [], laidByText := true, laidKinds := [.data, .data, .data, .data], laidTests := true, laidLooks := .later }
def DescrPrintsCardSaid : Prop := Claim7.holds Tryd.pinned (.plain (OpenSpec.ofChange descrPrintsSpec)) descrPrintsCard

/-- THE TIED CARD OF 'symbolonlaw04.DescrCut'. -/
def descrCutCard : Claim7 := { stood := { row := descrCutRow, standIns := [], harness := (true, "d76d119fb44e5fc36d6dac4663a7baa0fde6fc4005e671bb2fee4dad32d32da0"), looks := false }, kinds := [], alts := [], laidByText := true, laidKinds := [.data, .data, .data, .data], laidTests := true, laidLooks := .later }
def DescrCutCardSaid : Prop := Claim7.holds Tryd.pinned (.plain (OpenSpec.ofChange descrCutSpec)) descrCutCard

/-- THE TIED CARD OF 'symbolonlaw04.DescrFull'. -/
def descrFullCard : Claim7 := { stood := { row := descrFullRow, standIns := [], harness := (true, "d76d119fb44e5fc36d6dac4663a7baa0fde6fc4005e671bb2fee4dad32d32da0"), looks := false }, kinds := [], alts := [], laidByText := true, laidKinds := [.data, .data, .data, .data], laidTests := true, laidLooks := .later }
def DescrFullCardSaid : Prop := Claim7.holds Tryd.pinned (.plain (OpenSpec.ofChange descrFullSpec)) descrFullCard

/-- THE TIED CARD OF 'symbolonlaw04.DescrWrong'. -/
def descrWrongCard : Claim7 := { stood := { row := descrWrongRow, standIns := [], harness := (true, "d76d119fb44e5fc36d6dac4663a7baa0fde6fc4005e671bb2fee4dad32d32da0"), looks := false }, kinds := [], alts := [], laidByText := true, laidKinds := [.data, .data, .data, .data], laidTests := true, laidLooks := .later }
def DescrWrongCardSaid : Prop := Claim7.holds Tryd.pinned (.plain (OpenSpec.ofChange descrWrongSpec)) descrWrongCard

/-- THE SECOND FORM's CARD OF 'symbolonlaw04.DescrTells'. -/
def descrTellsUptoCard : Claim7 := { stood := { row := descrTellsUptoRow, standIns := [], harness := (true, "d76d119fb44e5fc36d6dac4663a7baa0fde6fc4005e671bb2fee4dad32d32da0"), looks := false }, kinds := [], alts := [], laidByText := true, laidKinds := [.data, .data, .data, .data], laidTests := true, laidLooks := .later }
def DescrTellsUptoCardSaid : Prop := Claim7.holds Tryd.pinned (.plain (OpenSpec.upto descrTellsSpec)) descrTellsUptoCard

/-- THE SECOND FORM's CARD OF 'symbolonlaw04.DescrBack'. -/
def descrBackUptoCard : Claim7 := { stood := { row := descrBackUptoRow, standIns := [], harness := (true, "d76d119fb44e5fc36d6dac4663a7baa0fde6fc4005e671bb2fee4dad32d32da0"), looks := false }, kinds := [], alts := [], laidByText := true, laidKinds := [.data, .data, .data, .data], laidTests := true, laidLooks := .later }
def DescrBackUptoCardSaid : Prop := Claim7.holds Tryd.pinned (.plain (OpenSpec.upto descrBackSpec)) descrBackUptoCard

/-- THE SECOND FORM's CARD OF 'symbolonlaw04.DescrPrints'. -/
def descrPrintsUptoCard : Claim7 := { stood := { row := descrPrintsUptoRow, standIns := [], harness := (true, "d76d119fb44e5fc36d6dac4663a7baa0fde6fc4005e671bb2fee4dad32d32da0"), looks := false }, kinds := [], alts := [], laidByText := true, laidKinds := [.data, .data, .data, .data], laidTests := true, laidLooks := .later }
def DescrPrintsUptoCardSaid : Prop := Claim7.holds Tryd.pinned (.plain (OpenSpec.upto descrPrintsSpec)) descrPrintsUptoCard

/-- THE SECOND FORM's CARD OF 'symbolonlaw04.DescrCut'. -/
def descrCutUptoCard : Claim7 := { stood := { row := descrCutUptoRow, standIns := [], harness := (true, "d76d119fb44e5fc36d6dac4663a7baa0fde6fc4005e671bb2fee4dad32d32da0"), looks := false }, kinds := [], alts := [], laidByText := true, laidKinds := [.data, .data, .data, .data], laidTests := true, laidLooks := .later }
def DescrCutUptoCardSaid : Prop := Claim7.holds Tryd.pinned (.plain (OpenSpec.upto descrCutSpec)) descrCutUptoCard

/-- THE SECOND FORM's CARD OF 'symbolonlaw04.DescrFull'. -/
def descrFullUptoCard : Claim7 := { stood := { row := descrFullUptoRow, standIns := [], harness := (true, "d76d119fb44e5fc36d6dac4663a7baa0fde6fc4005e671bb2fee4dad32d32da0"), looks := false }, kinds := [], alts := [], laidByText := true, laidKinds := [.data, .data, .data, .data], laidTests := true, laidLooks := .later }
def DescrFullUptoCardSaid : Prop := Claim7.holds Tryd.pinned (.plain (OpenSpec.upto descrFullSpec)) descrFullUptoCard

/-- THE SECOND FORM's CARD OF 'symbolonlaw04.DescrWrong'. -/
def descrWrongUptoCard : Claim7 := { stood := { row := descrWrongUptoRow, standIns := [], harness := (true, "d76d119fb44e5fc36d6dac4663a7baa0fde6fc4005e671bb2fee4dad32d32da0"), looks := false }, kinds := [], alts := [], laidByText := true, laidKinds := [.data, .data, .data, .data], laidTests := true, laidLooks := .later }
def DescrWrongUptoCardSaid : Prop := Claim7.holds Tryd.pinned (.plain (OpenSpec.upto descrWrongSpec)) descrWrongUptoCard
end Rows
end Go.Proofs.YtmlflmlgjjjmfaaDoor
