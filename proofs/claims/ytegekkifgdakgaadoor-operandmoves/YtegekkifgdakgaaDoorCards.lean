/-
  DERIVED. GIVEN WITH THE SEED: THE CARDS: each row of YtegekkifgdakgaaDoorRows.lean that lists a variable, with what it lists TIED to the program's text (the seventh form; the later family's looks); each row that meets fmt, with fmt's text TOLD by the authors' own Lean function (tested against real Go, not proved from fmt's source: count such statements apart). THE CARD IS WHAT COUNTS. Prove the row's statement (the work); the ties are given (YtegekkifgdakgaaDoorTie.lean); close each card by the builder's one call (the guide's Derived/Test/ToyasCard.lean, 'card_holds'). Laid BY PROGRAM, IN A SANDBOX (cutbox-door.mjs). By AI agents, Wed Nov 11 2026. No macro, syntax, notation, axiom, sorry.
-/
import Derived.Test.YtegekkifgdakgaaDoorRows
import GoSem.ClaimSeven
namespace Go.Proofs.YtegekkifgdakgaaDoor
namespace Rows

/-- THE TIED CARD OF 'florinlaw04.ShowDigits'. -/
def showDigitsCard : Claim7 := { stood := { row := showDigitsRow, standIns := [], harness := (true, "f8878d63f29aeb2f0b565dac6a80d55ae835ad6f765ce242758268549984f255"), looks := false }, kinds := [], alts := [], laidByText := true, laidKinds := [.data, .data, .data, .data, .pinned], laidTests := true, laidLooks := .later }
def ShowDigitsCardSaid : Prop := Claim7.holds Tryd.pinned (.plain (OpenSpec.ofChange showDigitsSpec)) showDigitsCard

/-- THE TIED CARD OF 'florinlaw04.ShowMore'. -/
def showMoreCard : Claim7 := { stood := { row := showMoreRow, standIns := [], harness := (true, "f8878d63f29aeb2f0b565dac6a80d55ae835ad6f765ce242758268549984f255"), looks := false }, kinds := [], alts := [], laidByText := true, laidKinds := [.data, .data, .data, .data, .pinned], laidTests := true, laidLooks := .later }
def ShowMoreCardSaid : Prop := Claim7.holds Tryd.pinned (.plain (OpenSpec.ofChange showMoreSpec)) showMoreCard

/-- THE TIED CARD OF 'florinlaw05.OperandMoves'. -/
def operandMovesCard : Claim7 := { stood := { row := operandMovesRow, standIns := [], harness := (true, "f8878d63f29aeb2f0b565dac6a80d55ae835ad6f765ce242758268549984f255"), looks := false }, kinds := [], alts := [], laidByText := true, laidKinds := [.data, .pinned], laidTests := true, laidLooks := .later }
def OperandMovesCardSaid : Prop := Claim7.holds Tryd.pinned (.plain (OpenSpec.ofChange operandMovesSpec)) operandMovesCard

/-- THE TIED CARD OF 'florinlaw05.OperandParts'. -/
def operandPartsCard : Claim7 := { stood := { row := operandPartsRow, standIns := [], harness := (true, "f8878d63f29aeb2f0b565dac6a80d55ae835ad6f765ce242758268549984f255"), looks := false }, kinds := [], alts := [], laidByText := true, laidKinds := [.data, .data, .data, .data, .pinned], laidTests := true, laidLooks := .later }
def OperandPartsCardSaid : Prop := Claim7.holds Tryd.pinned (.plain (OpenSpec.ofChange operandPartsSpec)) operandPartsCard

/-- THE TIED CARD OF 'florinlaw05.OperandReads'. -/
def operandReadsCard : Claim7 := { stood := { row := operandReadsRow, standIns := [], harness := (true, "f8878d63f29aeb2f0b565dac6a80d55ae835ad6f765ce242758268549984f255"), looks := false }, kinds := [], alts := [], laidByText := true, laidKinds := [.data, .data, .data, .data, .pinned], laidTests := true, laidLooks := .later }
def OperandReadsCardSaid : Prop := Claim7.holds Tryd.pinned (.plain (OpenSpec.ofChange operandReadsSpec)) operandReadsCard

/-- THE TIED CARD OF 'florinlaw05.OperandForms'. -/
def operandFormsCard : Claim7 := { stood := { row := operandFormsRow, standIns := [], harness := (true, "f8878d63f29aeb2f0b565dac6a80d55ae835ad6f765ce242758268549984f255"), looks := false }, kinds := [], alts := [], laidByText := true, laidKinds := [.data, .pinned], laidTests := true, laidLooks := .later }
def OperandFormsCardSaid : Prop := Claim7.holds Tryd.pinned (.plain (OpenSpec.ofChange operandFormsSpec)) operandFormsCard

/-- THE TIED CARD OF 'florinlaw05.OperandShifts'. -/
def operandShiftsCard : Claim7 := { stood := { row := operandShiftsRow, standIns := [], harness := (true, "f8878d63f29aeb2f0b565dac6a80d55ae835ad6f765ce242758268549984f255"), looks := false }, kinds := [], alts := [], laidByText := true, laidKinds := [.data, .pinned], laidTests := true, laidLooks := .later }
def OperandShiftsCardSaid : Prop := Claim7.holds Tryd.pinned (.plain (OpenSpec.ofChange operandShiftsSpec)) operandShiftsCard

/-- THE SECOND FORM's CARD OF 'florinlaw04.ShowDigits'. -/
def showDigitsUptoCard : Claim7 := { stood := { row := showDigitsUptoRow, standIns := [], harness := (true, "f8878d63f29aeb2f0b565dac6a80d55ae835ad6f765ce242758268549984f255"), looks := false }, kinds := [], alts := [], laidByText := true, laidKinds := [.data, .data, .data, .data, .pinned], laidTests := true, laidLooks := .later }
def ShowDigitsUptoCardSaid : Prop := Claim7.holds Tryd.pinned (.plain (OpenSpec.upto showDigitsSpec)) showDigitsUptoCard

/-- THE SECOND FORM's CARD OF 'florinlaw04.ShowMore'. -/
def showMoreUptoCard : Claim7 := { stood := { row := showMoreUptoRow, standIns := [], harness := (true, "f8878d63f29aeb2f0b565dac6a80d55ae835ad6f765ce242758268549984f255"), looks := false }, kinds := [], alts := [], laidByText := true, laidKinds := [.data, .data, .data, .data, .pinned], laidTests := true, laidLooks := .later }
def ShowMoreUptoCardSaid : Prop := Claim7.holds Tryd.pinned (.plain (OpenSpec.upto showMoreSpec)) showMoreUptoCard

/-- THE SECOND FORM's CARD OF 'florinlaw05.OperandMoves'. -/
def operandMovesUptoCard : Claim7 := { stood := { row := operandMovesUptoRow, standIns := [], harness := (true, "f8878d63f29aeb2f0b565dac6a80d55ae835ad6f765ce242758268549984f255"), looks := false }, kinds := [], alts := [], laidByText := true, laidKinds := [.data, .pinned], laidTests := true, laidLooks := .later }
def OperandMovesUptoCardSaid : Prop := Claim7.holds Tryd.pinned (.plain (OpenSpec.upto operandMovesSpec)) operandMovesUptoCard

/-- THE SECOND FORM's CARD OF 'florinlaw05.OperandParts'. -/
def operandPartsUptoCard : Claim7 := { stood := { row := operandPartsUptoRow, standIns := [], harness := (true, "f8878d63f29aeb2f0b565dac6a80d55ae835ad6f765ce242758268549984f255"), looks := false }, kinds := [], alts := [], laidByText := true, laidKinds := [.data, .data, .data, .data, .pinned], laidTests := true, laidLooks := .later }
def OperandPartsUptoCardSaid : Prop := Claim7.holds Tryd.pinned (.plain (OpenSpec.upto operandPartsSpec)) operandPartsUptoCard

/-- THE SECOND FORM's CARD OF 'florinlaw05.OperandReads'. -/
def operandReadsUptoCard : Claim7 := { stood := { row := operandReadsUptoRow, standIns := [], harness := (true, "f8878d63f29aeb2f0b565dac6a80d55ae835ad6f765ce242758268549984f255"), looks := false }, kinds := [], alts := [], laidByText := true, laidKinds := [.data, .data, .data, .data, .pinned], laidTests := true, laidLooks := .later }
def OperandReadsUptoCardSaid : Prop := Claim7.holds Tryd.pinned (.plain (OpenSpec.upto operandReadsSpec)) operandReadsUptoCard

/-- THE SECOND FORM's CARD OF 'florinlaw05.OperandForms'. -/
def operandFormsUptoCard : Claim7 := { stood := { row := operandFormsUptoRow, standIns := [], harness := (true, "f8878d63f29aeb2f0b565dac6a80d55ae835ad6f765ce242758268549984f255"), looks := false }, kinds := [], alts := [], laidByText := true, laidKinds := [.data, .pinned], laidTests := true, laidLooks := .later }
def OperandFormsUptoCardSaid : Prop := Claim7.holds Tryd.pinned (.plain (OpenSpec.upto operandFormsSpec)) operandFormsUptoCard

/-- THE SECOND FORM's CARD OF 'florinlaw05.OperandShifts'. -/
def operandShiftsUptoCard : Claim7 := { stood := { row := operandShiftsUptoRow, standIns := [], harness := (true, "f8878d63f29aeb2f0b565dac6a80d55ae835ad6f765ce242758268549984f255"), looks := false }, kinds := [], alts := [], laidByText := true, laidKinds := [.data, .pinned], laidTests := true, laidLooks := .later }
def OperandShiftsUptoCardSaid : Prop := Claim7.holds Tryd.pinned (.plain (OpenSpec.upto operandShiftsSpec)) operandShiftsUptoCard
end Rows
end Go.Proofs.YtegekkifgdakgaaDoor
