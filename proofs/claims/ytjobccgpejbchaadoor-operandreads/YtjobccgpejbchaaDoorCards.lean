/-
  DERIVED. GIVEN WITH THE SEED: THE CARDS: each row of YtjobccgpejbchaaDoorRows.lean that lists a variable, with what it lists TIED to the program's text (the seventh form; the later family's looks); each row that meets fmt, with fmt's text TOLD by the authors' own Lean function (tested against real Go, not proved from fmt's source: count such statements apart). THE CARD IS WHAT COUNTS. Prove the row's statement (the work); the ties are given (YtjobccgpejbchaaDoorTie.lean); close each card by the builder's one call (the guide's Derived/Test/ToyasCard.lean, 'card_holds'). Laid BY PROGRAM, IN A SANDBOX (cutbox-door.mjs). By AI agents, Wed Nov 11 2026. No macro, syntax, notation, axiom, sorry.
-/
import Derived.Test.YtjobccgpejbchaaDoorRows
import GoSem.ClaimSeven
namespace Go.Proofs.YtjobccgpejbchaaDoor
namespace Rows

/-- THE TIED CARD OF 'florinlaw05.OperandParts'. -/
def operandPartsCard : Claim7 := { stood := { row := operandPartsRow, standIns := [], harness := (true, "ca322e92374a4d41856efb1810113abb2ec08d47730ed2f8e68856db0eb846c6"), looks := false }, kinds := [], alts := [], laidByText := true, laidKinds := [.data, .data, .data, .data, .pinned], laidTests := true, laidLooks := .later }
def OperandPartsCardSaid : Prop := Claim7.holds Tryd.pinned (.plain (OpenSpec.ofChange operandPartsSpec)) operandPartsCard

/-- THE TIED CARD OF 'florinlaw05.OperandReads'. -/
def operandReadsCard : Claim7 := { stood := { row := operandReadsRow, standIns := [], harness := (true, "ca322e92374a4d41856efb1810113abb2ec08d47730ed2f8e68856db0eb846c6"), looks := false }, kinds := [], alts := [], laidByText := true, laidKinds := [.data, .data, .data, .data, .pinned], laidTests := true, laidLooks := .later }
def OperandReadsCardSaid : Prop := Claim7.holds Tryd.pinned (.plain (OpenSpec.ofChange operandReadsSpec)) operandReadsCard

/-- THE SECOND FORM's CARD OF 'florinlaw05.OperandParts'. -/
def operandPartsUptoCard : Claim7 := { stood := { row := operandPartsUptoRow, standIns := [], harness := (true, "ca322e92374a4d41856efb1810113abb2ec08d47730ed2f8e68856db0eb846c6"), looks := false }, kinds := [], alts := [], laidByText := true, laidKinds := [.data, .data, .data, .data, .pinned], laidTests := true, laidLooks := .later }
def OperandPartsUptoCardSaid : Prop := Claim7.holds Tryd.pinned (.plain (OpenSpec.upto operandPartsSpec)) operandPartsUptoCard

/-- THE SECOND FORM's CARD OF 'florinlaw05.OperandReads'. -/
def operandReadsUptoCard : Claim7 := { stood := { row := operandReadsUptoRow, standIns := [], harness := (true, "ca322e92374a4d41856efb1810113abb2ec08d47730ed2f8e68856db0eb846c6"), looks := false }, kinds := [], alts := [], laidByText := true, laidKinds := [.data, .data, .data, .data, .pinned], laidTests := true, laidLooks := .later }
def OperandReadsUptoCardSaid : Prop := Claim7.holds Tryd.pinned (.plain (OpenSpec.upto operandReadsSpec)) operandReadsUptoCard
end Rows
end Go.Proofs.YtjobccgpejbchaaDoor
