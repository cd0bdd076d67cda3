/-
  DERIVED. GIVEN WITH THE SEED: THE CARDS: each row of YtfbfjkacaadbpaaDoorRows.lean that lists a variable, with what it lists TIED to the program's text (the seventh form; the later family's looks); each row that meets fmt, with fmt's text TOLD by the authors' own Lean function (tested against real Go, not proved from fmt's source: count such statements apart). THE CARD IS WHAT COUNTS. Prove the row's statement (the work); the ties are given (YtfbfjkacaadbpaaDoorTie.lean); close each card by the builder's one call (the guide's Derived/Test/ToyasCard.lean, 'card_holds'). Laid BY PROGRAM, IN A SANDBOX (cutbox-door.mjs). By AI agents, Wed Nov 11 2026. No macro, syntax, notation, axiom, sorry.
-/
import Derived.Test.YtfbfjkacaadbpaaDoorRows
import GoSem.ClaimSeven
namespace Go.Proofs.YtfbfjkacaadbpaaDoor
namespace Rows

/-- THE TIED CARD OF 'florinlaw03.RoundBounds'. -/
def roundBoundsCard : Claim7 := { stood := { row := roundBoundsRow, standIns := [], harness := (true, "5fcd99441900e4adbd4dc04f50c167897c9150fdebc9453bc9acc12208fa8193"), looks := false }, kinds := [], alts := [], laidByText := true, laidKinds := [.data, .data, .data, .data, .pinned], laidTests := true, laidLooks := .later }
def RoundBoundsCardSaid : Prop := Claim7.holds Tryd.pinned (.plain (OpenSpec.ofChange roundBoundsSpec)) roundBoundsCard

/-- THE TIED CARD OF 'florinlaw03.RoundAgain'. -/
def roundAgainCard : Claim7 := { stood := { row := roundAgainRow, standIns := [], harness := (true, "5fcd99441900e4adbd4dc04f50c167897c9150fdebc9453bc9acc12208fa8193"), looks := false }, kinds := [], alts := [], laidByText := true, laidKinds := [.data, .data, .data, .data, .pinned], laidTests := true, laidLooks := .later }
def RoundAgainCardSaid : Prop := Claim7.holds Tryd.pinned (.plain (OpenSpec.ofChange roundAgainSpec)) roundAgainCard

/-- THE TIED CARD OF 'florinlaw03.RoundSigns'. -/
def roundSignsCard : Claim7 := { stood := { row := roundSignsRow, standIns := [], harness := (true, "5fcd99441900e4adbd4dc04f50c167897c9150fdebc9453bc9acc12208fa8193"), looks := false }, kinds := [], alts := [], laidByText := true, laidKinds := [.data, .data, .data, .data, .pinned], laidTests := true, laidLooks := .later }
def RoundSignsCardSaid : Prop := Claim7.holds Tryd.pinned (.plain (OpenSpec.ofChange roundSignsSpec)) roundSignsCard

/-- THE TIED CARD OF 'florinlaw03.RoundTwice'. -/
def roundTwiceCard : Claim7 := { stood := { row := roundTwiceRow, standIns := [], harness := (true, "5fcd99441900e4adbd4dc04f50c167897c9150fdebc9453bc9acc12208fa8193"), looks := false }, kinds := [], alts := [], laidByText := true, laidKinds := [.data, .data, .data, .data, .pinned], laidTests := true, laidLooks := .later }
def RoundTwiceCardSaid : Prop := Claim7.holds Tryd.pinned (.plain (OpenSpec.ofChange roundTwiceSpec)) roundTwiceCard

/-- THE TIED CARD OF 'florinlaw04.ShowDigits'. -/
def showDigitsCard : Claim7 := { stood := { row := showDigitsRow, standIns := [], harness := (true, "5fcd99441900e4adbd4dc04f50c167897c9150fdebc9453bc9acc12208fa8193"), looks := false }, kinds := [], alts := [], laidByText := true, laidKinds := [.data, .data, .data, .data, .pinned], laidTests := true, laidLooks := .later }
def ShowDigitsCardSaid : Prop := Claim7.holds Tryd.pinned (.plain (OpenSpec.ofChange showDigitsSpec)) showDigitsCard

/-- THE TIED CARD OF 'florinlaw04.ShowValid'. -/
def showValidCard : Claim7 := { stood := { row := showValidRow, standIns := [], harness := (true, "5fcd99441900e4adbd4dc04f50c167897c9150fdebc9453bc9acc12208fa8193"), looks := false }, kinds := [], alts := [], laidByText := true, laidKinds := [.data, .data, .data, .data, .pinned], laidTests := true, laidLooks := .later }
def ShowValidCardSaid : Prop := Claim7.holds Tryd.pinned (.plain (OpenSpec.ofChange showValidSpec)) showValidCard

/-- THE SECOND FORM's CARD OF 'florinlaw03.RoundBounds'. -/
def roundBoundsUptoCard : Claim7 := { stood := { row := roundBoundsUptoRow, standIns := [], harness := (true, "5fcd99441900e4adbd4dc04f50c167897c9150fdebc9453bc9acc12208fa8193"), looks := false }, kinds := [], alts := [], laidByText := true, laidKinds := [.data, .data, .data, .data, .pinned], laidTests := true, laidLooks := .later }
def RoundBoundsUptoCardSaid : Prop := Claim7.holds Tryd.pinned (.plain (OpenSpec.upto roundBoundsSpec)) roundBoundsUptoCard

/-- THE SECOND FORM's CARD OF 'florinlaw03.RoundAgain'. -/
def roundAgainUptoCard : Claim7 := { stood := { row := roundAgainUptoRow, standIns := [], harness := (true, "5fcd99441900e4adbd4dc04f50c167897c9150fdebc9453bc9acc12208fa8193"), looks := false }, kinds := [], alts := [], laidByText := true, laidKinds := [.data, .data, .data, .data, .pinned], laidTests := true, laidLooks := .later }
def RoundAgainUptoCardSaid : Prop := Claim7.holds Tryd.pinned (.plain (OpenSpec.upto roundAgainSpec)) roundAgainUptoCard

/-- THE SECOND FORM's CARD OF 'florinlaw03.RoundSigns'. -/
def roundSignsUptoCard : Claim7 := { stood := { row := roundSignsUptoRow, standIns := [], harness := (true, "5fcd99441900e4adbd4dc04f50c167897c9150fdebc9453bc9acc12208fa8193"), looks := false }, kinds := [], alts := [], laidByText := true, laidKinds := [.data, .data, .data, .data, .pinned], laidTests := true, laidLooks := .later }
def RoundSignsUptoCardSaid : Prop := Claim7.holds Tryd.pinned (.plain (OpenSpec.upto roundSignsSpec)) roundSignsUptoCard

/-- THE SECOND FORM's CARD OF 'florinlaw03.RoundTwice'. -/
def roundTwiceUptoCard : Claim7 := { stood := { row := roundTwiceUptoRow, standIns := [], harness := (true, "5fcd99441900e4adbd4dc04f50c167897c9150fdebc9453bc9acc12208fa8193"), looks := false }, kinds := [], alts := [], laidByText := true, laidKinds := [.data, .data, .data, .data, .pinned], laidTests := true, laidLooks := .later }
def RoundTwiceUptoCardSaid : Prop := Claim7.holds Tryd.pinned (.plain (OpenSpec.upto roundTwiceSpec)) roundTwiceUptoCard

/-- THE SECOND FORM's CARD OF 'florinlaw04.ShowDigits'. -/
def showDigitsUptoCard : Claim7 := { stood := { row := showDigitsUptoRow, standIns := [], harness := (true, "5fcd99441900e4adbd4dc04f50c167897c9150fdebc9453bc9acc12208fa8193"), looks := false }, kinds := [], alts := [], laidByText := true, laidKinds := [.data, .data, .data, .data, .pinned], laidTests := true, laidLooks := .later }
def ShowDigitsUptoCardSaid : Prop := Claim7.holds Tryd.pinned (.plain (OpenSpec.upto showDigitsSpec)) showDigitsUptoCard

/-- THE SECOND FORM's CARD OF 'florinlaw04.ShowValid'. -/
def showValidUptoCard : Claim7 := { stood := { row := showValidUptoRow, standIns := [], harness := (true, "5fcd99441900e4adbd4dc04f50c167897c9150fdebc9453bc9acc12208fa8193"), looks := false }, kinds := [], alts := [], laidByText := true, laidKinds := [.data, .data, .data, .data, .pinned], laidTests := true, laidLooks := .later }
def ShowValidUptoCardSaid : Prop := Claim7.holds Tryd.pinned (.plain (OpenSpec.upto showValidSpec)) showValidUptoCard
end Rows
end Go.Proofs.YtfbfjkacaadbpaaDoor
