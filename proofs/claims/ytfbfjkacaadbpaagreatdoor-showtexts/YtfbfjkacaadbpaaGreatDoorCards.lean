/-
  DERIVED. GIVEN WITH THE SEED: THE CARDS: each row of YtfbfjkacaadbpaaGreatDoorRows.lean that lists a variable, with what it lists TIED to the program's text (the seventh form; the later family's looks); each row that meets fmt, with fmt's text TOLD by the authors' own Lean function (tested against real Go, not proved from fmt's source: count such statements apart). THE CARD IS WHAT COUNTS. Prove the row's statement (the work); the ties are given (YtfbfjkacaadbpaaGreatDoorTie.lean); close each card by the builder's one call (the guide's Derived/Test/ToyasCard.lean, 'card_holds'). Laid BY PROGRAM, IN A SANDBOX (cutbox-door.mjs). By AI agents, Wed Nov 11 2026. No macro, syntax, notation, axiom, sorry.
-/
import Derived.Test.YtfbfjkacaadbpaaGreatDoorRows
import GoSem.ClaimSeven
namespace Go.Proofs.YtfbfjkacaadbpaaGreatDoor
namespace Rows

/-- THE TIED CARD OF 'florinlaw03.RoundAt'. -/
def roundAtCard : Claim7 := { stood := { row := roundAtRow, standIns := [], harness := (true, "d1919b4d60122bd179baca6b3806fba0ea105df5acc63ff246dc2c414701edbe"), looks := false }, kinds := [], alts := [], laidByText := true, laidKinds := [.data, .data, .data, .data, .pinned], laidTests := true, laidLooks := .later }
def RoundAtCardSaid : Prop := Claim7.holds Tryz.pinned (.plain (OpenSpec.ofChange roundAtSpec)) roundAtCard

/-- THE TIED CARD OF 'florinlaw03.RoundSig'. -/
def roundSigCard : Claim7 := { stood := { row := roundSigRow, standIns := [], harness := (true, "d1919b4d60122bd179baca6b3806fba0ea105df5acc63ff246dc2c414701edbe"), looks := false }, kinds := [], alts := [], laidByText := true, laidKinds := [.data, .data, .data, .data, .pinned], laidTests := true, laidLooks := .later }
def RoundSigCardSaid : Prop := Claim7.holds Tryz.pinned (.plain (OpenSpec.ofChange roundSigSpec)) roundSigCard

/-- THE TIED CARD OF 'florinlaw03.RoundStep'. -/
def roundStepCard : Claim7 := { stood := { row := roundStepRow, standIns := [], harness := (true, "d1919b4d60122bd179baca6b3806fba0ea105df5acc63ff246dc2c414701edbe"), looks := false }, kinds := [], alts := [], laidByText := true, laidKinds := [.data, .data, .data, .data, .pinned], laidTests := true, laidLooks := .later }
def RoundStepCardSaid : Prop := Claim7.holds Tryz.pinned (.plain (OpenSpec.ofChange roundStepSpec)) roundStepCard

/-- THE TIED CARD OF 'florinlaw04.ShowRounds'. -/
def showRoundsCard : Claim7 := { stood := { row := showRoundsRow, standIns := [], harness := (true, "d1919b4d60122bd179baca6b3806fba0ea105df5acc63ff246dc2c414701edbe"), looks := false }, kinds := [], alts := [], laidByText := true, laidKinds := [.data, .data, .data, .data, .pinned], laidTests := true, laidLooks := .later }
def ShowRoundsCardSaid : Prop := Claim7.holds Tryz.pinned (.plain (OpenSpec.ofChange showRoundsSpec)) showRoundsCard

/-- THE TIED CARD OF 'florinlaw04.ShowTexts'. -/
def showTextsCard : Claim7 := { stood := { row := showTextsRow, standIns := [], harness := (true, "d1919b4d60122bd179baca6b3806fba0ea105df5acc63ff246dc2c414701edbe"), looks := false }, kinds := [], alts := [], laidByText := true, laidKinds := [.data, .data, .data, .data, .pinned], laidTests := true, laidLooks := .later }
def ShowTextsCardSaid : Prop := Claim7.holds Tryz.pinned (.plain (OpenSpec.ofChange showTextsSpec)) showTextsCard

/-- THE TIED CARD OF 'florinlaw04.ShowAgain'. -/
def showAgainCard : Claim7 := { stood := { row := showAgainRow, standIns := [], harness := (true, "d1919b4d60122bd179baca6b3806fba0ea105df5acc63ff246dc2c414701edbe"), looks := false }, kinds := [], alts := [], laidByText := true, laidKinds := [.data, .data, .data, .data, .pinned], laidTests := true, laidLooks := .later }
def ShowAgainCardSaid : Prop := Claim7.holds Tryz.pinned (.plain (OpenSpec.ofChange showAgainSpec)) showAgainCard

/-- THE SECOND FORM's CARD OF 'florinlaw03.RoundAt'. -/
def roundAtUptoCard : Claim7 := { stood := { row := roundAtUptoRow, standIns := [], harness := (true, "d1919b4d60122bd179baca6b3806fba0ea105df5acc63ff246dc2c414701edbe"), looks := false }, kinds := [], alts := [], laidByText := true, laidKinds := [.data, .data, .data, .data, .pinned], laidTests := true, laidLooks := .later }
def RoundAtUptoCardSaid : Prop := Claim7.holds Tryz.pinned (.plain (OpenSpec.upto roundAtSpec)) roundAtUptoCard

/-- THE SECOND FORM's CARD OF 'florinlaw03.RoundSig'. -/
def roundSigUptoCard : Claim7 := { stood := { row := roundSigUptoRow, standIns := [], harness := (true, "d1919b4d60122bd179baca6b3806fba0ea105df5acc63ff246dc2c414701edbe"), looks := false }, kinds := [], alts := [], laidByText := true, laidKinds := [.data, .data, .data, .data, .pinned], laidTests := true, laidLooks := .later }
def RoundSigUptoCardSaid : Prop := Claim7.holds Tryz.pinned (.plain (OpenSpec.upto roundSigSpec)) roundSigUptoCard

/-- THE SECOND FORM's CARD OF 'florinlaw03.RoundStep'. -/
def roundStepUptoCard : Claim7 := { stood := { row := roundStepUptoRow, standIns := [], harness := (true, "d1919b4d60122bd179baca6b3806fba0ea105df5acc63ff246dc2c414701edbe"), looks := false }, kinds := [], alts := [], laidByText := true, laidKinds := [.data, .data, .data, .data, .pinned], laidTests := true, laidLooks := .later }
def RoundStepUptoCardSaid : Prop := Claim7.holds Tryz.pinned (.plain (OpenSpec.upto roundStepSpec)) roundStepUptoCard

/-- THE SECOND FORM's CARD OF 'florinlaw04.ShowRounds'. -/
def showRoundsUptoCard : Claim7 := { stood := { row := showRoundsUptoRow, standIns := [], harness := (true, "d1919b4d60122bd179baca6b3806fba0ea105df5acc63ff246dc2c414701edbe"), looks := false }, kinds := [], alts := [], laidByText := true, laidKinds := [.data, .data, .data, .data, .pinned], laidTests := true, laidLooks := .later }
def ShowRoundsUptoCardSaid : Prop := Claim7.holds Tryz.pinned (.plain (OpenSpec.upto showRoundsSpec)) showRoundsUptoCard

/-- THE SECOND FORM's CARD OF 'florinlaw04.ShowTexts'. -/
def showTextsUptoCard : Claim7 := { stood := { row := showTextsUptoRow, standIns := [], harness := (true, "d1919b4d60122bd179baca6b3806fba0ea105df5acc63ff246dc2c414701edbe"), looks := false }, kinds := [], alts := [], laidByText := true, laidKinds := [.data, .data, .data, .data, .pinned], laidTests := true, laidLooks := .later }
def ShowTextsUptoCardSaid : Prop := Claim7.holds Tryz.pinned (.plain (OpenSpec.upto showTextsSpec)) showTextsUptoCard

/-- THE SECOND FORM's CARD OF 'florinlaw04.ShowAgain'. -/
def showAgainUptoCard : Claim7 := { stood := { row := showAgainUptoRow, standIns := [], harness := (true, "d1919b4d60122bd179baca6b3806fba0ea105df5acc63ff246dc2c414701edbe"), looks := false }, kinds := [], alts := [], laidByText := true, laidKinds := [.data, .data, .data, .data, .pinned], laidTests := true, laidLooks := .later }
def ShowAgainUptoCardSaid : Prop := Claim7.holds Tryz.pinned (.plain (OpenSpec.upto showAgainSpec)) showAgainUptoCard
end Rows
end Go.Proofs.YtfbfjkacaadbpaaGreatDoor
