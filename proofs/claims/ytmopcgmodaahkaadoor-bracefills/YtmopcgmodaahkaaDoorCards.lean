/-
  DERIVED. GIVEN WITH THE SEED: THE CARDS: each row of YtmopcgmodaahkaaDoorRows.lean that lists a variable, with what it lists TIED to the program's text (the seventh form; the later family's looks); each row that meets fmt, with fmt's text TOLD by the authors' own Lean function (tested against real Go, not proved from fmt's source: count such statements apart). THE CARD IS WHAT COUNTS. Prove the row's statement (the work); the ties are given (YtmopcgmodaahkaaDoorTie.lean); close each card by the builder's one call (the guide's Derived/Test/ToyasCard.lean, 'card_holds'). Laid BY PROGRAM, IN A SANDBOX (cutbox-door.mjs). By AI agents, Wed Nov 11 2026. No macro, syntax, notation, axiom, sorry.
-/
import Derived.Test.YtmopcgmodaahkaaDoorRows
import GoSem.ClaimSeven
namespace Go.Proofs.YtmopcgmodaahkaaDoor
namespace Rows

/-- THE TIED CARD OF 'florinlaw12.CpatReads'. -/
def cpatReadsCard : Claim7 := { stood := { row := cpatReadsRow, standIns := [], harness := (true, "899c628d46d6be90f731bbb68b74c723dedf079f93337af416e6006eb8765376"), looks := true }, kinds := [], alts := [], laidByText := true, laidKinds := [.data, .data, .pinned], laidTests := true, laidLooks := .later }
def CpatReadsCardSaid : Prop := Claim7.holds Tryd.pinned (.plain (OpenSpec.ofChange cpatReadsSpec)) cpatReadsCard

/-- THE TIED CARD OF 'florinlaw12.CpatMany'. -/
def cpatManyCard : Claim7 := { stood := { row := cpatManyRow, standIns := [], harness := (true, "899c628d46d6be90f731bbb68b74c723dedf079f93337af416e6006eb8765376"), looks := true }, kinds := [], alts := [], laidByText := true, laidKinds := [.data, .data, .pinned], laidTests := true, laidLooks := .later }
def CpatManyCardSaid : Prop := Claim7.holds Tryd.pinned (.plain (OpenSpec.ofChange cpatManySpec)) cpatManyCard

/-- THE TIED CARD OF 'florinlaw13.BraceFills'. -/
def braceFillsCard : Claim7 := { stood := { row := braceFillsRow, standIns := [], harness := (true, "899c628d46d6be90f731bbb68b74c723dedf079f93337af416e6006eb8765376"), looks := true }, kinds := [], alts := [], laidByText := true, laidKinds := [.data, .pinned], laidTests := true, laidLooks := .later }
def BraceFillsCardSaid : Prop := Claim7.holds Tryd.pinned (.plain (OpenSpec.ofChange braceFillsSpec)) braceFillsCard

/-- THE TIED CARD OF 'florinlaw13.BraceReads'. -/
def braceReadsCard : Claim7 := { stood := { row := braceReadsRow, standIns := [], harness := (true, "899c628d46d6be90f731bbb68b74c723dedf079f93337af416e6006eb8765376"), looks := true }, kinds := [], alts := [], laidByText := true, laidKinds := [.data, .pinned], laidTests := true, laidLooks := .later }
def BraceReadsCardSaid : Prop := Claim7.holds Tryd.pinned (.plain (OpenSpec.ofChange braceReadsSpec)) braceReadsCard

/-- THE TIED CARD OF 'florinlaw13.BraceAgain'. -/
def braceAgainCard : Claim7 := { stood := { row := braceAgainRow, standIns := [], harness := (true, "899c628d46d6be90f731bbb68b74c723dedf079f93337af416e6006eb8765376"), looks := true }, kinds := [], alts := [], laidByText := true, laidKinds := [.data, .pinned], laidTests := true, laidLooks := .later }
def BraceAgainCardSaid : Prop := Claim7.holds Tryd.pinned (.plain (OpenSpec.ofChange braceAgainSpec)) braceAgainCard

/-- THE SECOND FORM's CARD OF 'florinlaw12.CpatReads'. -/
def cpatReadsUptoCard : Claim7 := { stood := { row := cpatReadsUptoRow, standIns := [], harness := (true, "899c628d46d6be90f731bbb68b74c723dedf079f93337af416e6006eb8765376"), looks := true }, kinds := [], alts := [], laidByText := true, laidKinds := [.data, .data, .pinned], laidTests := true, laidLooks := .later }
def CpatReadsUptoCardSaid : Prop := Claim7.holds Tryd.pinned (.plain (OpenSpec.upto cpatReadsSpec)) cpatReadsUptoCard

/-- THE SECOND FORM's CARD OF 'florinlaw12.CpatMany'. -/
def cpatManyUptoCard : Claim7 := { stood := { row := cpatManyUptoRow, standIns := [], harness := (true, "899c628d46d6be90f731bbb68b74c723dedf079f93337af416e6006eb8765376"), looks := true }, kinds := [], alts := [], laidByText := true, laidKinds := [.data, .data, .pinned], laidTests := true, laidLooks := .later }
def CpatManyUptoCardSaid : Prop := Claim7.holds Tryd.pinned (.plain (OpenSpec.upto cpatManySpec)) cpatManyUptoCard

/-- THE SECOND FORM's CARD OF 'florinlaw13.BraceFills'. -/
def braceFillsUptoCard : Claim7 := { stood := { row := braceFillsUptoRow, standIns := [], harness := (true, "899c628d46d6be90f731bbb68b74c723dedf079f93337af416e6006eb8765376"), looks := true }, kinds := [], alts := [], laidByText := true, laidKinds := [.data, .pinned], laidTests := true, laidLooks := .later }
def BraceFillsUptoCardSaid : Prop := Claim7.holds Tryd.pinned (.plain (OpenSpec.upto braceFillsSpec)) braceFillsUptoCard

/-- THE SECOND FORM's CARD OF 'florinlaw13.BraceReads'. -/
def braceReadsUptoCard : Claim7 := { stood := { row := braceReadsUptoRow, standIns := [], harness := (true, "899c628d46d6be90f731bbb68b74c723dedf079f93337af416e6006eb8765376"), looks := true }, kinds := [], alts := [], laidByText := true, laidKinds := [.data, .pinned], laidTests := true, laidLooks := .later }
def BraceReadsUptoCardSaid : Prop := Claim7.holds Tryd.pinned (.plain (OpenSpec.upto braceReadsSpec)) braceReadsUptoCard

/-- THE SECOND FORM's CARD OF 'florinlaw13.BraceAgain'. -/
def braceAgainUptoCard : Claim7 := { stood := { row := braceAgainUptoRow, standIns := [], harness := (true, "899c628d46d6be90f731bbb68b74c723dedf079f93337af416e6006eb8765376"), looks := true }, kinds := [], alts := [], laidByText := true, laidKinds := [.data, .pinned], laidTests := true, laidLooks := .later }
def BraceAgainUptoCardSaid : Prop := Claim7.holds Tryd.pinned (.plain (OpenSpec.upto braceAgainSpec)) braceAgainUptoCard
end Rows
end Go.Proofs.YtmopcgmodaahkaaDoor
