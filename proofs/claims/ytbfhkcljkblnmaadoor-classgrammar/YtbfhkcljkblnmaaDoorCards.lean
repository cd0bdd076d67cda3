/-
  DERIVED. GIVEN WITH THE SEED: THE CARDS: each row of YtbfhkcljkblnmaaDoorRows.lean that lists a variable, with what it lists TIED to the program's text (the seventh form; the later family's looks); each row that meets fmt, with fmt's text TOLD by the authors' own Lean function (tested against real Go, not proved from fmt's source: count such statements apart). THE CARD IS WHAT COUNTS. Prove the row's statement (the work); the ties are given (YtbfhkcljkblnmaaDoorTie.lean); close each card by the builder's one call (the guide's Derived/Test/ToyasCard.lean, 'card_holds'). Laid BY PROGRAM, IN A SANDBOX (cutbox-door.mjs). By AI agents, Wed Nov 11 2026. No macro, syntax, notation, axiom, sorry.
-/
import Derived.Test.YtbfhkcljkblnmaaDoorRows
import GoSem.ClaimSeven
namespace Go.Proofs.YtbfhkcljkblnmaaDoor
namespace Rows

/-- THE TIED CARD OF 'florinlaw10.ClassMakes'. -/
def classMakesCard : Claim7 := { stood := { row := classMakesRow, standIns := [], harness := (true, "04be53fcf10bb51c9246ef86b6715b4fe8e2e31bbd7446c7d1a8ec0a63632ea0"), looks := false }, kinds := [], alts := [], laidByText := true, laidKinds := [.data, .data, .data, .data, .pinned], laidTests := true, laidLooks := .later }
def ClassMakesCardSaid : Prop := Claim7.holds Tryd.pinned (.plain (OpenSpec.ofChange classMakesSpec)) classMakesCard

/-- THE TIED CARD OF 'florinlaw10.ClassOps'. -/
def classOpsCard : Claim7 := { stood := { row := classOpsRow, standIns := [], harness := (true, "04be53fcf10bb51c9246ef86b6715b4fe8e2e31bbd7446c7d1a8ec0a63632ea0"), looks := false }, kinds := [], alts := [], laidByText := true, laidKinds := [.data, .data, .data, .data, .pinned], laidTests := true, laidLooks := .later }
def ClassOpsCardSaid : Prop := Claim7.holds Tryd.pinned (.plain (OpenSpec.ofChange classOpsSpec)) classOpsCard

/-- THE TIED CARD OF 'florinlaw10.ClassGrammar'. -/
def classGrammarCard : Claim7 := { stood := { row := classGrammarRow, standIns := [], harness := (true, "04be53fcf10bb51c9246ef86b6715b4fe8e2e31bbd7446c7d1a8ec0a63632ea0"), looks := false }, kinds := [], alts := [], laidByText := true, laidKinds := [.data, .data, .data, .data, .pinned], laidTests := true, laidLooks := .later }
def ClassGrammarCardSaid : Prop := Claim7.holds Tryd.pinned (.plain (OpenSpec.ofChange classGrammarSpec)) classGrammarCard

/-- THE TIED CARD OF 'florinlaw10.ClassAgain'. -/
def classAgainCard : Claim7 := { stood := { row := classAgainRow, standIns := [], harness := (true, "04be53fcf10bb51c9246ef86b6715b4fe8e2e31bbd7446c7d1a8ec0a63632ea0"), looks := false }, kinds := [], alts := [], laidByText := true, laidKinds := [.data, .data, .data, .data, .pinned], laidTests := true, laidLooks := .later }
def ClassAgainCardSaid : Prop := Claim7.holds Tryd.pinned (.plain (OpenSpec.ofChange classAgainSpec)) classAgainCard

/-- THE TIED CARD OF 'florinlaw10.ClassReads'. -/
def classReadsCard : Claim7 := { stood := { row := classReadsRow, standIns := [], harness := (true, "04be53fcf10bb51c9246ef86b6715b4fe8e2e31bbd7446c7d1a8ec0a63632ea0"), looks := false }, kinds := [], alts := [], laidByText := true, laidKinds := [.data, .data, .data, .data, .pinned], laidTests := true, laidLooks := .later }
def ClassReadsCardSaid : Prop := Claim7.holds Tryd.pinned (.plain (OpenSpec.ofChange classReadsSpec)) classReadsCard

/-- THE TIED CARD OF 'florinlaw10.ClassErrors'. -/
def classErrorsCard : Claim7 := { stood := { row := classErrorsRow, standIns := [], harness := (true, "04be53fcf10bb51c9246ef86b6715b4fe8e2e31bbd7446c7d1a8ec0a63632ea0"), looks := false }, kinds := [], alts := [], laidByText := true, laidKinds := [.data, .data, .data, .data, .pinned], laidTests := true, laidLooks := .later }
def ClassErrorsCardSaid : Prop := Claim7.holds Tryd.pinned (.plain (OpenSpec.ofChange classErrorsSpec)) classErrorsCard

/-- THE TIED CARD OF 'florinlaw10.ClassLaws'. -/
def classLawsCard : Claim7 := { stood := { row := classLawsRow, standIns := [], harness := (true, "04be53fcf10bb51c9246ef86b6715b4fe8e2e31bbd7446c7d1a8ec0a63632ea0"), looks := false }, kinds := [], alts := [], laidByText := true, laidKinds := [.data, .data, .data, .data, .pinned], laidTests := true, laidLooks := .later }
def ClassLawsCardSaid : Prop := Claim7.holds Tryd.pinned (.plain (OpenSpec.ofChange classLawsSpec)) classLawsCard

/-- THE SECOND FORM's CARD OF 'florinlaw10.ClassMakes'. -/
def classMakesUptoCard : Claim7 := { stood := { row := classMakesUptoRow, standIns := [], harness := (true, "04be53fcf10bb51c9246ef86b6715b4fe8e2e31bbd7446c7d1a8ec0a63632ea0"), looks := false }, kinds := [], alts := [], laidByText := true, laidKinds := [.data, .data, .data, .data, .pinned], laidTests := true, laidLooks := .later }
def ClassMakesUptoCardSaid : Prop := Claim7.holds Tryd.pinned (.plain (OpenSpec.upto classMakesSpec)) classMakesUptoCard

/-- THE SECOND FORM's CARD OF 'florinlaw10.ClassOps'. -/
def classOpsUptoCard : Claim7 := { stood := { row := classOpsUptoRow, standIns := [], harness := (true, "04be53fcf10bb51c9246ef86b6715b4fe8e2e31bbd7446c7d1a8ec0a63632ea0"), looks := false }, kinds := [], alts := [], laidByText := true, laidKinds := [.data, .data, .data, .data, .pinned], laidTests := true, laidLooks := .later }
def ClassOpsUptoCardSaid : Prop := Claim7.holds Tryd.pinned (.plain (OpenSpec.upto classOpsSpec)) classOpsUptoCard

/-- THE SECOND FORM's CARD OF 'florinlaw10.ClassGrammar'. -/
def classGrammarUptoCard : Claim7 := { stood := { row := classGrammarUptoRow, standIns := [], harness := (true, "04be53fcf10bb51c9246ef86b6715b4fe8e2e31bbd7446c7d1a8ec0a63632ea0"), looks := false }, kinds := [], alts := [], laidByText := true, laidKinds := [.data, .data, .data, .data, .pinned], laidTests := true, laidLooks := .later }
def ClassGrammarUptoCardSaid : Prop := Claim7.holds Tryd.pinned (.plain (OpenSpec.upto classGrammarSpec)) classGrammarUptoCard

/-- THE SECOND FORM's CARD OF 'florinlaw10.ClassAgain'. -/
def classAgainUptoCard : Claim7 := { stood := { row := classAgainUptoRow, standIns := [], harness := (true, "04be53fcf10bb51c9246ef86b6715b4fe8e2e31bbd7446c7d1a8ec0a63632ea0"), looks := false }, kinds := [], alts := [], laidByText := true, laidKinds := [.data, .data, .data, .data, .pinned], laidTests := true, laidLooks := .later }
def ClassAgainUptoCardSaid : Prop := Claim7.holds Tryd.pinned (.plain (OpenSpec.upto classAgainSpec)) classAgainUptoCard

/-- THE SECOND FORM's CARD OF 'florinlaw10.ClassReads'. -/
def classReadsUptoCard : Claim7 := { stood := { row := classReadsUptoRow, standIns := [], harness := (true, "04be53fcf10bb51c9246ef86b6715b4fe8e2e31bbd7446c7d1a8ec0a63632ea0"), looks := false }, kinds := [], alts := [], laidByText := true, laidKinds := [.data, .data, .data, .data, .pinned], laidTests := true, laidLooks := .later }
def ClassReadsUptoCardSaid : Prop := Claim7.holds Tryd.pinned (.plain (OpenSpec.upto classReadsSpec)) classReadsUptoCard

/-- THE SECOND FORM's CARD OF 'florinlaw10.ClassErrors'. -/
def classErrorsUptoCard : Claim7 := { stood := { row := classErrorsUptoRow, standIns := [], harness := (true, "04be53fcf10bb51c9246ef86b6715b4fe8e2e31bbd7446c7d1a8ec0a63632ea0"), looks := false }, kinds := [], alts := [], laidByText := true, laidKinds := [.data, .data, .data, .data, .pinned], laidTests := true, laidLooks := .later }
def ClassErrorsUptoCardSaid : Prop := Claim7.holds Tryd.pinned (.plain (OpenSpec.upto classErrorsSpec)) classErrorsUptoCard

/-- THE SECOND FORM's CARD OF 'florinlaw10.ClassLaws'. -/
def classLawsUptoCard : Claim7 := { stood := { row := classLawsUptoRow, standIns := [], harness := (true, "04be53fcf10bb51c9246ef86b6715b4fe8e2e31bbd7446c7d1a8ec0a63632ea0"), looks := false }, kinds := [], alts := [], laidByText := true, laidKinds := [.data, .data, .data, .data, .pinned], laidTests := true, laidLooks := .later }
def ClassLawsUptoCardSaid : Prop := Claim7.holds Tryd.pinned (.plain (OpenSpec.upto classLawsSpec)) classLawsUptoCard
end Rows
end Go.Proofs.YtbfhkcljkblnmaaDoor
