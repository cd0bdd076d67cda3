/-
  DERIVED. GIVEN WITH THE SEED: THE CARDS: each row of YtcobokfccfeonaaGreatDoorRows.lean that lists a variable, with what it lists TIED to the program's text (the seventh form; the later family's looks); each row that meets fmt, with fmt's text TOLD by the authors' own Lean function (tested against real Go, not proved from fmt's source: count such statements apart). THE CARD IS WHAT COUNTS. Prove the row's statement (the work); the ties are given (YtcobokfccfeonaaGreatDoorTie.lean); close each card by the builder's one call (the guide's Derived/Test/ToyasCard.lean, 'card_holds'). Laid BY PROGRAM, IN A SANDBOX (cutbox-door.mjs). By AI agents, Wed Nov 11 2026. No macro, syntax, notation, axiom, sorry.
-/
import Derived.Test.YtcobokfccfeonaaGreatDoorRows
import GoSem.ClaimSeven
namespace Go.Proofs.YtcobokfccfeonaaGreatDoor
namespace Rows

/-- THE TIED CARD OF 'florinlaw06.RuleWords'. -/
def ruleWordsCard : Claim7 := { stood := { row := ruleWordsRow, standIns := [], harness := (true, "a0c6eddcd70823e5391f663629036e2f2f50e7a5e5e618b30ea51ac99693943f"), looks := true }, kinds := [], alts := [], laidByText := true, laidKinds := [.data, .data, .data, .data, .sentinel, .sentinel, .data, .pinned], laidTests := true, laidLooks := .later }
def RuleWordsCardSaid : Prop := Claim7.holds Tryz.pinned (.plain (OpenSpec.ofChange ruleWordsSpec)) ruleWordsCard

/-- THE TIED CARD OF 'florinlaw06.RuleErrors'. -/
def ruleErrorsCard : Claim7 := { stood := { row := ruleErrorsRow, standIns := [], harness := (true, "a0c6eddcd70823e5391f663629036e2f2f50e7a5e5e618b30ea51ac99693943f"), looks := true }, kinds := [], alts := [], laidByText := true, laidKinds := [.data, .data, .data, .data, .sentinel, .sentinel, .data, .pinned], laidTests := true, laidLooks := .later }
def RuleErrorsCardSaid : Prop := Claim7.holds Tryz.pinned (.plain (OpenSpec.ofChange ruleErrorsSpec)) ruleErrorsCard

/-- THE TIED CARD OF 'florinlaw06.RuleMany'. -/
def ruleManyCard : Claim7 := { stood := { row := ruleManyRow, standIns := [], harness := (true, "a0c6eddcd70823e5391f663629036e2f2f50e7a5e5e618b30ea51ac99693943f"), looks := true }, kinds := [], alts := [], laidByText := true, laidKinds := [.data, .data, .data, .data, .sentinel, .sentinel, .data, .pinned], laidTests := true, laidLooks := .later }
def RuleManyCardSaid : Prop := Claim7.holds Tryz.pinned (.plain (OpenSpec.ofChange ruleManySpec)) ruleManyCard

/-- THE TIED CARD OF 'florinlaw06.RuleReads'. -/
def ruleReadsCard : Claim7 := { stood := { row := ruleReadsRow, standIns := [], harness := (true, "a0c6eddcd70823e5391f663629036e2f2f50e7a5e5e618b30ea51ac99693943f"), looks := true }, kinds := [], alts := [], laidByText := true, laidKinds := [.data, .data, .data, .data, .sentinel, .sentinel, .data, .pinned], laidTests := true, laidLooks := .later }
def RuleReadsCardSaid : Prop := Claim7.holds Tryz.pinned (.plain (OpenSpec.ofChange ruleReadsSpec)) ruleReadsCard

/-- THE SECOND FORM's CARD OF 'florinlaw06.RuleWords'. -/
def ruleWordsUptoCard : Claim7 := { stood := { row := ruleWordsUptoRow, standIns := [], harness := (true, "a0c6eddcd70823e5391f663629036e2f2f50e7a5e5e618b30ea51ac99693943f"), looks := true }, kinds := [], alts := [], laidByText := true, laidKinds := [.data, .data, .data, .data, .sentinel, .sentinel, .data, .pinned], laidTests := true, laidLooks := .later }
def RuleWordsUptoCardSaid : Prop := Claim7.holds Tryz.pinned (.plain (OpenSpec.upto ruleWordsSpec)) ruleWordsUptoCard

/-- THE SECOND FORM's CARD OF 'florinlaw06.RuleErrors'. -/
def ruleErrorsUptoCard : Claim7 := { stood := { row := ruleErrorsUptoRow, standIns := [], harness := (true, "a0c6eddcd70823e5391f663629036e2f2f50e7a5e5e618b30ea51ac99693943f"), looks := true }, kinds := [], alts := [], laidByText := true, laidKinds := [.data, .data, .data, .data, .sentinel, .sentinel, .data, .pinned], laidTests := true, laidLooks := .later }
def RuleErrorsUptoCardSaid : Prop := Claim7.holds Tryz.pinned (.plain (OpenSpec.upto ruleErrorsSpec)) ruleErrorsUptoCard

/-- THE SECOND FORM's CARD OF 'florinlaw06.RuleMany'. -/
def ruleManyUptoCard : Claim7 := { stood := { row := ruleManyUptoRow, standIns := [], harness := (true, "a0c6eddcd70823e5391f663629036e2f2f50e7a5e5e618b30ea51ac99693943f"), looks := true }, kinds := [], alts := [], laidByText := true, laidKinds := [.data, .data, .data, .data, .sentinel, .sentinel, .data, .pinned], laidTests := true, laidLooks := .later }
def RuleManyUptoCardSaid : Prop := Claim7.holds Tryz.pinned (.plain (OpenSpec.upto ruleManySpec)) ruleManyUptoCard

/-- THE SECOND FORM's CARD OF 'florinlaw06.RuleReads'. -/
def ruleReadsUptoCard : Claim7 := { stood := { row := ruleReadsUptoRow, standIns := [], harness := (true, "a0c6eddcd70823e5391f663629036e2f2f50e7a5e5e618b30ea51ac99693943f"), looks := true }, kinds := [], alts := [], laidByText := true, laidKinds := [.data, .data, .data, .data, .sentinel, .sentinel, .data, .pinned], laidTests := true, laidLooks := .later }
def RuleReadsUptoCardSaid : Prop := Claim7.holds Tryz.pinned (.plain (OpenSpec.upto ruleReadsSpec)) ruleReadsUptoCard
end Rows
end Go.Proofs.YtcobokfccfeonaaGreatDoor
