/-
  DERIVED. GIVEN WITH THE SEED: THE CARDS: each row of YtkjhdehpcanciaaGreatDoorRows.lean that lists a variable, with what it lists TIED to the program's text (the seventh form; the later family's looks); each row that meets fmt, with fmt's text TOLD by the authors' own Lean function (tested against real Go, not proved from fmt's source: count such statements apart). THE CARD IS WHAT COUNTS. Prove the row's statement (the work); the ties are given (YtkjhdehpcanciaaGreatDoorTie.lean); close each card by the builder's one call (the guide's Derived/Test/ToyasCard.lean, 'card_holds'). Laid BY PROGRAM, IN A SANDBOX (cutbox-door.mjs). By AI agents, Wed Nov 11 2026. No macro, syntax, notation, axiom, sorry.
-/
import Derived.Test.YtkjhdehpcanciaaGreatDoorRows
import GoSem.ClaimSeven
namespace Go.Proofs.YtkjhdehpcanciaaGreatDoor
namespace Rows

/-- THE TIED CARD OF 'florinlaw06.RuleGrammar'. -/
def ruleGrammarCard : Claim7 := { stood := { row := ruleGrammarRow, standIns := [], harness := (true, "e76558322219b8e2a140157fe9ab9c5f329db4c8d3f8cc871fddb2453bf36250"), looks := true }, kinds := [], alts := [], laidByText := true, laidKinds := [.data, .data, .data, .data, .sentinel, .sentinel, .data, .pinned], laidTests := true, laidLooks := .later }
def RuleGrammarCardSaid : Prop := Claim7.holds Tryz.pinned (.plain (OpenSpec.ofChange ruleGrammarSpec)) ruleGrammarCard

/-- THE TIED CARD OF 'florinlaw06.RuleAgain'. -/
def ruleAgainCard : Claim7 := { stood := { row := ruleAgainRow, standIns := [], harness := (true, "e76558322219b8e2a140157fe9ab9c5f329db4c8d3f8cc871fddb2453bf36250"), looks := true }, kinds := [], alts := [], laidByText := true, laidKinds := [.data, .data, .data, .data, .sentinel, .sentinel, .data, .pinned], laidTests := true, laidLooks := .later }
def RuleAgainCardSaid : Prop := Claim7.holds Tryz.pinned (.plain (OpenSpec.ofChange ruleAgainSpec)) ruleAgainCard

/-- THE TIED CARD OF 'florinlaw06.RuleOrders'. -/
def ruleOrdersCard : Claim7 := { stood := { row := ruleOrdersRow, standIns := [], harness := (true, "e76558322219b8e2a140157fe9ab9c5f329db4c8d3f8cc871fddb2453bf36250"), looks := true }, kinds := [], alts := [], laidByText := true, laidKinds := [.data, .data, .data, .data, .sentinel, .sentinel, .data, .pinned], laidTests := true, laidLooks := .later }
def RuleOrdersCardSaid : Prop := Claim7.holds Tryz.pinned (.plain (OpenSpec.ofChange ruleOrdersSpec)) ruleOrdersCard

/-- THE TIED CARD OF 'florinlaw07.EvalHolds'. -/
def evalHoldsCard : Claim7 := { stood := { row := evalHoldsRow, standIns := [], harness := (true, "e76558322219b8e2a140157fe9ab9c5f329db4c8d3f8cc871fddb2453bf36250"), looks := true }, kinds := [], alts := [], laidByText := true, laidKinds := [.data, .data, .data, .data, .sentinel, .sentinel, .data, .pinned], laidTests := true, laidLooks := .later }
def EvalHoldsCardSaid : Prop := Claim7.holds Tryz.pinned (.plain (OpenSpec.ofChange evalHoldsSpec)) evalHoldsCard

/-- THE TIED CARD OF 'florinlaw07.EvalOrders'. -/
def evalOrdersCard : Claim7 := { stood := { row := evalOrdersRow, standIns := [], harness := (true, "e76558322219b8e2a140157fe9ab9c5f329db4c8d3f8cc871fddb2453bf36250"), looks := true }, kinds := [], alts := [], laidByText := true, laidKinds := [.data, .data, .data, .data, .sentinel, .sentinel, .data, .pinned], laidTests := true, laidLooks := .later }
def EvalOrdersCardSaid : Prop := Claim7.holds Tryz.pinned (.plain (OpenSpec.ofChange evalOrdersSpec)) evalOrdersCard

/-- THE TIED CARD OF 'florinlaw07.EvalNots'. -/
def evalNotsCard : Claim7 := { stood := { row := evalNotsRow, standIns := [], harness := (true, "e76558322219b8e2a140157fe9ab9c5f329db4c8d3f8cc871fddb2453bf36250"), looks := true }, kinds := [], alts := [], laidByText := true, laidKinds := [.data, .data, .data, .data, .sentinel, .sentinel, .data, .pinned], laidTests := true, laidLooks := .later }
def EvalNotsCardSaid : Prop := Claim7.holds Tryz.pinned (.plain (OpenSpec.ofChange evalNotsSpec)) evalNotsCard

/-- THE TIED CARD OF 'florinlaw07.EvalPeriods'. -/
def evalPeriodsCard : Claim7 := { stood := { row := evalPeriodsRow, standIns := [], harness := (true, "e76558322219b8e2a140157fe9ab9c5f329db4c8d3f8cc871fddb2453bf36250"), looks := true }, kinds := [], alts := [], laidByText := true, laidKinds := [.data, .data, .data, .data, .sentinel, .sentinel, .data, .pinned], laidTests := true, laidLooks := .later }
def EvalPeriodsCardSaid : Prop := Claim7.holds Tryz.pinned (.plain (OpenSpec.ofChange evalPeriodsSpec)) evalPeriodsCard

/-- THE SECOND FORM's CARD OF 'florinlaw06.RuleGrammar'. -/
def ruleGrammarUptoCard : Claim7 := { stood := { row := ruleGrammarUptoRow, standIns := [], harness := (true, "e76558322219b8e2a140157fe9ab9c5f329db4c8d3f8cc871fddb2453bf36250"), looks := true }, kinds := [], alts := [], laidByText := true, laidKinds := [.data, .data, .data, .data, .sentinel, .sentinel, .data, .pinned], laidTests := true, laidLooks := .later }
def RuleGrammarUptoCardSaid : Prop := Claim7.holds Tryz.pinned (.plain (OpenSpec.upto ruleGrammarSpec)) ruleGrammarUptoCard

/-- THE SECOND FORM's CARD OF 'florinlaw06.RuleAgain'. -/
def ruleAgainUptoCard : Claim7 := { stood := { row := ruleAgainUptoRow, standIns := [], harness := (true, "e76558322219b8e2a140157fe9ab9c5f329db4c8d3f8cc871fddb2453bf36250"), looks := true }, kinds := [], alts := [], laidByText := true, laidKinds := [.data, .data, .data, .data, .sentinel, .sentinel, .data, .pinned], laidTests := true, laidLooks := .later }
def RuleAgainUptoCardSaid : Prop := Claim7.holds Tryz.pinned (.plain (OpenSpec.upto ruleAgainSpec)) ruleAgainUptoCard

/-- THE SECOND FORM's CARD OF 'florinlaw06.RuleOrders'. -/
def ruleOrdersUptoCard : Claim7 := { stood := { row := ruleOrdersUptoRow, standIns := [], harness := (true, "e76558322219b8e2a140157fe9ab9c5f329db4c8d3f8cc871fddb2453bf36250"), looks := true }, kinds := [], alts := [], laidByText := true, laidKinds := [.data, .data, .data, .data, .sentinel, .sentinel, .data, .pinned], laidTests := true, laidLooks := .later }
def RuleOrdersUptoCardSaid : Prop := Claim7.holds Tryz.pinned (.plain (OpenSpec.upto ruleOrdersSpec)) ruleOrdersUptoCard

/-- THE SECOND FORM's CARD OF 'florinlaw07.EvalHolds'. -/
def evalHoldsUptoCard : Claim7 := { stood := { row := evalHoldsUptoRow, standIns := [], harness := (true, "e76558322219b8e2a140157fe9ab9c5f329db4c8d3f8cc871fddb2453bf36250"), looks := true }, kinds := [], alts := [], laidByText := true, laidKinds := [.data, .data, .data, .data, .sentinel, .sentinel, .data, .pinned], laidTests := true, laidLooks := .later }
def EvalHoldsUptoCardSaid : Prop := Claim7.holds Tryz.pinned (.plain (OpenSpec.upto evalHoldsSpec)) evalHoldsUptoCard

/-- THE SECOND FORM's CARD OF 'florinlaw07.EvalOrders'. -/
def evalOrdersUptoCard : Claim7 := { stood := { row := evalOrdersUptoRow, standIns := [], harness := (true, "e76558322219b8e2a140157fe9ab9c5f329db4c8d3f8cc871fddb2453bf36250"), looks := true }, kinds := [], alts := [], laidByText := true, laidKinds := [.data, .data, .data, .data, .sentinel, .sentinel, .data, .pinned], laidTests := true, laidLooks := .later }
def EvalOrdersUptoCardSaid : Prop := Claim7.holds Tryz.pinned (.plain (OpenSpec.upto evalOrdersSpec)) evalOrdersUptoCard

/-- THE SECOND FORM's CARD OF 'florinlaw07.EvalNots'. -/
def evalNotsUptoCard : Claim7 := { stood := { row := evalNotsUptoRow, standIns := [], harness := (true, "e76558322219b8e2a140157fe9ab9c5f329db4c8d3f8cc871fddb2453bf36250"), looks := true }, kinds := [], alts := [], laidByText := true, laidKinds := [.data, .data, .data, .data, .sentinel, .sentinel, .data, .pinned], laidTests := true, laidLooks := .later }
def EvalNotsUptoCardSaid : Prop := Claim7.holds Tryz.pinned (.plain (OpenSpec.upto evalNotsSpec)) evalNotsUptoCard

/-- THE SECOND FORM's CARD OF 'florinlaw07.EvalPeriods'. -/
def evalPeriodsUptoCard : Claim7 := { stood := { row := evalPeriodsUptoRow, standIns := [], harness := (true, "e76558322219b8e2a140157fe9ab9c5f329db4c8d3f8cc871fddb2453bf36250"), looks := true }, kinds := [], alts := [], laidByText := true, laidKinds := [.data, .data, .data, .data, .sentinel, .sentinel, .data, .pinned], laidTests := true, laidLooks := .later }
def EvalPeriodsUptoCardSaid : Prop := Claim7.holds Tryz.pinned (.plain (OpenSpec.upto evalPeriodsSpec)) evalPeriodsUptoCard
end Rows
end Go.Proofs.YtkjhdehpcanciaaGreatDoor
