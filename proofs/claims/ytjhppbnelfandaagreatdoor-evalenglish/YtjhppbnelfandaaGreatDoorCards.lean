/-
  DERIVED. GIVEN WITH THE SEED: THE CARDS: each row of YtjhppbnelfandaaGreatDoorRows.lean that lists a variable, with what it lists TIED to the program's text (the seventh form; the later family's looks); each row that meets fmt, with fmt's text TOLD by the authors' own Lean function (tested against real Go, not proved from fmt's source: count such statements apart). THE CARD IS WHAT COUNTS. Prove the row's statement (the work); the ties are given (YtjhppbnelfandaaGreatDoorTie.lean); close each card by the builder's one call (the guide's Derived/Test/ToyasCard.lean, 'card_holds'). Laid BY PROGRAM, IN A SANDBOX (cutbox-door.mjs). By AI agents, Wed Nov 11 2026. No macro, syntax, notation, axiom, sorry.
-/
import Derived.Test.YtjhppbnelfandaaGreatDoorRows
import GoSem.ClaimSeven
namespace Go.Proofs.YtjhppbnelfandaaGreatDoor
namespace Rows

/-- THE TIED CARD OF 'florinlaw07.EvalEnglish'. -/
def evalEnglishCard : Claim7 := { stood := { row := evalEnglishRow, standIns := [], harness := (true, "71a4512bb13195402b76f09226e9a005378f58685ba8b04a3684a70e317507ad"), looks := true }, kinds := [], alts := [], laidByText := true, laidKinds := [.data, .data, .data, .data, .sentinel, .sentinel, .data, .pinned], laidTests := true, laidLooks := .later }
def EvalEnglishCardSaid : Prop := Claim7.holds Tryz.pinned (.plain (OpenSpec.ofChange evalEnglishSpec)) evalEnglishCard

/-- THE SECOND FORM's CARD OF 'florinlaw07.EvalEnglish'. -/
def evalEnglishUptoCard : Claim7 := { stood := { row := evalEnglishUptoRow, standIns := [], harness := (true, "71a4512bb13195402b76f09226e9a005378f58685ba8b04a3684a70e317507ad"), looks := true }, kinds := [], alts := [], laidByText := true, laidKinds := [.data, .data, .data, .data, .sentinel, .sentinel, .data, .pinned], laidTests := true, laidLooks := .later }
def EvalEnglishUptoCardSaid : Prop := Claim7.holds Tryz.pinned (.plain (OpenSpec.upto evalEnglishSpec)) evalEnglishUptoCard
end Rows
end Go.Proofs.YtjhppbnelfandaaGreatDoor
