/- Few rules as they are made are a form: what the laws over them lean on. -/
import Derived.Test.YtkjhdehpcanciaaGreatDoorMdZ
namespace Go.Proofs.YtkjhdehpcanciaaGreatDoor
open Go.RowKit Florin
set_option linter.unusedVariables false
set_option linter.unusedSimpArgs false
theorem fewR.L {ms : List MadeM} (h : fewR ms) : ms.length ≤ 8 := h.1
theorem fewR.B {ms : List MadeM} (h : fewR ms) : ∀ m ∈ ms, madeB m := fun m hm => ⟨(h.2 m hm).1, fun a ha => ((h.2 m hm).2 a ha).1⟩
theorem fewR.R {ms : List MadeM} (h : fewR ms) : ∀ m ∈ ms, ∀ a ∈ m.any, ∀ r ∈ a, r.rs.length ≤ 5 := fun m hm a ha => ((h.2 m hm).2 a ha).2
theorem RulesAt.form {w : World} {base : Nat} {xs : List RuleT} {v : Value} (h : RulesAt w base xs v) : ∃ a c, v = .slice a xs.length c := by
  obtain ⟨_, h1, _⟩ := h
  exact own_cap h1
theorem mades_F {ms : List MadeM} (h : fewR ms) : RulesF (madesMn ms) := rules_ok (mades_read ms 0 h.L h.B)
end Go.Proofs.YtkjhdehpcanciaaGreatDoor
