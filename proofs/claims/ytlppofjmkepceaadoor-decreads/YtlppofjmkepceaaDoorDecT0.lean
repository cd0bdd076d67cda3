/- What Text.Write returns: every way through it. -/
import Derived.Test.YtlppofjmkepceaaDoorTextX
import Derived.Test.YtlppofjmkepceaaDoorDecH
namespace Go.Proofs.YtlppofjmkepceaaDoor
open Go.RowKit Florin
set_option linter.unusedVariables false
set_option linter.unusedSimpArgs false

theorem Box.eight {w : World} {b : Nat} {v0 v1 v2 v3 v4 v5 v6 v7 : Value} (h : Box w b #[v0, v1, v2, v3, v4, v5, v6, v7]) :
    w.cell? ⟨b, 0, none⟩ = some v0 ∧ w.cell? ⟨b, 1, none⟩ = some v1 ∧ w.cell? ⟨b, 2, none⟩ = some v2 ∧ w.cell? ⟨b, 3, none⟩ = some v3 ∧ w.cell? ⟨b, 4, none⟩ = some v4 ∧ w.cell? ⟨b, 5, none⟩ = some v5 ∧ w.cell? ⟨b, 6, none⟩ = some v6 ∧ w.cell? ⟨b, 7, none⟩ = some v7 ∧ b < w.heap.size :=
  ⟨h.cell 0, h.cell 1, h.cell 2, h.cell 3, h.cell 4, h.cell 5, h.cell 6, h.cell 7, h.lt⟩
theorem ofZ (w : World) (ht : Tab w) : Calls Tryd.prog 38 #[.int .i64 0] w fun e w' => e = .returned (S []) ∧ Below w.heap.size w w' := by
  have h := ofN 0 w (by decide) ht
  rw [dig_zero] at h
  exact h
end Go.Proofs.YtlppofjmkepceaaDoor
