/- Ranges that came in: none, or a row. -/
import Derived.Test.YtbfhkcljkblnmaaDoorCrY
namespace Go.Proofs.YtbfhkcljkblnmaaDoor
open Go.ChangeShapes Go.WideShapes Go.ChangeAt Go.RowKit Go.Joins Go.Deep Florin
set_option linter.unusedVariables false
theorem open_rngs2 {H : Type} {enc : TypeId × Value → H} {W : World} {v : Value} {d : DataW H} {p : List MemPlace} (h : DataW.Trod enc Tryd.prog W 0 (fun _ => true) true 22 v d p) (hs : ∃ a l c, v = .slice a l c) : ∃ l, InC W v l ∧ (v = .slice none 0 0 ∨ ∃ a m c, v = .slice (some a) m c) := by
  obtain ⟨l, hl⟩ := open_rngs h hs
  refine ⟨l, hl, ?_⟩
  obtain ⟨a, n, c, rfl⟩ := hs
  obtain ⟨fuel, hf⟩ := h
  rcases open_slice Tryd.underlying22 hf with ⟨hc, _⟩ | ⟨a', len, cap, m, n', D, Pl, hc, _⟩
  · simp [Value.cells] at hc
    obtain ⟨rfl, rfl, rfl⟩ := hc
    exact .inl rfl
  · simp [Value.cells] at hc
    obtain ⟨rfl, rfl, rfl⟩ := hc
    exact .inr ⟨_, _, _, rfl⟩
end Go.Proofs.YtbfhkcljkblnmaaDoor
