/- What dec.Parse returns, whatever the text. -/
import Derived.Test.YtkjhdehpcanciaaGreatDoorDecG
namespace Go.Proofs.YtkjhdehpcanciaaGreatDoor
open Go.RowKit Florin
set_option linter.unusedVariables false

theorem len_parts (l : List UInt8) : (whole l).length ≤ l.length ∧ (frac l).length ≤ l.length ∧ (pw l).length ≤ l.length := by
  have h0 : (less l).length ≤ l.length := by unfold less; split <;> simp
  have h1 : (eA l).length ≤ (less l).length := (List.takeWhile_sublist _).length_le
  have h2 : (eB l).length ≤ (less l).length := (List.dropWhile_sublist _).length_le
  have h3 : (whole l).length ≤ (eA l).length := (List.takeWhile_sublist _).length_le
  have h4 : (pB l).length ≤ (eA l).length := (List.dropWhile_sublist _).length_le
  have h5 : (pw l).length ≤ (eB l).length := by unfold pw bareP; split <;> (try split) <;> simp <;> omega
  have h6 : (frac l).length ≤ (pB l).length := by unfold frac; simp
  omega
theorem ok_isDig {l : List UInt8} (h : okF l = true) : isDig (pw l) = true ∧ isDig (whole l ++ frac l) = true := by
  unfold okF at h
  simp only [Bool.and_eq_true, Bool.or_eq_true] at h
  obtain ⟨h1, h2, h3⟩ := h
  constructor
  · rcases h1 with h1 | h1
    · have : pw l = [] := by unfold pw; rw [List.isEmpty_iff.1 h1]; rfl
      rw [this]; rfl
    · exact ((sdig_iff _).1 h1).2
  · rw [isDig_append, ((sdig_iff _).1 h2).2]
    rcases h3 with h3 | h3
    · have : frac l = [] := by unfold frac; rw [List.isEmpty_iff.1 h3]; rfl
      rw [this]; rfl
    · rw [((sdig_iff _).1 h3).2]; rfl
theorem val_big {n : Nat} (h : 18 < (dig n).length) : 10000 < n := by
  have h1 : ¬ (dig n).length ≤ 5 := by omega
  rw [dig_length_le] at h1
  have : (10 : Nat) ^ 5 = 100000 := by decide
  omega
end Go.Proofs.YtkjhdehpcanciaaGreatDoor
