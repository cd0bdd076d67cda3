/- Raw decimals of the laws at fifty places, and their order. -/
import Derived.Test.YtjobccgpejbchaaDoorDawC0
namespace Go.Proofs.YtjobccgpejbchaaDoor
open Go.RowKit Florin
set_option linter.unusedVariables false

theorem fit50 {z : Int} (h : z.natAbs < 10 ^ 240) : Fit 50 z := Fit.of (m := 240) (by decide) h (by decide)
theorem raw50 (n : Bool) (L : List UInt8) (e : Int) (h1 : L.length ≤ 50) (h2 : -50 ≤ e) (h3 : e ≤ 50) : ∃ X : Int, Dv 50 X ⟨n, dgs L, e⟩ ∧ X.natAbs < 10 ^ 200 := by
  refine ⟨_, raw_dv n (isDig_dgs L) (by omega), ?_⟩
  rw [sg_natAbs]
  have h4 := val_lt _ (isDig_dgs L)
  rw [dgs_length] at h4
  have h5 : 10 ^ L.length ≤ 10 ^ 50 := Nat.pow_le_pow_right (by decide) h1
  have h6 : 10 ^ (e + 50).toNat ≤ 10 ^ 120 := Nat.pow_le_pow_right (by decide) (by omega)
  have h7 : val (dgs L) * 10 ^ (e + ((50 : Nat) : Int)).toNat ≤ 10 ^ 50 * 10 ^ 120 := Nat.mul_le_mul (by omega) h6
  have h8 : 10 ^ 50 * 10 ^ 120 < 10 ^ 200 := by decide
  omega
theorem ci_swap (x y : Int) : Lib.compareInt y x = -Lib.compareInt x y := by
  rcases Int.lt_trichotomy x y with h | h | h
  · rw [compareInt_of_lt h, compareInt_of_gt h]; rfl
  · subst h; rw [compareInt_self]; rfl
  · rw [compareInt_of_lt h, compareInt_of_gt h]
theorem ci_neg (x y : Int) : Lib.compareInt (-x) (-y) = -Lib.compareInt x y := by
  rcases Int.lt_trichotomy x y with h | h | h
  · rw [compareInt_of_lt h, compareInt_of_gt (by omega)]; rfl
  · subst h; rw [compareInt_self, compareInt_self]; rfl
  · rw [compareInt_of_gt h, compareInt_of_lt (by omega)]
theorem ci_add (x y z : Int) : Lib.compareInt (x + z) (y + z) = Lib.compareInt x y := by
  rcases Int.lt_trichotomy x y with h | h | h
  · rw [compareInt_of_lt h, compareInt_of_lt (by omega)]
  · subst h; rw [compareInt_self, compareInt_self]
  · rw [compareInt_of_gt h, compareInt_of_gt (by omega)]
theorem ci_bounds (x y : Int) : -1 ≤ Lib.compareInt x y ∧ Lib.compareInt x y ≤ 1 := by unfold Lib.compareInt; split; omega; split <;> omega
theorem ci_le (x y : Int) : Lib.compareInt x y ≤ 0 ↔ x ≤ y := by unfold Lib.compareInt; split; omega; split <;> omega
theorem ci_zero (x y : Int) : Lib.compareInt x y = 0 ↔ x = y := by unfold Lib.compareInt; split; omega; split <;> omega
theorem min_len (l : List UInt8) (z : Nat) (h : l = [] ↔ z = 0) : min 1 (l.length : Int) = Lib.compareInt (z : Int) 0 := by
  by_cases h0 : z = 0
  · rw [h.2 h0, h0]; rfl
  · rw [compareInt_of_gt (by omega)]
    have : l ≠ [] := fun e => h0 (h.1 e)
    have := List.length_pos_iff.2 this
    omega
theorem nf_abs {k : Nat} {z : Int} {b : Bool} {l : List UInt8} {e : Int} (h : Dv k z ⟨b, l, e⟩) (hf : Fit k z) : made false l e = nf k (z.natAbs : Int) := (dv_abs h).made (fit_abs hf)
end Go.Proofs.YtjobccgpejbchaaDoor
