/- Plain facts on rounding: of the whole multiples of a unit the one that the mode says. No program here. -/
import Derived.Test.YtjobccgpejbchaaDoorDPlain
import Derived.Lib.Small
namespace Florin
open Go

/-- Does what lies between two multiples go to the one that is farther from nought? -/
def away (m : Int) (neg : Bool) (h : Int) (odd : Bool) : Bool :=
  if m = 3 then true else if m = 4 then false else if m = 5 then !neg else if m = 6 then neg
  else if h = 0 then (decide (m = 1) || (decide (m = 0) && odd)) else decide (0 < h)
/-- Where a rest lies to the half of a unit. -/
def hf (U N : Nat) : Int := Lib.compareInt (((N % U) * 2 : Nat) : Int) (U : Int)
def cnt (m : Int) (neg : Bool) (U N : Nat) : Nat := N / U + (if away m neg (hf U N) (N / U % 2 == 1) then 1 else 0)

theorem hf_scale (U N c : Nat) (hc : 0 < c) : hf (U * c) (N * c) = hf U N := by
  unfold hf
  rw [Nat.mul_mod_mul_right, Nat.mul_assoc, Nat.mul_comm c 2, ← Nat.mul_assoc]
  have h1 : ((N % U * 2 * c : Nat) : Int) = ((N % U * 2 : Nat) : Int) * (c : Int) := by simp
  have h2 : ((U * c : Nat) : Int) = (U : Int) * (c : Int) := by simp
  rw [h1, h2]
  have hc' : (0 : Int) < c := by omega
  generalize ((N % U * 2 : Nat) : Int) = a
  generalize (U : Int) = b
  unfold Lib.compareInt
  have e1 : a * c < b * c ↔ a < b := ⟨fun h => Int.lt_of_mul_lt_mul_right h (by omega), fun h => Int.mul_lt_mul_of_pos_right h hc'⟩
  have e2 : b * c < a * c ↔ b < a := ⟨fun h => Int.lt_of_mul_lt_mul_right h (by omega), fun h => Int.mul_lt_mul_of_pos_right h hc'⟩
  simp only [gt_iff_lt, e1, e2]
theorem cnt_scale (m : Int) (neg : Bool) (U N c : Nat) (hc : 0 < c) : cnt m neg (U * c) (N * c) = cnt m neg U N := by
  unfold cnt; rw [hf_scale U N c hc, Nat.mul_div_mul_right _ _ hc]

/-- Upward? -/
def up (m f h : Int) : Bool :=
  if m = 5 then true else if m = 6 then false else if m = 3 then decide (0 ≤ f) else if m = 4 then decide (f < 0)
  else if h = 0 then (if m = 1 then decide (0 ≤ f) else if m = 2 then decide (f < 0) else decide (f % 2 = 1)) else decide (0 < h)
/-- A whole number rounded to a multiple of a unit. -/
def rz (m U X : Int) : Int := if X % U = 0 then X else (X / U + (if up m (X / U) (Lib.compareInt (2 * (X % U)) U) then 1 else 0)) * U

theorem ci_lt {x y : Int} (h : x < y) : Lib.compareInt x y = -1 := by unfold Lib.compareInt; rw [if_pos h]
theorem ci_gt {x y : Int} (h : y < x) : Lib.compareInt x y = 1 := by unfold Lib.compareInt; rw [if_neg (by omega), if_pos h]
theorem ci_eq {x y : Int} (h : x = y) : Lib.compareInt x y = 0 := by unfold Lib.compareInt; rw [if_neg (by omega), if_neg (by omega)]
theorem ci_cases (x y : Int) : (x < y ∧ Lib.compareInt x y = -1) ∨ (x = y ∧ Lib.compareInt x y = 0) ∨ (y < x ∧ Lib.compareInt x y = 1) := by
  rcases Int.lt_trichotomy x y with h | h | h
  · exact .inl ⟨h, ci_lt h⟩
  · exact .inr (.inl ⟨h, ci_eq h⟩)
  · exact .inr (.inr ⟨h, ci_gt h⟩)

/-- The cell of a number between two multiples. -/
theorem cell (U X : Int) (hU : 0 < U) : ∃ f s, X / U = f ∧ X % U = s ∧ X = f * U + s ∧ 0 ≤ s ∧ s < U ∧ (X < 0 ↔ f < 0) := by
  have h1 := Int.emod_nonneg X (show U ≠ 0 by omega)
  have h2 := Int.emod_lt_of_pos X hU
  have h3 := Int.mul_ediv_add_emod X U
  refine ⟨_, _, rfl, rfl, by rw [Int.mul_comm]; omega, h1, h2, ?_⟩
  generalize X / U = f at *
  have h3' : X = f * U + X % U := by rw [Int.mul_comm]; omega
  constructor
  · intro hx
    rcases Int.lt_or_le f 0 with h | h
    · exact h
    · have := Int.mul_nonneg h (show (0 : Int) ≤ U by omega)
      omega
  · intro hx
    have := Int.mul_le_mul_of_nonneg_right (show f ≤ -1 by omega) (show (0 : Int) ≤ U by omega)
    omega
theorem cell_uniq {U f s : Int} (hU : 0 < U) (h1 : 0 ≤ s) (h2 : s < U) : (f * U + s) / U = f ∧ (f * U + s) % U = s := by
  constructor
  · rw [Int.add_comm, Int.add_mul_ediv_right _ _ (by omega), Int.ediv_eq_zero_of_lt h1 h2]; omega
  · rw [Int.add_comm, Int.add_mul_emod_self_right, Int.emod_eq_of_lt h1 h2]

/-- What the program reckons is that. -/
theorem rz_eq (m : Int) (U : Nat) (X : Int) (hU : 0 < U) (h0 : 0 ≤ m) (h6 : m ≤ 6) :
    rz m U X = if X.natAbs % U = 0 then X else sg (decide (X < 0)) (cnt m (decide (X < 0)) U X.natAbs * U) := by
  obtain ⟨f, s, hf', hs, hX, s0, sU, hn⟩ := cell U X (by omega)
  have hz : X % (U : Int) = 0 ↔ X.natAbs % U = 0 := by
    rw [← Int.dvd_iff_emod_eq_zero, ← Nat.dvd_iff_mod_eq_zero, ← Int.natCast_dvd_natCast, Int.dvd_natAbs]
  unfold rz
  by_cases h : X % (U : Int) = 0
  · rw [if_pos h, if_pos (hz.1 h)]
  · rw [if_neg h, if_neg (fun e => h (hz.2 e)), hf', hs]
    have s1 : 0 < s := by omega
    by_cases hneg : X < 0
    · -- below nought
      have fn : f < 0 := hn.1 hneg
      obtain ⟨q, hq⟩ : ∃ q : Nat, (q : Int) = -f - 1 := ⟨(-f - 1).toNat, by omega⟩
      obtain ⟨r, hr⟩ : ∃ r : Nat, (r : Int) = U - s := ⟨(U - s).toNat, by omega⟩
      have hN : X.natAbs = q * U + r := by
        have e1 : ((q * U : Nat) : Int) = (-f - 1) * U := by rw [Int.natCast_mul, hq]
        have e2 : (-f - 1) * (U : Int) = -(f * U) - U := by rw [Int.sub_mul, Int.neg_mul, Int.one_mul]
        omega
      have hrU : r < U := by omega
      have hq' : X.natAbs / U = q := by rw [hN, Nat.add_comm, Nat.add_mul_div_right _ _ hU, Nat.div_eq_of_lt hrU]; omega
      have hr' : X.natAbs % U = r := by rw [hN, Nat.add_comm, Nat.add_mul_mod_self_right, Nat.mod_eq_of_lt hrU]
      unfold cnt hf
      rw [hq', hr', show decide (X < 0) = true by simpa using hneg]
      have key : (f + if up m f (Lib.compareInt (2 * s) U) then 1 else 0) = -((q + if away m true (Lib.compareInt ((r * 2 : Nat) : Int) U) (q % 2 == 1) then 1 else 0 : Nat) : Int) := by
        have hc : Lib.compareInt ((r * 2 : Nat) : Int) U = -Lib.compareInt (2 * s) U := by
          rcases ci_cases (2 * s) U with ⟨h1, h2⟩ | ⟨h1, h2⟩ | ⟨h1, h2⟩
          · rw [h2, ci_gt (by omega)]; rfl
          · rw [h2, ci_eq (by omega)]; rfl
          · rw [h2, ci_lt (by omega)]
        rw [hc]
        have hu : up m f (Lib.compareInt (2 * s) U) = !away m true (-Lib.compareInt (2 * s) U) (q % 2 == 1) := by
          have hm : m = 0 ∨ m = 1 ∨ m = 2 ∨ m = 3 ∨ m = 4 ∨ m = 5 ∨ m = 6 := by omega
          have hp : (q % 2 == 1) = !decide (f % 2 = 1) := by
            by_cases hpq : q % 2 = 1
            · have : ¬ f % 2 = 1 := by omega
              simp [hpq, this]
            · have : f % 2 = 1 := by omega
              simp [hpq, this]
          rw [hp]
          have hf0 : ¬ 0 ≤ f := by omega
          rcases ci_cases (2 * s) U with ⟨h1, h2⟩ | ⟨h1, h2⟩ | ⟨h1, h2⟩ <;> rcases hm with rfl | rfl | rfl | rfl | rfl | rfl | rfl <;> rw [h2] <;> simp [up, away, fn, hf0]
        rw [hu]
        cases away m true (-Lib.compareInt (2 * s) U) (q % 2 == 1) <;> simp <;> omega
      rw [key]
      unfold sg
      rw [if_pos rfl, Int.neg_mul, ← Int.natCast_mul]
    · have fn : 0 ≤ f := by rcases Int.lt_or_le f 0 with h' | h'; exact absurd (hn.2 h') hneg; exact h'
      obtain ⟨q, rfl⟩ : ∃ q : Nat, f = (q : Int) := ⟨f.toNat, by omega⟩
      obtain ⟨r, rfl⟩ : ∃ r : Nat, s = (r : Int) := ⟨s.toNat, by omega⟩
      have hN : X.natAbs = q * U + r := by
        have e1 : ((q * U : Nat) : Int) = (q : Int) * U := Int.natCast_mul _ _
        omega
      have hrU : r < U := by omega
      have hq' : X.natAbs / U = q := by rw [hN, Nat.add_comm, Nat.add_mul_div_right _ _ hU, Nat.div_eq_of_lt hrU]; omega
      have hr' : X.natAbs % U = r := by rw [hN, Nat.add_comm, Nat.add_mul_mod_self_right, Nat.mod_eq_of_lt hrU]
      unfold cnt hf
      rw [hq', hr', show decide (X < 0) = false by simpa using hneg]
      have key : ((q : Int) + if up m q (Lib.compareInt (2 * (r : Int)) U) then 1 else 0) = ((q + if away m false (Lib.compareInt ((r * 2 : Nat) : Int) U) (q % 2 == 1) then 1 else 0 : Nat) : Int) := by
        have hc : ((r * 2 : Nat) : Int) = 2 * (r : Int) := by omega
        rw [hc]
        have hu : up m q (Lib.compareInt (2 * (r : Int)) U) = away m false (Lib.compareInt (2 * (r : Int)) U) (q % 2 == 1) := by
          have hm : m = 0 ∨ m = 1 ∨ m = 2 ∨ m = 3 ∨ m = 4 ∨ m = 5 ∨ m = 6 := by omega
          have hp : (q % 2 == 1) = decide ((q : Int) % 2 = 1) := by
            by_cases hpq : q % 2 = 1
            · have : (q : Int) % 2 = 1 := by omega
              simp [hpq, this]
            · have : ¬ (q : Int) % 2 = 1 := by omega
              simp [hpq, this]
          rw [hp]
          have hf0 : ¬ (q : Int) < 0 := by omega
          have hf1 : (0 : Int) ≤ q := by omega
          rcases ci_cases (2 * (r : Int)) U with ⟨h1, h2⟩ | ⟨h1, h2⟩ | ⟨h1, h2⟩ <;> rcases hm with rfl | rfl | rfl | rfl | rfl | rfl | rfl <;> rw [h2] <;> simp [up, away, hf0, hf1]
        rw [hu]
        cases away m false (Lib.compareInt (2 * (r : Int)) U) (q % 2 == 1) <;> simp
      rw [key, ← Int.natCast_mul]
      rfl

/-- What a decimal is rounded to, as it is reckoned. -/
def nN (x : Tri) (p : Int) : Nat := val x.l * 10 ^ (x.e - p).toNat
def uU (x : Tri) (F : Nat) (p : Int) : Nat := F * 10 ^ (p - x.e).toNat
def mulT (x : Tri) (F : Nat) (p m : Int) : Tri :=
  if 0 ≤ m ∧ m ≤ 6 then (if nN x p % uU x F p = 0 then x else made x.neg (dig (cnt m x.neg (uU x F p) (nN x p) * F)) p) else x

theorem nf_natAbs {k : Nat} {X : Int} (hf : Fit k X) : X.natAbs = val (nf k X).l * 10 ^ ((nf k X).e + k).toNat := by
  have := congrArg Int.natAbs (nf_dv hf).num
  rw [sg_natAbs] at this; exact this.symm
theorem mulT_nf {k : Nat} {X : Int} (hX : Fit k X) (F : Nat) (hF : 0 < F) (p m : Int) (hp : -(k : Int) ≤ p) (h0 : 0 ≤ m) (h6 : m ≤ 6) (U : Nat) (hU : U = F * 10 ^ (p + k).toNat) (hR : Fit k (rz m U X)) :
    mulT (nf k X) F p m = nf k (rz m U X) := by
  have hd := nf_dv hX
  have hneg := nf_neg hX
  have hN := nf_natAbs hX
  have hU0 : 0 < U := by rw [hU]; exact Nat.mul_pos hF (pow_pos' _)
  have hre := rz_eq m U X hU0 h0 h6
  have hlo := hd.lo
  generalize hD : nf k X = d at *
  obtain ⟨j, hj⟩ : ∃ j : Nat, (j : Int) = min d.e p + k := ⟨(min d.e p + k).toNat, by omega⟩
  have e1 : X.natAbs = nN d p * 10 ^ j := by
    rw [hN]; unfold nN
    rw [Nat.mul_assoc, ← Nat.pow_add, show (d.e - p).toNat + j = (d.e + k).toNat by omega]
  have e2 : U = uU d F p * 10 ^ j := by
    rw [hU]; unfold uU
    rw [Nat.mul_assoc, ← Nat.pow_add, show (p - d.e).toNat + j = (p + k).toNat by omega]
  have hjp := pow_pos' j
  have hz : X.natAbs % U = 0 ↔ nN d p % uU d F p = 0 := by
    rw [e1, e2, Nat.mul_mod_mul_right]
    constructor
    · intro h; rcases Nat.mul_eq_zero.1 h with h | h
      · exact h
      · omega
    · intro h; rw [h, Nat.zero_mul]
  have hc : cnt m (decide (X < 0)) U X.natAbs = cnt m (decide (X < 0)) (uU d F p) (nN d p) := by rw [e1, e2, cnt_scale _ _ _ _ _ hjp]
  unfold mulT
  rw [if_pos ⟨h0, h6⟩]
  by_cases hzz : nN d p % uU d F p = 0
  · rw [if_pos hzz]
    rw [if_pos (hz.2 hzz)] at hre
    rw [hre]; exact hD.symm
  · rw [if_neg hzz]
    rw [if_neg (fun e => hzz (hz.1 e)), hc] at hre
    have hdv : Dv k (rz m U X) ⟨d.neg, dig (cnt m d.neg (uU d F p) (nN d p) * F), p⟩ := ⟨isDig_dig _, hp, by
      simp only
      rw [val_dig, Nat.mul_assoc, ← hU, hneg, ← hre]⟩
    exact hdv.made hR
end Florin
