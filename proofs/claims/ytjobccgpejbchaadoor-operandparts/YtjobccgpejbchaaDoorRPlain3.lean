/- Plain facts on rounded decimals: which side, how near, a multiple by its digits. No program here. -/
import Derived.Test.YtjobccgpejbchaaDoorRPlain2
namespace Florin
open Go

/-- What the page says of a number that is no multiple, and what it is rounded to. -/
structure Rd (m U X R : Int) : Prop where
  up3 : m = 3 → X.natAbs < R.natAbs
  dn4 : m = 4 → R.natAbs ≤ X.natAbs
  up5 : m = 5 → X - R < 0
  dn6 : m = 6 → 0 ≤ X - R
  h1 : m = 1 → 2 * ((X - R).natAbs : Int) < U ∨ 2 * ((X - R).natAbs : Int) = U ∧ X.natAbs < R.natAbs
  h2 : m = 2 → 2 * ((X - R).natAbs : Int) < U ∨ 2 * ((X - R).natAbs : Int) = U ∧ R.natAbs ≤ X.natAbs
  h0 : m = 0 → 2 * ((X - R).natAbs : Int) < U ∨ 2 * ((X - R).natAbs : Int) = U ∧ ∃ g : Int, R = 2 * (g * U)
theorem rz_rd (m U X : Int) (hU : 0 < U) (hz : X % U ≠ 0) : Rd m U X (rz m U X) := by
  obtain ⟨f, s, hX, s0, sU, hn, h⟩ := rz_cell m U X hU
  have hs : s ≠ 0 := by rw [hX, emod_cell hU s0 sU] at hz; exact hz
  have fp : 0 ≤ f → 0 ≤ f * U := fun h => Int.mul_nonneg h (by omega)
  have fm : f < 0 → f * U ≤ -U := fun h => by
    have := Int.mul_le_mul_of_nonneg_right (show f ≤ -1 by omega) (show (0 : Int) ≤ U by omega)
    omega
  have half : ∀ m : Int, m ≠ 5 → m ≠ 6 → m ≠ 3 → m ≠ 4 → up m f (Lib.compareInt (2 * s) U) = if Lib.compareInt (2 * s) U = 0 then (if m = 1 then decide (0 ≤ f) else if m = 2 then decide (f < 0) else decide (f % 2 = 1)) else decide (0 < Lib.compareInt (2 * s) U) := by
    intro m a b c d; unfold up; rw [if_neg a, if_neg b, if_neg c, if_neg d]
  have two : f * U = 2 * (f / 2 * U) + (f % 2) * U := by
    have h3 : f = 2 * (f / 2) + f % 2 := by omega
    have h4 : f * U = (2 * (f / 2) + f % 2) * U := by rw [← h3]
    rw [h4, Int.add_mul, Int.mul_assoc]
  have e5 : f % 2 = 1 → f * U + U = 2 * ((f / 2 + 1) * U) := by
    intro h1; rw [two, h1, Int.add_mul (f / 2), Int.one_mul]; omega
  have e6 : f % 2 = 0 → f * U = 2 * (f / 2 * U) := by
    intro h1; rw [two, h1, Int.zero_mul]; omega
  rcases h with ⟨h1, h2⟩ | ⟨h1, h2, h3⟩ | ⟨h1, h2, h3⟩
  · exact absurd h1 hs
  · rw [h3]
    have e7 := e5
    generalize f * U = A at *
    refine ⟨?_, ?_, ?_, ?_, ?_, ?_, ?_⟩
    · rintro rfl; simp [up] at h2; have := fp h2; omega
    · rintro rfl; simp [up] at h2; have := fm h2; omega
    · rintro rfl; omega
    · rintro rfl; simp [up] at h2
    · rintro rfl
      rw [half 1 (by decide) (by decide) (by decide) (by decide)] at h2
      rcases ci_cases (2 * s) U with ⟨c1, c2⟩ | ⟨c1, c2⟩ | ⟨c1, c2⟩ <;> rw [c2] at h2 <;> simp at h2
      · have := fp h2; omega
      · omega
    · rintro rfl
      rw [half 2 (by decide) (by decide) (by decide) (by decide)] at h2
      rcases ci_cases (2 * s) U with ⟨c1, c2⟩ | ⟨c1, c2⟩ | ⟨c1, c2⟩ <;> rw [c2] at h2 <;> simp at h2
      · have := fm h2; omega
      · omega
    · rintro rfl
      rw [half 0 (by decide) (by decide) (by decide) (by decide)] at h2
      rcases ci_cases (2 * s) U with ⟨c1, c2⟩ | ⟨c1, c2⟩ | ⟨c1, c2⟩ <;> rw [c2] at h2 <;> simp at h2
      · right; exact ⟨by omega, _, e7 h2⟩
      · omega
  · rw [h3]
    have e7 := e6
    generalize f * U = A at *
    refine ⟨?_, ?_, ?_, ?_, ?_, ?_, ?_⟩
    · rintro rfl; simp [up] at h2; have := fm h2; omega
    · rintro rfl; simp [up] at h2; have := fp h2; omega
    · rintro rfl; simp [up] at h2
    · rintro rfl; omega
    · rintro rfl
      rw [half 1 (by decide) (by decide) (by decide) (by decide)] at h2
      rcases ci_cases (2 * s) U with ⟨c1, c2⟩ | ⟨c1, c2⟩ | ⟨c1, c2⟩ <;> rw [c2] at h2 <;> simp at h2
      · omega
      · have := fm h2; omega
    · rintro rfl
      rw [half 2 (by decide) (by decide) (by decide) (by decide)] at h2
      rcases ci_cases (2 * s) U with ⟨c1, c2⟩ | ⟨c1, c2⟩ | ⟨c1, c2⟩ <;> rw [c2] at h2 <;> simp at h2
      · omega
      · have := fp h2; omega
    · rintro rfl
      rw [half 0 (by decide) (by decide) (by decide) (by decide)] at h2
      rcases ci_cases (2 * s) U with ⟨c1, c2⟩ | ⟨c1, c2⟩ | ⟨c1, c2⟩ <;> rw [c2] at h2 <;> simp at h2
      · omega
      · right; exact ⟨by omega, _, e7 (by omega)⟩

/-- The last digit of a number without noughts at the end. -/
theorem rt_val_mod {n : Nat} (h : n ≠ 0) : val (rt (dig n)) % 10 ≠ 0 := by
  obtain ⟨t, h1, h2, h3, h4, h5, h6, h7⟩ := dig_parts h
  rcases List.eq_nil_or_concat (rt (dig n)) with he | ⟨a, c, he⟩
  · exact absurd he h4
  · rw [List.concat_eq_append] at he
    have hc := h7 a c he
    rw [he, val_snoc]
    rw [he, isDig_snoc] at h5
    simp at h5
    have hd := h5.2
    rw [isD_iff] at hd
    have : c.toNat ≠ 48 := fun e => hc (UInt8.toNat_inj.1 (by simpa using e))
    unfold dv; omega
/-- A number at k places: its digits, and noughts. -/
theorem nf_split {k : Nat} {z : Int} (hf : Fit k z) (h : z ≠ 0) : val (nf k z).l % 10 ≠ 0 ∧ val (nf k z).l ≠ 0 := by
  obtain ⟨t, h1, h2, h3, h4⟩ := nf_pos hf h
  rw [h1]; simp only
  have := rt_val_mod (n := z.natAbs) (by omega)
  exact ⟨this, fun e => this (by rw [e])⟩
/-- A multiple, by its digits. -/
theorem mult_nf {k : Nat} {R U : Int} (hR : Fit k R) (hU : Fit k U) (hR0 : R ≠ 0) :
    ((nf k U).e ≤ (nf k R).e ∧ val (nf k R).l * 10 ^ ((nf k R).e - (nf k U).e).toNat % val (nf k U).l = 0) ↔ R % U = 0 := by
  have a1 := nf_natAbs hR
  have b1 := nf_natAbs hU
  obtain ⟨a2, a3⟩ := nf_split hR hR0
  have a4 := (nf_dv hR).lo
  have b4 := (nf_dv hU).lo
  have hz : R % U = 0 ↔ R.natAbs % U.natAbs = 0 := by
    rw [← Int.dvd_iff_emod_eq_zero, ← Nat.dvd_iff_mod_eq_zero, Int.natAbs_dvd_natAbs]
  rw [hz, a1, b1]
  generalize nf k R = d at *
  generalize nf k U = u at *
  generalize val d.l = D at *
  generalize val u.l = u1 at *
  by_cases h : u.e ≤ d.e
  · rw [show (d.e + k).toNat = (d.e - u.e).toNat + (u.e + k).toNat by omega, Nat.pow_add, ← Nat.mul_assoc, Nat.mul_mod_mul_right]
    constructor
    · rintro ⟨_, h2⟩; rw [h2, Nat.zero_mul]
    · intro h2
      rcases Nat.mul_eq_zero.1 h2 with h3 | h3
      · exact ⟨h, h3⟩
      · have := pow_pos' (u.e + k).toNat; omega
  · constructor
    · rintro ⟨h1, _⟩; exact absurd h1 h
    · intro h2
      exfalso
      rw [show (u.e + k).toNat = (u.e - d.e).toNat + (d.e + k).toNat by omega, Nat.pow_add, ← Nat.mul_assoc, Nat.mul_mod_mul_right] at h2
      rcases Nat.mul_eq_zero.1 h2 with h3 | h3
      · obtain ⟨i, hi⟩ : ∃ i : Nat, (u.e - d.e).toNat = i + 1 := ⟨(u.e - d.e).toNat - 1, by omega⟩
        rw [hi, Nat.pow_succ, ← Nat.mul_assoc] at h3
        obtain ⟨c, hc⟩ := Nat.dvd_of_mod_eq_zero h3
        apply a2
        rw [hc, Nat.mul_assoc, Nat.mul_comm 10, ← Nat.mul_assoc, Nat.mul_mod_left]
      · have := pow_pos' (d.e + k).toNat; omega
/-- A tenth. -/
theorem nf_tenth {k : Nat} {Z : Int} (hf : Fit k (10 * Z)) (hZ : Fit k Z) : made (nf k (10 * Z)).neg (nf k (10 * Z)).l ((nf k (10 * Z)).e - 1) = nf k Z := by
  by_cases h : Z = 0
  · subst h; rw [Int.mul_zero, nf_zero]; rfl
  · obtain ⟨t, h1, h2, h3, h4⟩ := nf_pos hf (by omega)
    have ht : t ≠ 0 := by
      rintro rfl
      have h5 := rt_val_mod (n := (10 * Z).natAbs) (by omega)
      rw [Nat.pow_zero, Nat.mul_one] at h2
      rw [← h2] at h5; omega
    rw [h1]
    have hdv : Dv k Z ⟨decide (10 * Z < 0), rt (dig (10 * Z).natAbs), (t : Int) - k - 1⟩ := by
      refine ⟨isDig_rt (isDig_dig _), by simp only; omega, ?_⟩
      simp only
      rw [show ((t : Int) - k - 1 + k).toNat = t - 1 by omega]
      have e1 : (10 * Z).natAbs = 10 * Z.natAbs := by omega
      have e2 : 10 * (val (rt (dig (10 * Z).natAbs)) * 10 ^ (t - 1)) = val (rt (dig (10 * Z).natAbs)) * 10 ^ t := by
        obtain ⟨i, rfl⟩ : ∃ i, t = i + 1 := ⟨t - 1, by omega⟩
        rw [show i + 1 - 1 = i by omega, Nat.pow_succ, Nat.mul_comm (10 ^ i) 10, ← Nat.mul_assoc, ← Nat.mul_assoc, Nat.mul_comm 10]
      have e3 : val (rt (dig (10 * Z).natAbs)) * 10 ^ (t - 1) = Z.natAbs := by rw [← h2] at e2; omega
      rw [e3]
      have e4 : decide (10 * Z < 0) = decide (Z < 0) := by simp; omega
      rw [e4, sg_self]
    exact hdv.made hZ
end Florin
