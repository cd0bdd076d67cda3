/- Plain facts on rounded whole numbers: how far off, which side, the order, signs, twice. No program here. -/
import Derived.Test.YtjobccgpejbchaaDoorRPlain
namespace Florin
open Go
set_option linter.unusedSimpArgs false

/-- A number and what it is rounded to: in its cell. -/
theorem rz_cell (m U X : Int) (hU : 0 < U) : ∃ f s : Int, X = f * U + s ∧ 0 ≤ s ∧ s < U ∧ (X < 0 ↔ f < 0) ∧
    (s = 0 ∧ rz m U X = X ∨ 0 < s ∧ up m f (Lib.compareInt (2 * s) U) = true ∧ rz m U X = f * U + U ∨ 0 < s ∧ up m f (Lib.compareInt (2 * s) U) = false ∧ rz m U X = f * U) := by
  obtain ⟨f, s, hf', hs, hX, s0, sU, hn⟩ := cell U X hU
  refine ⟨f, s, hX, s0, sU, hn, ?_⟩
  unfold rz
  rw [hf', hs]
  by_cases h : s = 0
  · left; rw [if_pos h]; exact ⟨h, rfl⟩
  · right; rw [if_neg h]
    cases hu : up m f (Lib.compareInt (2 * s) U)
    · right; exact ⟨by omega, rfl, by simp⟩
    · left; exact ⟨by omega, rfl, by simp [Int.add_mul]⟩
theorem emod_cell {U f s : Int} (hU : 0 < U) (h1 : 0 ≤ s) (h2 : s < U) : (f * U + s) % U = s := (cell_uniq hU h1 h2).2
theorem rz_dvd (m U X : Int) (hU : 0 < U) : rz m U X % U = 0 := by
  obtain ⟨f, s, hX, s0, sU, hn, h⟩ := rz_cell m U X hU
  rcases h with ⟨h1, h2⟩ | ⟨h1, h2, h3⟩ | ⟨h1, h2, h3⟩
  · rw [h2, hX, emod_cell hU s0 sU]; exact h1
  · rw [h3, Int.add_emod_right, Int.mul_emod_left]
  · rw [h3, Int.mul_emod_left]
theorem rz_self {m U X : Int} (h : X % U = 0) : rz m U X = X := by unfold rz; rw [if_pos h]
theorem rz_again (m U X : Int) (hU : 0 < U) : rz m U (rz m U X) = rz m U X := rz_self (rz_dvd m U X hU)
theorem rz_near (m U X : Int) (hU : 0 < U) : -U < X - rz m U X ∧ X - rz m U X < U := by
  obtain ⟨f, s, hX, s0, sU, hn, h⟩ := rz_cell m U X hU
  rcases h with ⟨h1, h2⟩ | ⟨h1, h2, h3⟩ | ⟨h1, h2, h3⟩
  · rw [h2]; omega
  · rw [h3]; generalize f * U = A at *; omega
  · rw [h3]; generalize f * U = A at *; omega
theorem rz_half (m U X : Int) (hU : 0 < U) (h0 : 0 ≤ m) (h2 : m ≤ 2) : -U ≤ 2 * (X - rz m U X) ∧ 2 * (X - rz m U X) ≤ U := by
  obtain ⟨f, s, hX, s0, sU, hn, h⟩ := rz_cell m U X hU
  have hm3 : ¬ m = 3 := by omega
  have hm4 : ¬ m = 4 := by omega
  have hm5 : ¬ m = 5 := by omega
  have hm6 : ¬ m = 6 := by omega
  rcases h with ⟨h1, h2⟩ | ⟨h1, h2, h3⟩ | ⟨h1, h2, h3⟩
  · rw [h2]; omega
  · rw [h3]
    unfold up at h2
    rw [if_neg hm5, if_neg hm6, if_neg hm3, if_neg hm4] at h2
    generalize f * U = A at *
    rcases ci_cases (2 * s) U with ⟨c1, c2⟩ | ⟨c1, c2⟩ | ⟨c1, c2⟩
    · rw [c2] at h2; simp at h2
    · omega
    · omega
  · rw [h3]
    unfold up at h2
    rw [if_neg hm5, if_neg hm6, if_neg hm3, if_neg hm4] at h2
    generalize f * U = A at *
    rcases ci_cases (2 * s) U with ⟨c1, c2⟩ | ⟨c1, c2⟩ | ⟨c1, c2⟩
    · omega
    · omega
    · rw [c2] at h2; simp at h2
theorem rz_floor (U X : Int) (hU : 0 < U) : rz 6 U X = X / U * U := by
  obtain ⟨f, s, hX, s0, sU, hn, h⟩ := rz_cell 6 U X hU
  have hd : X / U = f := by rw [hX]; exact (cell_uniq hU s0 sU).1
  rw [hd]
  rcases h with ⟨h1, h2⟩ | ⟨h1, h2, h3⟩ | ⟨h1, h2, h3⟩
  · rw [h2]; omega
  · simp [up] at h2
  · exact h3
theorem rz_ceil (U X : Int) (hU : 0 < U) : rz 5 U X = -(-X / U * U) := by
  obtain ⟨f, s, hX, s0, sU, hn, h⟩ := rz_cell 5 U X hU
  by_cases hs : s = 0
  · have hd : -X / U = -f := by
      have : -X = -f * U + 0 := by rw [Int.neg_mul]; omega
      rw [this]; exact (cell_uniq hU (by omega) hU).1
    rw [hd, rz_self (by rw [hX, emod_cell hU s0 sU]; exact hs), Int.neg_mul]; omega
  · have hd : -X / U = -f - 1 := by
      have : -X = (-f - 1) * U + (U - s) := by rw [Int.sub_mul, Int.neg_mul, Int.one_mul]; omega
      rw [this]; exact (cell_uniq hU (by omega) (by omega)).1
    rw [hd]
    rcases h with ⟨h1, h2⟩ | ⟨h1, h2, h3⟩ | ⟨h1, h2, h3⟩
    · omega
    · rw [h3, Int.sub_mul, Int.neg_mul, Int.one_mul]; omega
    · simp [up] at h2
theorem rz_lo_hi (m U X : Int) (hU : 0 < U) : rz 6 U X ≤ X ∧ X ≤ rz 5 U X ∧ (rz m U X = rz 6 U X ∨ rz m U X = rz 5 U X) := by
  obtain ⟨f, s, hX, s0, sU, hn, h⟩ := rz_cell m U X hU
  by_cases hs : s = 0
  · have hz : X % U = 0 := by rw [hX, emod_cell hU s0 sU]; exact hs
    rw [rz_self hz, rz_self hz, rz_self hz]; omega
  · have e5 : rz 5 U X = f * U + U := by
      unfold rz; rw [hX, (cell_uniq hU s0 sU).1, (cell_uniq hU s0 sU).2, if_neg hs]; simp [up, Int.add_mul]
    have e6 : rz 6 U X = f * U := by
      unfold rz; rw [hX, (cell_uniq hU s0 sU).1, (cell_uniq hU s0 sU).2, if_neg hs]; simp [up]
    rw [e5, e6]
    generalize f * U = A at *
    refine ⟨by omega, by omega, ?_⟩
    rcases h with ⟨h1, h2⟩ | ⟨h1, h2, h3⟩ | ⟨h1, h2, h3⟩ <;> omega
theorem up_mono {m f a b U : Int} (h : a ≤ b) (hu : up m f (Lib.compareInt (2 * a) U) = true) : up m f (Lib.compareInt (2 * b) U) = true := by
  unfold up at *
  split
  · rfl
  · rename_i h5
    rw [if_neg h5] at hu
    split
    · rename_i h6; rw [if_pos h6] at hu; exact hu
    · rename_i h6
      rw [if_neg h6] at hu
      split
      · rename_i h3; rw [if_pos h3] at hu; exact hu
      · rename_i h3
        rw [if_neg h3] at hu
        split
        · rename_i h4; rw [if_pos h4] at hu; exact hu
        · rename_i h4
          rw [if_neg h4] at hu
          rcases ci_cases (2 * a) U with ⟨c1, c2⟩ | ⟨c1, c2⟩ | ⟨c1, c2⟩ <;> rcases ci_cases (2 * b) U with ⟨d1, d2⟩ | ⟨d1, d2⟩ | ⟨d1, d2⟩ <;> rw [c2] at hu <;> rw [d2] <;> first | exact hu | omega | simp_all
theorem rz_mono (m U : Int) {X Y : Int} (hU : 0 < U) (h : X ≤ Y) : rz m U X ≤ rz m U Y := by
  obtain ⟨f, s, hX, s0, sU, hn, hx⟩ := rz_cell m U X hU
  obtain ⟨g, t, hY, t0, tU, hn', hy⟩ := rz_cell m U Y hU
  by_cases hfg : f = g
  · subst hfg
    have hst : s ≤ t := by omega
    generalize f * U = A at *
    rcases hx with ⟨h1, h2⟩ | ⟨h1, h2, h3⟩ | ⟨h1, h2, h3⟩
    · rcases hy with ⟨k1, k2⟩ | ⟨k1, k2, k3⟩ | ⟨k1, k2, k3⟩ <;> omega
    · have hu := up_mono hst h2
      rcases hy with ⟨k1, k2⟩ | ⟨k1, k2, k3⟩ | ⟨k1, k2, k3⟩
      · omega
      · omega
      · rw [hu] at k2; cases k2
    · rcases hy with ⟨k1, k2⟩ | ⟨k1, k2, k3⟩ | ⟨k1, k2, k3⟩ <;> omega
  · have hlt : f < g := by
      rcases Int.lt_trichotomy f g with h' | h' | h'
      · exact h'
      · exact absurd h' hfg
      · have := Int.mul_le_mul_of_nonneg_right (show g + 1 ≤ f by omega) (show (0 : Int) ≤ U by omega)
        rw [Int.add_mul] at this; omega
    have hm := Int.mul_le_mul_of_nonneg_right (show f + 1 ≤ g by omega) (show (0 : Int) ≤ U by omega)
    rw [Int.add_mul, Int.one_mul] at hm
    generalize f * U = A at *
    generalize g * U = B at *
    rcases hx with ⟨h1, h2⟩ | ⟨h1, h2, h3⟩ | ⟨h1, h2, h3⟩ <;> rcases hy with ⟨k1, k2⟩ | ⟨k1, k2, k3⟩ | ⟨k1, k2, k3⟩ <;> omega
theorem rz_zero (m U : Int) : rz m U 0 = 0 := rz_self (by simp)
theorem rz_nonneg (m U : Int) {X : Int} (hU : 0 < U) (h : 0 ≤ X) : 0 ≤ rz m U X := by
  have := rz_mono m U hU h; rw [rz_zero] at this; exact this
theorem rz_nonpos (m U : Int) {X : Int} (hU : 0 < U) (h : X ≤ 0) : rz m U X ≤ 0 := by
  have := rz_mono m U hU h; rw [rz_zero] at this; exact this
/-- The mode that does below nought what a mode does above it. -/
def turn (m : Int) : Int := if m = 5 then 6 else if m = 6 then 5 else m
theorem rz_neg (m U X : Int) (hU : 0 < U) (h0 : 0 ≤ m) (h6 : m ≤ 6) : rz (turn m) U (-X) = -rz m U X := by
  obtain ⟨f, s, hX, s0, sU, hn, h⟩ := rz_cell m U X hU
  by_cases hs : s = 0
  · have e1 : -X % U = 0 := by
      have : -X = -f * U + 0 := by rw [Int.neg_mul]; omega
      rw [this, emod_cell hU (by omega) hU]
    rw [rz_self e1, rz_self (by rw [hX, emod_cell hU s0 sU]; exact hs)]
  · have e0 : -X = (-f - 1) * U + (U - s) := by rw [Int.sub_mul, Int.neg_mul, Int.one_mul]; omega
    have hu : up (turn m) (-f - 1) (Lib.compareInt (2 * (U - s)) U) = !up m f (Lib.compareInt (2 * s) U) := by
      have hc : Lib.compareInt (2 * (U - s)) U = -Lib.compareInt (2 * s) U := by
        rcases ci_cases (2 * s) U with ⟨h1, h2⟩ | ⟨h1, h2⟩ | ⟨h1, h2⟩
        · rw [h2, ci_gt (by omega)]; rfl
        · rw [h2, ci_eq (by omega)]; rfl
        · rw [h2, ci_lt (by omega)]
      rw [hc]
      have hm : m = 0 ∨ m = 1 ∨ m = 2 ∨ m = 3 ∨ m = 4 ∨ m = 5 ∨ m = 6 := by omega
      have p1 : ((-f - 1) % 2 = 1) ↔ ¬ (f % 2 = 1) := by omega
      by_cases hf : f < 0
      · have q1 : ¬ 0 ≤ f := by omega
        have q2 : 0 ≤ -f - 1 := by omega
        have q3 : ¬ -f - 1 < 0 := by omega
        rcases ci_cases (2 * s) U with ⟨h1, h2⟩ | ⟨h1, h2⟩ | ⟨h1, h2⟩ <;> rcases hm with rfl | rfl | rfl | rfl | rfl | rfl | rfl <;> rw [h2] <;> simp [up, turn, p1, q1, q2, q3, hf] <;> omega
      · have q1 : 0 ≤ f := by omega
        have q2 : ¬ 0 ≤ -f - 1 := by omega
        have q3 : -f - 1 < 0 := by omega
        rcases ci_cases (2 * s) U with ⟨h1, h2⟩ | ⟨h1, h2⟩ | ⟨h1, h2⟩ <;> rcases hm with rfl | rfl | rfl | rfl | rfl | rfl | rfl <;> rw [h2] <;> simp [up, turn, p1, q1, q2, q3, hf] <;> omega
    have e1 : rz (turn m) U (-X) = (-f - 1 + if !up m f (Lib.compareInt (2 * s) U) then 1 else 0) * U := by
      unfold rz
      rw [e0, (cell_uniq hU (show 0 ≤ U - s by omega) (by omega)).1, (cell_uniq hU (show 0 ≤ U - s by omega) (by omega)).2, if_neg (by omega), hu]
    rw [e1]
    rcases h with ⟨h1, h2⟩ | ⟨h1, h2, h3⟩ | ⟨h1, h2, h3⟩
    · exact absurd h1 hs
    · rw [h3, h2]; simp [Int.sub_mul, Int.neg_mul]; omega
    · rw [h3, h2]; simp [Int.neg_mul]
/-- The modes that go one way are the one below or the one above. -/
theorem rz_way (m U X : Int) (hU : 0 < U) (h3 : 3 ≤ m) (h6 : m ≤ 6) : (m = 5 ∨ m = 3 ∧ 0 ≤ X ∨ m = 4 ∧ X ≤ 0) ∧ rz m U X = rz 5 U X ∨ (m = 6 ∨ m = 3 ∧ X ≤ 0 ∨ m = 4 ∧ 0 ≤ X) ∧ rz m U X = rz 6 U X := by
  obtain ⟨f, s, hX, s0, sU, hn, h⟩ := rz_cell m U X hU
  by_cases hs : s = 0
  · have hz : X % U = 0 := by rw [hX, emod_cell hU s0 sU]; exact hs
    rw [rz_self hz, rz_self hz, rz_self hz]; omega
  · have key : ∀ m, up m f (Lib.compareInt (2 * s) U) = true → rz m U X = f * U + U := by
      intro m hm; unfold rz; rw [hX, (cell_uniq hU s0 sU).1, (cell_uniq hU s0 sU).2, if_neg hs, hm]; simp [Int.add_mul]
    have key2 : ∀ m, up m f (Lib.compareInt (2 * s) U) = false → rz m U X = f * U := by
      intro m hm; unfold rz; rw [hX, (cell_uniq hU s0 sU).1, (cell_uniq hU s0 sU).2, if_neg hs, hm]; simp
    have k5 := key 5 (by simp [up])
    have k6 := key2 6 (by simp [up])
    have hm : m = 3 ∨ m = 4 ∨ m = 5 ∨ m = 6 := by omega
    rcases hm with rfl | rfl | rfl | rfl
    · by_cases hx : X < 0
      · right; exact ⟨.inr (.inl ⟨rfl, by omega⟩), by rw [k6]; exact key2 3 (by simp [up]; exact hn.1 hx)⟩
      · left; exact ⟨.inr (.inl ⟨rfl, by omega⟩), by rw [k5]; exact key 3 (by simp [up]; rcases Int.lt_or_le f 0 with h' | h'; exact absurd (hn.2 h') hx; exact h')⟩
    · by_cases hx : X < 0
      · left; exact ⟨.inr (.inr ⟨rfl, by omega⟩), by rw [k5]; exact key 4 (by simp [up]; exact hn.1 hx)⟩
      · right; exact ⟨.inr (.inr ⟨rfl, by omega⟩), by rw [k6]; exact key2 4 (by simp [up]; rcases Int.lt_or_le f 0 with h' | h'; exact absurd (hn.2 h') hx; exact h')⟩
    · left; exact ⟨.inl rfl, rfl⟩
    · right; exact ⟨.inl rfl, rfl⟩
theorem floor_twice (U c X : Int) (hU : 0 < U) (hc : 0 < c) : rz 6 (U * c) (rz 6 U X) = rz 6 (U * c) X := by
  have hUc : 0 < U * c := Int.mul_pos hU hc
  rw [rz_floor _ _ hUc, rz_floor _ _ hUc, rz_floor _ _ hU]
  congr 1
  rw [← Int.ediv_ediv_of_nonneg (y := U) (z := c) (by omega), ← Int.ediv_ediv_of_nonneg (y := U) (z := c) (by omega), Int.mul_ediv_cancel _ (by omega)]
theorem ceil_twice (U c X : Int) (hU : 0 < U) (hc : 0 < c) : rz 5 (U * c) (rz 5 U X) = rz 5 (U * c) X := by
  have hUc : 0 < U * c := Int.mul_pos hU hc
  have h1 : ∀ V Y : Int, 0 < V → rz 5 V Y = -rz 6 V (-Y) := by intro V Y hV; rw [rz_ceil _ _ hV, rz_floor _ _ hV]
  rw [h1 _ _ hUc, h1 _ _ hUc, h1 _ _ hU, Int.neg_neg, floor_twice U c (-X) hU hc]
theorem rz_twice (m U c X : Int) (hU : 0 < U) (hc : 0 < c) (h3 : 3 ≤ m) (h6 : m ≤ 6) : rz m (U * c) (rz m U X) = rz m (U * c) X := by
  have hUc : 0 < U * c := Int.mul_pos hU hc
  have n1 := rz_nonneg m U (X := X) hU
  have n2 := rz_nonpos m U (X := X) hU
  have a := rz_way m U X hU h3 h6
  have b := rz_way m (U * c) X hUc h3 h6
  have d := rz_way m (U * c) (rz m U X) hUc h3 h6
  by_cases hz : rz m U X = 0
  · -- what is rounded to nought
    rw [hz, rz_zero]
    rcases a with ⟨a1, a2⟩ | ⟨a1, a2⟩
    · have : rz 5 (U * c) X = 0 := by rw [← ceil_twice U c X hU hc, ← a2, hz, rz_zero]
      rcases b with ⟨b1, b2⟩ | ⟨b1, b2⟩
      · rw [b2, this]
      · have hX0 : X = 0 ∨ ¬ X = 0 := by omega
        rcases hX0 with h | h
        · rw [h, rz_zero]
        · omega
    · have : rz 6 (U * c) X = 0 := by rw [← floor_twice U c X hU hc, ← a2, hz, rz_zero]
      rcases b with ⟨b1, b2⟩ | ⟨b1, b2⟩
      · have hX0 : X = 0 ∨ ¬ X = 0 := by omega
        rcases hX0 with h | h
        · rw [h, rz_zero]
        · omega
      · rw [b2, this]
  · rcases a with ⟨a1, a2⟩ | ⟨a1, a2⟩
    · have hd : rz m (U * c) (rz m U X) = rz 5 (U * c) (rz m U X) := by
        rcases d with ⟨d1, d2⟩ | ⟨d1, d2⟩
        · exact d2
        · exfalso; omega
      have hb : rz m (U * c) X = rz 5 (U * c) X := by
        rcases b with ⟨b1, b2⟩ | ⟨b1, b2⟩
        · exact b2
        · exfalso
          have : X = 0 := by omega
          rw [this, rz_zero] at hz; exact hz rfl
      rw [hd, hb, a2, ceil_twice U c X hU hc]
    · have hd : rz m (U * c) (rz m U X) = rz 6 (U * c) (rz m U X) := by
        rcases d with ⟨d1, d2⟩ | ⟨d1, d2⟩
        · exfalso; omega
        · exact d2
      have hb : rz m (U * c) X = rz 6 (U * c) X := by
        rcases b with ⟨b1, b2⟩ | ⟨b1, b2⟩
        · exfalso
          have : X = 0 := by omega
          rw [this, rz_zero] at hz; exact hz rfl
        · exact b2
      rw [hd, hb, a2, floor_twice U c X hU hc]
/-- How great. -/
theorem rz_abs (m U X : Int) (hU : 0 < U) : (rz m U X).natAbs < X.natAbs + U.natAbs := by
  have := rz_near m U X hU; omega
end Florin
