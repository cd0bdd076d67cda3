/- form tells whether a text is a decimal's. -/
import Derived.Test.YtlppofjmkepceaaDoorDecY
namespace Go.Proofs.YtlppofjmkepceaaDoor
open Go.RowKit Florin
set_option linter.unusedVariables false
set_option linter.unusedSimpArgs false

theorem len_data (s : ByteArray) : s.data.toList.length = s.size := by simp
theorem isAt_head (s : ByteArray) (i : Nat) (c : UInt8) : ((s.data.toList.drop i).head? == some c) = isAt s i c := by
  unfold isAt; rw [List.head?_drop]
theorem isAt_get (s : ByteArray) (i : Nat) (h : i < s.size) (c : UInt8) : isAt s i c = (s[i] == c) := by
  rw [← isAt_head, drop_at s i h]; simp
theorem rn_drop (s : ByteArray) (i : Nat) : rn (s.data.toList.drop i) ≤ s.size - i := by
  have := rn_le (s.data.toList.drop i)
  rw [List.length_drop, len_data] at this; exact this
theorem signed_at (s : ByteArray) (i : Nat) : signed (s.data.toList.drop i) = (isAt s i 43 || isAt s i 45) := by
  unfold signed minus plus; rw [isAt_head, isAt_head, Bool.or_comm]
theorem formE_at (s : ByteArray) (i j : Nat) (hi : i ≤ s.size) (hj : (if (isAt s (i + 1) 43 || isAt s (i + 1) 45) then i + 2 else i + 1) = j) :
    formE (s.data.toList.drop i) = if (isAt s i 101 || isAt s i 69) then (decide (rn (s.data.toList.drop j) ≠ 0) && decide (j + rn (s.data.toList.drop j) = s.size)) else decide (i = s.size) := by
  by_cases h : i < s.size
  · rw [drop_at s i h]
    have hE : isE s[i] = (isAt s i 101 || isAt s i 69) := by rw [isAt_get s i h, isAt_get s i h]; rfl
    simp only [formE, signed_at, hE]
    by_cases hx : (isAt s i 101 || isAt s i 69) = true
    · rw [hx, if_pos rfl, Bool.true_and]
      have hu : (if (isAt s (i + 1) 43 || isAt s (i + 1) 45) = true then (s.data.toList.drop (i + 1)).tail else s.data.toList.drop (i + 1)) = s.data.toList.drop j := by
        rw [← hj]
        split
        · rw [List.tail_drop]
        · rfl
      rw [hu]
      have hjl : j ≤ s.size := by
        rw [← hj]
        split
        · rename_i hg
          by_cases h1 : i + 1 < s.size
          · omega
          · rw [isAt_end s _ _ h1, isAt_end s _ _ h1] at hg; cases hg
        · omega
      congr 1
      rw [List.length_drop, len_data]
      have := rn_drop s j
      rw [Bool.eq_iff_iff]; simp; omega
    · have hx' : (isAt s i 101 || isAt s i 69) = false := by simpa using hx
      rw [hx', Bool.false_and, if_neg (by simp)]
      simp; omega
  · rw [drop_end s i (by omega), isAt_end s _ _ h, isAt_end s _ _ h]
    simp [formE]; omega
theorem form_as (s : ByteArray) (w : World) (hs : s.size ≤ 1000000) (r : Bool) (hr : okF s.data.toList = r) :
    Calls Tryd.prog 25 #[.string s] w fun y w' => y = .returned (.bool r) ∧ w = w' := by
  obtain ⟨m, hm⟩ : ∃ m, isAt s 0 45 = m := ⟨_, rfl⟩
  obtain ⟨i0, hi0⟩ : ∃ i0, (if m then 1 else 0) = i0 := ⟨_, rfl⟩
  obtain ⟨n0, hn0⟩ : ∃ n0, rn (s.data.toList.drop i0) = n0 := ⟨_, rfl⟩
  obtain ⟨d, hd⟩ : ∃ d, isAt s (i0 + n0) 46 = d := ⟨_, rfl⟩
  obtain ⟨n1, hn1⟩ : ∃ n1, rn (s.data.toList.drop (i0 + n0 + 1)) = n1 := ⟨_, rfl⟩
  obtain ⟨i2, hi2⟩ : ∃ i2, (if d then i0 + n0 + 1 + n1 else i0 + n0) = i2 := ⟨_, rfl⟩
  obtain ⟨x, hx⟩ : ∃ x, (isAt s i2 101 || isAt s i2 69) = x := ⟨_, rfl⟩
  obtain ⟨g, hg⟩ : ∃ g, (isAt s (i2 + 1) 43 || isAt s (i2 + 1) 45) = g := ⟨_, rfl⟩
  obtain ⟨j, hj⟩ : ∃ j, (if g then i2 + 2 else i2 + 1) = j := ⟨_, rfl⟩
  obtain ⟨n2, hn2⟩ : ∃ n2, rn (s.data.toList.drop j) = n2 := ⟨_, rfl⟩
  have i0le : i0 ≤ s.size := by
    rw [← hi0]
    split
    · rename_i h
      subst h
      by_cases h1 : 0 < s.size
      · omega
      · rw [isAt_end s _ _ h1] at hm; cases hm
    · omega
  have l0 : i0 + n0 ≤ s.size := by have := rn_drop s i0; omega
  have hd1 : d = true → i0 + n0 < s.size := by
    intro h; subst h
    by_cases h1 : i0 + n0 < s.size
    · exact h1
    · rw [isAt_end s _ _ h1] at hd; cases hd
  have l1 : d = true → i0 + n0 + 1 + n1 ≤ s.size := by intro h; have := hd1 h; have := rn_drop s (i0 + n0 + 1); omega
  have l2 : i2 ≤ s.size := by
    rw [← hi2]
    split
    · rename_i h; exact l1 h
    · exact l0
  have l3 : x = true → j + n2 ≤ s.size := by
    intro h; subst h
    have h1 : i2 < s.size := by
      by_cases h1 : i2 < s.size
      · exact h1
      · rw [isAt_end s _ _ h1, isAt_end s _ _ h1] at hx; cases hx
    have h2 : j ≤ s.size := by
      rw [← hj]
      split
      · rename_i h; subst h
        by_cases h3 : i2 + 1 < s.size
        · omega
        · rw [isAt_end s _ _ h3, isAt_end s _ _ h3] at hg; cases hg
      · omega
    have := rn_drop s j; omega
  refine form_walk s w hs m i0 n0 d n1 i2 x g j n2 hm hi0 i0le hn0 l0 hd (fun _ => hn1) l1 hi2 l2 hx hg hj (fun _ => hn2) l3 r ?_
  rw [← hr, ← form_eq]
  have hE := formE_at s i2 j l2 (by rw [hg]; exact hj)
  rw [hx, hn2] at hE
  rw [← hE]
  have hl : less s.data.toList = s.data.toList.drop i0 := by
    have hmm : minus s.data.toList = m := by rw [← hm, ← isAt_head]; rfl
    unfold less
    rw [hmm, ← hi0]
    cases m
    · rfl
    · simp
  unfold formP
  simp only [hl, hn0, List.drop_drop]
  congr 1
  by_cases h : i0 + n0 < s.size
  · rw [drop_at s _ h]
    have hc : (s[i0 + n0] == 46) = d := by rw [← hd, isAt_get s _ h]
    simp only [hc]
    cases d with
    | true =>
      simp only [if_true] at hi2 ⊢
      rw [hn1, List.drop_drop, hi2]
    | false =>
      simp only [Bool.false_eq_true, if_false, Bool.true_and] at hi2 ⊢
      rw [← hi2, drop_at s _ h]
  · have hdf : d = false := by rw [← hd]; exact isAt_end s _ _ h
    subst hdf
    simp only [Bool.false_eq_true, if_false, Bool.true_and] at hi2 ⊢
    rw [← hi2, drop_end s _ (by omega)]; rfl
end Go.Proofs.YtlppofjmkepceaaDoor
