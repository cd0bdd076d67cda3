/- What rules hold of a number, by its value (plain facts). -/
import Derived.Test.YtkjhdehpcanciaaGreatDoorMEv
namespace Go.Proofs.YtkjhdehpcanciaaGreatDoor
open Go.RowKit Florin
set_option linter.unusedVariables false
set_option linter.unusedSimpArgs false

theorem val_rt0 (l : List UInt8) : val l = 0 ↔ val (rt l) = 0 := by
  obtain ⟨t, h1, _⟩ := rt_back l
  have h2 : val l = val (rt l) * 10 ^ t := by rw [← val_app_zs, ← h1]
  have h3 : 10 ^ t ≠ 0 := Nat.pos_iff_ne_zero.1 (Nat.pow_pos (by decide))
  rw [h2, Nat.mul_eq_zero]
  constructor
  · intro h; rcases h with h | h
    · exact h
    · exact absurd h h3
  · intro h; exact Or.inl h
theorem bare_rt0 {l : List UInt8} (h : isDig l = true) : bare (rt l) = [] ↔ val l = 0 := by
  rw [bare_dig (isDig_rt h), dig_eq_nil]
  exact (val_rt0 l).symm
theorem val_bare {l : List UInt8} (h : isDig l = true) : val (bare l) = val l := by rw [bare_dig h, val_dig]
/-- A number: its digits ahead of the point are n, there are v behind it, z: these are noughts. -/
structure Num3 (o : Og) (n v : Nat) (z : Bool) : Prop where
  i : ∀ (m : Nat) (nt : Bool) (rs : List (Nat × Nat)), vlP ⟨105, m, nt, rs⟩ o = some (if m = 0 then n else n % m)
  v : ∀ (m : Nat) (nt : Bool) (rs : List (Nat × Nat)), vlP ⟨118, m, nt, rs⟩ o = some (if m = 0 then v else v % m)
  n : ∀ (m : Nat) (nt : Bool) (rs : List (Nat × Nat)), vlP ⟨110, m, nt, rs⟩ o = if z then some (if m = 0 then n else n % m) else none
theorem vl_some {x : RelT} {o : Og} {d : List UInt8} (h : wvP x.op o = some d) {n : Nat} (hn : val d = n) (h18 : n < 10 ^ 18) : vlP x o = some (if x.mod = 0 then n else n % x.mod) := by
  unfold vlP
  rw [h]
  simp only
  rw [hn]
  by_cases hm : x.mod = 0
  · rw [if_neg (by simpa using hm), if_pos ((dig_length_le n 18).2 h18), if_pos hm]
  · rw [if_pos hm, if_neg hm]
theorem num3_of {o : Og} (hB : OgB o) {n v : Nat} {z : Bool} (hn : val o.i = n) (n18 : n < 10 ^ 18) (hv : o.f.length = v) (hz : decide (val o.f = 0) = z) : Num3 o n v z := by
  have hb := hB.fl
  have h18 : (10 : Nat) ^ 18 = 1000000000000000000 := by decide
  refine ⟨fun m nt rs => ?_, fun m nt rs => ?_, fun m nt rs => ?_⟩
  · exact vl_some (x := ⟨105, m, nt, rs⟩) (d := bare o.i) (by unfold wvP; simp) (by rw [val_bare hB.di]; exact hn) n18
  · exact vl_some (x := ⟨118, m, nt, rs⟩) (d := dig o.f.length) (by unfold wvP; simp) (by rw [val_dig]; exact hv) (by omega)
  · by_cases h0 : val o.f = 0
    · have hz' : z = true := by rw [← hz]; simpa using h0
      rw [hz', if_pos rfl]
      exact vl_some (x := ⟨110, m, nt, rs⟩) (d := bare o.i) (by unfold wvP; simp [(bare_rt0 hB.df).2 h0]) (by rw [val_bare hB.di]; exact hn) n18
    · have hz' : z = false := by rw [← hz]; simpa using h0
      rw [hz']
      have : wvP 110 o = none := by unfold wvP; simp; intro h; exact h0 ((bare_rt0 hB.df).1 h)
      unfold vlP; rw [this]; rfl
abbrev engX : List RuleT := [⟨1, [[⟨105, 0, false, [(1, 1)]⟩, ⟨118, 0, false, [(0, 0)]⟩]], []⟩]
abbrev polX : List RuleT := [⟨1, [[⟨105, 0, false, [(1, 1)]⟩, ⟨118, 0, false, [(0, 0)]⟩]], []⟩, ⟨3, [[⟨118, 0, false, [(0, 0)]⟩, ⟨105, 10, false, [(2, 4)]⟩, ⟨105, 100, true, [(12, 14)]⟩]], []⟩, ⟨4, [[⟨118, 0, false, [(0, 0)]⟩, ⟨105, 0, true, [(1, 1)]⟩, ⟨105, 10, false, [(0, 1)]⟩], [⟨118, 0, false, [(0, 0)]⟩, ⟨105, 10, false, [(5, 9)]⟩], [⟨118, 0, false, [(0, 0)]⟩, ⟨105, 100, false, [(12, 14)]⟩]], []⟩]
abbrev araX : List RuleT := [⟨0, [[⟨110, 0, false, [(0, 0)]⟩]], []⟩, ⟨1, [[⟨110, 0, false, [(1, 1)]⟩]], []⟩, ⟨2, [[⟨110, 0, false, [(2, 2)]⟩]], []⟩, ⟨3, [[⟨110, 100, false, [(3, 10)]⟩]], []⟩, ⟨4, [[⟨110, 100, false, [(11, 99)]⟩]], []⟩]
theorem rl1 (a n : Nat) : (decide (a ≤ n) && decide (n ≤ a)) = decide (n = a) := by
  by_cases h : n = a
  · subst h; simp
  · have : ¬ (a ≤ n ∧ n ≤ a) := by omega
    simp [h]; omega
def engP (n v : Nat) : Nat := if n = 1 ∧ v = 0 then 1 else 5
theorem eng_pick {o : Og} {n v : Nat} {z : Bool} (h : Num3 o n v z) : pickP engX o = engP n v := by
  have h1 : meetsP ⟨1, [[⟨105, 0, false, [(1, 1)]⟩, ⟨118, 0, false, [(0, 0)]⟩]], []⟩ o = (decide (n = 1) && decide (v = 0)) := by
    unfold meetsP allP' holdsP inP
    simp [h.i, h.v, rl1]
  unfold engP
  by_cases hc : n = 1 ∧ v = 0
  · rw [if_pos hc]
    exact pick_at (by decide) (fun d hd => by simp; omega) (by simp [h1, hc.1, hc.2])
  · rw [if_neg hc]
    have h2 : meetsP ⟨1, [[⟨105, 0, false, [(1, 1)]⟩, ⟨118, 0, false, [(0, 0)]⟩]], []⟩ o = false := by rw [h1]; simpa using hc
    exact pick_none (fun d hd => by simp [h2])
def polP (n v : Nat) : Nat := if v = 0 then (if n = 1 then 1 else if 2 ≤ n % 10 ∧ n % 10 ≤ 4 ∧ (n % 100 < 12 ∨ 14 < n % 100) then 3 else 4) else 5
theorem pol_pick {o : Og} {n v : Nat} {z : Bool} (h : Num3 o n v z) : pickP polX o = polP n v := by
  have h1 : meetsP ⟨1, [[⟨105, 0, false, [(1, 1)]⟩, ⟨118, 0, false, [(0, 0)]⟩]], []⟩ o = (decide (n = 1) && decide (v = 0)) := by
    unfold meetsP allP' holdsP inP
    simp [h.i, h.v, rl1]
  have h3 : meetsP ⟨3, [[⟨118, 0, false, [(0, 0)]⟩, ⟨105, 10, false, [(2, 4)]⟩, ⟨105, 100, true, [(12, 14)]⟩]], []⟩ o = decide (v = 0 ∧ (2 ≤ n % 10 ∧ n % 10 ≤ 4) ∧ ¬ (12 ≤ n % 100 ∧ n % 100 ≤ 14)) := by
    have e : (!decide (n % 100 ≤ 14)) = decide (14 < n % 100) := by rw [← decide_not]; exact decide_eq_decide.2 (by omega)
    unfold meetsP allP' holdsP inP
    simp [h.i, h.v, rl1, e]
  have h4 : meetsP ⟨4, [[⟨118, 0, false, [(0, 0)]⟩, ⟨105, 0, true, [(1, 1)]⟩, ⟨105, 10, false, [(0, 1)]⟩], [⟨118, 0, false, [(0, 0)]⟩, ⟨105, 10, false, [(5, 9)]⟩], [⟨118, 0, false, [(0, 0)]⟩, ⟨105, 100, false, [(12, 14)]⟩]], []⟩ o = decide ((v = 0 ∧ n ≠ 1 ∧ n % 10 ≤ 1) ∨ (v = 0 ∧ 5 ≤ n % 10 ∧ n % 10 ≤ 9) ∨ (v = 0 ∧ 12 ≤ n % 100 ∧ n % 100 ≤ 14)) := by
    unfold meetsP allP' holdsP inP
    simp [h.i, h.v, rl1]
  unfold polP
  by_cases hv : v = 0
  · rw [if_pos hv]
    by_cases hn : n = 1
    · rw [if_pos hn]
      exact pick_at (by decide) (fun d hd => by simp; omega) (by simp [h1, hv, hn])
    · rw [if_neg hn]
      have g1 : meetsP ⟨1, [[⟨105, 0, false, [(1, 1)]⟩, ⟨118, 0, false, [(0, 0)]⟩]], []⟩ o = false := by rw [h1]; simp [hn]
      by_cases hf : 2 ≤ n % 10 ∧ n % 10 ≤ 4 ∧ (n % 100 < 12 ∨ 14 < n % 100)
      · rw [if_pos hf]
        refine pick_at (by decide) (fun d hd => ?_) ?_
        · simp [g1]; omega
        · simp only [List.any_cons, h3, decide_eq_true (show v = 0 ∧ (2 ≤ n % 10 ∧ n % 10 ≤ 4) ∧ ¬ (12 ≤ n % 100 ∧ n % 100 ≤ 14) by omega)]; simp
      · rw [if_neg hf]
        have g3 : meetsP ⟨3, [[⟨118, 0, false, [(0, 0)]⟩, ⟨105, 10, false, [(2, 4)]⟩, ⟨105, 100, true, [(12, 14)]⟩]], []⟩ o = false := by rw [h3]; exact decide_eq_false (by omega)
        refine pick_at (by decide) (fun d hd => ?_) ?_
        · simp [g1, g3]; omega
        · simp only [List.any_cons, h4, decide_eq_true (show (v = 0 ∧ n ≠ 1 ∧ n % 10 ≤ 1) ∨ (v = 0 ∧ 5 ≤ n % 10 ∧ n % 10 ≤ 9) ∨ (v = 0 ∧ 12 ≤ n % 100 ∧ n % 100 ≤ 14) by omega)]; simp
  · rw [if_neg hv]
    have g1 : meetsP ⟨1, [[⟨105, 0, false, [(1, 1)]⟩, ⟨118, 0, false, [(0, 0)]⟩]], []⟩ o = false := by rw [h1]; simp [hv]
    have g3 : meetsP ⟨3, [[⟨118, 0, false, [(0, 0)]⟩, ⟨105, 10, false, [(2, 4)]⟩, ⟨105, 100, true, [(12, 14)]⟩]], []⟩ o = false := by rw [h3]; exact decide_eq_false (by omega)
    have g4 : meetsP ⟨4, [[⟨118, 0, false, [(0, 0)]⟩, ⟨105, 0, true, [(1, 1)]⟩, ⟨105, 10, false, [(0, 1)]⟩], [⟨118, 0, false, [(0, 0)]⟩, ⟨105, 10, false, [(5, 9)]⟩], [⟨118, 0, false, [(0, 0)]⟩, ⟨105, 100, false, [(12, 14)]⟩]], []⟩ o = false := by rw [h4]; exact decide_eq_false (by omega)
    exact pick_none (fun d hd => by simp only [List.any_cons, List.any_nil, g1, g3, g4]; simp)
def araP (n : Nat) (z : Bool) : Nat := if z then (if n < 3 then n else if 3 ≤ n % 100 ∧ n % 100 ≤ 10 then 3 else if 11 ≤ n % 100 then 4 else 5) else 5
theorem ara_pick {o : Og} {n v : Nat} {z : Bool} (h : Num3 o n v z) : pickP araX o = araP n z := by
  have hh : ∀ (c m : Nat) (a b : Nat), c ≠ 5 → meetsP ⟨c, [[⟨110, m, false, [(a, b)]⟩]], []⟩ o = (z && decide (a ≤ (if m = 0 then n else n % m) ∧ (if m = 0 then n else n % m) ≤ b)) := by
    intro c m a b hc
    unfold meetsP allP' holdsP inP
    cases z <;> simp [h.n, hc]
  have e0 := hh 0 0 0 0 (by decide)
  have e1 := hh 1 0 1 1 (by decide)
  have e2 := hh 2 0 2 2 (by decide)
  have e3 := hh 3 100 3 10 (by decide)
  have e4 := hh 4 100 11 99 (by decide)
  simp only [if_true, show ¬ (100 : Nat) = 0 by decide, if_false] at e0 e1 e2 e3 e4
  unfold araP
  cases z with
  | false =>
    rw [if_neg (by decide)]
    simp only [Bool.false_and] at e0 e1 e2 e3 e4
    exact pick_none (fun d hd => by simp only [List.any_cons, List.any_nil, e0, e1, e2, e3, e4]; simp)
  | true =>
    rw [if_pos rfl]
    simp only [Bool.true_and] at e0 e1 e2 e3 e4
    have f0 : n ≠ 0 → meetsP ⟨0, [[⟨110, 0, false, [(0, 0)]⟩]], []⟩ o = false := fun hn => by rw [e0]; exact decide_eq_false (by omega)
    have f1 : n ≠ 1 → meetsP ⟨1, [[⟨110, 0, false, [(1, 1)]⟩]], []⟩ o = false := fun hn => by rw [e1]; exact decide_eq_false (by omega)
    have f2 : n ≠ 2 → meetsP ⟨2, [[⟨110, 0, false, [(2, 2)]⟩]], []⟩ o = false := fun hn => by rw [e2]; exact decide_eq_false (by omega)
    by_cases h3 : n < 3
    · rw [if_pos h3]
      have hc : n = 0 ∨ n = 1 ∨ n = 2 := by omega
      rcases hc with rfl | rfl | rfl
      · exact pick_at (by decide) (fun d hd => absurd hd (by omega)) (by simp only [List.any_cons, e0]; simp)
      · refine pick_at (by decide) (fun d hd => ?_) (by simp only [List.any_cons, e1]; simp)
        obtain rfl : d = 0 := by omega
        simp only [List.any_cons, List.any_nil, f0 (by decide)]; simp
      · refine pick_at (by decide) (fun d hd => ?_) (by simp only [List.any_cons, e2]; simp)
        have hd2 : d = 0 ∨ d = 1 := by omega
        rcases hd2 with rfl | rfl <;> (simp only [List.any_cons, List.any_nil, f0 (show 2 ≠ 0 by decide), f1 (show 2 ≠ 1 by decide)]; simp)
    · rw [if_neg h3]
      have g0 := f0 (by omega)
      have g1 := f1 (by omega)
      have g2 := f2 (by omega)
      by_cases hf : 3 ≤ n % 100 ∧ n % 100 ≤ 10
      · rw [if_pos hf]
        refine pick_at (by decide) (fun d hd => ?_) (by simp only [List.any_cons, e3, decide_eq_true hf]; simp)
        simp only [List.any_cons, List.any_nil, g0, g1, g2]; simp; omega
      · rw [if_neg hf]
        have g3 : meetsP ⟨3, [[⟨110, 100, false, [(3, 10)]⟩]], []⟩ o = false := by rw [e3]; exact decide_eq_false hf
        by_cases hm : 11 ≤ n % 100
        · rw [if_pos hm]
          refine pick_at (by decide) (fun d hd => ?_) (by simp only [List.any_cons, e4, decide_eq_true (show 11 ≤ n % 100 ∧ n % 100 ≤ 99 by omega)]; simp)
          simp only [List.any_cons, List.any_nil, g0, g1, g2, g3]; simp; omega
        · rw [if_neg hm]
          have g4 : meetsP ⟨4, [[⟨110, 100, false, [(11, 99)]⟩]], []⟩ o = false := by rw [e4]; exact decide_eq_false (by omega)
          exact pick_none (fun d hd => by simp only [List.any_cons, List.any_nil, g0, g1, g2, g3, g4]; simp)
def eqRels (us : List RuleT) : Bool := us.all fun u => u.any.all fun a => a.all fun x => opsB.contains x.op && decide (x.mod ≤ 1000000000)
theorem ruleB_of {us : List RuleT} (h : eqRels us = true) : ∀ u ∈ us, RuleB u := by
  intro u hu a ha x hx
  unfold eqRels at h
  have h1 := List.all_eq_true.1 (List.all_eq_true.1 (List.all_eq_true.1 h u hu) a ha) x hx
  simp only [Bool.and_eq_true, decide_eq_true_eq] at h1
  exact h1
set_option maxRecDepth 100000 in
theorem eng_read : rulesP [111, 110, 101, 58, 32, 105, 32, 61, 32, 49, 32, 97, 110, 100, 32, 118, 32, 61, 32, 48] = .ok engX [] := by kernel_rfl
end Go.Proofs.YtkjhdehpcanciaaGreatDoor
