/- Classes that agree at all bounds are one. -/
import Derived.Test.YtbfhkcljkblnmaaDoorCrQ
import Derived.Test.YtbfhkcljkblnmaaDoorCrN
import Derived.Test.YtbfhkcljkblnmaaDoorCPlain2
namespace Go.Proofs.YtbfhkcljkblnmaaDoor
open Go.RowKit Florin
set_option linter.unusedVariables false
set_option linter.unusedSimpArgs false
theorem st_has {c : List (Int × Int)} (hs : settledC c) (r : Int) : (stretchC c r).1 = hasC c r := by
  by_cases hr : r ≤ cTop
  · have h := (stretch_ok (a := 0) hs r hr).2.2 r (Int.le_refl _) (stretch_ok (a := 0) hs r hr).1
    rw [← hasC_iff] at h
    rw [Bool.eq_iff_iff]
    exact h.symm
  · have h1 : c.find? (fun x => decide (r ≤ x.2)) = none := by
      rw [List.find?_eq_none]
      intro x hx
      obtain ⟨k, hk, rfl⟩ := List.getElem_of_mem hx
      have h2 := (from_at (a := 0) hs k hk).2.2
      simp
      omega
    have h2 : hasC c r = false := by
      cases h : hasC c r with
      | false => rfl
      | true => exact absurd (settled_ge (a := 0) hs r ((hasC_iff c r).1 h)).2 hr
    unfold stretchC
    rw [h1, h2]
theorem has_at (w : World) (v : Value) (c : List (Int × Int)) (r : Int) (hc : InC w v c) (hs : settledC c) (b : Bool) (hb : hasC c r = b) :
    Calls Tryd.prog 14 #[v, .int .i32 r] w fun x w' => x = .returned (.bool b) ∧ Below w.heap.size w w' :=
  has_as w v c r hc hs (settled_few hs) b (by rw [st_has hs]; exact hb)
theorem inL_top (l : List (Int × Int)) (r : Int) : inL l r = (topB r && hasC l r) := rfl
theorem mem_bnd {l : List (Int × Int)} {y : Int × Int} (hy : y ∈ l) {z : Int} (h : z ∈ bndT y 3) : z ∈ bndL l := List.mem_flatMap.2 ⟨y, hy, h⟩
theorem bnd_lo (y : Int × Int) : clampB y.1 ∈ bndT y 3 := by
  have : clampB y.1 + (((1 : Nat) : Int) - 1) ∈ bndT y 3 := List.mem_flatMap.2 ⟨1, by decide, by simp⟩
  simpa using this
theorem bnd_hi (y : Int × Int) : clampB y.2 + 1 ∈ bndT y 3 := by
  have : clampB y.2 + (((2 : Nat) : Int) - 1) ∈ bndT y 3 := List.mem_flatMap.2 ⟨2, by decide, by simp⟩
  simpa using this
theorem edge_bnd {l : List (Int × Int)} {r : Int} (h0 : 0 < r) (ht : r ≤ 1114111) (h : hasC l r ≠ hasC l (r - 1)) : r ∈ bndL l := by
  obtain ⟨y, hy, he⟩ := has_edge h
  rcases he with he | he
  · have h1 : clampB y.1 = r := by unfold clampB; omega
    rw [← h1]
    exact mem_bnd hy (bnd_lo y)
  · have h1 : clampB y.2 + 1 = r := by unfold clampB; omega
    rw [← h1]
    exact mem_bnd hy (bnd_hi y)
set_option maxRecDepth 10000 in
theorem agree {a b c d : List (Int × Int)} (hc : ∀ r, hasC c r = (topB r && hasC a r)) (hd : ∀ r, hasC d r = (topB r && hasC b r))
    (h : ∀ r ∈ bnd0 ++ (bndL a ++ bndL b), inL a r = inL b r) : ∀ n : Nat, (n : Int) ≤ 1114111 → hasC c (n : Int) = hasC d (n : Int) := by
  intro n
  induction n with
  | zero =>
    intro _
    have h1 := h 0 (List.mem_append.2 (.inl (by unfold bnd0; simp)))
    rw [inL_top, inL_top] at h1
    exact (hc 0).trans (h1.trans (hd 0).symm)
  | succ n ih =>
    intro hn
    have ih := ih (by omega)
    by_cases hm : ((n + 1 : Nat) : Int) ∈ bnd0 ++ (bndL a ++ bndL b)
    · have h1 := h _ hm
      rw [inL_top, inL_top] at h1
      exact (hc _).trans (h1.trans (hd _).symm)
    · have hna : hasC a ((n + 1 : Nat) : Int) = hasC a (((n + 1 : Nat) : Int) - 1) := by
        rcases Decidable.em (hasC a ((n + 1 : Nat) : Int) = hasC a (((n + 1 : Nat) : Int) - 1)) with h2 | h2
        · exact h2
        · exact absurd (List.mem_append.2 (.inr (List.mem_append.2 (.inl (edge_bnd (by omega) hn h2))))) hm
      have hnb : hasC b ((n + 1 : Nat) : Int) = hasC b (((n + 1 : Nat) : Int) - 1) := by
        rcases Decidable.em (hasC b ((n + 1 : Nat) : Int) = hasC b (((n + 1 : Nat) : Int) - 1)) with h2 | h2
        · exact h2
        · exact absurd (List.mem_append.2 (.inr (List.mem_append.2 (.inr (edge_bnd (by omega) hn h2))))) hm
      have e : ((n + 1 : Nat) : Int) - 1 = (n : Int) := by omega
      rw [e] at hna hnb
      have t1 : topB ((n + 1 : Nat) : Int) = true := by unfold topB; simp; omega
      have t2 : topB (n : Int) = true := by unfold topB; simp; omega
      have i1 := hc ((n + 1 : Nat) : Int)
      have i2 := hd ((n + 1 : Nat) : Int)
      have i3 := hc (n : Int)
      have i4 := hd (n : Int)
      rw [t1, Bool.true_and] at i1 i2
      rw [t2, Bool.true_and] at i3 i4
      rw [i1, i2, hna, hnb, ← i3, ← i4]
      exact ih
/-- At all bounds alike: one class. -/
def sameB (a b : List (Int × Int)) (rs : List Int) : Bool := rs.all fun r => inL a r == inL b r
theorem same_iff {a b c d : List (Int × Int)} (sc : settledC c) (sd : settledC d) (hc : ∀ r, hasC c r = (topB r && hasC a r)) (hd : ∀ r, hasC d r = (topB r && hasC b r)) : decide (c = d) = sameB a b (bnd0 ++ (bndL a ++ bndL b)) := by
  rw [Bool.eq_iff_iff, decide_eq_true_eq]
  unfold sameB
  rw [List.all_eq_true]
  constructor
  · rintro rfl r _
    rw [inL_top, inL_top, ← hc r, ← hd r]
    simp
  · intro h
    have h2 : ∀ r ∈ bnd0 ++ (bndL a ++ bndL b), inL a r = inL b r := fun r hr => by simpa using h r hr
    refine ext_b sc sd (fun r => ?_)
    cases ht : topB r with
    | false => rw [hc r, hd r, ht]; rfl
    | true =>
      unfold topB at ht
      simp at ht
      obtain ⟨n, rfl⟩ : ∃ n : Nat, r = (n : Int) := ⟨r.toNat, by omega⟩
      exact agree hc hd h2 n ht.2
theorem sameB_take {a b : List (Int × Int)} {rs : List Int} {k : Nat} (h : k < rs.length) : sameB a b (rs.take (k + 1)) = (sameB a b (rs.take k) && (inL a rs[k] == inL b rs[k])) := by
  unfold sameB
  rw [List.take_succ_eq_append_getElem h, List.all_append]
  simp
theorem lit_inC (w : World) (x1 x2 : Int) : InC (w.alloc (.cells #[.int .i32 x1, .int .i32 x2] 28)) (.slice (some ⟨w.heap.size, 0, none⟩) 1 1) [(x1, x2)] := by
  have D := BoxT.new w #[.int .i32 x1, .int .i32 x2] 28
  refine ⟨_, 1, rfl, Nat.le_refl _, by unfold maxLen; omega, fun _ => ⟨w.heap.size, 0, rfl, D.lt, fun k hk => ?_⟩⟩
  obtain rfl : k = 0 := by simpa using hk
  exact ⟨D.cell 0, D.cell 1⟩
theorem nil_inC (w : World) : InC w (.slice none 0 0) [] := ⟨none, 0, rfl, Nat.le_refl _, by unfold maxLen; omega, fun h => absurd h (by decide)⟩
theorem in_at (w : World) (v : Value) (l : List (Int × Int)) (r : Int) (hc : InC w v l) (hl : l.length ≤ 1000000) (b : Bool) (hb : inL l r = b) :
    Calls Tryd.prog 15 #[v, .int .i32 r] w fun e w' => e = .returned (.bool b) ∧ Below w.heap.size w w' := by
  rw [← hb]
  exact in_as w v l r hc hl
theorem hall (r : Int) : hasC [(0, 1114111)] r = topB r := by
  unfold hasC topB
  simp
theorem bnd_len {ls : List (Value × List (Int × Int))} (h : ∀ p ∈ ls, p.2.length ≤ 30) (hl : ls.length ≤ 10) : (bnd0 ++ bndA ls).length ≤ 2000 := by
  have h1 := bndA_len ls h
  rw [List.length_append]
  have h3 : bnd0.length = 7 := rfl
  omega
end Go.Proofs.YtbfhkcljkblnmaaDoor
