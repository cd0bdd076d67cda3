/- A settled class has few ranges, if what it is made of has. -/
import Derived.Test.YtbfhkcljkblnmaaDoorCPlain
namespace Florin
theorem inc_le : ∀ (ds B : List Int), ds.Pairwise (fun x y => x < y) → (∀ x ∈ ds, x ∈ B) → ds.length ≤ B.length
  | [], _, _, _ => by simp
  | d :: t, B, hp, h => by
    have hp2 := List.pairwise_cons.1 hp
    have hd := h d (List.mem_cons_self ..)
    have h1 := inc_le t (B.erase d) hp2.2 (fun x hx => (List.mem_erase_of_ne (by have := hp2.1 x hx; omega)).2 (h x (List.mem_cons_of_mem _ hx)))
    rw [List.length_erase_of_mem hd] at h1
    have h2 := List.length_pos_of_mem hd
    simp only [List.length_cons]
    omega
theorem settled_inc {a : Int} : ∀ {c : List (Int × Int)}, settledFrom a c → (c.map (·.1)).Pairwise (fun x y => x < y)
  | [], _ => List.Pairwise.nil
  | x :: t, hc => by
    rw [List.map_cons, List.pairwise_cons]
    refine ⟨fun y hy => ?_, settled_inc hc.2.2.2⟩
    obtain ⟨z, hz, rfl⟩ := List.mem_map.1 hy
    have h1 := (settled_ge hc.2.2.2 z.1 ⟨z, hz, Int.le_refl _, settled_mem hc.2.2.2 z hz⟩).1
    have h2 := hc.2.1
    omega
theorem settled_gap {a : Int} : ∀ {c : List (Int × Int)}, settledFrom a c → ∀ x ∈ c, ¬ memC c (x.1 - 1)
  | [], _, x, h => by cases h
  | y :: t, hc, x, h => by
    intro hm
    rcases List.mem_cons.1 h with rfl | h
    · rcases (memC_cons _ _ _).1 hm with h1 | h1
      · omega
      · have h2 := (settled_ge hc.2.2.2 _ h1).1
        have := hc.2.1
        omega
    · have h3 := (settled_ge hc.2.2.2 x.1 ⟨x, h, Int.le_refl _, settled_mem hc.2.2.2 x h⟩).1
      rcases (memC_cons _ _ _).1 hm with h1 | h1
      · omega
      · exact settled_gap hc.2.2.2 x h h1
theorem has_edge {xs : List (Int × Int)} {z : Int} (h : hasC xs z ≠ hasC xs (z - 1)) : ∃ y ∈ xs, y.1 = z ∨ y.2 + 1 = z := by
  cases h1 : hasC xs z with
  | true =>
    have h2 : hasC xs (z - 1) = false := by
      rw [h1] at h
      cases h3 : hasC xs (z - 1) with
      | false => rfl
      | true => rw [h3] at h; exact absurd rfl h
    obtain ⟨y, hy, ha, hb⟩ := (hasC_iff xs z).1 h1
    refine ⟨y, hy, .inl ?_⟩
    rcases Int.lt_or_le (z - 1) y.1 with h4 | h4
    · omega
    · have := (hasC_iff xs (z - 1)).2 ⟨y, hy, h4, by omega⟩
      rw [h2] at this
      cases this
  | false =>
    have h2 : hasC xs (z - 1) = true := by
      rw [h1] at h
      cases h3 : hasC xs (z - 1) with
      | true => rfl
      | false => rw [h3] at h; exact absurd rfl h
    obtain ⟨y, hy, ha, hb⟩ := (hasC_iff xs (z - 1)).1 h2
    refine ⟨y, hy, .inr ?_⟩
    rcases Int.lt_or_le y.2 z with h4 | h4
    · omega
    · have := (hasC_iff xs z).2 ⟨y, hy, by omega, h4⟩
      rw [h1] at this
      cases this
theorem settled_short {d xs : List (Int × Int)} {nt : Bool} (hd : settledC d) (h : ∀ z, memC d z ↔ 0 ≤ z ∧ z ≤ cTop ∧ (nt != hasC xs z) = true) : d.length ≤ 2 * xs.length + 1 := by
  have h1 := inc_le (d.map (·.1)) (0 :: (xs.map (·.1) ++ xs.map (·.2 + 1))) (settled_inc (a := 0) hd) (fun z hz => by
    obtain ⟨x, hx, rfl⟩ := List.mem_map.1 hz
    have hin : memC d x.1 := ⟨x, hx, Int.le_refl _, settled_mem (a := 0) hd x hx⟩
    have hout := settled_gap (a := 0) hd x hx
    have ha := (h x.1).1 hin
    by_cases h0 : x.1 = 0
    · rw [h0]; exact List.mem_cons_self ..
    · have hb : ¬ (nt != hasC xs (x.1 - 1)) = true := fun h2 => hout ((h (x.1 - 1)).2 ⟨by omega, by omega, h2⟩)
      have hne : hasC xs x.1 ≠ hasC xs (x.1 - 1) := fun e => hb (by rw [← e]; exact ha.2.2)
      obtain ⟨y, hy, he⟩ := has_edge hne
      rcases he with he | he
      · exact List.mem_cons_of_mem _ (List.mem_append.2 (.inl (List.mem_map.2 ⟨y, hy, he⟩)))
      · exact List.mem_cons_of_mem _ (List.mem_append.2 (.inr (List.mem_map.2 ⟨y, hy, he⟩))))
  simp only [List.length_cons, List.length_append, List.length_map] at h1
  omega
end Florin
