/- A class with a range more: behind its last one, or joined with it. -/
import Derived.Test.YtbfhkcljkblnmaaDoorClB
namespace Go.Proofs.YtbfhkcljkblnmaaDoor
open Go.RowKit Florin
set_option linter.unusedVariables false
set_option linter.unusedSimpArgs false
theorem last_cells {w : World} {B : Nat} {v : Value} {d : List (Int × Int)} {y : Int × Int} (h : OwnC w B v (d ++ [y])) :
    ∃ g cap, v = .slice (some ⟨g, 0, none⟩) (d.length + 1) cap ∧ B ≤ g ∧ g < w.heap.size ∧ w.cell? ⟨g, d.length * 2, none⟩ = some (.int .i32 y.1) ∧ w.cell? ⟨g, d.length * 2 + 1, none⟩ = some (.int .i32 y.2) ∧ w.frozen? ⟨g, d.length * 2 + 1, none⟩ = false ∧ w.ownsRow B 28 2 (.slice (some ⟨g, 0, none⟩) (d.length + 1) cap) (d.length + 1) (cC (d ++ [y])) := by
  have hl : (d ++ [y]).length = d.length + 1 := by simp
  have h2 := h
  rw [OwnC, hl] at h2
  rcases h2.2 with ⟨_, hn⟩ | ⟨g, cap, cur, rfl, hB, hg, h1, h3, h4, h5⟩
  · omega
  · have hk : d.length < (d ++ [y]).length := by omega
    have hc := cC_get (d ++ [y]) d.length hk
    have e : (d ++ [y])[d.length]'hk = y := by simp
    rw [e] at hc
    refine ⟨g, cap, rfl, hB, ?_, ?_, ?_, h2.frozenAt _, h2⟩
    · exact (h2.lt g rfl).2
    · rw [h2.cellAt _ (by omega), hc.1]
    · rw [h2.cellAt _ (by omega), hc.2]
set_option maxRecDepth 100000 in
set_option maxHeartbeats 1600000 in
theorem joined_far (w : World) (B : Nat) (v : Value) (d : List (Int × Int)) (y x : Int × Int) (hown : OwnC w B v (d ++ [y])) (hB : B ≤ w.heap.size) (hl : d.length ≤ 1000000) (hy : -1 ≤ y.2 ∧ y.2 ≤ 1114111) (hj : y.2 + 1 < x.1) :
    Calls Tryd.prog 29 #[v, .agg #[.int .i32 x.1, .int .i32 x.2]] w fun e w' => ∃ v', e = .returned v' ∧ OwnC w' B v' (d ++ [y] ++ [x]) ∧ Below B w w' := by
  obtain ⟨i0, hi, hz0, hz1, hz2⟩ := info_parts infoC
  obtain ⟨g, cap, rfl, hBg, hg, c0, c1, f1, how⟩ := last_cells hown
  have OW1 : Hid ((w.alloc (.cells #[.int .i32 x.1, .int .i32 x.2] 28)).drew.ownsRow B 28 2 (.slice (some ⟨g, 0, none⟩) (d.length + 1) cap) (d.length + 1) (cC (d ++ [y]))) := Lib.hid (how.alloc _)
  have HW1 : Hid (w.heap.size + 1 = (w.alloc (.cells #[.int .i32 x.1, .int .i32 x.2] 28)).drew.heap.size) := Lib.hid (by simp)
  clear how hown f1
  have hnl : ¬ x.1 ≤ y.2 + 1 := by omega
  go_enter Tryd.func29, Tryd.ntmps29
  go_wp2_with fail
  go_region
  all_goals (
    go_wp2_with (at_builtin; refine wpList_append_own _ rfl _ _ 25 rfl B 28 i0 (.agg #[.int .i32 0, .int .i32 0]) 2 8 Tryd.underlying25 hi hz0 hz1 hz2 rfl (by decide) _ _ _ rfl (OW1.out.alloc _) ⟨w.heap.size + 1, 0, none⟩ 1 1 [.int .i32 x.1, .int .i32 x.2] rfl rfl (lit_cells3 _ _ _ _ _ HW1.out) (by simp [Value.oneCell']) (by unfold maxLen; omega) (by omega) (by simp; omega) ?_; intro v8 w8 hown8 hgr8 _)
    have OW8 : Hid (OwnC w8 B v8 (d ++ [y] ++ [x])) := Lib.hid (by
      show w8.ownsRow _ _ _ _ _ _
      rw [List.length_append, cC_append, List.length_append]
      exact hown8)
    have BE8 : Hid (Below B w w8) := Lib.hid ((((((Below.refl B w).alloc hB _).drew).alloc (by simp; omega) _).grown hgr8 (by simp; omega) (fun k hk => (OW1.out.lt k hk).1)))
    clear hown8 hgr8
    go_wp2
    go_ret
    exact ⟨_, rfl, OW8.out, BE8.out⟩)
theorem cC_set (d : List (Int × Int)) (y : Int × Int) (m : Int) : (cC (d ++ [y])).set (d.length * 2 + 1) (.int .i32 m) = cC (d ++ [(y.1, m)]) := by
  rw [cC_append, cC_append, List.set_append_right _ _ (by rw [cC_len]; omega), cC_len, Nat.add_sub_cancel_left]
  rfl
theorem near_own {w : World} {B g cap : Nat} {d : List (Int × Int)} {y : Int × Int} {x1 x2 : Int} (h : w.ownsRow B 28 2 (.slice (some ⟨g, 0, none⟩) (d.length + 1) cap) (d.length + 1) (cC (d ++ [y]))) (m : Int) :
    OwnC ((w.setCell ⟨g, d.length * 2 + 1, none⟩ (.int .i32 m)).alloc (.cells #[.int .i32 x1, .int .i32 x2] 28)).drew.drew B (.slice (some ⟨g, 0, none⟩) (d.length + 1) cap) (d ++ [(y.1, m)]) := by
  have h1 := (h.stored (d.length * 2 + 1) (.int .i32 m)).1
  rw [cC_set] at h1
  have h2 := h1.alloc (.cells #[.int .i32 x1, .int .i32 x2] 28)
  show World.ownsRow _ _ _ _ _ _ _
  rw [List.length_append]
  exact h2
set_option maxRecDepth 100000 in
set_option maxHeartbeats 1600000 in
theorem joined_near (w : World) (B : Nat) (v : Value) (d : List (Int × Int)) (y x : Int × Int) (hown : OwnC w B v (d ++ [y])) (hB : B ≤ w.heap.size) (hl : d.length ≤ 1000000) (hy : -1 ≤ y.2 ∧ y.2 ≤ 1114111) (hx : 0 ≤ x.2 ∧ x.2 ≤ 1114111) (hj : x.1 ≤ y.2 + 1) :
    Calls Tryd.prog 29 #[v, .agg #[.int .i32 x.1, .int .i32 x.2]] w fun e w' => ∃ v', e = .returned v' ∧ OwnC w' B v' (d ++ [(y.1, max y.2 x.2)]) ∧ Below B w w' := by
  obtain ⟨g, cap, rfl, hBg, hg, c0, c1, f1, how⟩ := last_cells hown
  have HOW := Lib.hid how
  clear how hown
  go_enter Tryd.func29, Tryd.ntmps29
  go_wp2_with fail
  go_region
  all_goals (try go_wp2_with fail)
  all_goals (try go_region)
  all_goals (try go_wp2_with fail)
  all_goals go_ret
  · rename_i h
    have e : max y.2 x.2 = x.2 := by omega
    rw [e]
    exact ⟨_, rfl, near_own HOW.out _, ((((Below.refl B w).setCell (p := ⟨g, d.length * 2 + 1, none⟩) hBg _).alloc (by simp [World.setCell]; omega) _).drew).drew⟩
  · rename_i h
    have e : max y.2 x.2 = y.2 := by omega
    rw [e]
    exact ⟨_, rfl, near_own HOW.out _, ((((Below.refl B w).setCell (p := ⟨g, d.length * 2 + 1, none⟩) hBg _).alloc (by simp [World.setCell]; omega) _).drew).drew⟩
theorem joined_as (w : World) (B : Nat) (v : Value) (c : List (Int × Int)) (x : Int × Int) (hown : OwnC w B v c) (hB : B ≤ w.heap.size) (hl : c.length ≤ 1000000) (hc : ∀ y ∈ c, -1 ≤ y.2 ∧ y.2 ≤ 1114111) (hx : 0 ≤ x.2 ∧ x.2 ≤ 1114111) :
    Calls Tryd.prog 29 #[v, .agg #[.int .i32 x.1, .int .i32 x.2]] w fun e w' => ∃ v', e = .returned v' ∧ OwnC w' B v' (joinC c x) ∧ Below B w w' := by
  unfold joinC
  cases hg : c.getLast? with
  | none =>
    obtain rfl : c = [] := List.getLast?_eq_none_iff.1 hg
    exact joined_none w B v x hown hB
  | some y =>
    obtain ⟨d, rfl⟩ := List.getLast?_eq_some_iff.1 hg
    have hl2 : d.length ≤ 1000000 := by rw [List.length_append] at hl; omega
    have hy := hc y (by simp)
    dsimp only
    by_cases hj : x.1 ≤ y.2 + 1
    · rw [if_pos hj, List.dropLast_concat]
      exact joined_near w B v d y x hown hB hl2 hy hx hj
    · rw [if_neg hj]
      exact joined_far w B v d y x hown hB hl2 hy (by omega)
end Go.Proofs.YtbfhkcljkblnmaaDoor
