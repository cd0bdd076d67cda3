/- RdK, RdL, RdM, RdN, RdO, in one text. -/
import Derived.Test.YtkjhdehpcanciaaGreatDoorMRd2
import Derived.Defers
import Derived.Recover
namespace Go.Proofs.YtkjhdehpcanciaaGreatDoor
open Go.RowKit Florin
set_option linter.unusedVariables false
set_option linter.unusedSimpArgs false
attribute [local go_sem ↓] Go.wp_at_zero Go.wp_at_succ

/-- The words of the categories stand where the program's text lays them. -/
def Wds (w : World) : Prop := ∃ t z, w.heap[0]? = some (.cells #[.string ⟨#[122, 101, 114, 111]⟩, .string ⟨#[111, 110, 101]⟩, .string ⟨#[116, 119, 111]⟩, .string ⟨#[102, 101, 119]⟩, .string ⟨#[109, 97, 110, 121]⟩, .string ⟨#[111, 116, 104, 101, 114]⟩] t z)
theorem Wds.lt {w : World} (h : Wds w) : 0 < w.heap.size := by
  obtain ⟨t, z, h⟩ := h
  exact (Array.getElem?_eq_some_iff.1 h).1
theorem Wds.cell {w : World} (h : Wds w) (i : Nat) : w.cell? ⟨0, i, none⟩ = (#[.string ⟨#[122, 101, 114, 111]⟩, .string ⟨#[111, 110, 101]⟩, .string ⟨#[116, 119, 111]⟩, .string ⟨#[102, 101, 119]⟩, .string ⟨#[109, 97, 110, 121]⟩, .string ⟨#[111, 116, 104, 101, 114]⟩] : Array Value)[i]? := by
  obtain ⟨t, z, h⟩ := h; simp [World.cell?, h]
theorem Wds.grown {w w' : World} {b : Nat} (h : Wds w) (hg : w.grownBy w' (some b)) (hb : 0 < b) : Wds w' := by
  have hl := h.lt
  obtain ⟨t, z, h⟩ := h
  exact ⟨t, z, by rw [hg.block _ hl (by intro e; cases e; omega)]; exact h⟩
theorem Wds.below {w w' : World} (h : Wds w) (hg : Below w.heap.size w w') : Wds w' := by
  have hl := h.lt
  obtain ⟨t, z, h⟩ := h
  exact ⟨t, z, by rw [hg.block _ hl]; exact h⟩
theorem wix0 (w : World) : Sem.run Tryz.prog (Instr.index 109 (.agg #[.string ⟨#[122, 101, 114, 111]⟩, .string ⟨#[111, 110, 101]⟩, .string ⟨#[116, 119, 111]⟩, .string ⟨#[102, 101, 119]⟩, .string ⟨#[109, 97, 110, 121]⟩, .string ⟨#[111, 116, 104, 101, 114]⟩]) (.int .i64 0)) w = .ok (.string ⟨#[122, 101, 114, 111]⟩) w := by
  simp [Instr.index, go_sem, run_underlying Tryz.underlying109]
theorem wix1 (w : World) : Sem.run Tryz.prog (Instr.index 109 (.agg #[.string ⟨#[122, 101, 114, 111]⟩, .string ⟨#[111, 110, 101]⟩, .string ⟨#[116, 119, 111]⟩, .string ⟨#[102, 101, 119]⟩, .string ⟨#[109, 97, 110, 121]⟩, .string ⟨#[111, 116, 104, 101, 114]⟩]) (.int .i64 1)) w = .ok (.string ⟨#[111, 110, 101]⟩) w := by
  simp [Instr.index, go_sem, run_underlying Tryz.underlying109]
theorem wix2 (w : World) : Sem.run Tryz.prog (Instr.index 109 (.agg #[.string ⟨#[122, 101, 114, 111]⟩, .string ⟨#[111, 110, 101]⟩, .string ⟨#[116, 119, 111]⟩, .string ⟨#[102, 101, 119]⟩, .string ⟨#[109, 97, 110, 121]⟩, .string ⟨#[111, 116, 104, 101, 114]⟩]) (.int .i64 2)) w = .ok (.string ⟨#[116, 119, 111]⟩) w := by
  simp [Instr.index, go_sem, run_underlying Tryz.underlying109]
theorem wix3 (w : World) : Sem.run Tryz.prog (Instr.index 109 (.agg #[.string ⟨#[122, 101, 114, 111]⟩, .string ⟨#[111, 110, 101]⟩, .string ⟨#[116, 119, 111]⟩, .string ⟨#[102, 101, 119]⟩, .string ⟨#[109, 97, 110, 121]⟩, .string ⟨#[111, 116, 104, 101, 114]⟩]) (.int .i64 3)) w = .ok (.string ⟨#[102, 101, 119]⟩) w := by
  simp [Instr.index, go_sem, run_underlying Tryz.underlying109]
theorem wix4 (w : World) : Sem.run Tryz.prog (Instr.index 109 (.agg #[.string ⟨#[122, 101, 114, 111]⟩, .string ⟨#[111, 110, 101]⟩, .string ⟨#[116, 119, 111]⟩, .string ⟨#[102, 101, 119]⟩, .string ⟨#[109, 97, 110, 121]⟩, .string ⟨#[111, 116, 104, 101, 114]⟩]) (.int .i64 4)) w = .ok (.string ⟨#[109, 97, 110, 121]⟩) w := by
  simp [Instr.index, go_sem, run_underlying Tryz.underlying109]
theorem wix5 (w : World) : Sem.run Tryz.prog (Instr.index 109 (.agg #[.string ⟨#[122, 101, 114, 111]⟩, .string ⟨#[111, 110, 101]⟩, .string ⟨#[116, 119, 111]⟩, .string ⟨#[102, 101, 119]⟩, .string ⟨#[109, 97, 110, 121]⟩, .string ⟨#[111, 116, 104, 101, 114]⟩]) (.int .i64 5)) w = .ok (.string ⟨#[111, 116, 104, 101, 114]⟩) w := by
  simp [Instr.index, go_sem, run_underlying Tryz.underlying109]
attribute [local go_sem ↓] wix0 wix1 wix2 wix3 wix4 wix5

set_option maxRecDepth 100000 in
set_option maxHeartbeats 1600000 in
theorem catOf_0 (w : World) (h : Wds w) : Calls Tryz.prog 106 #[.string ⟨#[122, 101, 114, 111]⟩] w fun e w' => e = .returned (.tuple #[.int .i64 0, .bool true]) ∧ w = w' := by
  have g0 : w.cell? ⟨0, 0, none⟩ = some (.string ⟨#[122, 101, 114, 111]⟩) := h.cell 0
  have g1 : w.cell? ⟨0, 1, none⟩ = some (.string ⟨#[111, 110, 101]⟩) := h.cell 1
  have g2 : w.cell? ⟨0, 2, none⟩ = some (.string ⟨#[116, 119, 111]⟩) := h.cell 2
  have g3 : w.cell? ⟨0, 3, none⟩ = some (.string ⟨#[102, 101, 119]⟩) := h.cell 3
  have g4 : w.cell? ⟨0, 4, none⟩ = some (.string ⟨#[109, 97, 110, 121]⟩) := h.cell 4
  have g5 : w.cell? ⟨0, 5, none⟩ = some (.string ⟨#[111, 116, 104, 101, 114]⟩) := h.cell 5
  clear h
  go_enter Tryz.func106, Tryz.ntmps106
  go_wp2_with fail
  go_loop [7] (fun v => ∃ k : Nat, k ≤ 0 ∧ v = .int .i64 k) (fun v => 1 - (intOf v).toNat)
  case atStart => exact ⟨0, by decide, rfl⟩
  case round =>
    obtain ⟨k, hk, rfl⟩ := hrel
    rcases (show k = 0 by omega) with rfl
    · go_wp2
      go_ret2
      exact ⟨rfl, rfl⟩

set_option maxRecDepth 100000 in
set_option maxHeartbeats 1600000 in
theorem catOf_1 (w : World) (h : Wds w) : Calls Tryz.prog 106 #[.string ⟨#[111, 110, 101]⟩] w fun e w' => e = .returned (.tuple #[.int .i64 1, .bool true]) ∧ w = w' := by
  have g0 : w.cell? ⟨0, 0, none⟩ = some (.string ⟨#[122, 101, 114, 111]⟩) := h.cell 0
  have g1 : w.cell? ⟨0, 1, none⟩ = some (.string ⟨#[111, 110, 101]⟩) := h.cell 1
  have g2 : w.cell? ⟨0, 2, none⟩ = some (.string ⟨#[116, 119, 111]⟩) := h.cell 2
  have g3 : w.cell? ⟨0, 3, none⟩ = some (.string ⟨#[102, 101, 119]⟩) := h.cell 3
  have g4 : w.cell? ⟨0, 4, none⟩ = some (.string ⟨#[109, 97, 110, 121]⟩) := h.cell 4
  have g5 : w.cell? ⟨0, 5, none⟩ = some (.string ⟨#[111, 116, 104, 101, 114]⟩) := h.cell 5
  clear h
  go_enter Tryz.func106, Tryz.ntmps106
  go_wp2_with fail
  go_loop [7] (fun v => ∃ k : Nat, k ≤ 1 ∧ v = .int .i64 k) (fun v => 2 - (intOf v).toNat)
  case atStart => exact ⟨0, by decide, rfl⟩
  case round =>
    obtain ⟨k, hk, rfl⟩ := hrel
    rcases (show k = 0 ∨ k = 1 by omega) with rfl | rfl
    · go_wp2
      go_round
      case rel => exact ⟨1, by decide, rfl⟩
      case measure => simp [intOf]
    · go_wp2
      go_ret2
      exact ⟨rfl, rfl⟩

set_option maxRecDepth 100000 in
set_option maxHeartbeats 1600000 in
theorem catOf_2 (w : World) (h : Wds w) : Calls Tryz.prog 106 #[.string ⟨#[116, 119, 111]⟩] w fun e w' => e = .returned (.tuple #[.int .i64 2, .bool true]) ∧ w = w' := by
  have g0 : w.cell? ⟨0, 0, none⟩ = some (.string ⟨#[122, 101, 114, 111]⟩) := h.cell 0
  have g1 : w.cell? ⟨0, 1, none⟩ = some (.string ⟨#[111, 110, 101]⟩) := h.cell 1
  have g2 : w.cell? ⟨0, 2, none⟩ = some (.string ⟨#[116, 119, 111]⟩) := h.cell 2
  have g3 : w.cell? ⟨0, 3, none⟩ = some (.string ⟨#[102, 101, 119]⟩) := h.cell 3
  have g4 : w.cell? ⟨0, 4, none⟩ = some (.string ⟨#[109, 97, 110, 121]⟩) := h.cell 4
  have g5 : w.cell? ⟨0, 5, none⟩ = some (.string ⟨#[111, 116, 104, 101, 114]⟩) := h.cell 5
  clear h
  go_enter Tryz.func106, Tryz.ntmps106
  go_wp2_with fail
  go_loop [7] (fun v => ∃ k : Nat, k ≤ 2 ∧ v = .int .i64 k) (fun v => 3 - (intOf v).toNat)
  case atStart => exact ⟨0, by decide, rfl⟩
  case round =>
    obtain ⟨k, hk, rfl⟩ := hrel
    rcases (show k = 0 ∨ k = 1 ∨ k = 2 by omega) with rfl | rfl | rfl
    · go_wp2
      go_round
      case rel => exact ⟨1, by decide, rfl⟩
      case measure => simp [intOf]
    · go_wp2
      go_round
      case rel => exact ⟨2, by decide, rfl⟩
      case measure => simp [intOf]
    · go_wp2
      go_ret2
      exact ⟨rfl, rfl⟩

set_option maxRecDepth 100000 in
set_option maxHeartbeats 1600000 in
theorem catOf_3 (w : World) (h : Wds w) : Calls Tryz.prog 106 #[.string ⟨#[102, 101, 119]⟩] w fun e w' => e = .returned (.tuple #[.int .i64 3, .bool true]) ∧ w = w' := by
  have g0 : w.cell? ⟨0, 0, none⟩ = some (.string ⟨#[122, 101, 114, 111]⟩) := h.cell 0
  have g1 : w.cell? ⟨0, 1, none⟩ = some (.string ⟨#[111, 110, 101]⟩) := h.cell 1
  have g2 : w.cell? ⟨0, 2, none⟩ = some (.string ⟨#[116, 119, 111]⟩) := h.cell 2
  have g3 : w.cell? ⟨0, 3, none⟩ = some (.string ⟨#[102, 101, 119]⟩) := h.cell 3
  have g4 : w.cell? ⟨0, 4, none⟩ = some (.string ⟨#[109, 97, 110, 121]⟩) := h.cell 4
  have g5 : w.cell? ⟨0, 5, none⟩ = some (.string ⟨#[111, 116, 104, 101, 114]⟩) := h.cell 5
  clear h
  go_enter Tryz.func106, Tryz.ntmps106
  go_wp2_with fail
  go_loop [7] (fun v => ∃ k : Nat, k ≤ 3 ∧ v = .int .i64 k) (fun v => 4 - (intOf v).toNat)
  case atStart => exact ⟨0, by decide, rfl⟩
  case round =>
    obtain ⟨k, hk, rfl⟩ := hrel
    rcases (show k = 0 ∨ k = 1 ∨ k = 2 ∨ k = 3 by omega) with rfl | rfl | rfl | rfl
    · go_wp2
      go_round
      case rel => exact ⟨1, by decide, rfl⟩
      case measure => simp [intOf]
    · go_wp2
      go_round
      case rel => exact ⟨2, by decide, rfl⟩
      case measure => simp [intOf]
    · go_wp2
      go_round
      case rel => exact ⟨3, by decide, rfl⟩
      case measure => simp [intOf]
    · go_wp2
      go_ret2
      exact ⟨rfl, rfl⟩

set_option maxRecDepth 100000 in
set_option maxHeartbeats 1600000 in
theorem catOf_4 (w : World) (h : Wds w) : Calls Tryz.prog 106 #[.string ⟨#[109, 97, 110, 121]⟩] w fun e w' => e = .returned (.tuple #[.int .i64 4, .bool true]) ∧ w = w' := by
  have g0 : w.cell? ⟨0, 0, none⟩ = some (.string ⟨#[122, 101, 114, 111]⟩) := h.cell 0
  have g1 : w.cell? ⟨0, 1, none⟩ = some (.string ⟨#[111, 110, 101]⟩) := h.cell 1
  have g2 : w.cell? ⟨0, 2, none⟩ = some (.string ⟨#[116, 119, 111]⟩) := h.cell 2
  have g3 : w.cell? ⟨0, 3, none⟩ = some (.string ⟨#[102, 101, 119]⟩) := h.cell 3
  have g4 : w.cell? ⟨0, 4, none⟩ = some (.string ⟨#[109, 97, 110, 121]⟩) := h.cell 4
  have g5 : w.cell? ⟨0, 5, none⟩ = some (.string ⟨#[111, 116, 104, 101, 114]⟩) := h.cell 5
  clear h
  go_enter Tryz.func106, Tryz.ntmps106
  go_wp2_with fail
  go_loop [7] (fun v => ∃ k : Nat, k ≤ 4 ∧ v = .int .i64 k) (fun v => 5 - (intOf v).toNat)
  case atStart => exact ⟨0, by decide, rfl⟩
  case round =>
    obtain ⟨k, hk, rfl⟩ := hrel
    rcases (show k = 0 ∨ k = 1 ∨ k = 2 ∨ k = 3 ∨ k = 4 by omega) with rfl | rfl | rfl | rfl | rfl
    · go_wp2
      go_round
      case rel => exact ⟨1, by decide, rfl⟩
      case measure => simp [intOf]
    · go_wp2
      go_round
      case rel => exact ⟨2, by decide, rfl⟩
      case measure => simp [intOf]
    · go_wp2
      go_round
      case rel => exact ⟨3, by decide, rfl⟩
      case measure => simp [intOf]
    · go_wp2
      go_round
      case rel => exact ⟨4, by decide, rfl⟩
      case measure => simp [intOf]
    · go_wp2
      go_ret2
      exact ⟨rfl, rfl⟩

set_option maxRecDepth 100000 in
set_option maxHeartbeats 1600000 in
theorem catOf_5 (w : World) (h : Wds w) : Calls Tryz.prog 106 #[.string ⟨#[111, 116, 104, 101, 114]⟩] w fun e w' => e = .returned (.tuple #[.int .i64 5, .bool true]) ∧ w = w' := by
  have g0 : w.cell? ⟨0, 0, none⟩ = some (.string ⟨#[122, 101, 114, 111]⟩) := h.cell 0
  have g1 : w.cell? ⟨0, 1, none⟩ = some (.string ⟨#[111, 110, 101]⟩) := h.cell 1
  have g2 : w.cell? ⟨0, 2, none⟩ = some (.string ⟨#[116, 119, 111]⟩) := h.cell 2
  have g3 : w.cell? ⟨0, 3, none⟩ = some (.string ⟨#[102, 101, 119]⟩) := h.cell 3
  have g4 : w.cell? ⟨0, 4, none⟩ = some (.string ⟨#[109, 97, 110, 121]⟩) := h.cell 4
  have g5 : w.cell? ⟨0, 5, none⟩ = some (.string ⟨#[111, 116, 104, 101, 114]⟩) := h.cell 5
  clear h
  go_enter Tryz.func106, Tryz.ntmps106
  go_wp2_with fail
  go_loop [7] (fun v => ∃ k : Nat, k ≤ 5 ∧ v = .int .i64 k) (fun v => 6 - (intOf v).toNat)
  case atStart => exact ⟨0, by decide, rfl⟩
  case round =>
    obtain ⟨k, hk, rfl⟩ := hrel
    rcases (show k = 0 ∨ k = 1 ∨ k = 2 ∨ k = 3 ∨ k = 4 ∨ k = 5 by omega) with rfl | rfl | rfl | rfl | rfl | rfl
    · go_wp2
      go_round
      case rel => exact ⟨1, by decide, rfl⟩
      case measure => simp [intOf]
    · go_wp2
      go_round
      case rel => exact ⟨2, by decide, rfl⟩
      case measure => simp [intOf]
    · go_wp2
      go_round
      case rel => exact ⟨3, by decide, rfl⟩
      case measure => simp [intOf]
    · go_wp2
      go_round
      case rel => exact ⟨4, by decide, rfl⟩
      case measure => simp [intOf]
    · go_wp2
      go_round
      case rel => exact ⟨5, by decide, rfl⟩
      case measure => simp [intOf]
    · go_wp2
      go_ret2
      exact ⟨rfl, rfl⟩

set_option maxRecDepth 100000 in
set_option maxHeartbeats 1600000 in
theorem catOf_no (s : ByteArray) (w : World) (h : Wds w) (hs : catB s.data.toList = 6) : Calls Tryz.prog 106 #[.string s] w fun e w' => e = .returned (.tuple #[.int .i64 0, .bool false]) ∧ w = w' := by
  have hn : ∀ x ∈ wordB, s.data.toList ≠ x := by
    intro x hx e
    have : catB s.data.toList < wordB.length := List.idxOf_lt_length_of_mem (by rw [e]; exact hx)
    rw [hs] at this
    exact absurd this (by decide)
  have e0 : (s.toList == [122, 101, 114, 111]) = false := by rw [Lib.toList_data]; exact beq_eq_false_iff_ne.2 (hn _ (by decide))
  have d0 : ([122, 101, 114, 111] == s.toList) = false := by rw [Lib.toList_data]; exact beq_eq_false_iff_ne.2 (fun e => hn _ (by decide) e.symm)
  have e1 : (s.toList == [111, 110, 101]) = false := by rw [Lib.toList_data]; exact beq_eq_false_iff_ne.2 (hn _ (by decide))
  have d1 : ([111, 110, 101] == s.toList) = false := by rw [Lib.toList_data]; exact beq_eq_false_iff_ne.2 (fun e => hn _ (by decide) e.symm)
  have e2 : (s.toList == [116, 119, 111]) = false := by rw [Lib.toList_data]; exact beq_eq_false_iff_ne.2 (hn _ (by decide))
  have d2 : ([116, 119, 111] == s.toList) = false := by rw [Lib.toList_data]; exact beq_eq_false_iff_ne.2 (fun e => hn _ (by decide) e.symm)
  have e3 : (s.toList == [102, 101, 119]) = false := by rw [Lib.toList_data]; exact beq_eq_false_iff_ne.2 (hn _ (by decide))
  have d3 : ([102, 101, 119] == s.toList) = false := by rw [Lib.toList_data]; exact beq_eq_false_iff_ne.2 (fun e => hn _ (by decide) e.symm)
  have e4 : (s.toList == [109, 97, 110, 121]) = false := by rw [Lib.toList_data]; exact beq_eq_false_iff_ne.2 (hn _ (by decide))
  have d4 : ([109, 97, 110, 121] == s.toList) = false := by rw [Lib.toList_data]; exact beq_eq_false_iff_ne.2 (fun e => hn _ (by decide) e.symm)
  have e5 : (s.toList == [111, 116, 104, 101, 114]) = false := by rw [Lib.toList_data]; exact beq_eq_false_iff_ne.2 (hn _ (by decide))
  have d5 : ([111, 116, 104, 101, 114] == s.toList) = false := by rw [Lib.toList_data]; exact beq_eq_false_iff_ne.2 (fun e => hn _ (by decide) e.symm)
  clear hn hs
  have g0 : w.cell? ⟨0, 0, none⟩ = some (.string ⟨#[122, 101, 114, 111]⟩) := h.cell 0
  have g1 : w.cell? ⟨0, 1, none⟩ = some (.string ⟨#[111, 110, 101]⟩) := h.cell 1
  have g2 : w.cell? ⟨0, 2, none⟩ = some (.string ⟨#[116, 119, 111]⟩) := h.cell 2
  have g3 : w.cell? ⟨0, 3, none⟩ = some (.string ⟨#[102, 101, 119]⟩) := h.cell 3
  have g4 : w.cell? ⟨0, 4, none⟩ = some (.string ⟨#[109, 97, 110, 121]⟩) := h.cell 4
  have g5 : w.cell? ⟨0, 5, none⟩ = some (.string ⟨#[111, 116, 104, 101, 114]⟩) := h.cell 5
  clear h
  go_enter Tryz.func106, Tryz.ntmps106
  go_wp2_with fail
  go_loop [7] (fun v => ∃ k : Nat, k ≤ 6 ∧ v = .int .i64 k) (fun v => 7 - (intOf v).toNat)
  case atStart => exact ⟨0, by decide, rfl⟩
  case round =>
    obtain ⟨k, hk, rfl⟩ := hrel
    rcases (show k = 0 ∨ k = 1 ∨ k = 2 ∨ k = 3 ∨ k = 4 ∨ k = 5 ∨ k = 6 by omega) with rfl | rfl | rfl | rfl | rfl | rfl | rfl
    · go_wp2
      go_round
      case rel => exact ⟨1, by decide, rfl⟩
      case measure => simp [intOf]
    · go_wp2
      go_round
      case rel => exact ⟨2, by decide, rfl⟩
      case measure => simp [intOf]
    · go_wp2
      go_round
      case rel => exact ⟨3, by decide, rfl⟩
      case measure => simp [intOf]
    · go_wp2
      go_round
      case rel => exact ⟨4, by decide, rfl⟩
      case measure => simp [intOf]
    · go_wp2
      go_round
      case rel => exact ⟨5, by decide, rfl⟩
      case measure => simp [intOf]
    · go_wp2
      go_round
      case rel => exact ⟨6, by decide, rfl⟩
      case measure => simp [intOf]
    · go_wp2
      go_ret2
      exact ⟨rfl, rfl⟩

set_option maxRecDepth 100000 in
set_option maxHeartbeats 1600000 in
theorem cat_no (seen : List Nat) (b : Nat) (T : ByteArray) (p : Nat) (f : Nat → Bool) (n : Nat) (l : List UInt8) (w : World) (h : Rd w b T p f n) (ha : At T p l) (hT : T.size ≤ 1000000) (hw : Wds w) (hb0 : 0 < b) (hf : ∀ i, i < 6 → f i = seen.contains i) (hc : catB (wd isL l) = 6) :
    Calls Tryz.prog 78 #[.pointer (some ⟨b, 0, none⟩)] w (ToldN b T (fun c i => if i = c then true else f i) (fun _ => n) w (fun _ c v => v = .int .i64 ((c : Nat) : Int)) (catP seen l)) := by
  have HR := Lib.hid h
  have HA := Lib.hid ha
  have HW := Lib.hid hw
  have HC := Lib.hid hc
  clear h ha hw hc
  go_enter Tryz.func78, Tryz.ntmps78
  go_wp2_with fail
  with_reducible refine (runL_b b T p f n l _ HR.out HA.out hT).mono ?_
  rintro x w1 ⟨s, q, q2, rfl, hs, hat, hat2, hr, hg⟩
  have HS := Lib.hid hs
  have HM := Lib.hid hat
  have HM2 := Lib.hid hat2
  have HR2 := Lib.hid hr
  have HG := Lib.hid hg
  have HW1 := Lib.hid (HW.out.grown hg hb0)
  have HN : Hid (catP seen l = .bad 1 (sk l)) := Lib.hid (by unfold catP; rw [if_pos HC.out])
  have hcs : catB s.data.toList = 6 := by rw [hs]; exact HC.out
  have HCS := Lib.hid hcs
  clear hs hat hat2 hr hg HR HA hcs
  go_wp2_with fail
  with_reducible refine (catOf_no s _ HW1.out HCS.out).mono ?_
  rintro x wz ⟨rfl, rfl⟩
  go_wp2_with fail
  with_reducible refine (giveUp_as 1 q _).mono ?_
  rintro x wz ⟨rfl, rfl⟩
  go_wp2
  refine ⟨rfl, ?_⟩
  show ToldN _ _ _ _ _ _ (catP seen l) _ _
  rw [HN.out]
  exact ⟨q, rfl, HM.out, HG.out⟩

set_option maxRecDepth 100000 in
set_option maxHeartbeats 1600000 in
theorem cat_0t (seen : List Nat) (b : Nat) (T : ByteArray) (p : Nat) (f : Nat → Bool) (n : Nat) (l : List UInt8) (w : World) (h : Rd w b T p f n) (ha : At T p l) (hT : T.size ≤ 1000000) (hw : Wds w) (hb0 : 0 < b) (hf : ∀ i, i < 6 → f i = seen.contains i) (hc : wd isL l = [122, 101, 114, 111]) (hk : f 0 = true) :
    Calls Tryz.prog 78 #[.pointer (some ⟨b, 0, none⟩)] w (ToldN b T (fun c i => if i = c then true else f i) (fun _ => n) w (fun _ c v => v = .int .i64 ((c : Nat) : Int)) (catP seen l)) := by
  have HR := Lib.hid h
  have HA := Lib.hid ha
  have HW := Lib.hid hw
  have HC := Lib.hid hc
  clear h ha hw hc
  go_enter Tryz.func78, Tryz.ntmps78
  go_wp2_with fail
  with_reducible refine (runL_b b T p f n l _ HR.out HA.out hT).mono ?_
  rintro x w1 ⟨s, q, q2, rfl, hs, hat, hat2, hr, hg⟩
  have HS := Lib.hid hs
  have HM := Lib.hid hat
  have HM2 := Lib.hid hat2
  have HR2 := Lib.hid hr
  have HG := Lib.hid hg
  have HW1 := Lib.hid (HW.out.grown hg hb0)
  have hcb : catB (wd isL l) = 0 := by rw [HC.out]; decide
  obtain rfl : s = ⟨#[122, 101, 114, 111]⟩ := byte_of (by rw [hs]; exact HC.out)
  have rf := hr.cf 3
  have rf2 : w1.cell? ⟨b, 3, none⟩ = some (.bool true) := by rw [← hk]; exact rf
  have rz := hr.z 3
  have rl := hr.lt
  have HN : Hid (catP seen l = .bad 7 (sk l)) := Lib.hid (by unfold catP; rw [hcb, if_neg (by decide), if_pos (by rw [← hf 0 (by decide)]; exact hk)])
  clear hs hat hat2 hr hg HR HA rf hcb hk
  go_wp2_with fail
  with_reducible refine (catOf_0 _ HW1.out).mono ?_
  rintro x wz ⟨rfl, rfl⟩
  go_wp2_with fail
  with_reducible refine (giveUp_as 7 q _).mono ?_
  rintro x wz ⟨rfl, rfl⟩
  go_wp2
  refine ⟨rfl, ?_⟩
  show ToldN _ _ _ _ _ _ (catP seen l) _ _
  rw [HN.out]
  exact ⟨q, rfl, HM.out, HG.out⟩

set_option maxRecDepth 100000 in
set_option maxHeartbeats 1600000 in
theorem cat_0f (seen : List Nat) (b : Nat) (T : ByteArray) (p : Nat) (f : Nat → Bool) (n : Nat) (l : List UInt8) (w : World) (h : Rd w b T p f n) (ha : At T p l) (hT : T.size ≤ 1000000) (hw : Wds w) (hb0 : 0 < b) (hf : ∀ i, i < 6 → f i = seen.contains i) (hc : wd isL l = [122, 101, 114, 111]) (hk : f 0 = false) :
    Calls Tryz.prog 78 #[.pointer (some ⟨b, 0, none⟩)] w (ToldN b T (fun c i => if i = c then true else f i) (fun _ => n) w (fun _ c v => v = .int .i64 ((c : Nat) : Int)) (catP seen l)) := by
  have HR := Lib.hid h
  have HA := Lib.hid ha
  have HW := Lib.hid hw
  have HC := Lib.hid hc
  clear h ha hw hc
  go_enter Tryz.func78, Tryz.ntmps78
  go_wp2_with fail
  with_reducible refine (runL_b b T p f n l _ HR.out HA.out hT).mono ?_
  rintro x w1 ⟨s, q, q2, rfl, hs, hat, hat2, hr, hg⟩
  have HS := Lib.hid hs
  have HM := Lib.hid hat
  have HM2 := Lib.hid hat2
  have HR2 := Lib.hid hr
  have HG := Lib.hid hg
  have HW1 := Lib.hid (HW.out.grown hg hb0)
  have hcb : catB (wd isL l) = 0 := by rw [HC.out]; decide
  obtain rfl : s = ⟨#[122, 101, 114, 111]⟩ := byte_of (by rw [hs]; exact HC.out)
  have rf := hr.cf 3
  have rf2 : w1.cell? ⟨b, 3, none⟩ = some (.bool false) := by rw [← hk]; exact rf
  have rz := hr.z 3
  have rl := hr.lt
  have HN : Hid (catP seen l = .ok 0 (wdR isL l)) := Lib.hid (by unfold catP; rw [hcb, if_neg (by decide), if_neg (by rw [← hf 0 (by decide), hk]; decide)])
  clear hs hat hat2 hr hg HR HA rf hcb hk
  go_wp2_with fail
  with_reducible refine (catOf_0 _ HW1.out).mono ?_
  rintro x wz ⟨rfl, rfl⟩
  go_wp2
  go_ret
  show ToldN _ _ _ _ _ _ (catP seen l) _ _
  rw [HN.out]
  exact ⟨_, q2, rfl, rfl, HM2.out, BoxT.set HR2.out 3 (.bool true), grown_set HG.out 3 _⟩

set_option maxRecDepth 100000 in
set_option maxHeartbeats 1600000 in
theorem cat_1t (seen : List Nat) (b : Nat) (T : ByteArray) (p : Nat) (f : Nat → Bool) (n : Nat) (l : List UInt8) (w : World) (h : Rd w b T p f n) (ha : At T p l) (hT : T.size ≤ 1000000) (hw : Wds w) (hb0 : 0 < b) (hf : ∀ i, i < 6 → f i = seen.contains i) (hc : wd isL l = [111, 110, 101]) (hk : f 1 = true) :
    Calls Tryz.prog 78 #[.pointer (some ⟨b, 0, none⟩)] w (ToldN b T (fun c i => if i = c then true else f i) (fun _ => n) w (fun _ c v => v = .int .i64 ((c : Nat) : Int)) (catP seen l)) := by
  have HR := Lib.hid h
  have HA := Lib.hid ha
  have HW := Lib.hid hw
  have HC := Lib.hid hc
  clear h ha hw hc
  go_enter Tryz.func78, Tryz.ntmps78
  go_wp2_with fail
  with_reducible refine (runL_b b T p f n l _ HR.out HA.out hT).mono ?_
  rintro x w1 ⟨s, q, q2, rfl, hs, hat, hat2, hr, hg⟩
  have HS := Lib.hid hs
  have HM := Lib.hid hat
  have HM2 := Lib.hid hat2
  have HR2 := Lib.hid hr
  have HG := Lib.hid hg
  have HW1 := Lib.hid (HW.out.grown hg hb0)
  have hcb : catB (wd isL l) = 1 := by rw [HC.out]; decide
  obtain rfl : s = ⟨#[111, 110, 101]⟩ := byte_of (by rw [hs]; exact HC.out)
  have rf := hr.cf 4
  have rf2 : w1.cell? ⟨b, 4, none⟩ = some (.bool true) := by rw [← hk]; exact rf
  have rz := hr.z 4
  have rl := hr.lt
  have HN : Hid (catP seen l = .bad 7 (sk l)) := Lib.hid (by unfold catP; rw [hcb, if_neg (by decide), if_pos (by rw [← hf 1 (by decide)]; exact hk)])
  clear hs hat hat2 hr hg HR HA rf hcb hk
  go_wp2_with fail
  with_reducible refine (catOf_1 _ HW1.out).mono ?_
  rintro x wz ⟨rfl, rfl⟩
  go_wp2_with fail
  with_reducible refine (giveUp_as 7 q _).mono ?_
  rintro x wz ⟨rfl, rfl⟩
  go_wp2
  refine ⟨rfl, ?_⟩
  show ToldN _ _ _ _ _ _ (catP seen l) _ _
  rw [HN.out]
  exact ⟨q, rfl, HM.out, HG.out⟩

set_option maxRecDepth 100000 in
set_option maxHeartbeats 1600000 in
theorem cat_1f (seen : List Nat) (b : Nat) (T : ByteArray) (p : Nat) (f : Nat → Bool) (n : Nat) (l : List UInt8) (w : World) (h : Rd w b T p f n) (ha : At T p l) (hT : T.size ≤ 1000000) (hw : Wds w) (hb0 : 0 < b) (hf : ∀ i, i < 6 → f i = seen.contains i) (hc : wd isL l = [111, 110, 101]) (hk : f 1 = false) :
    Calls Tryz.prog 78 #[.pointer (some ⟨b, 0, none⟩)] w (ToldN b T (fun c i => if i = c then true else f i) (fun _ => n) w (fun _ c v => v = .int .i64 ((c : Nat) : Int)) (catP seen l)) := by
  have HR := Lib.hid h
  have HA := Lib.hid ha
  have HW := Lib.hid hw
  have HC := Lib.hid hc
  clear h ha hw hc
  go_enter Tryz.func78, Tryz.ntmps78
  go_wp2_with fail
  with_reducible refine (runL_b b T p f n l _ HR.out HA.out hT).mono ?_
  rintro x w1 ⟨s, q, q2, rfl, hs, hat, hat2, hr, hg⟩
  have HS := Lib.hid hs
  have HM := Lib.hid hat
  have HM2 := Lib.hid hat2
  have HR2 := Lib.hid hr
  have HG := Lib.hid hg
  have HW1 := Lib.hid (HW.out.grown hg hb0)
  have hcb : catB (wd isL l) = 1 := by rw [HC.out]; decide
  obtain rfl : s = ⟨#[111, 110, 101]⟩ := byte_of (by rw [hs]; exact HC.out)
  have rf := hr.cf 4
  have rf2 : w1.cell? ⟨b, 4, none⟩ = some (.bool false) := by rw [← hk]; exact rf
  have rz := hr.z 4
  have rl := hr.lt
  have HN : Hid (catP seen l = .ok 1 (wdR isL l)) := Lib.hid (by unfold catP; rw [hcb, if_neg (by decide), if_neg (by rw [← hf 1 (by decide), hk]; decide)])
  clear hs hat hat2 hr hg HR HA rf hcb hk
  go_wp2_with fail
  with_reducible refine (catOf_1 _ HW1.out).mono ?_
  rintro x wz ⟨rfl, rfl⟩
  go_wp2
  go_ret
  show ToldN _ _ _ _ _ _ (catP seen l) _ _
  rw [HN.out]
  exact ⟨_, q2, rfl, rfl, HM2.out, BoxT.set HR2.out 4 (.bool true), grown_set HG.out 4 _⟩

set_option maxRecDepth 100000 in
set_option maxHeartbeats 1600000 in
theorem cat_2t (seen : List Nat) (b : Nat) (T : ByteArray) (p : Nat) (f : Nat → Bool) (n : Nat) (l : List UInt8) (w : World) (h : Rd w b T p f n) (ha : At T p l) (hT : T.size ≤ 1000000) (hw : Wds w) (hb0 : 0 < b) (hf : ∀ i, i < 6 → f i = seen.contains i) (hc : wd isL l = [116, 119, 111]) (hk : f 2 = true) :
    Calls Tryz.prog 78 #[.pointer (some ⟨b, 0, none⟩)] w (ToldN b T (fun c i => if i = c then true else f i) (fun _ => n) w (fun _ c v => v = .int .i64 ((c : Nat) : Int)) (catP seen l)) := by
  have HR := Lib.hid h
  have HA := Lib.hid ha
  have HW := Lib.hid hw
  have HC := Lib.hid hc
  clear h ha hw hc
  go_enter Tryz.func78, Tryz.ntmps78
  go_wp2_with fail
  with_reducible refine (runL_b b T p f n l _ HR.out HA.out hT).mono ?_
  rintro x w1 ⟨s, q, q2, rfl, hs, hat, hat2, hr, hg⟩
  have HS := Lib.hid hs
  have HM := Lib.hid hat
  have HM2 := Lib.hid hat2
  have HR2 := Lib.hid hr
  have HG := Lib.hid hg
  have HW1 := Lib.hid (HW.out.grown hg hb0)
  have hcb : catB (wd isL l) = 2 := by rw [HC.out]; decide
  obtain rfl : s = ⟨#[116, 119, 111]⟩ := byte_of (by rw [hs]; exact HC.out)
  have rf := hr.cf 5
  have rf2 : w1.cell? ⟨b, 5, none⟩ = some (.bool true) := by rw [← hk]; exact rf
  have rz := hr.z 5
  have rl := hr.lt
  have HN : Hid (catP seen l = .bad 7 (sk l)) := Lib.hid (by unfold catP; rw [hcb, if_neg (by decide), if_pos (by rw [← hf 2 (by decide)]; exact hk)])
  clear hs hat hat2 hr hg HR HA rf hcb hk
  go_wp2_with fail
  with_reducible refine (catOf_2 _ HW1.out).mono ?_
  rintro x wz ⟨rfl, rfl⟩
  go_wp2_with fail
  with_reducible refine (giveUp_as 7 q _).mono ?_
  rintro x wz ⟨rfl, rfl⟩
  go_wp2
  refine ⟨rfl, ?_⟩
  show ToldN _ _ _ _ _ _ (catP seen l) _ _
  rw [HN.out]
  exact ⟨q, rfl, HM.out, HG.out⟩

set_option maxRecDepth 100000 in
set_option maxHeartbeats 1600000 in
theorem cat_2f (seen : List Nat) (b : Nat) (T : ByteArray) (p : Nat) (f : Nat → Bool) (n : Nat) (l : List UInt8) (w : World) (h : Rd w b T p f n) (ha : At T p l) (hT : T.size ≤ 1000000) (hw : Wds w) (hb0 : 0 < b) (hf : ∀ i, i < 6 → f i = seen.contains i) (hc : wd isL l = [116, 119, 111]) (hk : f 2 = false) :
    Calls Tryz.prog 78 #[.pointer (some ⟨b, 0, none⟩)] w (ToldN b T (fun c i => if i = c then true else f i) (fun _ => n) w (fun _ c v => v = .int .i64 ((c : Nat) : Int)) (catP seen l)) := by
  have HR := Lib.hid h
  have HA := Lib.hid ha
  have HW := Lib.hid hw
  have HC := Lib.hid hc
  clear h ha hw hc
  go_enter Tryz.func78, Tryz.ntmps78
  go_wp2_with fail
  with_reducible refine (runL_b b T p f n l _ HR.out HA.out hT).mono ?_
  rintro x w1 ⟨s, q, q2, rfl, hs, hat, hat2, hr, hg⟩
  have HS := Lib.hid hs
  have HM := Lib.hid hat
  have HM2 := Lib.hid hat2
  have HR2 := Lib.hid hr
  have HG := Lib.hid hg
  have HW1 := Lib.hid (HW.out.grown hg hb0)
  have hcb : catB (wd isL l) = 2 := by rw [HC.out]; decide
  obtain rfl : s = ⟨#[116, 119, 111]⟩ := byte_of (by rw [hs]; exact HC.out)
  have rf := hr.cf 5
  have rf2 : w1.cell? ⟨b, 5, none⟩ = some (.bool false) := by rw [← hk]; exact rf
  have rz := hr.z 5
  have rl := hr.lt
  have HN : Hid (catP seen l = .ok 2 (wdR isL l)) := Lib.hid (by unfold catP; rw [hcb, if_neg (by decide), if_neg (by rw [← hf 2 (by decide), hk]; decide)])
  clear hs hat hat2 hr hg HR HA rf hcb hk
  go_wp2_with fail
  with_reducible refine (catOf_2 _ HW1.out).mono ?_
  rintro x wz ⟨rfl, rfl⟩
  go_wp2
  go_ret
  show ToldN _ _ _ _ _ _ (catP seen l) _ _
  rw [HN.out]
  exact ⟨_, q2, rfl, rfl, HM2.out, BoxT.set HR2.out 5 (.bool true), grown_set HG.out 5 _⟩

set_option maxRecDepth 100000 in
set_option maxHeartbeats 1600000 in
theorem cat_3t (seen : List Nat) (b : Nat) (T : ByteArray) (p : Nat) (f : Nat → Bool) (n : Nat) (l : List UInt8) (w : World) (h : Rd w b T p f n) (ha : At T p l) (hT : T.size ≤ 1000000) (hw : Wds w) (hb0 : 0 < b) (hf : ∀ i, i < 6 → f i = seen.contains i) (hc : wd isL l = [102, 101, 119]) (hk : f 3 = true) :
    Calls Tryz.prog 78 #[.pointer (some ⟨b, 0, none⟩)] w (ToldN b T (fun c i => if i = c then true else f i) (fun _ => n) w (fun _ c v => v = .int .i64 ((c : Nat) : Int)) (catP seen l)) := by
  have HR := Lib.hid h
  have HA := Lib.hid ha
  have HW := Lib.hid hw
  have HC := Lib.hid hc
  clear h ha hw hc
  go_enter Tryz.func78, Tryz.ntmps78
  go_wp2_with fail
  with_reducible refine (runL_b b T p f n l _ HR.out HA.out hT).mono ?_
  rintro x w1 ⟨s, q, q2, rfl, hs, hat, hat2, hr, hg⟩
  have HS := Lib.hid hs
  have HM := Lib.hid hat
  have HM2 := Lib.hid hat2
  have HR2 := Lib.hid hr
  have HG := Lib.hid hg
  have HW1 := Lib.hid (HW.out.grown hg hb0)
  have hcb : catB (wd isL l) = 3 := by rw [HC.out]; decide
  obtain rfl : s = ⟨#[102, 101, 119]⟩ := byte_of (by rw [hs]; exact HC.out)
  have rf := hr.cf 6
  have rf2 : w1.cell? ⟨b, 6, none⟩ = some (.bool true) := by rw [← hk]; exact rf
  have rz := hr.z 6
  have rl := hr.lt
  have HN : Hid (catP seen l = .bad 7 (sk l)) := Lib.hid (by unfold catP; rw [hcb, if_neg (by decide), if_pos (by rw [← hf 3 (by decide)]; exact hk)])
  clear hs hat hat2 hr hg HR HA rf hcb hk
  go_wp2_with fail
  with_reducible refine (catOf_3 _ HW1.out).mono ?_
  rintro x wz ⟨rfl, rfl⟩
  go_wp2_with fail
  with_reducible refine (giveUp_as 7 q _).mono ?_
  rintro x wz ⟨rfl, rfl⟩
  go_wp2
  refine ⟨rfl, ?_⟩
  show ToldN _ _ _ _ _ _ (catP seen l) _ _
  rw [HN.out]
  exact ⟨q, rfl, HM.out, HG.out⟩

set_option maxRecDepth 100000 in
set_option maxHeartbeats 1600000 in
theorem cat_3f (seen : List Nat) (b : Nat) (T : ByteArray) (p : Nat) (f : Nat → Bool) (n : Nat) (l : List UInt8) (w : World) (h : Rd w b T p f n) (ha : At T p l) (hT : T.size ≤ 1000000) (hw : Wds w) (hb0 : 0 < b) (hf : ∀ i, i < 6 → f i = seen.contains i) (hc : wd isL l = [102, 101, 119]) (hk : f 3 = false) :
    Calls Tryz.prog 78 #[.pointer (some ⟨b, 0, none⟩)] w (ToldN b T (fun c i => if i = c then true else f i) (fun _ => n) w (fun _ c v => v = .int .i64 ((c : Nat) : Int)) (catP seen l)) := by
  have HR := Lib.hid h
  have HA := Lib.hid ha
  have HW := Lib.hid hw
  have HC := Lib.hid hc
  clear h ha hw hc
  go_enter Tryz.func78, Tryz.ntmps78
  go_wp2_with fail
  with_reducible refine (runL_b b T p f n l _ HR.out HA.out hT).mono ?_
  rintro x w1 ⟨s, q, q2, rfl, hs, hat, hat2, hr, hg⟩
  have HS := Lib.hid hs
  have HM := Lib.hid hat
  have HM2 := Lib.hid hat2
  have HR2 := Lib.hid hr
  have HG := Lib.hid hg
  have HW1 := Lib.hid (HW.out.grown hg hb0)
  have hcb : catB (wd isL l) = 3 := by rw [HC.out]; decide
  obtain rfl : s = ⟨#[102, 101, 119]⟩ := byte_of (by rw [hs]; exact HC.out)
  have rf := hr.cf 6
  have rf2 : w1.cell? ⟨b, 6, none⟩ = some (.bool false) := by rw [← hk]; exact rf
  have rz := hr.z 6
  have rl := hr.lt
  have HN : Hid (catP seen l = .ok 3 (wdR isL l)) := Lib.hid (by unfold catP; rw [hcb, if_neg (by decide), if_neg (by rw [← hf 3 (by decide), hk]; decide)])
  clear hs hat hat2 hr hg HR HA rf hcb hk
  go_wp2_with fail
  with_reducible refine (catOf_3 _ HW1.out).mono ?_
  rintro x wz ⟨rfl, rfl⟩
  go_wp2
  go_ret
  show ToldN _ _ _ _ _ _ (catP seen l) _ _
  rw [HN.out]
  exact ⟨_, q2, rfl, rfl, HM2.out, BoxT.set HR2.out 6 (.bool true), grown_set HG.out 6 _⟩

set_option maxRecDepth 100000 in
set_option maxHeartbeats 1600000 in
theorem cat_4t (seen : List Nat) (b : Nat) (T : ByteArray) (p : Nat) (f : Nat → Bool) (n : Nat) (l : List UInt8) (w : World) (h : Rd w b T p f n) (ha : At T p l) (hT : T.size ≤ 1000000) (hw : Wds w) (hb0 : 0 < b) (hf : ∀ i, i < 6 → f i = seen.contains i) (hc : wd isL l = [109, 97, 110, 121]) (hk : f 4 = true) :
    Calls Tryz.prog 78 #[.pointer (some ⟨b, 0, none⟩)] w (ToldN b T (fun c i => if i = c then true else f i) (fun _ => n) w (fun _ c v => v = .int .i64 ((c : Nat) : Int)) (catP seen l)) := by
  have HR := Lib.hid h
  have HA := Lib.hid ha
  have HW := Lib.hid hw
  have HC := Lib.hid hc
  clear h ha hw hc
  go_enter Tryz.func78, Tryz.ntmps78
  go_wp2_with fail
  with_reducible refine (runL_b b T p f n l _ HR.out HA.out hT).mono ?_
  rintro x w1 ⟨s, q, q2, rfl, hs, hat, hat2, hr, hg⟩
  have HS := Lib.hid hs
  have HM := Lib.hid hat
  have HM2 := Lib.hid hat2
  have HR2 := Lib.hid hr
  have HG := Lib.hid hg
  have HW1 := Lib.hid (HW.out.grown hg hb0)
  have hcb : catB (wd isL l) = 4 := by rw [HC.out]; decide
  obtain rfl : s = ⟨#[109, 97, 110, 121]⟩ := byte_of (by rw [hs]; exact HC.out)
  have rf := hr.cf 7
  have rf2 : w1.cell? ⟨b, 7, none⟩ = some (.bool true) := by rw [← hk]; exact rf
  have rz := hr.z 7
  have rl := hr.lt
  have HN : Hid (catP seen l = .bad 7 (sk l)) := Lib.hid (by unfold catP; rw [hcb, if_neg (by decide), if_pos (by rw [← hf 4 (by decide)]; exact hk)])
  clear hs hat hat2 hr hg HR HA rf hcb hk
  go_wp2_with fail
  with_reducible refine (catOf_4 _ HW1.out).mono ?_
  rintro x wz ⟨rfl, rfl⟩
  go_wp2_with fail
  with_reducible refine (giveUp_as 7 q _).mono ?_
  rintro x wz ⟨rfl, rfl⟩
  go_wp2
  refine ⟨rfl, ?_⟩
  show ToldN _ _ _ _ _ _ (catP seen l) _ _
  rw [HN.out]
  exact ⟨q, rfl, HM.out, HG.out⟩

set_option maxRecDepth 100000 in
set_option maxHeartbeats 1600000 in
theorem cat_4f (seen : List Nat) (b : Nat) (T : ByteArray) (p : Nat) (f : Nat → Bool) (n : Nat) (l : List UInt8) (w : World) (h : Rd w b T p f n) (ha : At T p l) (hT : T.size ≤ 1000000) (hw : Wds w) (hb0 : 0 < b) (hf : ∀ i, i < 6 → f i = seen.contains i) (hc : wd isL l = [109, 97, 110, 121]) (hk : f 4 = false) :
    Calls Tryz.prog 78 #[.pointer (some ⟨b, 0, none⟩)] w (ToldN b T (fun c i => if i = c then true else f i) (fun _ => n) w (fun _ c v => v = .int .i64 ((c : Nat) : Int)) (catP seen l)) := by
  have HR := Lib.hid h
  have HA := Lib.hid ha
  have HW := Lib.hid hw
  have HC := Lib.hid hc
  clear h ha hw hc
  go_enter Tryz.func78, Tryz.ntmps78
  go_wp2_with fail
  with_reducible refine (runL_b b T p f n l _ HR.out HA.out hT).mono ?_
  rintro x w1 ⟨s, q, q2, rfl, hs, hat, hat2, hr, hg⟩
  have HS := Lib.hid hs
  have HM := Lib.hid hat
  have HM2 := Lib.hid hat2
  have HR2 := Lib.hid hr
  have HG := Lib.hid hg
  have HW1 := Lib.hid (HW.out.grown hg hb0)
  have hcb : catB (wd isL l) = 4 := by rw [HC.out]; decide
  obtain rfl : s = ⟨#[109, 97, 110, 121]⟩ := byte_of (by rw [hs]; exact HC.out)
  have rf := hr.cf 7
  have rf2 : w1.cell? ⟨b, 7, none⟩ = some (.bool false) := by rw [← hk]; exact rf
  have rz := hr.z 7
  have rl := hr.lt
  have HN : Hid (catP seen l = .ok 4 (wdR isL l)) := Lib.hid (by unfold catP; rw [hcb, if_neg (by decide), if_neg (by rw [← hf 4 (by decide), hk]; decide)])
  clear hs hat hat2 hr hg HR HA rf hcb hk
  go_wp2_with fail
  with_reducible refine (catOf_4 _ HW1.out).mono ?_
  rintro x wz ⟨rfl, rfl⟩
  go_wp2
  go_ret
  show ToldN _ _ _ _ _ _ (catP seen l) _ _
  rw [HN.out]
  exact ⟨_, q2, rfl, rfl, HM2.out, BoxT.set HR2.out 7 (.bool true), grown_set HG.out 7 _⟩

set_option maxRecDepth 100000 in
set_option maxHeartbeats 1600000 in
theorem cat_5t (seen : List Nat) (b : Nat) (T : ByteArray) (p : Nat) (f : Nat → Bool) (n : Nat) (l : List UInt8) (w : World) (h : Rd w b T p f n) (ha : At T p l) (hT : T.size ≤ 1000000) (hw : Wds w) (hb0 : 0 < b) (hf : ∀ i, i < 6 → f i = seen.contains i) (hc : wd isL l = [111, 116, 104, 101, 114]) (hk : f 5 = true) :
    Calls Tryz.prog 78 #[.pointer (some ⟨b, 0, none⟩)] w (ToldN b T (fun c i => if i = c then true else f i) (fun _ => n) w (fun _ c v => v = .int .i64 ((c : Nat) : Int)) (catP seen l)) := by
  have HR := Lib.hid h
  have HA := Lib.hid ha
  have HW := Lib.hid hw
  have HC := Lib.hid hc
  clear h ha hw hc
  go_enter Tryz.func78, Tryz.ntmps78
  go_wp2_with fail
  with_reducible refine (runL_b b T p f n l _ HR.out HA.out hT).mono ?_
  rintro x w1 ⟨s, q, q2, rfl, hs, hat, hat2, hr, hg⟩
  have HS := Lib.hid hs
  have HM := Lib.hid hat
  have HM2 := Lib.hid hat2
  have HR2 := Lib.hid hr
  have HG := Lib.hid hg
  have HW1 := Lib.hid (HW.out.grown hg hb0)
  have hcb : catB (wd isL l) = 5 := by rw [HC.out]; decide
  obtain rfl : s = ⟨#[111, 116, 104, 101, 114]⟩ := byte_of (by rw [hs]; exact HC.out)
  have rf := hr.cf 8
  have rf2 : w1.cell? ⟨b, 8, none⟩ = some (.bool true) := by rw [← hk]; exact rf
  have rz := hr.z 8
  have rl := hr.lt
  have HN : Hid (catP seen l = .bad 7 (sk l)) := Lib.hid (by unfold catP; rw [hcb, if_neg (by decide), if_pos (by rw [← hf 5 (by decide)]; exact hk)])
  clear hs hat hat2 hr hg HR HA rf hcb hk
  go_wp2_with fail
  with_reducible refine (catOf_5 _ HW1.out).mono ?_
  rintro x wz ⟨rfl, rfl⟩
  go_wp2_with fail
  with_reducible refine (giveUp_as 7 q _).mono ?_
  rintro x wz ⟨rfl, rfl⟩
  go_wp2
  refine ⟨rfl, ?_⟩
  show ToldN _ _ _ _ _ _ (catP seen l) _ _
  rw [HN.out]
  exact ⟨q, rfl, HM.out, HG.out⟩

set_option maxRecDepth 100000 in
set_option maxHeartbeats 1600000 in
theorem cat_5f (seen : List Nat) (b : Nat) (T : ByteArray) (p : Nat) (f : Nat → Bool) (n : Nat) (l : List UInt8) (w : World) (h : Rd w b T p f n) (ha : At T p l) (hT : T.size ≤ 1000000) (hw : Wds w) (hb0 : 0 < b) (hf : ∀ i, i < 6 → f i = seen.contains i) (hc : wd isL l = [111, 116, 104, 101, 114]) (hk : f 5 = false) :
    Calls Tryz.prog 78 #[.pointer (some ⟨b, 0, none⟩)] w (ToldN b T (fun c i => if i = c then true else f i) (fun _ => n) w (fun _ c v => v = .int .i64 ((c : Nat) : Int)) (catP seen l)) := by
  have HR := Lib.hid h
  have HA := Lib.hid ha
  have HW := Lib.hid hw
  have HC := Lib.hid hc
  clear h ha hw hc
  go_enter Tryz.func78, Tryz.ntmps78
  go_wp2_with fail
  with_reducible refine (runL_b b T p f n l _ HR.out HA.out hT).mono ?_
  rintro x w1 ⟨s, q, q2, rfl, hs, hat, hat2, hr, hg⟩
  have HS := Lib.hid hs
  have HM := Lib.hid hat
  have HM2 := Lib.hid hat2
  have HR2 := Lib.hid hr
  have HG := Lib.hid hg
  have HW1 := Lib.hid (HW.out.grown hg hb0)
  have hcb : catB (wd isL l) = 5 := by rw [HC.out]; decide
  obtain rfl : s = ⟨#[111, 116, 104, 101, 114]⟩ := byte_of (by rw [hs]; exact HC.out)
  have rf := hr.cf 8
  have rf2 : w1.cell? ⟨b, 8, none⟩ = some (.bool false) := by rw [← hk]; exact rf
  have rz := hr.z 8
  have rl := hr.lt
  have HN : Hid (catP seen l = .ok 5 (wdR isL l)) := Lib.hid (by unfold catP; rw [hcb, if_neg (by decide), if_neg (by rw [← hf 5 (by decide), hk]; decide)])
  clear hs hat hat2 hr hg HR HA rf hcb hk
  go_wp2_with fail
  with_reducible refine (catOf_5 _ HW1.out).mono ?_
  rintro x wz ⟨rfl, rfl⟩
  go_wp2
  go_ret
  show ToldN _ _ _ _ _ _ (catP seen l) _ _
  rw [HN.out]
  exact ⟨_, q2, rfl, rfl, HM2.out, BoxT.set HR2.out 8 (.bool true), grown_set HG.out 8 _⟩

theorem cat_as (seen : List Nat) (b : Nat) (T : ByteArray) (p : Nat) (f : Nat → Bool) (n : Nat) (l : List UInt8) (w : World) (h : Rd w b T p f n) (ha : At T p l) (hT : T.size ≤ 1000000) (hw : Wds w) (hb0 : 0 < b) (hf : ∀ i, i < 6 → f i = seen.contains i) :
    Calls Tryz.prog 78 #[.pointer (some ⟨b, 0, none⟩)] w (ToldN b T (fun c i => if i = c then true else f i) (fun _ => n) w (fun _ c v => v = .int .i64 ((c : Nat) : Int)) (catP seen l)) := by
  by_cases h0 : wd isL l = [122, 101, 114, 111]
  · cases hk : f 0 with
    | true => exact cat_0t seen b T p f n l w h ha hT hw hb0 hf h0 hk
    | false => exact cat_0f seen b T p f n l w h ha hT hw hb0 hf h0 hk
  by_cases h1 : wd isL l = [111, 110, 101]
  · cases hk : f 1 with
    | true => exact cat_1t seen b T p f n l w h ha hT hw hb0 hf h1 hk
    | false => exact cat_1f seen b T p f n l w h ha hT hw hb0 hf h1 hk
  by_cases h2 : wd isL l = [116, 119, 111]
  · cases hk : f 2 with
    | true => exact cat_2t seen b T p f n l w h ha hT hw hb0 hf h2 hk
    | false => exact cat_2f seen b T p f n l w h ha hT hw hb0 hf h2 hk
  by_cases h3 : wd isL l = [102, 101, 119]
  · cases hk : f 3 with
    | true => exact cat_3t seen b T p f n l w h ha hT hw hb0 hf h3 hk
    | false => exact cat_3f seen b T p f n l w h ha hT hw hb0 hf h3 hk
  by_cases h4 : wd isL l = [109, 97, 110, 121]
  · cases hk : f 4 with
    | true => exact cat_4t seen b T p f n l w h ha hT hw hb0 hf h4 hk
    | false => exact cat_4f seen b T p f n l w h ha hT hw hb0 hf h4 hk
  by_cases h5 : wd isL l = [111, 116, 104, 101, 114]
  · cases hk : f 5 with
    | true => exact cat_5t seen b T p f n l w h ha hT hw hb0 hf h5 hk
    | false => exact cat_5f seen b T p f n l w h ha hT hw hb0 hf h5 hk
  refine cat_no seen b T p f n l w h ha hT hw hb0 hf ?_
  unfold catB wordB
  rw [List.idxOf_eq_length]
  · rfl
  · simp [h0, h1, h2, h3, h4, h5]

theorem trimS (s : ByteArray) (w : World) (hs : s.size ≤ 1000000) : Calls Tryz.prog 70 #[.string s, .string ⟨#[32]⟩] w fun e w' => e = .returned (S (rtB s.data.toList)) ∧ w = w' :=
  (Tryz.strings_TrimRight_one s 32 (by decide) w (by omega)).mono fun e w' ⟨he, hw⟩ => ⟨he, hw.symm⟩

theorem pre_wd (l : List UInt8) : pre [64] (wd isSm l) = pre [64] (sk l) := by
  unfold wd
  cases h : sk l with
  | nil => rfl
  | cons c t =>
    by_cases h2 : c = 59
    · subst h2; rfl
    · have : isSm c = true := by unfold isSm; simpa using h2
      rw [List.takeWhile_cons, this]; simp [pre, List.isPrefixOf]

set_option maxRecDepth 100000 in
set_option maxHeartbeats 1600000 in
theorem smp_true (b : Nat) (T : ByteArray) (p : Nat) (f : Nat → Bool) (n : Nat) (l : List UInt8) (w : World) (h : Rd w b T p f n) (ha : At T p l) (hT : T.size ≤ 1000000) (hk : pre [64] (sk l) = true) :
    Calls Tryz.prog 80 #[.pointer (some ⟨b, 0, none⟩)] w fun e w' => ∃ q, e = .returned (S (smpP l)) ∧ At T q (smpR l) ∧ Rd w' b T q f n ∧ w.grownBy w' (some b) := by
  have HR := Lib.hid h
  have HA := Lib.hid ha
  have HK := Lib.hid hk
  clear h ha hk
  go_enter Tryz.func80, Tryz.ntmps80
  go_wp2_with fail
  with_reducible refine (ahS_b b T p f n l _ HR.out HA.out hT).mono ?_
  rintro x w1 ⟨s, q, rfl, hs, hat, hr, hg⟩
  have HS := Lib.hid hs
  have HM := Lib.hid hat
  have HR2 := Lib.hid hr
  have HG := Lib.hid hg
  clear hs hat hr hg HR HA
  go_wp2_with fail
  with_reducible refine (hasP s [64] true _ (by rw [HS.out, pre_wd]; exact HK.out)).mono ?_
  rintro x wz ⟨rfl, rfl⟩
  go_wp2_with fail
  with_reducible refine (runS_b b T q f n (sk l) _ HR2.out HM.out hT).mono ?_
  rintro x w2 ⟨s2, q1, q2, rfl, hs, hat, hat2, hr, hg⟩
  have HS2 := Lib.hid hs
  have HM2 := Lib.hid hat2
  have HR3 := Lib.hid hr
  have HG3 := Lib.hid (grown_trans HG.out hg)
  have hsz : s2.size ≤ 1000000 := by
    rw [← size_list, hs]
    have h1 : (wd isSm (sk l)).length ≤ (sk (sk l)).length := (List.takeWhile_prefix _).length_le
    have h2 := hat.len
    omega
  clear hs hat hat2 hr hg
  go_wp2_with fail
  with_reducible refine (trimS s2 _ hsz).mono ?_
  rintro x wz ⟨rfl, rfl⟩
  go_wp2
  go_ret
  refine ⟨q2, ?_, ?_, HR3.out, HG3.out⟩
  · unfold smpP; rw [if_pos HK.out, HS2.out, wdB_sk]; rfl
  · unfold smpR; rw [if_pos HK.out]; have h1 := HM2.out; rw [wdRB_sk] at h1; exact h1

set_option maxRecDepth 100000 in
set_option maxHeartbeats 1600000 in
theorem smp_false (b : Nat) (T : ByteArray) (p : Nat) (f : Nat → Bool) (n : Nat) (l : List UInt8) (w : World) (h : Rd w b T p f n) (ha : At T p l) (hT : T.size ≤ 1000000) (hk : pre [64] (sk l) = false) :
    Calls Tryz.prog 80 #[.pointer (some ⟨b, 0, none⟩)] w fun e w' => ∃ q, e = .returned (S (smpP l)) ∧ At T q (smpR l) ∧ Rd w' b T q f n ∧ w.grownBy w' (some b) := by
  have HR := Lib.hid h
  have HA := Lib.hid ha
  have HK := Lib.hid hk
  clear h ha hk
  go_enter Tryz.func80, Tryz.ntmps80
  go_wp2_with fail
  with_reducible refine (ahS_b b T p f n l _ HR.out HA.out hT).mono ?_
  rintro x w1 ⟨s, q, rfl, hs, hat, hr, hg⟩
  have HS := Lib.hid hs
  have HM := Lib.hid hat
  have HR2 := Lib.hid hr
  have HG := Lib.hid hg
  clear hs hat hr hg HR HA
  go_wp2_with fail
  with_reducible refine (hasP s [64] false _ (by rw [HS.out, pre_wd]; exact HK.out)).mono ?_
  rintro x wz ⟨rfl, rfl⟩
  go_wp2
  go_ret
  exact ⟨q, by unfold smpP; rw [if_neg (by rw [HK.out]; decide)]; rfl, by unfold smpR; rw [if_neg (by rw [HK.out]; decide)]; exact HM.out, HR2.out, HG.out⟩

theorem smp_as (b : Nat) (T : ByteArray) (p : Nat) (f : Nat → Bool) (n : Nat) (l : List UInt8) (w : World) (h : Rd w b T p f n) (ha : At T p l) (hT : T.size ≤ 1000000) :
    Calls Tryz.prog 80 #[.pointer (some ⟨b, 0, none⟩)] w fun e w' => ∃ q, e = .returned (S (smpP l)) ∧ At T q (smpR l) ∧ Rd w' b T q f n ∧ w.grownBy w' (some b) := by
  cases hk : pre [64] (sk l) with
  | true => exact smp_true b T p f n l w h ha hT hk
  | false => exact smp_false b T p f n l w h ha hT hk
end Go.Proofs.YtkjhdehpcanciaaGreatDoor

namespace Go.Proofs.YtkjhdehpcanciaaGreatDoor
open Go.RowKit Florin
set_option linter.unusedVariables false
set_option linter.unusedSimpArgs false
attribute [local go_sem ↓] Go.wp_at_zero Go.wp_at_succ

theorem condL_n : ∀ (k n : Nat) (acc : List (List RelT)) (l r : List UInt8) (x : List (List RelT)), n ≤ 200 → condL k n acc l = .ok x r → n + count x ≤ 200 + count acc
  | 0, _, _, _, _, _, _, h => by cases h
  | k + 1, n, acc, l, r, x, hn, h => by
    unfold condL at h
    split at h
    · split at h
      · cases h
      · rename_i h2
        have a3 := all_n hn h2
        have a4 := condL_n k _ _ _ _ _ (by omega) h
        rw [count_snoc] at a4
        omega
    · cases h; omega
theorem cond_n {n : Nat} {l r : List UInt8} {x : List (List RelT)} (hn : n ≤ 200) (h : condP n l = .ok x r) : n + count x ≤ 200 := by
  unfold condP at h
  split at h
  · cases h
  · rename_i h1
    have a1 := all_n hn h1
    have a2 := condL_n _ _ _ _ _ _ (by omega) h
    rw [count_one] at a2
    omega
theorem CondAt.monoB {w : World} {base base' : Nat} {xs : List (List RelT)} {v : Value} (h : CondAt w base xs v) (hb : base' ≤ base) : CondAt w base' xs v := by
  obtain ⟨cs, h1, h2⟩ := h; exact ⟨cs, own_mono h1 hb, h2⟩

set_option maxRecDepth 100000 in
set_option maxHeartbeats 3200000 in
theorem rule_b1 (e : Int) (re : List UInt8) (seen : List Nat) (b : Nat) (T : ByteArray) (p : Nat) (f : Nat → Bool) (n : Nat) (l : List UInt8) (w : World) (h : Rd w b T p f n) (ha : At T p l) (hT : T.size ≤ 1000000) (hn : n ≤ 200) (hw : Wds w) (hb0 : 0 < b) (hf : ∀ i, i < 6 → f i = seen.contains i) (hC : catP seen l = .bad e re) :
    Calls Tryz.prog 57 #[.pointer (some ⟨b, 0, none⟩)] w (ToldN b T (fun (x : RuleT) i => if i = x.cat then true else f i) (fun x => n + count x.any) w (fun w' x v => ∃ u, v = .agg #[.int .i64 ((x.cat : Nat) : Int), u, S x.smp] ∧ CondAt w' w.heap.size x.any u) (ruleP seen n l)) := by
  have R0 := Lib.hid h
  have A0 := Lib.hid ha
  have HW := Lib.hid hw
  have HhC := Lib.hid hC
  have HX : Hid (ruleP seen n l = .bad e re) := Lib.hid (by unfold ruleP; rw [hC])
  clear h ha hw hC
  go_enter Tryz.func57, Tryz.ntmps57
  go_wp2_with fail
  with_reducible refine (cat_as seen b T p f n l _ (R0.out.alloc _) A0.out hT (HW.out.below (Below.alloc (Below.refl _ _) (Nat.le_refl _) _)) hb0 hf).mono ?_
  intro x w1 ht
  rw [HhC.out] at ht
  obtain ⟨qe, rfl, hat, hg⟩ := ht
  have HGE := Lib.hid (HeldR.keep (HeldR.alloc (HeldR.refl R0.out.lt) (w.heap.size) #[.int .i64 0, .slice none 0 0, .string ⟨#[]⟩] 39 (by first | rfl | simp)) hg).gr
  have HAE := Lib.hid hat
  clear hat hg
  go_wp2
  refine ⟨rfl, ?_⟩
  show ToldN _ _ _ _ _ _ (ruleP seen n l) _ _
  rw [HX.out]
  exact ⟨qe, rfl, HAE.out, HGE.out⟩

set_option maxRecDepth 100000 in
set_option maxHeartbeats 3200000 in
theorem rule_b2 (c : Nat) (r0 : List UInt8) (seen : List Nat) (b : Nat) (T : ByteArray) (p : Nat) (f : Nat → Bool) (n : Nat) (l : List UInt8) (w : World) (h : Rd w b T p f n) (ha : At T p l) (hT : T.size ≤ 1000000) (hn : n ≤ 200) (hw : Wds w) (hb0 : 0 < b) (hf : ∀ i, i < 6 → f i = seen.contains i) (hC : catP seen l = .ok c r0) (hk : tk [58] r0 = false) :
    Calls Tryz.prog 57 #[.pointer (some ⟨b, 0, none⟩)] w (ToldN b T (fun (x : RuleT) i => if i = x.cat then true else f i) (fun x => n + count x.any) w (fun w' x v => ∃ u, v = .agg #[.int .i64 ((x.cat : Nat) : Int), u, S x.smp] ∧ CondAt w' w.heap.size x.any u) (ruleP seen n l)) := by
  have R0 := Lib.hid h
  have A0 := Lib.hid ha
  have HW := Lib.hid hw
  have HhC := Lib.hid hC
  have Hhk := Lib.hid hk
  have HX : Hid (ruleP seen n l = .bad 1 (tkR [58] r0)) := Lib.hid (by have hm : colonP r0 = .bad 1 (tkR [58] r0) := (by unfold colonP; rw [if_neg (by rw [hk]; decide)]); unfold ruleP; rw [hC]; simp only; rw [hm])
  clear h ha hw hC hk
  go_enter Tryz.func57, Tryz.ntmps57
  go_wp2_with fail
  with_reducible refine (cat_as seen b T p f n l _ (R0.out.alloc _) A0.out hT (HW.out.below (Below.alloc (Below.refl _ _) (Nat.le_refl _) _)) hb0 hf).mono ?_
  intro x w1 ht
  rw [HhC.out] at ht
  obtain ⟨v1, q1, rfl, hv, hat, hr, hg⟩ := ht
  obtain rfl := hv
  have H1 : Hid (HeldR w b [(w.heap.size, #[.int .i64 0, .slice none 0 0, .string ⟨#[]⟩], 39)] w1) := Lib.hid (HeldR.keep (HeldR.alloc (HeldR.refl R0.out.lt) (w.heap.size) #[.int .i64 0, .slice none 0 0, .string ⟨#[]⟩] 39 (by first | rfl | simp)) hg)
  have R1 := Lib.hid hr
  have A1 := Lib.hid hat
  clear hat hr hg
  have rc0 := R1.out.c0
  have rc1 := R1.out.c1
  have rc8 := R1.out.c8
  have rz1 := R1.out.z 1
  have rz8 := R1.out.z 9
  have rl := R1.out.lt
  go_wp2_with fail
  with_reducible refine (wants_false [58] b T _ (fun i => if i = c then true else f i) n r0 _ (R1.out.alloc _) A1.out hT Hhk.out).mono ?_
  rintro x w2 ⟨qe, rfl, hat, hg⟩
  have HGE := Lib.hid (HeldR.keep (HeldR.alloc H1.out (w1.heap.size) #[.int .i64 ((c : Nat) : Int), .slice none 0 0, .string ⟨#[]⟩] 39 (by first | rfl | simp)) hg).gr
  have HAE := Lib.hid hat
  clear hat hg
  clear rc0 rc1 rc8 rz1 rz8 rl
  go_wp2
  refine ⟨rfl, ?_⟩
  show ToldN _ _ _ _ _ _ (ruleP seen n l) _ _
  rw [HX.out]
  exact ⟨qe, rfl, HAE.out, HGE.out⟩

set_option maxRecDepth 100000 in
set_option maxHeartbeats 3200000 in
theorem rule_b3 (c : Nat) (r0 : List UInt8) (e : Int) (re : List UInt8) (seen : List Nat) (b : Nat) (T : ByteArray) (p : Nat) (f : Nat → Bool) (n : Nat) (l : List UInt8) (w : World) (h : Rd w b T p f n) (ha : At T p l) (hT : T.size ≤ 1000000) (hn : n ≤ 200) (hw : Wds w) (hb0 : 0 < b) (hf : ∀ i, i < 6 → f i = seen.contains i) (hC : catP seen l = .ok c r0) (hk : tk [58] r0 = true) (h5 : c ≠ 5) (hM : condP n (tkR [58] r0) = .bad e re) :
    Calls Tryz.prog 57 #[.pointer (some ⟨b, 0, none⟩)] w (ToldN b T (fun (x : RuleT) i => if i = x.cat then true else f i) (fun x => n + count x.any) w (fun w' x v => ∃ u, v = .agg #[.int .i64 ((x.cat : Nat) : Int), u, S x.smp] ∧ CondAt w' w.heap.size x.any u) (ruleP seen n l)) := by
  have R0 := Lib.hid h
  have A0 := Lib.hid ha
  have HW := Lib.hid hw
  have HhC := Lib.hid hC
  have Hhk := Lib.hid hk
  have Hh5 := Lib.hid h5
  have HhM := Lib.hid hM
  have HX : Hid (ruleP seen n l = .bad e re) := Lib.hid (by have hm : colonP r0 = .ok () (tkR [58] r0) := (by unfold colonP; rw [if_pos hk]); unfold ruleP; rw [hC]; simp only; rw [hm]; simp only; unfold bodyP; rw [if_neg h5, hM])
  clear h ha hw hC hk hM
  go_enter Tryz.func57, Tryz.ntmps57
  go_wp2_with fail
  with_reducible refine (cat_as seen b T p f n l _ (R0.out.alloc _) A0.out hT (HW.out.below (Below.alloc (Below.refl _ _) (Nat.le_refl _) _)) hb0 hf).mono ?_
  intro x w1 ht
  rw [HhC.out] at ht
  obtain ⟨v1, q1, rfl, hv, hat, hr, hg⟩ := ht
  obtain rfl := hv
  have H1 : Hid (HeldR w b [(w.heap.size, #[.int .i64 0, .slice none 0 0, .string ⟨#[]⟩], 39)] w1) := Lib.hid (HeldR.keep (HeldR.alloc (HeldR.refl R0.out.lt) (w.heap.size) #[.int .i64 0, .slice none 0 0, .string ⟨#[]⟩] 39 (by first | rfl | simp)) hg)
  have R1 := Lib.hid hr
  have A1 := Lib.hid hat
  clear hat hr hg
  have rc0 := R1.out.c0
  have rc1 := R1.out.c1
  have rc8 := R1.out.c8
  have rz1 := R1.out.z 1
  have rz8 := R1.out.z 9
  have rl := R1.out.lt
  go_wp2_with fail
  with_reducible refine (wants_true [58] b T _ (fun i => if i = c then true else f i) n r0 _ (R1.out.alloc _) A1.out hT Hhk.out).mono ?_
  rintro x w2 ⟨q2, rfl, hat, hr, hg⟩
  have H2 : Hid (HeldR w b [(w1.heap.size, #[.int .i64 ((c : Nat) : Int), .slice none 0 0, .string ⟨#[]⟩], 39), (w.heap.size, #[.int .i64 0, .slice none 0 0, .string ⟨#[]⟩], 39)] w2) := Lib.hid (HeldR.keep (HeldR.alloc H1.out (w1.heap.size) #[.int .i64 ((c : Nat) : Int), .slice none 0 0, .string ⟨#[]⟩] 39 (by first | rfl | simp)) hg)
  clear rc0 rc1 rc8 rz1 rz8 rl
  have R2 := Lib.hid hr
  have A2 := Lib.hid hat
  clear hat hr hg H1 R1 A1
  have by0 : w2.cell? ⟨w1.heap.size, 0, none⟩ = some (.int .i64 ((c : Nat) : Int)) := (H2.out.f (List.Mem.head _)).box.cell 0
  have byz0 : w2.frozen? ⟨w1.heap.size, 0, none⟩ = false := (H2.out.f (List.Mem.head _)).box.frozen 0
  have by1 : w2.cell? ⟨w1.heap.size, 1, none⟩ = some (.slice none 0 0) := (H2.out.f (List.Mem.head _)).box.cell 1
  have byz1 : w2.frozen? ⟨w1.heap.size, 1, none⟩ = false := (H2.out.f (List.Mem.head _)).box.frozen 1
  have by2 : w2.cell? ⟨w1.heap.size, 2, none⟩ = some (.string ⟨#[]⟩) := (H2.out.f (List.Mem.head _)).box.cell 2
  have byz2 : w2.frozen? ⟨w1.heap.size, 2, none⟩ = false := (H2.out.f (List.Mem.head _)).box.frozen 2
  have byl : w1.heap.size < w2.heap.size := (H2.out.f (List.Mem.head _)).box.lt
  have rc0 := R2.out.c0
  have rc1 := R2.out.c1
  have rc8 := R2.out.c8
  have rz1 := R2.out.z 1
  have rz8 := R2.out.z 9
  have rl := R2.out.lt
  have t5a : (((c : Nat) : Int) == 5) = false := by simp; omega
  have t5b : (((c : Nat) : Int) != 5) = true := by simp; omega
  go_wp2_with fail
  with_reducible refine (cond_as b T _ (fun i => if i = c then true else f i) n (tkR [58] r0) _ R2.out A2.out hT hn).mono ?_
  intro x w3 ht
  rw [HhM.out] at ht
  obtain ⟨qe, rfl, hat, hg⟩ := ht
  have HGE := Lib.hid (HeldR.keep H2.out hg).gr
  have HAE := Lib.hid hat
  clear hat hg
  clear by0 byz0 by1 byz1 by2 byz2 byl rc0 rc1 rc8 rz1 rz8 rl
  go_wp2
  refine ⟨rfl, ?_⟩
  show ToldN _ _ _ _ _ _ (ruleP seen n l) _ _
  rw [HX.out]
  exact ⟨qe, rfl, HAE.out, HGE.out⟩

set_option maxRecDepth 100000 in
set_option maxHeartbeats 3200000 in
theorem rule_o1 (c : Nat) (r0 : List UInt8) (xs : List (List RelT)) (r2 : List UInt8) (seen : List Nat) (b : Nat) (T : ByteArray) (p : Nat) (f : Nat → Bool) (n : Nat) (l : List UInt8) (w : World) (h : Rd w b T p f n) (ha : At T p l) (hT : T.size ≤ 1000000) (hn : n ≤ 200) (hw : Wds w) (hb0 : 0 < b) (hf : ∀ i, i < 6 → f i = seen.contains i) (hC : catP seen l = .ok c r0) (hk : tk [58] r0 = true) (h5 : c ≠ 5) (hM : condP n (tkR [58] r0) = .ok xs r2) :
    Calls Tryz.prog 57 #[.pointer (some ⟨b, 0, none⟩)] w (ToldN b T (fun (x : RuleT) i => if i = x.cat then true else f i) (fun x => n + count x.any) w (fun w' x v => ∃ u, v = .agg #[.int .i64 ((x.cat : Nat) : Int), u, S x.smp] ∧ CondAt w' w.heap.size x.any u) (ruleP seen n l)) := by
  have R0 := Lib.hid h
  have A0 := Lib.hid ha
  have HW := Lib.hid hw
  have HhC := Lib.hid hC
  have Hhk := Lib.hid hk
  have Hh5 := Lib.hid h5
  have HhM := Lib.hid hM
  have HX : Hid (ruleP seen n l = .ok ⟨c, xs, smpP r2⟩ (smpR r2)) := Lib.hid (by have hm : colonP r0 = .ok () (tkR [58] r0) := (by unfold colonP; rw [if_pos hk]); unfold ruleP; rw [hC]; simp only; rw [hm]; simp only; unfold bodyP; rw [if_neg h5, hM])
  clear h ha hw hC hk hM
  go_enter Tryz.func57, Tryz.ntmps57
  go_wp2_with fail
  with_reducible refine (cat_as seen b T p f n l _ (R0.out.alloc _) A0.out hT (HW.out.below (Below.alloc (Below.refl _ _) (Nat.le_refl _) _)) hb0 hf).mono ?_
  intro x w1 ht
  rw [HhC.out] at ht
  obtain ⟨v1, q1, rfl, hv, hat, hr, hg⟩ := ht
  obtain rfl := hv
  have H1 : Hid (HeldR w b [(w.heap.size, #[.int .i64 0, .slice none 0 0, .string ⟨#[]⟩], 39)] w1) := Lib.hid (HeldR.keep (HeldR.alloc (HeldR.refl R0.out.lt) (w.heap.size) #[.int .i64 0, .slice none 0 0, .string ⟨#[]⟩] 39 (by first | rfl | simp)) hg)
  have R1 := Lib.hid hr
  have A1 := Lib.hid hat
  clear hat hr hg
  have rc0 := R1.out.c0
  have rc1 := R1.out.c1
  have rc8 := R1.out.c8
  have rz1 := R1.out.z 1
  have rz8 := R1.out.z 9
  have rl := R1.out.lt
  go_wp2_with fail
  with_reducible refine (wants_true [58] b T _ (fun i => if i = c then true else f i) n r0 _ (R1.out.alloc _) A1.out hT Hhk.out).mono ?_
  rintro x w2 ⟨q2, rfl, hat, hr, hg⟩
  have H2 : Hid (HeldR w b [(w1.heap.size, #[.int .i64 ((c : Nat) : Int), .slice none 0 0, .string ⟨#[]⟩], 39), (w.heap.size, #[.int .i64 0, .slice none 0 0, .string ⟨#[]⟩], 39)] w2) := Lib.hid (HeldR.keep (HeldR.alloc H1.out (w1.heap.size) #[.int .i64 ((c : Nat) : Int), .slice none 0 0, .string ⟨#[]⟩] 39 (by first | rfl | simp)) hg)
  clear rc0 rc1 rc8 rz1 rz8 rl
  have R2 := Lib.hid hr
  have A2 := Lib.hid hat
  clear hat hr hg H1 R1 A1
  have by0 : w2.cell? ⟨w1.heap.size, 0, none⟩ = some (.int .i64 ((c : Nat) : Int)) := (H2.out.f (List.Mem.head _)).box.cell 0
  have byz0 : w2.frozen? ⟨w1.heap.size, 0, none⟩ = false := (H2.out.f (List.Mem.head _)).box.frozen 0
  have by1 : w2.cell? ⟨w1.heap.size, 1, none⟩ = some (.slice none 0 0) := (H2.out.f (List.Mem.head _)).box.cell 1
  have byz1 : w2.frozen? ⟨w1.heap.size, 1, none⟩ = false := (H2.out.f (List.Mem.head _)).box.frozen 1
  have by2 : w2.cell? ⟨w1.heap.size, 2, none⟩ = some (.string ⟨#[]⟩) := (H2.out.f (List.Mem.head _)).box.cell 2
  have byz2 : w2.frozen? ⟨w1.heap.size, 2, none⟩ = false := (H2.out.f (List.Mem.head _)).box.frozen 2
  have byl : w1.heap.size < w2.heap.size := (H2.out.f (List.Mem.head _)).box.lt
  have rc0 := R2.out.c0
  have rc1 := R2.out.c1
  have rc8 := R2.out.c8
  have rz1 := R2.out.z 1
  have rz8 := R2.out.z 9
  have rl := R2.out.lt
  have t5a : (((c : Nat) : Int) == 5) = false := by simp; omega
  have t5b : (((c : Nat) : Int) != 5) = true := by simp; omega
  go_wp2_with fail
  have HSZ := Lib.hid (H2.out).gr.size
  with_reducible refine (cond_as b T _ (fun i => if i = c then true else f i) n (tkR [58] r0) _ R2.out A2.out hT hn).mono ?_
  intro x w3 ht
  rw [HhM.out] at ht
  obtain ⟨v3, q3, rfl, hv, hat, hr, hg⟩ := ht
  have HV := Lib.hid hv
  clear hv
  have H3 : Hid (HeldR w b [(w1.heap.size, #[.int .i64 ((c : Nat) : Int), .slice none 0 0, .string ⟨#[]⟩], 39), (w.heap.size, #[.int .i64 0, .slice none 0 0, .string ⟨#[]⟩], 39)] w3) := Lib.hid (HeldR.keep H2.out hg)
  clear by0 byz0 by1 byz1 by2 byz2 byl rc0 rc1 rc8 rz1 rz8 rl
  have R3 := Lib.hid hr
  have A3 := Lib.hid hat
  clear hat hr hg H2 R2 A2
  have by0 : w3.cell? ⟨w1.heap.size, 0, none⟩ = some (.int .i64 ((c : Nat) : Int)) := (H3.out.f (List.Mem.head _)).box.cell 0
  have byz0 : w3.frozen? ⟨w1.heap.size, 0, none⟩ = false := (H3.out.f (List.Mem.head _)).box.frozen 0
  have by1 : w3.cell? ⟨w1.heap.size, 1, none⟩ = some (.slice none 0 0) := (H3.out.f (List.Mem.head _)).box.cell 1
  have byz1 : w3.frozen? ⟨w1.heap.size, 1, none⟩ = false := (H3.out.f (List.Mem.head _)).box.frozen 1
  have by2 : w3.cell? ⟨w1.heap.size, 2, none⟩ = some (.string ⟨#[]⟩) := (H3.out.f (List.Mem.head _)).box.cell 2
  have byz2 : w3.frozen? ⟨w1.heap.size, 2, none⟩ = false := (H3.out.f (List.Mem.head _)).box.frozen 2
  have byl : w1.heap.size < w3.heap.size := (H3.out.f (List.Mem.head _)).box.lt
  have rc0 := R3.out.c0
  have rc1 := R3.out.c1
  have rc8 := R3.out.c8
  have rz1 := R3.out.z 1
  have rz8 := R3.out.z 9
  have rl := R3.out.lt
  have HV2 := HV.out
  obtain ⟨csx, hox, hlx⟩ := HV2
  obtain ⟨sa, sn, sc, hsv⟩ := own_slice hox
  subst hsv
  clear hox hlx
  have OW3 : Hid (CondAt w3 w.heap.size xs (.slice sa sn sc)) := Lib.hid (CondAt.monoB HV.out HSZ.out)
  clear HV HSZ
  go_wp2_with fail
  clear by0 byz0 by1 byz1 by2 byz2 byl rc0 rc1 rc8 rz1 rz8 rl
  have H4 : Hid (HeldR w b [(w1.heap.size, #[.int .i64 ((c : Nat) : Int), .slice sa sn sc, .string ⟨#[]⟩], 39), (w.heap.size, #[.int .i64 0, .slice none 0 0, .string ⟨#[]⟩], 39)] (w3.setCell ⟨w1.heap.size, 1, none⟩ (.slice sa sn sc))) := Lib.hid (HeldR.set1 (L1 := []) (L2 := [(w.heap.size, #[.int .i64 0, .slice none 0 0, .string ⟨#[]⟩], 39)]) H3.out 1 (.slice sa sn sc))
  have R4 := Lib.hid (R3.out.other (a := ⟨w1.heap.size, 1, none⟩) (H3.out.ne (List.Mem.head _)) (.slice sa sn sc))
  have A4 := A3
  have OW4 : Hid (CondAt (w3.setCell ⟨w1.heap.size, 1, none⟩ (.slice sa sn sc)) w.heap.size xs (.slice sa sn sc)) := Lib.hid (CondAt.kept OW3.out (grown_set (World.grownBy.refl _ _) 1 (.slice sa sn sc)) (BoxT.apart (H3.out.f (List.Mem.head _)) (by decide)))
  generalize (w3.setCell ⟨w1.heap.size, 1, none⟩ (.slice sa sn sc)) = w4 at *
  clear H3 R3 A3 OW3
  have by0 : w4.cell? ⟨w1.heap.size, 0, none⟩ = some (.int .i64 ((c : Nat) : Int)) := (H4.out.f (List.Mem.head _)).box.cell 0
  have byz0 : w4.frozen? ⟨w1.heap.size, 0, none⟩ = false := (H4.out.f (List.Mem.head _)).box.frozen 0
  have by1 : w4.cell? ⟨w1.heap.size, 1, none⟩ = some (.slice sa sn sc) := (H4.out.f (List.Mem.head _)).box.cell 1
  have byz1 : w4.frozen? ⟨w1.heap.size, 1, none⟩ = false := (H4.out.f (List.Mem.head _)).box.frozen 1
  have by2 : w4.cell? ⟨w1.heap.size, 2, none⟩ = some (.string ⟨#[]⟩) := (H4.out.f (List.Mem.head _)).box.cell 2
  have byz2 : w4.frozen? ⟨w1.heap.size, 2, none⟩ = false := (H4.out.f (List.Mem.head _)).box.frozen 2
  have byl : w1.heap.size < w4.heap.size := (H4.out.f (List.Mem.head _)).box.lt
  have rc0 := R4.out.c0
  have rc1 := R4.out.c1
  have rc8 := R4.out.c8
  have rz1 := R4.out.z 1
  have rz8 := R4.out.z 9
  have rl := R4.out.lt
  with_reducible refine (smp_as b T _ (fun i => if i = c then true else f i) (n + count xs) r2 _ R4.out A4.out hT).mono ?_
  rintro x w5 ⟨q5, rfl, hat, hr, hg⟩
  have H5 : Hid (HeldR w b [(w1.heap.size, #[.int .i64 ((c : Nat) : Int), .slice sa sn sc, .string ⟨#[]⟩], 39), (w.heap.size, #[.int .i64 0, .slice none 0 0, .string ⟨#[]⟩], 39)] w5) := Lib.hid (HeldR.keep H4.out hg)
  have OW5 : Hid (CondAt w5 w.heap.size xs (.slice sa sn sc)) := Lib.hid (CondAt.kept OW4.out hg (Rd.apart R4.out (by decide)))
  clear by0 byz0 by1 byz1 by2 byz2 byl rc0 rc1 rc8 rz1 rz8 rl
  have R5 := Lib.hid hr
  have A5 := Lib.hid hat
  clear hat hr hg H4 R4 A4 OW4
  have by0 : w5.cell? ⟨w1.heap.size, 0, none⟩ = some (.int .i64 ((c : Nat) : Int)) := (H5.out.f (List.Mem.head _)).box.cell 0
  have byz0 : w5.frozen? ⟨w1.heap.size, 0, none⟩ = false := (H5.out.f (List.Mem.head _)).box.frozen 0
  have by1 : w5.cell? ⟨w1.heap.size, 1, none⟩ = some (.slice sa sn sc) := (H5.out.f (List.Mem.head _)).box.cell 1
  have byz1 : w5.frozen? ⟨w1.heap.size, 1, none⟩ = false := (H5.out.f (List.Mem.head _)).box.frozen 1
  have by2 : w5.cell? ⟨w1.heap.size, 2, none⟩ = some (.string ⟨#[]⟩) := (H5.out.f (List.Mem.head _)).box.cell 2
  have byz2 : w5.frozen? ⟨w1.heap.size, 2, none⟩ = false := (H5.out.f (List.Mem.head _)).box.frozen 2
  have byl : w1.heap.size < w5.heap.size := (H5.out.f (List.Mem.head _)).box.lt
  have bx0 : w5.cell? ⟨w.heap.size, 0, none⟩ = some (.int .i64 0) := (H5.out.f (List.Mem.tail _ (List.Mem.head _))).box.cell 0
  have bxz0 : w5.frozen? ⟨w.heap.size, 0, none⟩ = false := (H5.out.f (List.Mem.tail _ (List.Mem.head _))).box.frozen 0
  have bx1 : w5.cell? ⟨w.heap.size, 1, none⟩ = some (.slice none 0 0) := (H5.out.f (List.Mem.tail _ (List.Mem.head _))).box.cell 1
  have bxz1 : w5.frozen? ⟨w.heap.size, 1, none⟩ = false := (H5.out.f (List.Mem.tail _ (List.Mem.head _))).box.frozen 1
  have bx2 : w5.cell? ⟨w.heap.size, 2, none⟩ = some (.string ⟨#[]⟩) := (H5.out.f (List.Mem.tail _ (List.Mem.head _))).box.cell 2
  have bxz2 : w5.frozen? ⟨w.heap.size, 2, none⟩ = false := (H5.out.f (List.Mem.tail _ (List.Mem.head _))).box.frozen 2
  have bxl : w.heap.size < w5.heap.size := (H5.out.f (List.Mem.tail _ (List.Mem.head _))).box.lt
  have rc0 := R5.out.c0
  have rc1 := R5.out.c1
  have rc8 := R5.out.c8
  have rz1 := R5.out.z 1
  have rz8 := R5.out.z 9
  have rl := R5.out.lt
  have hlt : w.heap.size < w1.heap.size := (List.pairwise_cons.1 H5.out.desc).1 _ (List.Mem.head _)
  have hne1 : ¬ w.heap.size = w1.heap.size := by omega
  have hne2 : ¬ w1.heap.size = w.heap.size := by omega
  go_wp2
  have HE1 : HeldR w b [(w1.heap.size, #[.int .i64 ((c : Nat) : Int), .slice sa sn sc, S (smpP r2)], 39), (w.heap.size, #[.int .i64 0, .slice none 0 0, .string ⟨#[]⟩], 39)] (w5.setCell ⟨w1.heap.size, 2, none⟩ (S (smpP r2))) := (HeldR.set1 (L1 := []) (L2 := [(w.heap.size, #[.int .i64 0, .slice none 0 0, .string ⟨#[]⟩], 39)]) H5.out 2 (S (smpP r2)))
  have RE1 := (R5.out.other (a := ⟨w1.heap.size, 2, none⟩) (H5.out.ne (List.Mem.head _)) (S (smpP r2)))
  have KE1 := CondAt.kept OW5.out (grown_set (World.grownBy.refl _ _) 2 (S (smpP r2))) (BoxT.apart (H5.out.f (List.Mem.head _)) (by decide))
  refine bodyPost_ret (v := .agg #[.int .i64 ((c : Nat) : Int), .slice sa sn sc, S (smpP r2)]) (by simp [results, Tryz.results57, go_sem, bx0, bx1, bx2, by0, by1, by2, bxl, byl, hne1, hne2]) rfl ?_
  show ToldN _ _ _ _ _ _ (ruleP seen n l) _ _
  rw [HX.out]
  exact ⟨_, _, rfl, ⟨_, rfl, (CondAt.kept KE1 (grown_set (grown_set (grown_set (World.grownBy.refl _ (some (w.heap.size))) 0 (.int .i64 ((c : Nat) : Int))) 1 (.slice sa sn sc)) 2 (S (smpP r2))) (BoxT.apart (HE1.f (List.Mem.tail _ (List.Mem.head _))) (by decide)))⟩, A5.out, (((RE1.other (a := ⟨w.heap.size, 0, none⟩) (HE1.ne (List.Mem.tail _ (List.Mem.head _))) (.int .i64 ((c : Nat) : Int))).other (a := ⟨w.heap.size, 1, none⟩) (HE1.ne (List.Mem.tail _ (List.Mem.head _))) (.slice sa sn sc)).other (a := ⟨w.heap.size, 2, none⟩) (HE1.ne (List.Mem.tail _ (List.Mem.head _))) (S (smpP r2))), ((HeldR.set1 (L1 := [(w1.heap.size, #[.int .i64 ((c : Nat) : Int), .slice sa sn sc, S (smpP r2)], 39)]) (L2 := []) (c := w.heap.size) (cs := #[.int .i64 ((c : Nat) : Int), .slice sa sn sc, .string ⟨#[]⟩]) (t := 39) (HeldR.set1 (L1 := [(w1.heap.size, #[.int .i64 ((c : Nat) : Int), .slice sa sn sc, S (smpP r2)], 39)]) (L2 := []) (c := w.heap.size) (cs := #[.int .i64 ((c : Nat) : Int), .slice none 0 0, .string ⟨#[]⟩]) (t := 39) (HeldR.set1 (L1 := [(w1.heap.size, #[.int .i64 ((c : Nat) : Int), .slice sa sn sc, S (smpP r2)], 39)]) (L2 := []) (c := w.heap.size) (cs := #[.int .i64 0, .slice none 0 0, .string ⟨#[]⟩]) (t := 39) HE1 0 (.int .i64 ((c : Nat) : Int))) 1 (.slice sa sn sc)) 2 (S (smpP r2)))).gr⟩

set_option maxRecDepth 100000 in
set_option maxHeartbeats 3200000 in
theorem rule_o2 (r0 : List UInt8) (seen : List Nat) (b : Nat) (T : ByteArray) (p : Nat) (f : Nat → Bool) (n : Nat) (l : List UInt8) (w : World) (h : Rd w b T p f n) (ha : At T p l) (hT : T.size ≤ 1000000) (hn : n ≤ 200) (hw : Wds w) (hb0 : 0 < b) (hf : ∀ i, i < 6 → f i = seen.contains i) (hC : catP seen l = .ok 5 r0) (hk : tk [58] r0 = true) :
    Calls Tryz.prog 57 #[.pointer (some ⟨b, 0, none⟩)] w (ToldN b T (fun (x : RuleT) i => if i = x.cat then true else f i) (fun x => n + count x.any) w (fun w' x v => ∃ u, v = .agg #[.int .i64 ((x.cat : Nat) : Int), u, S x.smp] ∧ CondAt w' w.heap.size x.any u) (ruleP seen n l)) := by
  have R0 := Lib.hid h
  have A0 := Lib.hid ha
  have HW := Lib.hid hw
  have HhC := Lib.hid hC
  have Hhk := Lib.hid hk
  have HX : Hid (ruleP seen n l = .ok ⟨5, [], smpP (tkR [58] r0)⟩ (smpR (tkR [58] r0))) := Lib.hid (by have hm : colonP r0 = .ok () (tkR [58] r0) := (by unfold colonP; rw [if_pos hk]); unfold ruleP; rw [hC]; simp only; rw [hm]; simp only; unfold bodyP; rw [if_pos rfl])
  clear h ha hw hC hk
  go_enter Tryz.func57, Tryz.ntmps57
  go_wp2_with fail
  with_reducible refine (cat_as seen b T p f n l _ (R0.out.alloc _) A0.out hT (HW.out.below (Below.alloc (Below.refl _ _) (Nat.le_refl _) _)) hb0 hf).mono ?_
  intro x w1 ht
  rw [HhC.out] at ht
  obtain ⟨v1, q1, rfl, hv, hat, hr, hg⟩ := ht
  obtain rfl := hv
  have H1 : Hid (HeldR w b [(w.heap.size, #[.int .i64 0, .slice none 0 0, .string ⟨#[]⟩], 39)] w1) := Lib.hid (HeldR.keep (HeldR.alloc (HeldR.refl R0.out.lt) (w.heap.size) #[.int .i64 0, .slice none 0 0, .string ⟨#[]⟩] 39 (by first | rfl | simp)) hg)
  have R1 := Lib.hid hr
  have A1 := Lib.hid hat
  clear hat hr hg
  have rc0 := R1.out.c0
  have rc1 := R1.out.c1
  have rc8 := R1.out.c8
  have rz1 := R1.out.z 1
  have rz8 := R1.out.z 9
  have rl := R1.out.lt
  go_wp2_with fail
  with_reducible refine (wants_true [58] b T _ (fun i => if i = 5 then true else f i) n r0 _ (R1.out.alloc _) A1.out hT Hhk.out).mono ?_
  rintro x w2 ⟨q2, rfl, hat, hr, hg⟩
  have H2 : Hid (HeldR w b [(w1.heap.size, #[.int .i64 ((5 : Nat) : Int), .slice none 0 0, .string ⟨#[]⟩], 39), (w.heap.size, #[.int .i64 0, .slice none 0 0, .string ⟨#[]⟩], 39)] w2) := Lib.hid (HeldR.keep (HeldR.alloc H1.out (w1.heap.size) #[.int .i64 ((5 : Nat) : Int), .slice none 0 0, .string ⟨#[]⟩] 39 (by first | rfl | simp)) hg)
  clear rc0 rc1 rc8 rz1 rz8 rl
  have R2 := Lib.hid hr
  have A2 := Lib.hid hat
  clear hat hr hg H1 R1 A1
  have by0 : w2.cell? ⟨w1.heap.size, 0, none⟩ = some (.int .i64 ((5 : Nat) : Int)) := (H2.out.f (List.Mem.head _)).box.cell 0
  have byz0 : w2.frozen? ⟨w1.heap.size, 0, none⟩ = false := (H2.out.f (List.Mem.head _)).box.frozen 0
  have by1 : w2.cell? ⟨w1.heap.size, 1, none⟩ = some (.slice none 0 0) := (H2.out.f (List.Mem.head _)).box.cell 1
  have byz1 : w2.frozen? ⟨w1.heap.size, 1, none⟩ = false := (H2.out.f (List.Mem.head _)).box.frozen 1
  have by2 : w2.cell? ⟨w1.heap.size, 2, none⟩ = some (.string ⟨#[]⟩) := (H2.out.f (List.Mem.head _)).box.cell 2
  have byz2 : w2.frozen? ⟨w1.heap.size, 2, none⟩ = false := (H2.out.f (List.Mem.head _)).box.frozen 2
  have byl : w1.heap.size < w2.heap.size := (H2.out.f (List.Mem.head _)).box.lt
  have rc0 := R2.out.c0
  have rc1 := R2.out.c1
  have rc8 := R2.out.c8
  have rz1 := R2.out.z 1
  have rz8 := R2.out.z 9
  have rl := R2.out.lt
  go_wp2_with fail
  with_reducible refine (smp_as b T _ (fun i => if i = 5 then true else f i) n (tkR [58] r0) _ R2.out A2.out hT).mono ?_
  rintro x w3 ⟨q3, rfl, hat, hr, hg⟩
  have H3 : Hid (HeldR w b [(w1.heap.size, #[.int .i64 ((5 : Nat) : Int), .slice none 0 0, .string ⟨#[]⟩], 39), (w.heap.size, #[.int .i64 0, .slice none 0 0, .string ⟨#[]⟩], 39)] w3) := Lib.hid (HeldR.keep H2.out hg)
  clear by0 byz0 by1 byz1 by2 byz2 byl rc0 rc1 rc8 rz1 rz8 rl
  have R3 := Lib.hid hr
  have A3 := Lib.hid hat
  clear hat hr hg H2 R2 A2
  have by0 : w3.cell? ⟨w1.heap.size, 0, none⟩ = some (.int .i64 ((5 : Nat) : Int)) := (H3.out.f (List.Mem.head _)).box.cell 0
  have byz0 : w3.frozen? ⟨w1.heap.size, 0, none⟩ = false := (H3.out.f (List.Mem.head _)).box.frozen 0
  have by1 : w3.cell? ⟨w1.heap.size, 1, none⟩ = some (.slice none 0 0) := (H3.out.f (List.Mem.head _)).box.cell 1
  have byz1 : w3.frozen? ⟨w1.heap.size, 1, none⟩ = false := (H3.out.f (List.Mem.head _)).box.frozen 1
  have by2 : w3.cell? ⟨w1.heap.size, 2, none⟩ = some (.string ⟨#[]⟩) := (H3.out.f (List.Mem.head _)).box.cell 2
  have byz2 : w3.frozen? ⟨w1.heap.size, 2, none⟩ = false := (H3.out.f (List.Mem.head _)).box.frozen 2
  have byl : w1.heap.size < w3.heap.size := (H3.out.f (List.Mem.head _)).box.lt
  have bx0 : w3.cell? ⟨w.heap.size, 0, none⟩ = some (.int .i64 0) := (H3.out.f (List.Mem.tail _ (List.Mem.head _))).box.cell 0
  have bxz0 : w3.frozen? ⟨w.heap.size, 0, none⟩ = false := (H3.out.f (List.Mem.tail _ (List.Mem.head _))).box.frozen 0
  have bx1 : w3.cell? ⟨w.heap.size, 1, none⟩ = some (.slice none 0 0) := (H3.out.f (List.Mem.tail _ (List.Mem.head _))).box.cell 1
  have bxz1 : w3.frozen? ⟨w.heap.size, 1, none⟩ = false := (H3.out.f (List.Mem.tail _ (List.Mem.head _))).box.frozen 1
  have bx2 : w3.cell? ⟨w.heap.size, 2, none⟩ = some (.string ⟨#[]⟩) := (H3.out.f (List.Mem.tail _ (List.Mem.head _))).box.cell 2
  have bxz2 : w3.frozen? ⟨w.heap.size, 2, none⟩ = false := (H3.out.f (List.Mem.tail _ (List.Mem.head _))).box.frozen 2
  have bxl : w.heap.size < w3.heap.size := (H3.out.f (List.Mem.tail _ (List.Mem.head _))).box.lt
  have rc0 := R3.out.c0
  have rc1 := R3.out.c1
  have rc8 := R3.out.c8
  have rz1 := R3.out.z 1
  have rz8 := R3.out.z 9
  have rl := R3.out.lt
  have hlt : w.heap.size < w1.heap.size := (List.pairwise_cons.1 H3.out.desc).1 _ (List.Mem.head _)
  have hne1 : ¬ w.heap.size = w1.heap.size := by omega
  have hne2 : ¬ w1.heap.size = w.heap.size := by omega
  go_wp2
  have HE1 : HeldR w b [(w1.heap.size, #[.int .i64 ((5 : Nat) : Int), .slice none 0 0, S (smpP (tkR [58] r0))], 39), (w.heap.size, #[.int .i64 0, .slice none 0 0, .string ⟨#[]⟩], 39)] (w3.setCell ⟨w1.heap.size, 2, none⟩ (S (smpP (tkR [58] r0)))) := (HeldR.set1 (L1 := []) (L2 := [(w.heap.size, #[.int .i64 0, .slice none 0 0, .string ⟨#[]⟩], 39)]) H3.out 2 (S (smpP (tkR [58] r0))))
  have RE1 := (R3.out.other (a := ⟨w1.heap.size, 2, none⟩) (H3.out.ne (List.Mem.head _)) (S (smpP (tkR [58] r0))))
  refine bodyPost_ret (v := .agg #[.int .i64 ((5 : Nat) : Int), .slice none 0 0, S (smpP (tkR [58] r0))]) (by simp [results, Tryz.results57, go_sem, bx0, bx1, bx2, by0, by1, by2, bxl, byl, hne1, hne2]) rfl ?_
  show ToldN _ _ _ _ _ _ (ruleP seen n l) _ _
  rw [HX.out]
  exact ⟨_, _, rfl, ⟨_, rfl, ⟨[], World.ownsRow_nil _ _ _ _, rfl⟩⟩, A3.out, (((RE1.other (a := ⟨w.heap.size, 0, none⟩) (HE1.ne (List.Mem.tail _ (List.Mem.head _))) (.int .i64 ((5 : Nat) : Int))).other (a := ⟨w.heap.size, 1, none⟩) (HE1.ne (List.Mem.tail _ (List.Mem.head _))) (.slice none 0 0)).other (a := ⟨w.heap.size, 2, none⟩) (HE1.ne (List.Mem.tail _ (List.Mem.head _))) (S (smpP (tkR [58] r0)))), ((HeldR.set1 (L1 := [(w1.heap.size, #[.int .i64 ((5 : Nat) : Int), .slice none 0 0, S (smpP (tkR [58] r0))], 39)]) (L2 := []) (c := w.heap.size) (cs := #[.int .i64 ((5 : Nat) : Int), .slice none 0 0, .string ⟨#[]⟩]) (t := 39) (HeldR.set1 (L1 := [(w1.heap.size, #[.int .i64 ((5 : Nat) : Int), .slice none 0 0, S (smpP (tkR [58] r0))], 39)]) (L2 := []) (c := w.heap.size) (cs := #[.int .i64 ((5 : Nat) : Int), .slice none 0 0, .string ⟨#[]⟩]) (t := 39) (HeldR.set1 (L1 := [(w1.heap.size, #[.int .i64 ((5 : Nat) : Int), .slice none 0 0, S (smpP (tkR [58] r0))], 39)]) (L2 := []) (c := w.heap.size) (cs := #[.int .i64 0, .slice none 0 0, .string ⟨#[]⟩]) (t := 39) HE1 0 (.int .i64 ((5 : Nat) : Int))) 1 (.slice none 0 0)) 2 (S (smpP (tkR [58] r0))))).gr⟩

theorem rule_as (seen : List Nat) (b : Nat) (T : ByteArray) (p : Nat) (f : Nat → Bool) (n : Nat) (l : List UInt8) (w : World) (h : Rd w b T p f n) (ha : At T p l) (hT : T.size ≤ 1000000) (hn : n ≤ 200) (hw : Wds w) (hb0 : 0 < b) (hf : ∀ i, i < 6 → f i = seen.contains i) :
    Calls Tryz.prog 57 #[.pointer (some ⟨b, 0, none⟩)] w (ToldN b T (fun (x : RuleT) i => if i = x.cat then true else f i) (fun x => n + count x.any) w (fun w' x v => ∃ u, v = .agg #[.int .i64 ((x.cat : Nat) : Int), u, S x.smp] ∧ CondAt w' w.heap.size x.any u) (ruleP seen n l)) := by
  cases hC : catP seen l with
  | bad e re => exact rule_b1 e re seen b T p f n l w h ha hT hn hw hb0 hf hC
  | ok c r0 => cases hk : tk [58] r0 with
    | false => exact rule_b2 c r0 seen b T p f n l w h ha hT hn hw hb0 hf hC hk
    | true =>
      by_cases h5 : c = 5
      · subst h5; exact rule_o2 r0 seen b T p f n l w h ha hT hn hw hb0 hf hC hk
      · cases hM : condP n (tkR [58] r0) with
        | bad e re => exact rule_b3 c r0 e re seen b T p f n l w h ha hT hn hw hb0 hf hC hk h5 hM
        | ok xs r2 => exact rule_o1 c r0 xs r2 seen b T p f n l w h ha hT hn hw hb0 hf hC hk h5 hM
end Go.Proofs.YtkjhdehpcanciaaGreatDoor

namespace Go.Proofs.YtkjhdehpcanciaaGreatDoor
open Go.RowKit Florin
set_option linter.unusedVariables false
set_option linter.unusedSimpArgs false
attribute [local go_sem ↓] Go.wp_at_zero Go.wp_at_succ

theorem infoRule : (Tryz.prog.info? 39).map (fun i => (i.zero, i.size, i.bytes)) = some (some (.agg #[.int .i64 0, .slice none 0 0, .string ⟨#[]⟩]), 3, 48) := by kernel_rfl
theorem rules_append {w7 w8 : World} {base : Nat} {acc : List RuleT} {cs : List Value} {u v8 : Value} {o : Obj} (hO : w7.ownsRow base 39 3 u acc.length cs) (hl : ListAt (RuleAt w7) acc cs) (x : RuleT) (rv : Value) (hx : CondAt w7 0 x.any rv)
    (hown8 : w8.ownsRow base 39 3 v8 (acc.length + 1) (cs ++ [.int .i64 (x.cat : Int), rv, S x.smp])) (hgr8 : (w7.alloc o).grownBy w8 u.ownBlock) : RulesAt w8 base (acc ++ [x]) v8 := by
  have k1 : ∀ y c, RuleAt w7 y c → RuleAt w8 y c := fun y c h => (h.kept (World.grownBy_alloc w7 o none) (Apart.none _ _)).kept hgr8 (own_apart (hO.alloc o) (by decide))
  exact ⟨_, by rw [List.length_append]; exact hown8, ListAt.snoc (k1 x _ ⟨rv, rfl, hx⟩) (hl.mono k1)⟩
theorem rule_n {s : List Nat} {n : Nat} {l r : List UInt8} {x : RuleT} (hn : n ≤ 200) (h : ruleP s n l = .ok x r) : n + count x.any ≤ 200 := by
  unfold ruleP at h
  split at h
  · cases h
  · split at h
    · cases h
    · split at h
      · cases h
      · rename_i h3
        cases h
        unfold bodyP at h3
        split at h3
        · cases h3; exact hn
        · exact cond_n hn h3
theorem seen_step (f : Nat → Bool) (seen : List Nat) (c : Nat) (hf : ∀ i, i < 6 → f i = seen.contains i) : ∀ i, i < 6 → (if i = c then true else f i) = (c :: seen).contains i := by
  intro i hi
  rw [List.contains_cons]
  by_cases h : i = c
  · subst h; simp
  · rw [if_neg h, hf i hi]
    have : (i == c) = false := by simpa using h
    rw [this, Bool.false_or]

set_option maxRecDepth 100000 in
set_option maxHeartbeats 6400000 in
theorem rules_as (b : Nat) (T : ByteArray) (p : Nat) (f : Nat → Bool) (l : List UInt8) (w : World) (h : Rd w b T p f 0) (ha : At T p l) (hT : T.size ≤ 1000000) (hw : Wds w) (hb0 : 0 < b) (hf : ∀ i, i < 6 → f i = false) :
    Calls Tryz.prog 34 #[.pointer (some ⟨b, 0, none⟩)] w fun e w' => ∃ (f2 : Nat → Bool) (n2 : Nat), ToldN b T (fun _ => f2) (fun _ => n2) w (fun w' x v => RulesAt w' w.heap.size x v) (rulesP l) e w' := by
  have R0 := Lib.hid h
  have A0 := Lib.hid ha
  have HW := Lib.hid hw
  have hbl := h.lt
  have HBL := Lib.hid hbl
  have HLL : Hid (l.length ≤ T.size) := Lib.hid (by have := ha.len; omega)
  clear h ha hbl hw
  go_enter Tryz.func34, Tryz.ntmps34
  go_wp2_with fail
  go_loopg [3] (l.length + 1) (fun k v wr => ∃ (p1 : Nat) (m : List UInt8) (acc : List RuleT) (seen : List Nat) (f1 : Nat → Bool) (n1 : Nat), m.length < k ∧ acc.length + m.length ≤ T.size + 1 ∧ n1 ≤ 200 ∧ (∀ i, i < 6 → f1 i = seen.contains i) ∧ rulesL k seen n1 acc m = rulesP l ∧ At T p1 m ∧ Rd wr b T p1 f1 n1 ∧ RulesAt wr w.heap.size acc v ∧ w.grownBy wr (some b))
  case atStart => exact ⟨p, l, [], [], f, 0, by omega, by have := HLL.out; simp; omega, by omega, fun i hi => by rw [hf i hi]; rfl, rfl, A0.out, R0.out, ⟨[], World.ownsRow_nil _ _ _ _, rfl⟩, World.grownBy.refl _ _⟩
  case round =>
    obtain ⟨p1, m, acc, seen, f1, n1, hmk, hal, hn1, hf1, hre, hat, hr, how, hgr⟩ := hrel
    obtain ⟨k0, rfl⟩ : ∃ k0, gk = k0 + 1 := ⟨gk - 1, by omega⟩
    have HRE := Lib.hid hre
    have A5 := Lib.hid hat
    have R5 := Lib.hid hr
    have OW5 := Lib.hid how
    have H5 := Lib.hid (HeldR.of HBL.out hgr)
    have HF1 := Lib.hid hf1
    have hskl := sk_le m
    clear hre hat hr how hgr hf1
    cases hz : (sk m).isEmpty with
    | true =>
      have HZ := Lib.hid hz
      have HX2 : Hid (rulesP l = .ok acc (sk m)) := Lib.hid (by rw [← HRE.out]; unfold rulesL; rw [if_pos hz])
      clear hz
      go_wp2_with fail
      with_reducible refine (ended_as b T _ f1 n1 m _ R5.out A5.out hT true HZ.out).mono ?_
      rintro x w6 ⟨q6, rfl, hat, hr, hg⟩
      have H6 : Hid (HeldR w b [] w6) := Lib.hid (HeldR.keep H5.out hg)
      have OW6 : Hid (RulesAt w6 w.heap.size acc u3) := Lib.hid (RulesAt.kept OW5.out hg (Rd.apart R5.out (by decide)))
      have R6 := Lib.hid hr
      have A6 := Lib.hid hat
      clear hat hr hg H5 R5 A5 OW5
      go_wp2
      go_ret
      refine ⟨f1, n1, ?_⟩
      show ToldN _ _ _ _ _ _ (rulesP l) _ _
      rw [HX2.out]
      exact ⟨_, _, rfl, OW6.out, A6.out, R6.out, H6.out.gr⟩
    | false =>
      have HZ := Lib.hid hz
      cases hM : ruleP seen n1 (sk m) with
      | bad c m2 =>
        have HM := Lib.hid hM
        have HX2 : Hid (rulesP l = .bad c m2) := Lib.hid (by rw [← HRE.out]; unfold rulesL; rw [if_neg (by rw [hz]; decide), hM])
        clear hz hM
        go_wp2_with fail
        with_reducible refine (ended_as b T _ f1 n1 m _ R5.out A5.out hT false HZ.out).mono ?_
        rintro x w6 ⟨q6, rfl, hat, hr, hg⟩
        have H6 : Hid (HeldR w b [] w6) := Lib.hid (HeldR.keep H5.out hg)
        have OW6 : Hid (RulesAt w6 w.heap.size acc u3) := Lib.hid (RulesAt.kept OW5.out hg (Rd.apart R5.out (by decide)))
        have R6 := Lib.hid hr
        have A6 := Lib.hid hat
        clear hat hr hg H5 R5 A5 OW5
        go_wp2_with fail
        with_reducible refine (rule_as seen b T _ f1 n1 (sk m) _ R6.out A6.out hT hn1 (HW.out.grown H6.out.gr hb0) hb0 HF1.out).mono ?_
        intro x w7 ht
        rw [HM.out] at ht
        obtain ⟨qe, rfl, hat, hg⟩ := ht
        have HGE := Lib.hid (HeldR.keep H6.out hg).gr
        have HAE := Lib.hid hat
        clear hat hg
        go_wp2
        refine ⟨rfl, ?_⟩
        refine ⟨f1, n1, ?_⟩; show ToldN _ _ _ _ _ _ (rulesP l) _ _
        rw [HX2.out]
        exact ⟨qe, rfl, HAE.out, HGE.out⟩
      | ok x2 m2 =>
        have HM := Lib.hid hM
        have hml := rule_len hM
        have hn2 := rule_n hn1 hM
        have htl := tkR_le [59] m2
        have hsl := sk_le (tkR [59] m2)
        have hsl2 := sk_le m2
        cases he : (sk m2).isEmpty with
        | true =>
          have HE := Lib.hid he
          have HX2 : Hid (rulesL k0 (x2.cat :: seen) (n1 + count x2.any) (acc ++ [x2]) (sk m2) = rulesP l) := Lib.hid (by rw [← HRE.out]; conv => rhs; unfold rulesL; rw [if_neg (by rw [hz]; decide), hM]; simp only [(endB he).1, (endB he).2, he, Bool.or_true, if_true, Bool.false_eq_true, if_false])
          clear hz hM he
          go_wp2_with fail
          with_reducible refine (ended_as b T _ f1 n1 m _ R5.out A5.out hT false HZ.out).mono ?_
          rintro x w6 ⟨q6, rfl, hat, hr, hg⟩
          have H6 : Hid (HeldR w b [] w6) := Lib.hid (HeldR.keep H5.out hg)
          have OW6 : Hid (RulesAt w6 w.heap.size acc u3) := Lib.hid (RulesAt.kept OW5.out hg (Rd.apart R5.out (by decide)))
          have R6 := Lib.hid hr
          have A6 := Lib.hid hat
          clear hat hr hg H5 R5 A5 OW5
          go_wp2_with fail
          have HSZ7 : Hid (w.heap.size ≤ w6.heap.size) := Lib.hid H6.out.gr.size
          with_reducible refine (rule_as seen b T _ f1 n1 (sk m) _ R6.out A6.out hT hn1 (HW.out.grown H6.out.gr hb0) hb0 HF1.out).mono ?_
          intro x w7 ht
          rw [HM.out] at ht
          obtain ⟨v7, q7, rfl, hv, hat, hr, hg⟩ := ht
          obtain ⟨u1, rfl, hrg⟩ := hv
          have H7 : Hid (HeldR w b [] w7) := Lib.hid (HeldR.keep H6.out hg)
          have OW7 : Hid (RulesAt w7 w.heap.size acc u3) := Lib.hid (RulesAt.kept OW6.out hg (Rd.apart R6.out (by decide)))
          have R7 := Lib.hid hr
          have A7 := Lib.hid hat
          clear hat hr hg H6 R6 A6 OW6
          have HRG := Lib.hid hrg
          obtain ⟨csx, hox, hlx⟩ := hrg
          obtain ⟨sa, sn, sc, hsv⟩ := own_slice hox
          subst hsv
          clear hox hlx
          obtain ⟨i0, hi, hz0, hz1, hz2⟩ := info_parts infoRule
          obtain ⟨cs7, ho7, hl7⟩ := OW7.out
          have HO7 := Lib.hid ho7
          have HL7 := Lib.hid hl7
          have hsz := H7.out.gr.size
          clear ho7 hl7
          go_wp2_with (at_builtin; refine wpList_append_own _ rfl _ _ 26 rfl w.heap.size 39 i0 (.agg #[.int .i64 0, .slice none 0 0, .string ⟨#[]⟩]) 3 48 Tryz.underlying26 hi hz0 hz1 hz2 rfl (by decide) _ _ _ rfl (HO7.out.alloc _) ⟨w7.heap.size, 0, none⟩ 1 1 [.int .i64 ((x2.cat : Nat) : Int), .slice sa sn sc, S x2.smp] rfl rfl (lit_cells w7 #[.int .i64 ((x2.cat : Nat) : Int), .slice sa sn sc, S x2.smp] 39) (by simp [Value.oneCell']) (by unfold maxLen; omega) (by omega) (by simp; omega) ?_; intro v8 w8 hown8 hgr8 _)
          have OW8 : Hid (RulesAt w8 w.heap.size (acc ++ [x2]) v8) := Lib.hid (rules_append HO7.out HL7.out x2 _ (CondAt.mono HRG.out) hown8 hgr8)
          have R8 := Lib.hid ((R7.out.alloc (.cells #[.int .i64 ((x2.cat : Nat) : Int), .slice sa sn sc, S x2.smp] 39)).grown hgr8 (own_ne HO7.out HBL.out))
          have H8 := Lib.hid (HeldR.of HBL.out (grown_own (grown_alloc H7.out.gr (.cells #[.int .i64 ((x2.cat : Nat) : Int), .slice sa sn sc, S x2.smp] 39)) hgr8 (fun k hk => (HO7.out.lt k hk).1)))
          have A8 := A7
          clear hown8 hgr8 hsz hi hz0 hz1 hz2 H7 R7 OW7 HO7 HL7 A7 HSZ7 HRG
          go_wp2_with fail
          with_reducible refine (ended_as b T _ (fun i => if i = x2.cat then true else f1 i) (n1 + count x2.any) m2 _ R8.out A8.out hT true HE.out).mono ?_
          rintro x w9 ⟨q9, rfl, hat, hr, hg⟩
          have H9 : Hid (HeldR w b [] w9) := Lib.hid (HeldR.keep H8.out hg)
          have OW9 : Hid (RulesAt w9 w.heap.size (acc ++ [x2]) v8) := Lib.hid (RulesAt.kept OW8.out hg (Rd.apart R8.out (by decide)))
          have R9 := Lib.hid hr
          have A9 := Lib.hid hat
          clear hat hr hg H8 R8 A8 OW8
          go_wp2
          go_roundg k0
          case measure => omega
          case rel => exact ⟨_, sk m2, acc ++ [x2], x2.cat :: seen, (fun i => if i = x2.cat then true else f1 i), (n1 + count x2.any), by omega, by rw [List.length_append]; simp; omega, hn2, seen_step f1 seen x2.cat HF1.out, HX2.out, A9.out, R9.out, OW9.out, H9.out.gr⟩
        | false =>
          have HE := Lib.hid he
          cases hk : tk [59] m2 with
          | true =>
            have HK : Hid (tk [59] (sk m2) = true) := Lib.hid (by rw [tkB_sk]; exact hk)
            have HX2 : Hid (rulesL k0 (x2.cat :: seen) (n1 + count x2.any) (acc ++ [x2]) (tkR [59] (sk m2)) = rulesP l) := Lib.hid (by rw [tkRB_sk, ← HRE.out]; conv => rhs; unfold rulesL; rw [if_neg (by rw [hz]; decide), hM]; simp only [hk, Bool.true_or, if_true])
            have htl2 := tkR_le [59] (sk m2)
            clear hz hM hk he
            go_wp2_with fail
            with_reducible refine (ended_as b T _ f1 n1 m _ R5.out A5.out hT false HZ.out).mono ?_
            rintro x w6 ⟨q6, rfl, hat, hr, hg⟩
            have H6 : Hid (HeldR w b [] w6) := Lib.hid (HeldR.keep H5.out hg)
            have OW6 : Hid (RulesAt w6 w.heap.size acc u3) := Lib.hid (RulesAt.kept OW5.out hg (Rd.apart R5.out (by decide)))
            have R6 := Lib.hid hr
            have A6 := Lib.hid hat
            clear hat hr hg H5 R5 A5 OW5
            go_wp2_with fail
            have HSZ7 : Hid (w.heap.size ≤ w6.heap.size) := Lib.hid H6.out.gr.size
            with_reducible refine (rule_as seen b T _ f1 n1 (sk m) _ R6.out A6.out hT hn1 (HW.out.grown H6.out.gr hb0) hb0 HF1.out).mono ?_
            intro x w7 ht
            rw [HM.out] at ht
            obtain ⟨v7, q7, rfl, hv, hat, hr, hg⟩ := ht
            obtain ⟨u1, rfl, hrg⟩ := hv
            have H7 : Hid (HeldR w b [] w7) := Lib.hid (HeldR.keep H6.out hg)
            have OW7 : Hid (RulesAt w7 w.heap.size acc u3) := Lib.hid (RulesAt.kept OW6.out hg (Rd.apart R6.out (by decide)))
            have R7 := Lib.hid hr
            have A7 := Lib.hid hat
            clear hat hr hg H6 R6 A6 OW6
            have HRG := Lib.hid hrg
            obtain ⟨csx, hox, hlx⟩ := hrg
            obtain ⟨sa, sn, sc, hsv⟩ := own_slice hox
            subst hsv
            clear hox hlx
            obtain ⟨i0, hi, hz0, hz1, hz2⟩ := info_parts infoRule
            obtain ⟨cs7, ho7, hl7⟩ := OW7.out
            have HO7 := Lib.hid ho7
            have HL7 := Lib.hid hl7
            have hsz := H7.out.gr.size
            clear ho7 hl7
            go_wp2_with (at_builtin; refine wpList_append_own _ rfl _ _ 26 rfl w.heap.size 39 i0 (.agg #[.int .i64 0, .slice none 0 0, .string ⟨#[]⟩]) 3 48 Tryz.underlying26 hi hz0 hz1 hz2 rfl (by decide) _ _ _ rfl (HO7.out.alloc _) ⟨w7.heap.size, 0, none⟩ 1 1 [.int .i64 ((x2.cat : Nat) : Int), .slice sa sn sc, S x2.smp] rfl rfl (lit_cells w7 #[.int .i64 ((x2.cat : Nat) : Int), .slice sa sn sc, S x2.smp] 39) (by simp [Value.oneCell']) (by unfold maxLen; omega) (by omega) (by simp; omega) ?_; intro v8 w8 hown8 hgr8 _)
            have OW8 : Hid (RulesAt w8 w.heap.size (acc ++ [x2]) v8) := Lib.hid (rules_append HO7.out HL7.out x2 _ (CondAt.mono HRG.out) hown8 hgr8)
            have R8 := Lib.hid ((R7.out.alloc (.cells #[.int .i64 ((x2.cat : Nat) : Int), .slice sa sn sc, S x2.smp] 39)).grown hgr8 (own_ne HO7.out HBL.out))
            have H8 := Lib.hid (HeldR.of HBL.out (grown_own (grown_alloc H7.out.gr (.cells #[.int .i64 ((x2.cat : Nat) : Int), .slice sa sn sc, S x2.smp] 39)) hgr8 (fun k hk => (HO7.out.lt k hk).1)))
            have A8 := A7
            clear hown8 hgr8 hsz hi hz0 hz1 hz2 H7 R7 OW7 HO7 HL7 A7 HSZ7 HRG
            go_wp2_with fail
            with_reducible refine (ended_as b T _ (fun i => if i = x2.cat then true else f1 i) (n1 + count x2.any) m2 _ R8.out A8.out hT false HE.out).mono ?_
            rintro x w9 ⟨q9, rfl, hat, hr, hg⟩
            have H9 : Hid (HeldR w b [] w9) := Lib.hid (HeldR.keep H8.out hg)
            have OW9 : Hid (RulesAt w9 w.heap.size (acc ++ [x2]) v8) := Lib.hid (RulesAt.kept OW8.out hg (Rd.apart R8.out (by decide)))
            have R9 := Lib.hid hr
            have A9 := Lib.hid hat
            clear hat hr hg H8 R8 A8 OW8
            have rc0 := R9.out.c0
            have rc1 := R9.out.c1
            have rc8 := R9.out.c8
            have rz1 := R9.out.z 1
            have rz8 := R9.out.z 9
            have rl := R9.out.lt
            go_wp2_with fail
            with_reducible refine (wants_true [59] b T _ (fun i => if i = x2.cat then true else f1 i) (n1 + count x2.any) (sk m2) _ R9.out A9.out hT HK.out).mono ?_
            rintro x w10 ⟨q10, rfl, hat, hr, hg⟩
            have H10 : Hid (HeldR w b [] w10) := Lib.hid (HeldR.keep H9.out hg)
            have OW10 : Hid (RulesAt w10 w.heap.size (acc ++ [x2]) v8) := Lib.hid (RulesAt.kept OW9.out hg (Rd.apart R9.out (by decide)))
            clear rc0 rc1 rc8 rz1 rz8 rl
            have R10 := Lib.hid hr
            have A10 := Lib.hid hat
            clear hat hr hg H9 R9 A9 OW9
            go_wp2
            go_roundg k0
            case measure => omega
            case rel => exact ⟨_, tkR [59] (sk m2), acc ++ [x2], x2.cat :: seen, (fun i => if i = x2.cat then true else f1 i), (n1 + count x2.any), by omega, by rw [List.length_append]; simp; omega, hn2, seen_step f1 seen x2.cat HF1.out, HX2.out, A10.out, R10.out, OW10.out, H10.out.gr⟩
          | false =>
            have HK : Hid (tk [59] (sk m2) = false) := Lib.hid (by rw [tkB_sk]; exact hk)
            have HX2 : Hid (rulesP l = .bad 1 (tkR [59] (sk m2))) := Lib.hid (by rw [tkRB_sk, ← HRE.out]; unfold rulesL; rw [if_neg (by rw [hz]; decide), hM]; simp only [hk, (noB hk).1, he, Bool.or_self, Bool.false_eq_true, if_false]; rw [(noB hk).2])
            clear hz hM hk he
            go_wp2_with fail
            with_reducible refine (ended_as b T _ f1 n1 m _ R5.out A5.out hT false HZ.out).mono ?_
            rintro x w6 ⟨q6, rfl, hat, hr, hg⟩
            have H6 : Hid (HeldR w b [] w6) := Lib.hid (HeldR.keep H5.out hg)
            have OW6 : Hid (RulesAt w6 w.heap.size acc u3) := Lib.hid (RulesAt.kept OW5.out hg (Rd.apart R5.out (by decide)))
            have R6 := Lib.hid hr
            have A6 := Lib.hid hat
            clear hat hr hg H5 R5 A5 OW5
            go_wp2_with fail
            have HSZ7 : Hid (w.heap.size ≤ w6.heap.size) := Lib.hid H6.out.gr.size
            with_reducible refine (rule_as seen b T _ f1 n1 (sk m) _ R6.out A6.out hT hn1 (HW.out.grown H6.out.gr hb0) hb0 HF1.out).mono ?_
            intro x w7 ht
            rw [HM.out] at ht
            obtain ⟨v7, q7, rfl, hv, hat, hr, hg⟩ := ht
            obtain ⟨u1, rfl, hrg⟩ := hv
            have H7 : Hid (HeldR w b [] w7) := Lib.hid (HeldR.keep H6.out hg)
            have OW7 : Hid (RulesAt w7 w.heap.size acc u3) := Lib.hid (RulesAt.kept OW6.out hg (Rd.apart R6.out (by decide)))
            have R7 := Lib.hid hr
            have A7 := Lib.hid hat
            clear hat hr hg H6 R6 A6 OW6
            have HRG := Lib.hid hrg
            obtain ⟨csx, hox, hlx⟩ := hrg
            obtain ⟨sa, sn, sc, hsv⟩ := own_slice hox
            subst hsv
            clear hox hlx
            obtain ⟨i0, hi, hz0, hz1, hz2⟩ := info_parts infoRule
            obtain ⟨cs7, ho7, hl7⟩ := OW7.out
            have HO7 := Lib.hid ho7
            have HL7 := Lib.hid hl7
            have hsz := H7.out.gr.size
            clear ho7 hl7
            go_wp2_with (at_builtin; refine wpList_append_own _ rfl _ _ 26 rfl w.heap.size 39 i0 (.agg #[.int .i64 0, .slice none 0 0, .string ⟨#[]⟩]) 3 48 Tryz.underlying26 hi hz0 hz1 hz2 rfl (by decide) _ _ _ rfl (HO7.out.alloc _) ⟨w7.heap.size, 0, none⟩ 1 1 [.int .i64 ((x2.cat : Nat) : Int), .slice sa sn sc, S x2.smp] rfl rfl (lit_cells w7 #[.int .i64 ((x2.cat : Nat) : Int), .slice sa sn sc, S x2.smp] 39) (by simp [Value.oneCell']) (by unfold maxLen; omega) (by omega) (by simp; omega) ?_; intro v8 w8 hown8 hgr8 _)
            have OW8 : Hid (RulesAt w8 w.heap.size (acc ++ [x2]) v8) := Lib.hid (rules_append HO7.out HL7.out x2 _ (CondAt.mono HRG.out) hown8 hgr8)
            have R8 := Lib.hid ((R7.out.alloc (.cells #[.int .i64 ((x2.cat : Nat) : Int), .slice sa sn sc, S x2.smp] 39)).grown hgr8 (own_ne HO7.out HBL.out))
            have H8 := Lib.hid (HeldR.of HBL.out (grown_own (grown_alloc H7.out.gr (.cells #[.int .i64 ((x2.cat : Nat) : Int), .slice sa sn sc, S x2.smp] 39)) hgr8 (fun k hk => (HO7.out.lt k hk).1)))
            have A8 := A7
            clear hown8 hgr8 hsz hi hz0 hz1 hz2 H7 R7 OW7 HO7 HL7 A7 HSZ7 HRG
            go_wp2_with fail
            with_reducible refine (ended_as b T _ (fun i => if i = x2.cat then true else f1 i) (n1 + count x2.any) m2 _ R8.out A8.out hT false HE.out).mono ?_
            rintro x w9 ⟨q9, rfl, hat, hr, hg⟩
            have H9 : Hid (HeldR w b [] w9) := Lib.hid (HeldR.keep H8.out hg)
            have OW9 : Hid (RulesAt w9 w.heap.size (acc ++ [x2]) v8) := Lib.hid (RulesAt.kept OW8.out hg (Rd.apart R8.out (by decide)))
            have R9 := Lib.hid hr
            have A9 := Lib.hid hat
            clear hat hr hg H8 R8 A8 OW8
            have rc0 := R9.out.c0
            have rc1 := R9.out.c1
            have rc8 := R9.out.c8
            have rz1 := R9.out.z 1
            have rz8 := R9.out.z 9
            have rl := R9.out.lt
            go_wp2_with fail
            with_reducible refine (wants_false [59] b T _ (fun i => if i = x2.cat then true else f1 i) (n1 + count x2.any) (sk m2) _ R9.out A9.out hT HK.out).mono ?_
            rintro x w10 ⟨qe, rfl, hat, hg⟩
            have HGE := Lib.hid (HeldR.keep H9.out hg).gr
            have HAE := Lib.hid hat
            clear hat hg
            clear rc0 rc1 rc8 rz1 rz8 rl
            go_wp2
            refine ⟨rfl, f1, n1, ?_⟩
            show ToldN _ _ _ _ _ _ (rulesP l) _ _
            rw [HX2.out]
            exact ⟨qe, rfl, HAE.out, HGE.out⟩
end Go.Proofs.YtkjhdehpcanciaaGreatDoor

namespace Go.Proofs.YtkjhdehpcanciaaGreatDoor
open Go.RowKit Florin
set_option linter.unusedVariables false
set_option linter.unusedSimpArgs false
attribute [local go_sem ↓] Go.wp_at_zero Go.wp_at_succ

theorem assert_nil (w : World) : Sem.run Tryz.prog (Instr.typeAssert .nilIface 20 75 true) w = .ok (.tuple #[.agg #[.int .i64 0, .int .i64 0], .bool false]) w := by kernel_rfl
attribute [local go_sem ↓] assert_nil
set_option maxRecDepth 100000 in
set_option maxHeartbeats 400000 in
theorem catch_idle (o e a : Nat) (w : World) :
    CallsD Tryz.prog 32 #[.pointer (some ⟨o, 0, none⟩), .pointer (some ⟨e, 0, none⟩), .pointer (some ⟨a, 0, none⟩)] .returning w fun z u' w' => z = .returned (.tuple #[]) ∧ u' = .returning ∧ w' = (w.alloc (.cells #[.int .i64 0, .int .i64 0] 75)) := by
  refine callsD_of_wpS Tryz.func32 rfl fun c₀ cs hu => ?_
  simp only [Tryz.ntmps32, List.size_toArray, List.length_cons, List.length_nil, Nat.reduceAdd, Nat.reduceSub, Array.replicate_succ, Array.replicate_zero, List.push_toArray, List.append_toArray, List.nil_append, List.cons_append]
  apply wpS_seq
  apply wpS_region
  simp [wpOpsS, go_sem, recoverD, hu, Exit.thenS]
  refine wpS_of_wp ?_
  generalize hQ : (fun (ex : Exit) (a' : Act) (w' : World) => bodyPostS Tryz.prog Tryz.f32 c₀ cs (fun z u' w' => z = Ending.returned (Value.tuple #[]) ∧ u' = FrameMode.returning ∧ w' = (w.alloc (.cells #[.int .i64 0, .int .i64 0] 75))) ex a' (c₀ :: cs) w') = Q
  have HQ := Lib.hid hQ
  clear hQ
  go_wp2
  rw [← HQ.out]
  cases c₀
  simp_all [bodyPostS, results, Tryz.results32]

theorem assert_fault (c q : Int) (w : World) : Sem.run Tryz.prog (Instr.typeAssert (.iface 75 (.agg #[.int .i64 c, .int .i64 q])) 20 75 true) w = .ok (.tuple #[.agg #[.int .i64 c, .int .i64 q], .bool true]) w := by kernel_rfl
attribute [local go_sem ↓] assert_fault
set_option maxRecDepth 100000 in
set_option maxHeartbeats 3200000 in
theorem catch_fault (o e a : Nat) (c q : Int) (w : World) (vo ve va : Value) (ho : w.cell? ⟨o, 0, none⟩ = some vo) (he : w.cell? ⟨e, 0, none⟩ = some ve) (ha : w.cell? ⟨a, 0, none⟩ = some va)
    (zo : w.frozen? ⟨o, 0, none⟩ = false) (ze : w.frozen? ⟨e, 0, none⟩ = false) (za : w.frozen? ⟨a, 0, none⟩ = false) (lo : o < w.heap.size) (le : e < w.heap.size) (la : a < w.heap.size) (h1 : ¬ o = e) (h2 : ¬ o = a) (h3 : ¬ e = a) (W : World) (hW : W = ((((w.setCell ⟨o, 0, none⟩ (.slice none 0 0)).setCell ⟨e, 0, none⟩ (.int .i64 c)).setCell ⟨a, 0, none⟩ (.int .i64 q)).alloc (.cells #[.int .i64 c, .int .i64 q] 75)).drew) :
    CallsD Tryz.prog 32 #[.pointer (some ⟨o, 0, none⟩), .pointer (some ⟨e, 0, none⟩), .pointer (some ⟨a, 0, none⟩)] (.panicking [{ v := .iface 75 (.agg #[.int .i64 c, .int .i64 q]), recovered := false }]) w fun z u' w' =>
      z = .returned (.tuple #[]) ∧ u' = .panicking [{ v := .iface 75 (.agg #[.int .i64 c, .int .i64 q]), recovered := true }] ∧ w' = W := by
  have HW := Lib.hid hW
  clear hW
  refine callsD_of_wpS Tryz.func32 rfl fun c₀ cs hu => ?_
  simp only [Tryz.ntmps32, List.size_toArray, List.length_cons, List.length_nil, Nat.reduceAdd, Nat.reduceSub, Array.replicate_succ, Array.replicate_zero, List.push_toArray, List.append_toArray, List.nil_append, List.cons_append]
  apply wpS_seq
  apply wpS_region
  simp [wpOpsS, go_sem, recoverD, hu, Exit.thenS]
  obtain ⟨Q1, hQ1⟩ : ∃ Q1 : Exit → Act → World → Prop, Q1 = fun ex a' w' => ex = Exit.normal ∧ a'.defers = [] ∧ w' = W := ⟨_, rfl⟩
  have HQ := Lib.hid hQ1
  clear hQ1
  refine wpS_of_wp (wp_mono (Q := Q1) ?_ ?_)
  case refine_2 =>
    intro ex a' w' hh
    rw [HQ.out] at hh
    obtain ⟨rfl, hd, rfl⟩ := hh
    exact ⟨hd, _, rfl, _, by simp [results, Tryz.results32, go_sem], rfl, rfl, rfl⟩
  have no : ¬ o = w.heap.size := by omega
  have ne : ¬ e = w.heap.size := by omega
  have na : ¬ a = w.heap.size := by omega
  have no' : ¬ w.heap.size = o := by omega
  have ne' : ¬ w.heap.size = e := by omega
  have na' : ¬ w.heap.size = a := by omega
  have h1' : ¬ e = o := fun h => h1 h.symm
  have h2' : ¬ a = o := fun h => h2 h.symm
  have h3' : ¬ a = e := fun h => h3 h.symm
  go_wp2_with fail
  go_region
  all_goals (try go_wp2)
  all_goals (rw [HQ.out])
  all_goals exact ⟨rfl, rfl, HW.out.symm⟩
end Go.Proofs.YtkjhdehpcanciaaGreatDoor

namespace Go.Proofs.YtkjhdehpcanciaaGreatDoor
open Go.RowKit Florin
set_option linter.unusedVariables false
set_option linter.unusedSimpArgs false
attribute [local go_sem ↓] Go.wp_at_zero Go.wp_at_succ

theorem below_grown {w W W' : World} {b B : Nat} (h : Below B w W) (hg : W.grownBy W' (some b)) (hb : B ≤ b) (hB : B ≤ W.heap.size) : Below B w W' :=
  ⟨hg.os.trans h.os, hg.tape.trans h.tape, hg.output.trans h.output, Nat.le_trans h.size hg.size, fun i hi => (hg.block i (by omega) (by intro e; cases e; omega)).trans (h.block i hi)⟩

set_option maxRecDepth 100000 in
set_option maxHeartbeats 1600000 in
theorem scanOf_as (s : ByteArray) (w : World) : Calls Tryz.prog 33 #[.string s] w fun z w' => z = .returned (.agg #[.string s, .int .i64 0, .bool false]) ∧ w.alloc (.cells #[.string s, .int .i64 0, .bool false] 78) = w' := by
  go_enter Tryz.func33, Tryz.ntmps33
  go_wp2
  exact bodyPost_ret (v := .agg #[.string s, .int .i64 0, .bool false]) (by simp [results, Tryz.results33, go_sem]) rfl ⟨rfl, rfl⟩

set_option maxRecDepth 100000 in
set_option maxHeartbeats 1600000 in
theorem parse_long (s : ByteArray) (w : World) (hs : 4000 < s.size) :
    Calls Tryz.prog 13 #[.string s] w fun e w' => e = .returned (.tuple #[.slice none 0 0, .int .i64 4, .int .i64 0]) ∧ Below w.heap.size w w' := by
  have hmf : ∀ (fn : Fn) (first cap : Array Value) (w : World), (Instr.makeFunc fn first cap).run Tryz.prog w = .ok (.func fn first cap) w := fun _ _ _ _ => rfl
  have hsi : (4000 : Int) < (s.size : Int) := by omega
  go_enter_defers Tryz.func13, Tryz.ntmps13
  go_wp2
  simp [bodyPostD, Leaves, settle, results, Tryz.results13, go_sem]
  exact (((Below.refl _ _).alloc (Nat.le_refl _) _).alloc (by simp) _).alloc (by simp; omega) _

set_option maxRecDepth 100000 in
set_option maxHeartbeats 1600000 in
theorem parse_bad (s : ByteArray) (w : World) (hs : s.size ≤ 4000) (c : Int) (r : List UInt8) (hw : Wds w) (hr : rulesP s.data.toList = .bad c r) :
    Calls Tryz.prog 13 #[.string s] w fun e w' => e = .returned (.tuple #[.slice none 0 0, .int .i64 c, .int .i64 ((s.size - r.length : Nat) : Int)]) ∧ Below w.heap.size w w' := by
  have hmf : ∀ (fn : Fn) (first cap : Array Value) (w : World), (Instr.makeFunc fn first cap).run Tryz.prog w = .ok (.func fn first cap) w := fun _ _ _ _ => rfl
  have hsi : ¬ (4000 : Int) < (s.size : Int) := by omega
  have HW := Lib.hid hw
  have HR := Lib.hid hr
  have hw0 : 0 < w.heap.size := Nat.lt_of_le_of_lt (Nat.zero_le _) hw.lt
  have H0 : Hid (HeldR w 0 [(w.heap.size + 1 + 1 + 1 + 1, #[.string s, .int .i64 0, .bool false, .bool false, .bool false, .bool false, .bool false, .bool false, .bool false, .int .i64 0], 81), (w.heap.size + 1 + 1 + 1, #[.string s, .int .i64 0, .bool false], 78), (w.heap.size + 1 + 1, #[.int .i64 0], 3), (w.heap.size + 1, #[.int .i64 0], 29), (w.heap.size, #[.slice none 0 0], 26)] (((((w.alloc (.cells #[.slice none 0 0] 26)).alloc (.cells #[.int .i64 0] 29)).alloc (.cells #[.int .i64 0] 3)).alloc (.cells #[.string s, .int .i64 0, .bool false] 78)).alloc (.cells #[.string s, .int .i64 0, .bool false, .bool false, .bool false, .bool false, .bool false, .bool false, .bool false, .int .i64 0] 81))) := Lib.hid (HeldR.alloc (HeldR.alloc (HeldR.alloc (HeldR.alloc (HeldR.alloc (HeldR.refl hw0) (w.heap.size) #[.slice none 0 0] 26 rfl) (w.heap.size + 1) #[.int .i64 0] 29 (by simp)) (w.heap.size + 1 + 1) #[.int .i64 0] 3 (by simp)) (w.heap.size + 1 + 1 + 1) #[.string s, .int .i64 0, .bool false] 78 (by simp)) (w.heap.size + 1 + 1 + 1 + 1) _ 81 (by simp))
  have BB : Hid (Below w.heap.size w (((((w.alloc (.cells #[.slice none 0 0] 26)).alloc (.cells #[.int .i64 0] 29)).alloc (.cells #[.int .i64 0] 3)).alloc (.cells #[.string s, .int .i64 0, .bool false] 78)).alloc (.cells #[.string s, .int .i64 0, .bool false, .bool false, .bool false, .bool false, .bool false, .bool false, .bool false, .int .i64 0] 81))) := Lib.hid ((((((Below.refl _ _).alloc (Nat.le_refl _) _).alloc (by simp) _).alloc (by simp; omega) _).alloc (by simp; omega) _).alloc (by simp; omega) _)
  clear hw hr
  go_enter_defers Tryz.func13, Tryz.ntmps13
  go_wp2_with fail
  with_reducible refine (scanOf_as s _).mono ?_
  rintro x wq ⟨rfl, rfl⟩
  go_wp2_with fail
  generalize (((((w.alloc (.cells #[.slice none 0 0] 26)).alloc (.cells #[.int .i64 0] 29)).alloc (.cells #[.int .i64 0] 3)).alloc (.cells #[.string s, .int .i64 0, .bool false] 78)).alloc (.cells #[.string s, .int .i64 0, .bool false, .bool false, .bool false, .bool false, .bool false, .bool false, .bool false, .int .i64 0] 81)) = W4 at *
  have R4 : Hid (Rd W4 (w.heap.size + 1 + 1 + 1 + 1) s 0 (fun _ => false) 0) := Lib.hid (H0.out.f (List.Mem.head _))
  have hlt4 := R4.out.lt
  with_reducible refine (rules_as (w.heap.size + 1 + 1 + 1 + 1) s 0 (fun _ => false) s.data.toList W4 R4.out ⟨Nat.zero_le _, rfl⟩ (by omega) (HW.out.below BB.out) (by have := HW.out.lt; omega) (fun _ _ => rfl)).mono ?_
  intro x w5 ht
  obtain ⟨f2, n2, ht⟩ := ht
  rw [HR.out] at ht
  obtain ⟨q, rfl, hat, hg⟩ := ht
  obtain rfl : q = s.size - r.length := by have h1 := hat.len; have h2 := hat.le; omega
  have B0 := (H0.out.f (List.Mem.tail _ (List.Mem.tail _ (List.Mem.tail _ (List.Mem.tail _ (List.Mem.head _)))))).grown hg (by intro hh; simp at hh; try omega)
  have B1 := (H0.out.f (List.Mem.tail _ (List.Mem.tail _ (List.Mem.tail _ (List.Mem.head _))))).grown hg (by intro hh; simp at hh; try omega)
  have B2 := (H0.out.f (List.Mem.tail _ (List.Mem.tail _ (List.Mem.head _)))).grown hg (by intro hh; simp at hh; try omega)
  have b0 := B0.box.cell 0
  have b1 := B1.box.cell 0
  have b2 := B2.box.cell 0
  have bz0 := B0.box.frozen 0
  have bz1 := B1.box.frozen 0
  have bz2 := B2.box.frozen 0
  have bl0 := B0.box.lt
  have bl1 := B1.box.lt
  have bl2 := B2.box.lt
  have n01 : ¬ w.heap.size = w.heap.size + 1 := by omega
  have n02 : ¬ w.heap.size = w.heap.size + 1 + 1 := by omega
  have n12 : ¬ w.heap.size + 1 = w.heap.size + 1 + 1 := by omega
  have hsz5 := BB.out.size
  have HG5 := Lib.hid (below_grown BB.out hg (by omega) BB.out.size)
  clear hat hg H0 R4 HW HR
  go_wp2
  refine leaves_cons (f := 32) (args := #[.pointer (some ⟨w.heap.size, 0, none⟩), .pointer (some ⟨w.heap.size + 1, 0, none⟩), .pointer (some ⟨w.heap.size + 1 + 1, 0, none⟩)]) (by simp) (by simp [go_sem]) ?_
  refine (catch_fault (w.heap.size) (w.heap.size + 1) (w.heap.size + 1 + 1) c _ w5 _ _ _ b0 b1 b2 bz0 bz1 bz2 bl0 bl1 bl2 n01 n02 n12 _ rfl).mono ?_
  rintro z u' w'' ⟨rfl, rfl, rfl⟩
  simp [Leaves, settle, results, Tryz.results13, go_sem, b0, b1, b2, bl0, bl1, bl2, n01, n02, n12]
  exact ((((HG5.out.setCell (by simp) _).setCell (by simp) _).setCell (by simp; omega) _).alloc (by simp [World.setCell]; omega) _).drew

theorem RulesAt.monoB {w : World} {base base' : Nat} {xs : List RuleT} {v : Value} (h : RulesAt w base xs v) (hb : base' ≤ base) : RulesAt w base' xs v := by
  obtain ⟨cs, h1, h2⟩ := h; exact ⟨cs, own_mono h1 hb, h2⟩
set_option maxRecDepth 100000 in
set_option maxHeartbeats 1600000 in
theorem parse_ok (s : ByteArray) (w : World) (hs : s.size ≤ 4000) (xs : List RuleT) (r : List UInt8) (hw : Wds w) (hr : rulesP s.data.toList = .ok xs r) :
    Calls Tryz.prog 13 #[.string s] w fun e w' => ∃ v, e = .returned (.tuple #[v, .int .i64 0, .int .i64 0]) ∧ RulesAt w' w.heap.size xs v ∧ Below w.heap.size w w' := by
  have hmf : ∀ (fn : Fn) (first cap : Array Value) (w : World), (Instr.makeFunc fn first cap).run Tryz.prog w = .ok (.func fn first cap) w := fun _ _ _ _ => rfl
  have hsi : ¬ (4000 : Int) < (s.size : Int) := by omega
  have HW := Lib.hid hw
  have HR := Lib.hid hr
  have hw0 : 0 < w.heap.size := Nat.lt_of_le_of_lt (Nat.zero_le _) hw.lt
  have H0 : Hid (HeldR w 0 [(w.heap.size + 1 + 1 + 1 + 1, #[.string s, .int .i64 0, .bool false, .bool false, .bool false, .bool false, .bool false, .bool false, .bool false, .int .i64 0], 81), (w.heap.size + 1 + 1 + 1, #[.string s, .int .i64 0, .bool false], 78), (w.heap.size + 1 + 1, #[.int .i64 0], 3), (w.heap.size + 1, #[.int .i64 0], 29), (w.heap.size, #[.slice none 0 0], 26)] (((((w.alloc (.cells #[.slice none 0 0] 26)).alloc (.cells #[.int .i64 0] 29)).alloc (.cells #[.int .i64 0] 3)).alloc (.cells #[.string s, .int .i64 0, .bool false] 78)).alloc (.cells #[.string s, .int .i64 0, .bool false, .bool false, .bool false, .bool false, .bool false, .bool false, .bool false, .int .i64 0] 81))) := Lib.hid (HeldR.alloc (HeldR.alloc (HeldR.alloc (HeldR.alloc (HeldR.alloc (HeldR.refl hw0) (w.heap.size) #[.slice none 0 0] 26 rfl) (w.heap.size + 1) #[.int .i64 0] 29 (by simp)) (w.heap.size + 1 + 1) #[.int .i64 0] 3 (by simp)) (w.heap.size + 1 + 1 + 1) #[.string s, .int .i64 0, .bool false] 78 (by simp)) (w.heap.size + 1 + 1 + 1 + 1) _ 81 (by simp))
  have BB : Hid (Below w.heap.size w (((((w.alloc (.cells #[.slice none 0 0] 26)).alloc (.cells #[.int .i64 0] 29)).alloc (.cells #[.int .i64 0] 3)).alloc (.cells #[.string s, .int .i64 0, .bool false] 78)).alloc (.cells #[.string s, .int .i64 0, .bool false, .bool false, .bool false, .bool false, .bool false, .bool false, .bool false, .int .i64 0] 81))) := Lib.hid ((((((Below.refl _ _).alloc (Nat.le_refl _) _).alloc (by simp) _).alloc (by simp; omega) _).alloc (by simp; omega) _).alloc (by simp; omega) _)
  clear hw hr
  go_enter_defers Tryz.func13, Tryz.ntmps13
  go_wp2_with fail
  with_reducible refine (scanOf_as s _).mono ?_
  rintro x wq ⟨rfl, rfl⟩
  go_wp2_with fail
  generalize (((((w.alloc (.cells #[.slice none 0 0] 26)).alloc (.cells #[.int .i64 0] 29)).alloc (.cells #[.int .i64 0] 3)).alloc (.cells #[.string s, .int .i64 0, .bool false] 78)).alloc (.cells #[.string s, .int .i64 0, .bool false, .bool false, .bool false, .bool false, .bool false, .bool false, .bool false, .int .i64 0] 81)) = W4 at *
  have R4 : Hid (Rd W4 (w.heap.size + 1 + 1 + 1 + 1) s 0 (fun _ => false) 0) := Lib.hid (H0.out.f (List.Mem.head _))
  have hlt4 := R4.out.lt
  with_reducible refine (rules_as (w.heap.size + 1 + 1 + 1 + 1) s 0 (fun _ => false) s.data.toList W4 R4.out ⟨Nat.zero_le _, rfl⟩ (by omega) (HW.out.below BB.out) (by have := HW.out.lt; omega) (fun _ _ => rfl)).mono ?_
  intro x w5 ht
  obtain ⟨f2, n2, ht⟩ := ht
  rw [HR.out] at ht
  obtain ⟨v, q, rfl, hv, hat, hrr, hg⟩ := ht
  have B0 := (H0.out.f (List.Mem.tail _ (List.Mem.tail _ (List.Mem.tail _ (List.Mem.tail _ (List.Mem.head _)))))).grown hg (by intro hh; simp at hh; try omega)
  have B1 := (H0.out.f (List.Mem.tail _ (List.Mem.tail _ (List.Mem.tail _ (List.Mem.head _))))).grown hg (by intro hh; simp at hh; try omega)
  have B2 := (H0.out.f (List.Mem.tail _ (List.Mem.tail _ (List.Mem.head _)))).grown hg (by intro hh; simp at hh; try omega)
  have b0 := B0.box.cell 0
  have b1 := B1.box.cell 0
  have b2 := B2.box.cell 0
  have bz0 := B0.box.frozen 0
  have bz1 := B1.box.frozen 0
  have bz2 := B2.box.frozen 0
  have bl0 := B0.box.lt
  have bl1 := B1.box.lt
  have bl2 := B2.box.lt
  have n01 : ¬ w.heap.size = w.heap.size + 1 := by omega
  have n02 : ¬ w.heap.size = w.heap.size + 1 + 1 := by omega
  have n12 : ¬ w.heap.size + 1 = w.heap.size + 1 + 1 := by omega
  have hsz5 := BB.out.size
  have HG5 := Lib.hid (below_grown BB.out hg (by omega) BB.out.size)
  have HV := Lib.hid hv
  obtain ⟨csx, hox, hlx⟩ := hv
  obtain ⟨sa, sn, sc, hsv⟩ := own_slice hox
  subst hsv
  clear hat hg H0 R4 HW HR hrr hox hlx
  have HV1 := Lib.hid (HV.out.kept (grown_set (World.grownBy.refl _ _) 0 (.slice sa sn sc)) (BoxT.apart B0 (by decide)))
  have HV2 := Lib.hid (HV1.out.kept (grown_set (World.grownBy.refl _ _) 0 (.int .i64 0)) (BoxT.apart (B1.other (a := ⟨w.heap.size, 0, none⟩) (by simp) _) (by decide)))
  have HV3 := Lib.hid (HV2.out.kept (grown_set (World.grownBy.refl _ _) 0 (.int .i64 0)) (BoxT.apart ((B2.other (a := ⟨w.heap.size, 0, none⟩) (by simp; omega) _).other (a := ⟨w.heap.size + 1, 0, none⟩) (by simp) _) (by decide)))
  go_wp2
  refine leaves_cons (f := 32) (args := #[.pointer (some ⟨w.heap.size, 0, none⟩), .pointer (some ⟨w.heap.size + 1, 0, none⟩), .pointer (some ⟨w.heap.size + 1 + 1, 0, none⟩)]) (by simp) (by simp [go_sem]) ?_
  refine (catch_idle (w.heap.size) (w.heap.size + 1) (w.heap.size + 1 + 1) _).mono ?_
  rintro z u' w'' ⟨rfl, rfl, rfl⟩
  simp [Leaves, settle, results, Tryz.results13, go_sem, b0, b1, b2, bl0, bl1, bl2, n01, n02, n12]
  exact ⟨RulesAt.monoB (HV3.out.kept (World.grownBy_alloc _ _ none) (Apart.none _ _)) (by omega), (((HG5.out.setCell (by simp) _).setCell (by simp) _).setCell (by simp; omega) _).alloc (by simp [World.setCell]; omega) _⟩
end Go.Proofs.YtkjhdehpcanciaaGreatDoor
