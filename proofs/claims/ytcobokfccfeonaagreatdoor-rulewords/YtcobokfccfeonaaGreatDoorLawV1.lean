/- The walk of the law RuleWords. -/
import Derived.Test.YtcobokfccfeonaaGreatDoorMSt
namespace Go.Proofs.YtcobokfccfeonaaGreatDoor
open Go.RowKit Florin
set_option linter.unusedVariables false
set_option linter.unusedSimpArgs false
attribute [local go_sem ↓] Go.wp_at_zero Go.wp_at_succ


set_option maxRecDepth 100000 in
set_option maxHeartbeats 6400000 in
theorem words_0 (n : Int) (w : World) (ht : Tab w) (hw : Wds w) :
    Calls Tryz.prog 3 #[.int .i64 n, .string ⟨#[122, 101, 114, 111]⟩] w fun x w' => x = .returned (.bool true) ∧ Below w.heap.size w w' := by
  have HT := Lib.hid ht
  have HW := Lib.hid hw
  clear ht hw
  go_enter Tryz.func3, Tryz.ntmps3
  go_wp2_with fail
  with_reducible refine (head6 _ HT.out HW.out).mono ?_
  rintro x w1 ⟨rfl, hb⟩
  have H1 : Hid (HeldL w [] w1) := Lib.hid (HeldL.keep (HeldL.refl w) hb)
  clear hb
  go_upto_region 5 with fail
  have H2 : Hid (HeldL w [(w1.heap.size, #[.string ⟨#[122, 101, 114, 111]⟩, .string ⟨#[111, 110, 101]⟩, .string ⟨#[116, 119, 111]⟩, .string ⟨#[102, 101, 119]⟩, .string ⟨#[109, 97, 110, 121]⟩, .string ⟨#[111, 116, 104, 101, 114]⟩])] (w1.alloc (.cells #[.string ⟨#[122, 101, 114, 111]⟩, .string ⟨#[111, 110, 101]⟩, .string ⟨#[116, 119, 111]⟩, .string ⟨#[102, 101, 119]⟩, .string ⟨#[109, 97, 110, 121]⟩, .string ⟨#[111, 116, 104, 101, 114]⟩] 9))) := Lib.hid ((HeldL.alloc H1.out (w1.heap.size) #[.string ⟨#[122, 101, 114, 111]⟩, .string ⟨#[111, 110, 101]⟩, .string ⟨#[116, 119, 111]⟩, .string ⟨#[102, 101, 119]⟩, .string ⟨#[109, 97, 110, 121]⟩, .string ⟨#[111, 116, 104, 101, 114]⟩] 9 (by simp)))
  generalize (w1.alloc (.cells #[.string ⟨#[122, 101, 114, 111]⟩, .string ⟨#[111, 110, 101]⟩, .string ⟨#[116, 119, 111]⟩, .string ⟨#[102, 101, 119]⟩, .string ⟨#[109, 97, 110, 121]⟩, .string ⟨#[111, 116, 104, 101, 114]⟩] 9)) = w2 at *
  clear H1
  have bw0 : w2.cell? ⟨w1.heap.size, 0, none⟩ = some (.string ⟨#[122, 101, 114, 111]⟩) := (H2.out.f (List.Mem.head _)).cell 0
  have bw1 : w2.cell? ⟨w1.heap.size, 1, none⟩ = some (.string ⟨#[111, 110, 101]⟩) := (H2.out.f (List.Mem.head _)).cell 1
  have bw2 : w2.cell? ⟨w1.heap.size, 2, none⟩ = some (.string ⟨#[116, 119, 111]⟩) := (H2.out.f (List.Mem.head _)).cell 2
  have bw3 : w2.cell? ⟨w1.heap.size, 3, none⟩ = some (.string ⟨#[102, 101, 119]⟩) := (H2.out.f (List.Mem.head _)).cell 3
  have bw4 : w2.cell? ⟨w1.heap.size, 4, none⟩ = some (.string ⟨#[109, 97, 110, 121]⟩) := (H2.out.f (List.Mem.head _)).cell 4
  have bw5 : w2.cell? ⟨w1.heap.size, 5, none⟩ = some (.string ⟨#[111, 116, 104, 101, 114]⟩) := (H2.out.f (List.Mem.head _)).cell 5
  have bwl : w1.heap.size < w2.heap.size := (H2.out.f (List.Mem.head _)).lt
  go_cut [22] from 17 (fun v w' => v = .bool (decide (0 ≤ n ∧ n < 6)) ∧ w2 = w')
  case first =>
    by_cases n1 : (0 : Int) ≤ n
    · by_cases n2 : n < 6
      · have hd : decide (0 ≤ n ∧ n < 6) = true := decide_eq_true ⟨n1, n2⟩
        have HD := Lib.hid hd
        clear hd
        go_wp2
        go_meet
        case rel => exact ⟨by rw [HD.out], rfl⟩
      · have hd : decide (0 ≤ n ∧ n < 6) = false := decide_eq_false (fun h => n2 h.2)
        have HD := Lib.hid hd
        clear hd
        go_wp2
        go_meet
        case rel => exact ⟨by rw [HD.out], rfl⟩
    · have hd : decide (0 ≤ n ∧ n < 6) = false := decide_eq_false (fun h => n1 h.1)
      have HD := Lib.hid hd
      clear hd
      go_wp2
      go_meet
      case rel => exact ⟨by rw [HD.out], rfl⟩
  case rest =>
    obtain ⟨hv22, hw22⟩ := hcut
    subst hv22 hw22
    go_upto_if 22 with fail
    go_cut [6] from 14 (fun v w' => v = S (catT n) ∧ w2 = w')
    case first =>
      by_cases n1 : 0 ≤ n ∧ n < 6
      · rcases (show n = 0 ∨ n = 1 ∨ n = 2 ∨ n = 3 ∨ n = 4 ∨ n = 5 by omega) with rfl | rfl | rfl | rfl | rfl | rfl
        all_goals (go_wp2; go_meet; exact ⟨rfl, rfl⟩)
      · have hc : catT n = [] := if_neg (by omega)
        have HC := Lib.hid hc
        have hd : decide (0 ≤ n ∧ n < 6) = false := decide_eq_false n1
        clear hc
        go_wp2
        go_meet
        case rel => exact ⟨by rw [HC.out], rfl⟩
    case rest =>
      obtain ⟨hv6, hw6⟩ := hcut
      subst hv6 hw6
      go_wp2_with fail
      with_reducible refine (catOf_0 _ (HW.out.below H2.out.bel)).mono ?_
      rintro x wz ⟨rfl, rfl⟩
      go_wp2_with fail
      go_loop [9, 34] (fun b i => ∃ k : Nat, k ≤ 6 ∧ i = .int .i64 k ∧ b = .bool (decide (0 < k))) (fun _ i => 7 - (intOf i).toNat)
      case atStart => exact ⟨0, by decide, rfl, rfl⟩
      case round =>
        obtain ⟨k, hk, rfl, rfl⟩ := hrel
        rcases (show k = 0 ∨ k = 1 ∨ k = 2 ∨ k = 3 ∨ k = 4 ∨ k = 5 ∨ k = 6 by omega) with rfl | rfl | rfl | rfl | rfl | rfl | rfl
        · go_wp2_with fail
          with_reducible refine (catOf_0 _ (HW.out.below H2.out.bel)).mono ?_
          rintro x wz ⟨rfl, rfl⟩
          go_wp2
          go_round
          case rel => exact ⟨1, by decide, rfl, by first | rfl | decide⟩
          case measure => simp [intOf]
        · go_wp2_with fail
          with_reducible refine (catOf_1 _ (HW.out.below H2.out.bel)).mono ?_
          rintro x wz ⟨rfl, rfl⟩
          go_wp2
          go_round
          case rel => exact ⟨2, by decide, rfl, by first | rfl | decide⟩
          case measure => simp [intOf]
        · go_wp2_with fail
          with_reducible refine (catOf_2 _ (HW.out.below H2.out.bel)).mono ?_
          rintro x wz ⟨rfl, rfl⟩
          go_wp2
          go_round
          case rel => exact ⟨3, by decide, rfl, by first | rfl | decide⟩
          case measure => simp [intOf]
        · go_wp2_with fail
          with_reducible refine (catOf_3 _ (HW.out.below H2.out.bel)).mono ?_
          rintro x wz ⟨rfl, rfl⟩
          go_wp2
          go_round
          case rel => exact ⟨4, by decide, rfl, by first | rfl | decide⟩
          case measure => simp [intOf]
        · go_wp2_with fail
          with_reducible refine (catOf_4 _ (HW.out.below H2.out.bel)).mono ?_
          rintro x wz ⟨rfl, rfl⟩
          go_wp2
          go_round
          case rel => exact ⟨5, by decide, rfl, by first | rfl | decide⟩
          case measure => simp [intOf]
        · go_wp2_with fail
          with_reducible refine (catOf_5 _ (HW.out.below H2.out.bel)).mono ?_
          rintro x wz ⟨rfl, rfl⟩
          go_wp2
          go_round
          case rel => exact ⟨6, by decide, rfl, by first | rfl | decide⟩
          case measure => simp [intOf]
        · go_wp2_with fail
          with_reducible refine (catS_as n _ (HW.out.below H2.out.bel) _ rfl).mono ?_
          rintro x wz ⟨rfl, rfl⟩
          go_wp2
          go_ret
          exact ⟨by first | rfl | simp, H2.out.bel⟩

set_option maxRecDepth 100000 in
set_option maxHeartbeats 6400000 in
theorem words_1 (n : Int) (w : World) (ht : Tab w) (hw : Wds w) :
    Calls Tryz.prog 3 #[.int .i64 n, .string ⟨#[111, 110, 101]⟩] w fun x w' => x = .returned (.bool true) ∧ Below w.heap.size w w' := by
  have HT := Lib.hid ht
  have HW := Lib.hid hw
  clear ht hw
  go_enter Tryz.func3, Tryz.ntmps3
  go_wp2_with fail
  with_reducible refine (head6 _ HT.out HW.out).mono ?_
  rintro x w1 ⟨rfl, hb⟩
  have H1 : Hid (HeldL w [] w1) := Lib.hid (HeldL.keep (HeldL.refl w) hb)
  clear hb
  go_upto_region 5 with fail
  have H2 : Hid (HeldL w [(w1.heap.size, #[.string ⟨#[122, 101, 114, 111]⟩, .string ⟨#[111, 110, 101]⟩, .string ⟨#[116, 119, 111]⟩, .string ⟨#[102, 101, 119]⟩, .string ⟨#[109, 97, 110, 121]⟩, .string ⟨#[111, 116, 104, 101, 114]⟩])] (w1.alloc (.cells #[.string ⟨#[122, 101, 114, 111]⟩, .string ⟨#[111, 110, 101]⟩, .string ⟨#[116, 119, 111]⟩, .string ⟨#[102, 101, 119]⟩, .string ⟨#[109, 97, 110, 121]⟩, .string ⟨#[111, 116, 104, 101, 114]⟩] 9))) := Lib.hid ((HeldL.alloc H1.out (w1.heap.size) #[.string ⟨#[122, 101, 114, 111]⟩, .string ⟨#[111, 110, 101]⟩, .string ⟨#[116, 119, 111]⟩, .string ⟨#[102, 101, 119]⟩, .string ⟨#[109, 97, 110, 121]⟩, .string ⟨#[111, 116, 104, 101, 114]⟩] 9 (by simp)))
  generalize (w1.alloc (.cells #[.string ⟨#[122, 101, 114, 111]⟩, .string ⟨#[111, 110, 101]⟩, .string ⟨#[116, 119, 111]⟩, .string ⟨#[102, 101, 119]⟩, .string ⟨#[109, 97, 110, 121]⟩, .string ⟨#[111, 116, 104, 101, 114]⟩] 9)) = w2 at *
  clear H1
  have bw0 : w2.cell? ⟨w1.heap.size, 0, none⟩ = some (.string ⟨#[122, 101, 114, 111]⟩) := (H2.out.f (List.Mem.head _)).cell 0
  have bw1 : w2.cell? ⟨w1.heap.size, 1, none⟩ = some (.string ⟨#[111, 110, 101]⟩) := (H2.out.f (List.Mem.head _)).cell 1
  have bw2 : w2.cell? ⟨w1.heap.size, 2, none⟩ = some (.string ⟨#[116, 119, 111]⟩) := (H2.out.f (List.Mem.head _)).cell 2
  have bw3 : w2.cell? ⟨w1.heap.size, 3, none⟩ = some (.string ⟨#[102, 101, 119]⟩) := (H2.out.f (List.Mem.head _)).cell 3
  have bw4 : w2.cell? ⟨w1.heap.size, 4, none⟩ = some (.string ⟨#[109, 97, 110, 121]⟩) := (H2.out.f (List.Mem.head _)).cell 4
  have bw5 : w2.cell? ⟨w1.heap.size, 5, none⟩ = some (.string ⟨#[111, 116, 104, 101, 114]⟩) := (H2.out.f (List.Mem.head _)).cell 5
  have bwl : w1.heap.size < w2.heap.size := (H2.out.f (List.Mem.head _)).lt
  go_cut [22] from 17 (fun v w' => v = .bool (decide (0 ≤ n ∧ n < 6)) ∧ w2 = w')
  case first =>
    by_cases n1 : (0 : Int) ≤ n
    · by_cases n2 : n < 6
      · have hd : decide (0 ≤ n ∧ n < 6) = true := decide_eq_true ⟨n1, n2⟩
        have HD := Lib.hid hd
        clear hd
        go_wp2
        go_meet
        case rel => exact ⟨by rw [HD.out], rfl⟩
      · have hd : decide (0 ≤ n ∧ n < 6) = false := decide_eq_false (fun h => n2 h.2)
        have HD := Lib.hid hd
        clear hd
        go_wp2
        go_meet
        case rel => exact ⟨by rw [HD.out], rfl⟩
    · have hd : decide (0 ≤ n ∧ n < 6) = false := decide_eq_false (fun h => n1 h.1)
      have HD := Lib.hid hd
      clear hd
      go_wp2
      go_meet
      case rel => exact ⟨by rw [HD.out], rfl⟩
  case rest =>
    obtain ⟨hv22, hw22⟩ := hcut
    subst hv22 hw22
    go_upto_if 22 with fail
    go_cut [6] from 14 (fun v w' => v = S (catT n) ∧ w2 = w')
    case first =>
      by_cases n1 : 0 ≤ n ∧ n < 6
      · rcases (show n = 0 ∨ n = 1 ∨ n = 2 ∨ n = 3 ∨ n = 4 ∨ n = 5 by omega) with rfl | rfl | rfl | rfl | rfl | rfl
        all_goals (go_wp2; go_meet; exact ⟨rfl, rfl⟩)
      · have hc : catT n = [] := if_neg (by omega)
        have HC := Lib.hid hc
        have hd : decide (0 ≤ n ∧ n < 6) = false := decide_eq_false n1
        clear hc
        go_wp2
        go_meet
        case rel => exact ⟨by rw [HC.out], rfl⟩
    case rest =>
      obtain ⟨hv6, hw6⟩ := hcut
      subst hv6 hw6
      go_wp2_with fail
      with_reducible refine (catOf_1 _ (HW.out.below H2.out.bel)).mono ?_
      rintro x wz ⟨rfl, rfl⟩
      go_wp2_with fail
      go_loop [9, 34] (fun b i => ∃ k : Nat, k ≤ 6 ∧ i = .int .i64 k ∧ b = .bool (decide (1 < k))) (fun _ i => 7 - (intOf i).toNat)
      case atStart => exact ⟨0, by decide, rfl, rfl⟩
      case round =>
        obtain ⟨k, hk, rfl, rfl⟩ := hrel
        rcases (show k = 0 ∨ k = 1 ∨ k = 2 ∨ k = 3 ∨ k = 4 ∨ k = 5 ∨ k = 6 by omega) with rfl | rfl | rfl | rfl | rfl | rfl | rfl
        · go_wp2_with fail
          with_reducible refine (catOf_0 _ (HW.out.below H2.out.bel)).mono ?_
          rintro x wz ⟨rfl, rfl⟩
          go_wp2
          go_round
          case rel => exact ⟨1, by decide, rfl, by first | rfl | decide⟩
          case measure => simp [intOf]
        · go_wp2_with fail
          with_reducible refine (catOf_1 _ (HW.out.below H2.out.bel)).mono ?_
          rintro x wz ⟨rfl, rfl⟩
          go_wp2
          go_round
          case rel => exact ⟨2, by decide, rfl, by first | rfl | decide⟩
          case measure => simp [intOf]
        · go_wp2_with fail
          with_reducible refine (catOf_2 _ (HW.out.below H2.out.bel)).mono ?_
          rintro x wz ⟨rfl, rfl⟩
          go_wp2
          go_round
          case rel => exact ⟨3, by decide, rfl, by first | rfl | decide⟩
          case measure => simp [intOf]
        · go_wp2_with fail
          with_reducible refine (catOf_3 _ (HW.out.below H2.out.bel)).mono ?_
          rintro x wz ⟨rfl, rfl⟩
          go_wp2
          go_round
          case rel => exact ⟨4, by decide, rfl, by first | rfl | decide⟩
          case measure => simp [intOf]
        · go_wp2_with fail
          with_reducible refine (catOf_4 _ (HW.out.below H2.out.bel)).mono ?_
          rintro x wz ⟨rfl, rfl⟩
          go_wp2
          go_round
          case rel => exact ⟨5, by decide, rfl, by first | rfl | decide⟩
          case measure => simp [intOf]
        · go_wp2_with fail
          with_reducible refine (catOf_5 _ (HW.out.below H2.out.bel)).mono ?_
          rintro x wz ⟨rfl, rfl⟩
          go_wp2
          go_round
          case rel => exact ⟨6, by decide, rfl, by first | rfl | decide⟩
          case measure => simp [intOf]
        · go_wp2_with fail
          with_reducible refine (catS_as n _ (HW.out.below H2.out.bel) _ rfl).mono ?_
          rintro x wz ⟨rfl, rfl⟩
          go_wp2
          go_ret
          exact ⟨by first | rfl | simp, H2.out.bel⟩

set_option maxRecDepth 100000 in
set_option maxHeartbeats 6400000 in
theorem words_2 (n : Int) (w : World) (ht : Tab w) (hw : Wds w) :
    Calls Tryz.prog 3 #[.int .i64 n, .string ⟨#[116, 119, 111]⟩] w fun x w' => x = .returned (.bool true) ∧ Below w.heap.size w w' := by
  have HT := Lib.hid ht
  have HW := Lib.hid hw
  clear ht hw
  go_enter Tryz.func3, Tryz.ntmps3
  go_wp2_with fail
  with_reducible refine (head6 _ HT.out HW.out).mono ?_
  rintro x w1 ⟨rfl, hb⟩
  have H1 : Hid (HeldL w [] w1) := Lib.hid (HeldL.keep (HeldL.refl w) hb)
  clear hb
  go_upto_region 5 with fail
  have H2 : Hid (HeldL w [(w1.heap.size, #[.string ⟨#[122, 101, 114, 111]⟩, .string ⟨#[111, 110, 101]⟩, .string ⟨#[116, 119, 111]⟩, .string ⟨#[102, 101, 119]⟩, .string ⟨#[109, 97, 110, 121]⟩, .string ⟨#[111, 116, 104, 101, 114]⟩])] (w1.alloc (.cells #[.string ⟨#[122, 101, 114, 111]⟩, .string ⟨#[111, 110, 101]⟩, .string ⟨#[116, 119, 111]⟩, .string ⟨#[102, 101, 119]⟩, .string ⟨#[109, 97, 110, 121]⟩, .string ⟨#[111, 116, 104, 101, 114]⟩] 9))) := Lib.hid ((HeldL.alloc H1.out (w1.heap.size) #[.string ⟨#[122, 101, 114, 111]⟩, .string ⟨#[111, 110, 101]⟩, .string ⟨#[116, 119, 111]⟩, .string ⟨#[102, 101, 119]⟩, .string ⟨#[109, 97, 110, 121]⟩, .string ⟨#[111, 116, 104, 101, 114]⟩] 9 (by simp)))
  generalize (w1.alloc (.cells #[.string ⟨#[122, 101, 114, 111]⟩, .string ⟨#[111, 110, 101]⟩, .string ⟨#[116, 119, 111]⟩, .string ⟨#[102, 101, 119]⟩, .string ⟨#[109, 97, 110, 121]⟩, .string ⟨#[111, 116, 104, 101, 114]⟩] 9)) = w2 at *
  clear H1
  have bw0 : w2.cell? ⟨w1.heap.size, 0, none⟩ = some (.string ⟨#[122, 101, 114, 111]⟩) := (H2.out.f (List.Mem.head _)).cell 0
  have bw1 : w2.cell? ⟨w1.heap.size, 1, none⟩ = some (.string ⟨#[111, 110, 101]⟩) := (H2.out.f (List.Mem.head _)).cell 1
  have bw2 : w2.cell? ⟨w1.heap.size, 2, none⟩ = some (.string ⟨#[116, 119, 111]⟩) := (H2.out.f (List.Mem.head _)).cell 2
  have bw3 : w2.cell? ⟨w1.heap.size, 3, none⟩ = some (.string ⟨#[102, 101, 119]⟩) := (H2.out.f (List.Mem.head _)).cell 3
  have bw4 : w2.cell? ⟨w1.heap.size, 4, none⟩ = some (.string ⟨#[109, 97, 110, 121]⟩) := (H2.out.f (List.Mem.head _)).cell 4
  have bw5 : w2.cell? ⟨w1.heap.size, 5, none⟩ = some (.string ⟨#[111, 116, 104, 101, 114]⟩) := (H2.out.f (List.Mem.head _)).cell 5
  have bwl : w1.heap.size < w2.heap.size := (H2.out.f (List.Mem.head _)).lt
  go_cut [22] from 17 (fun v w' => v = .bool (decide (0 ≤ n ∧ n < 6)) ∧ w2 = w')
  case first =>
    by_cases n1 : (0 : Int) ≤ n
    · by_cases n2 : n < 6
      · have hd : decide (0 ≤ n ∧ n < 6) = true := decide_eq_true ⟨n1, n2⟩
        have HD := Lib.hid hd
        clear hd
        go_wp2
        go_meet
        case rel => exact ⟨by rw [HD.out], rfl⟩
      · have hd : decide (0 ≤ n ∧ n < 6) = false := decide_eq_false (fun h => n2 h.2)
        have HD := Lib.hid hd
        clear hd
        go_wp2
        go_meet
        case rel => exact ⟨by rw [HD.out], rfl⟩
    · have hd : decide (0 ≤ n ∧ n < 6) = false := decide_eq_false (fun h => n1 h.1)
      have HD := Lib.hid hd
      clear hd
      go_wp2
      go_meet
      case rel => exact ⟨by rw [HD.out], rfl⟩
  case rest =>
    obtain ⟨hv22, hw22⟩ := hcut
    subst hv22 hw22
    go_upto_if 22 with fail
    go_cut [6] from 14 (fun v w' => v = S (catT n) ∧ w2 = w')
    case first =>
      by_cases n1 : 0 ≤ n ∧ n < 6
      · rcases (show n = 0 ∨ n = 1 ∨ n = 2 ∨ n = 3 ∨ n = 4 ∨ n = 5 by omega) with rfl | rfl | rfl | rfl | rfl | rfl
        all_goals (go_wp2; go_meet; exact ⟨rfl, rfl⟩)
      · have hc : catT n = [] := if_neg (by omega)
        have HC := Lib.hid hc
        have hd : decide (0 ≤ n ∧ n < 6) = false := decide_eq_false n1
        clear hc
        go_wp2
        go_meet
        case rel => exact ⟨by rw [HC.out], rfl⟩
    case rest =>
      obtain ⟨hv6, hw6⟩ := hcut
      subst hv6 hw6
      go_wp2_with fail
      with_reducible refine (catOf_2 _ (HW.out.below H2.out.bel)).mono ?_
      rintro x wz ⟨rfl, rfl⟩
      go_wp2_with fail
      go_loop [9, 34] (fun b i => ∃ k : Nat, k ≤ 6 ∧ i = .int .i64 k ∧ b = .bool (decide (2 < k))) (fun _ i => 7 - (intOf i).toNat)
      case atStart => exact ⟨0, by decide, rfl, rfl⟩
      case round =>
        obtain ⟨k, hk, rfl, rfl⟩ := hrel
        rcases (show k = 0 ∨ k = 1 ∨ k = 2 ∨ k = 3 ∨ k = 4 ∨ k = 5 ∨ k = 6 by omega) with rfl | rfl | rfl | rfl | rfl | rfl | rfl
        · go_wp2_with fail
          with_reducible refine (catOf_0 _ (HW.out.below H2.out.bel)).mono ?_
          rintro x wz ⟨rfl, rfl⟩
          go_wp2
          go_round
          case rel => exact ⟨1, by decide, rfl, by first | rfl | decide⟩
          case measure => simp [intOf]
        · go_wp2_with fail
          with_reducible refine (catOf_1 _ (HW.out.below H2.out.bel)).mono ?_
          rintro x wz ⟨rfl, rfl⟩
          go_wp2
          go_round
          case rel => exact ⟨2, by decide, rfl, by first | rfl | decide⟩
          case measure => simp [intOf]
        · go_wp2_with fail
          with_reducible refine (catOf_2 _ (HW.out.below H2.out.bel)).mono ?_
          rintro x wz ⟨rfl, rfl⟩
          go_wp2
          go_round
          case rel => exact ⟨3, by decide, rfl, by first | rfl | decide⟩
          case measure => simp [intOf]
        · go_wp2_with fail
          with_reducible refine (catOf_3 _ (HW.out.below H2.out.bel)).mono ?_
          rintro x wz ⟨rfl, rfl⟩
          go_wp2
          go_round
          case rel => exact ⟨4, by decide, rfl, by first | rfl | decide⟩
          case measure => simp [intOf]
        · go_wp2_with fail
          with_reducible refine (catOf_4 _ (HW.out.below H2.out.bel)).mono ?_
          rintro x wz ⟨rfl, rfl⟩
          go_wp2
          go_round
          case rel => exact ⟨5, by decide, rfl, by first | rfl | decide⟩
          case measure => simp [intOf]
        · go_wp2_with fail
          with_reducible refine (catOf_5 _ (HW.out.below H2.out.bel)).mono ?_
          rintro x wz ⟨rfl, rfl⟩
          go_wp2
          go_round
          case rel => exact ⟨6, by decide, rfl, by first | rfl | decide⟩
          case measure => simp [intOf]
        · go_wp2_with fail
          with_reducible refine (catS_as n _ (HW.out.below H2.out.bel) _ rfl).mono ?_
          rintro x wz ⟨rfl, rfl⟩
          go_wp2
          go_ret
          exact ⟨by first | rfl | simp, H2.out.bel⟩

set_option maxRecDepth 100000 in
set_option maxHeartbeats 6400000 in
theorem words_3 (n : Int) (w : World) (ht : Tab w) (hw : Wds w) :
    Calls Tryz.prog 3 #[.int .i64 n, .string ⟨#[102, 101, 119]⟩] w fun x w' => x = .returned (.bool true) ∧ Below w.heap.size w w' := by
  have HT := Lib.hid ht
  have HW := Lib.hid hw
  clear ht hw
  go_enter Tryz.func3, Tryz.ntmps3
  go_wp2_with fail
  with_reducible refine (head6 _ HT.out HW.out).mono ?_
  rintro x w1 ⟨rfl, hb⟩
  have H1 : Hid (HeldL w [] w1) := Lib.hid (HeldL.keep (HeldL.refl w) hb)
  clear hb
  go_upto_region 5 with fail
  have H2 : Hid (HeldL w [(w1.heap.size, #[.string ⟨#[122, 101, 114, 111]⟩, .string ⟨#[111, 110, 101]⟩, .string ⟨#[116, 119, 111]⟩, .string ⟨#[102, 101, 119]⟩, .string ⟨#[109, 97, 110, 121]⟩, .string ⟨#[111, 116, 104, 101, 114]⟩])] (w1.alloc (.cells #[.string ⟨#[122, 101, 114, 111]⟩, .string ⟨#[111, 110, 101]⟩, .string ⟨#[116, 119, 111]⟩, .string ⟨#[102, 101, 119]⟩, .string ⟨#[109, 97, 110, 121]⟩, .string ⟨#[111, 116, 104, 101, 114]⟩] 9))) := Lib.hid ((HeldL.alloc H1.out (w1.heap.size) #[.string ⟨#[122, 101, 114, 111]⟩, .string ⟨#[111, 110, 101]⟩, .string ⟨#[116, 119, 111]⟩, .string ⟨#[102, 101, 119]⟩, .string ⟨#[109, 97, 110, 121]⟩, .string ⟨#[111, 116, 104, 101, 114]⟩] 9 (by simp)))
  generalize (w1.alloc (.cells #[.string ⟨#[122, 101, 114, 111]⟩, .string ⟨#[111, 110, 101]⟩, .string ⟨#[116, 119, 111]⟩, .string ⟨#[102, 101, 119]⟩, .string ⟨#[109, 97, 110, 121]⟩, .string ⟨#[111, 116, 104, 101, 114]⟩] 9)) = w2 at *
  clear H1
  have bw0 : w2.cell? ⟨w1.heap.size, 0, none⟩ = some (.string ⟨#[122, 101, 114, 111]⟩) := (H2.out.f (List.Mem.head _)).cell 0
  have bw1 : w2.cell? ⟨w1.heap.size, 1, none⟩ = some (.string ⟨#[111, 110, 101]⟩) := (H2.out.f (List.Mem.head _)).cell 1
  have bw2 : w2.cell? ⟨w1.heap.size, 2, none⟩ = some (.string ⟨#[116, 119, 111]⟩) := (H2.out.f (List.Mem.head _)).cell 2
  have bw3 : w2.cell? ⟨w1.heap.size, 3, none⟩ = some (.string ⟨#[102, 101, 119]⟩) := (H2.out.f (List.Mem.head _)).cell 3
  have bw4 : w2.cell? ⟨w1.heap.size, 4, none⟩ = some (.string ⟨#[109, 97, 110, 121]⟩) := (H2.out.f (List.Mem.head _)).cell 4
  have bw5 : w2.cell? ⟨w1.heap.size, 5, none⟩ = some (.string ⟨#[111, 116, 104, 101, 114]⟩) := (H2.out.f (List.Mem.head _)).cell 5
  have bwl : w1.heap.size < w2.heap.size := (H2.out.f (List.Mem.head _)).lt
  go_cut [22] from 17 (fun v w' => v = .bool (decide (0 ≤ n ∧ n < 6)) ∧ w2 = w')
  case first =>
    by_cases n1 : (0 : Int) ≤ n
    · by_cases n2 : n < 6
      · have hd : decide (0 ≤ n ∧ n < 6) = true := decide_eq_true ⟨n1, n2⟩
        have HD := Lib.hid hd
        clear hd
        go_wp2
        go_meet
        case rel => exact ⟨by rw [HD.out], rfl⟩
      · have hd : decide (0 ≤ n ∧ n < 6) = false := decide_eq_false (fun h => n2 h.2)
        have HD := Lib.hid hd
        clear hd
        go_wp2
        go_meet
        case rel => exact ⟨by rw [HD.out], rfl⟩
    · have hd : decide (0 ≤ n ∧ n < 6) = false := decide_eq_false (fun h => n1 h.1)
      have HD := Lib.hid hd
      clear hd
      go_wp2
      go_meet
      case rel => exact ⟨by rw [HD.out], rfl⟩
  case rest =>
    obtain ⟨hv22, hw22⟩ := hcut
    subst hv22 hw22
    go_upto_if 22 with fail
    go_cut [6] from 14 (fun v w' => v = S (catT n) ∧ w2 = w')
    case first =>
      by_cases n1 : 0 ≤ n ∧ n < 6
      · rcases (show n = 0 ∨ n = 1 ∨ n = 2 ∨ n = 3 ∨ n = 4 ∨ n = 5 by omega) with rfl | rfl | rfl | rfl | rfl | rfl
        all_goals (go_wp2; go_meet; exact ⟨rfl, rfl⟩)
      · have hc : catT n = [] := if_neg (by omega)
        have HC := Lib.hid hc
        have hd : decide (0 ≤ n ∧ n < 6) = false := decide_eq_false n1
        clear hc
        go_wp2
        go_meet
        case rel => exact ⟨by rw [HC.out], rfl⟩
    case rest =>
      obtain ⟨hv6, hw6⟩ := hcut
      subst hv6 hw6
      go_wp2_with fail
      with_reducible refine (catOf_3 _ (HW.out.below H2.out.bel)).mono ?_
      rintro x wz ⟨rfl, rfl⟩
      go_wp2_with fail
      go_loop [9, 34] (fun b i => ∃ k : Nat, k ≤ 6 ∧ i = .int .i64 k ∧ b = .bool (decide (3 < k))) (fun _ i => 7 - (intOf i).toNat)
      case atStart => exact ⟨0, by decide, rfl, rfl⟩
      case round =>
        obtain ⟨k, hk, rfl, rfl⟩ := hrel
        rcases (show k = 0 ∨ k = 1 ∨ k = 2 ∨ k = 3 ∨ k = 4 ∨ k = 5 ∨ k = 6 by omega) with rfl | rfl | rfl | rfl | rfl | rfl | rfl
        · go_wp2_with fail
          with_reducible refine (catOf_0 _ (HW.out.below H2.out.bel)).mono ?_
          rintro x wz ⟨rfl, rfl⟩
          go_wp2
          go_round
          case rel => exact ⟨1, by decide, rfl, by first | rfl | decide⟩
          case measure => simp [intOf]
        · go_wp2_with fail
          with_reducible refine (catOf_1 _ (HW.out.below H2.out.bel)).mono ?_
          rintro x wz ⟨rfl, rfl⟩
          go_wp2
          go_round
          case rel => exact ⟨2, by decide, rfl, by first | rfl | decide⟩
          case measure => simp [intOf]
        · go_wp2_with fail
          with_reducible refine (catOf_2 _ (HW.out.below H2.out.bel)).mono ?_
          rintro x wz ⟨rfl, rfl⟩
          go_wp2
          go_round
          case rel => exact ⟨3, by decide, rfl, by first | rfl | decide⟩
          case measure => simp [intOf]
        · go_wp2_with fail
          with_reducible refine (catOf_3 _ (HW.out.below H2.out.bel)).mono ?_
          rintro x wz ⟨rfl, rfl⟩
          go_wp2
          go_round
          case rel => exact ⟨4, by decide, rfl, by first | rfl | decide⟩
          case measure => simp [intOf]
        · go_wp2_with fail
          with_reducible refine (catOf_4 _ (HW.out.below H2.out.bel)).mono ?_
          rintro x wz ⟨rfl, rfl⟩
          go_wp2
          go_round
          case rel => exact ⟨5, by decide, rfl, by first | rfl | decide⟩
          case measure => simp [intOf]
        · go_wp2_with fail
          with_reducible refine (catOf_5 _ (HW.out.below H2.out.bel)).mono ?_
          rintro x wz ⟨rfl, rfl⟩
          go_wp2
          go_round
          case rel => exact ⟨6, by decide, rfl, by first | rfl | decide⟩
          case measure => simp [intOf]
        · go_wp2_with fail
          with_reducible refine (catS_as n _ (HW.out.below H2.out.bel) _ rfl).mono ?_
          rintro x wz ⟨rfl, rfl⟩
          go_wp2
          go_ret
          exact ⟨by first | rfl | simp, H2.out.bel⟩

set_option maxRecDepth 100000 in
set_option maxHeartbeats 6400000 in
theorem words_4 (n : Int) (w : World) (ht : Tab w) (hw : Wds w) :
    Calls Tryz.prog 3 #[.int .i64 n, .string ⟨#[109, 97, 110, 121]⟩] w fun x w' => x = .returned (.bool true) ∧ Below w.heap.size w w' := by
  have HT := Lib.hid ht
  have HW := Lib.hid hw
  clear ht hw
  go_enter Tryz.func3, Tryz.ntmps3
  go_wp2_with fail
  with_reducible refine (head6 _ HT.out HW.out).mono ?_
  rintro x w1 ⟨rfl, hb⟩
  have H1 : Hid (HeldL w [] w1) := Lib.hid (HeldL.keep (HeldL.refl w) hb)
  clear hb
  go_upto_region 5 with fail
  have H2 : Hid (HeldL w [(w1.heap.size, #[.string ⟨#[122, 101, 114, 111]⟩, .string ⟨#[111, 110, 101]⟩, .string ⟨#[116, 119, 111]⟩, .string ⟨#[102, 101, 119]⟩, .string ⟨#[109, 97, 110, 121]⟩, .string ⟨#[111, 116, 104, 101, 114]⟩])] (w1.alloc (.cells #[.string ⟨#[122, 101, 114, 111]⟩, .string ⟨#[111, 110, 101]⟩, .string ⟨#[116, 119, 111]⟩, .string ⟨#[102, 101, 119]⟩, .string ⟨#[109, 97, 110, 121]⟩, .string ⟨#[111, 116, 104, 101, 114]⟩] 9))) := Lib.hid ((HeldL.alloc H1.out (w1.heap.size) #[.string ⟨#[122, 101, 114, 111]⟩, .string ⟨#[111, 110, 101]⟩, .string ⟨#[116, 119, 111]⟩, .string ⟨#[102, 101, 119]⟩, .string ⟨#[109, 97, 110, 121]⟩, .string ⟨#[111, 116, 104, 101, 114]⟩] 9 (by simp)))
  generalize (w1.alloc (.cells #[.string ⟨#[122, 101, 114, 111]⟩, .string ⟨#[111, 110, 101]⟩, .string ⟨#[116, 119, 111]⟩, .string ⟨#[102, 101, 119]⟩, .string ⟨#[109, 97, 110, 121]⟩, .string ⟨#[111, 116, 104, 101, 114]⟩] 9)) = w2 at *
  clear H1
  have bw0 : w2.cell? ⟨w1.heap.size, 0, none⟩ = some (.string ⟨#[122, 101, 114, 111]⟩) := (H2.out.f (List.Mem.head _)).cell 0
  have bw1 : w2.cell? ⟨w1.heap.size, 1, none⟩ = some (.string ⟨#[111, 110, 101]⟩) := (H2.out.f (List.Mem.head _)).cell 1
  have bw2 : w2.cell? ⟨w1.heap.size, 2, none⟩ = some (.string ⟨#[116, 119, 111]⟩) := (H2.out.f (List.Mem.head _)).cell 2
  have bw3 : w2.cell? ⟨w1.heap.size, 3, none⟩ = some (.string ⟨#[102, 101, 119]⟩) := (H2.out.f (List.Mem.head _)).cell 3
  have bw4 : w2.cell? ⟨w1.heap.size, 4, none⟩ = some (.string ⟨#[109, 97, 110, 121]⟩) := (H2.out.f (List.Mem.head _)).cell 4
  have bw5 : w2.cell? ⟨w1.heap.size, 5, none⟩ = some (.string ⟨#[111, 116, 104, 101, 114]⟩) := (H2.out.f (List.Mem.head _)).cell 5
  have bwl : w1.heap.size < w2.heap.size := (H2.out.f (List.Mem.head _)).lt
  go_cut [22] from 17 (fun v w' => v = .bool (decide (0 ≤ n ∧ n < 6)) ∧ w2 = w')
  case first =>
    by_cases n1 : (0 : Int) ≤ n
    · by_cases n2 : n < 6
      · have hd : decide (0 ≤ n ∧ n < 6) = true := decide_eq_true ⟨n1, n2⟩
        have HD := Lib.hid hd
        clear hd
        go_wp2
        go_meet
        case rel => exact ⟨by rw [HD.out], rfl⟩
      · have hd : decide (0 ≤ n ∧ n < 6) = false := decide_eq_false (fun h => n2 h.2)
        have HD := Lib.hid hd
        clear hd
        go_wp2
        go_meet
        case rel => exact ⟨by rw [HD.out], rfl⟩
    · have hd : decide (0 ≤ n ∧ n < 6) = false := decide_eq_false (fun h => n1 h.1)
      have HD := Lib.hid hd
      clear hd
      go_wp2
      go_meet
      case rel => exact ⟨by rw [HD.out], rfl⟩
  case rest =>
    obtain ⟨hv22, hw22⟩ := hcut
    subst hv22 hw22
    go_upto_if 22 with fail
    go_cut [6] from 14 (fun v w' => v = S (catT n) ∧ w2 = w')
    case first =>
      by_cases n1 : 0 ≤ n ∧ n < 6
      · rcases (show n = 0 ∨ n = 1 ∨ n = 2 ∨ n = 3 ∨ n = 4 ∨ n = 5 by omega) with rfl | rfl | rfl | rfl | rfl | rfl
        all_goals (go_wp2; go_meet; exact ⟨rfl, rfl⟩)
      · have hc : catT n = [] := if_neg (by omega)
        have HC := Lib.hid hc
        have hd : decide (0 ≤ n ∧ n < 6) = false := decide_eq_false n1
        clear hc
        go_wp2
        go_meet
        case rel => exact ⟨by rw [HC.out], rfl⟩
    case rest =>
      obtain ⟨hv6, hw6⟩ := hcut
      subst hv6 hw6
      go_wp2_with fail
      with_reducible refine (catOf_4 _ (HW.out.below H2.out.bel)).mono ?_
      rintro x wz ⟨rfl, rfl⟩
      go_wp2_with fail
      go_loop [9, 34] (fun b i => ∃ k : Nat, k ≤ 6 ∧ i = .int .i64 k ∧ b = .bool (decide (4 < k))) (fun _ i => 7 - (intOf i).toNat)
      case atStart => exact ⟨0, by decide, rfl, rfl⟩
      case round =>
        obtain ⟨k, hk, rfl, rfl⟩ := hrel
        rcases (show k = 0 ∨ k = 1 ∨ k = 2 ∨ k = 3 ∨ k = 4 ∨ k = 5 ∨ k = 6 by omega) with rfl | rfl | rfl | rfl | rfl | rfl | rfl
        · go_wp2_with fail
          with_reducible refine (catOf_0 _ (HW.out.below H2.out.bel)).mono ?_
          rintro x wz ⟨rfl, rfl⟩
          go_wp2
          go_round
          case rel => exact ⟨1, by decide, rfl, by first | rfl | decide⟩
          case measure => simp [intOf]
        · go_wp2_with fail
          with_reducible refine (catOf_1 _ (HW.out.below H2.out.bel)).mono ?_
          rintro x wz ⟨rfl, rfl⟩
          go_wp2
          go_round
          case rel => exact ⟨2, by decide, rfl, by first | rfl | decide⟩
          case measure => simp [intOf]
        · go_wp2_with fail
          with_reducible refine (catOf_2 _ (HW.out.below H2.out.bel)).mono ?_
          rintro x wz ⟨rfl, rfl⟩
          go_wp2
          go_round
          case rel => exact ⟨3, by decide, rfl, by first | rfl | decide⟩
          case measure => simp [intOf]
        · go_wp2_with fail
          with_reducible refine (catOf_3 _ (HW.out.below H2.out.bel)).mono ?_
          rintro x wz ⟨rfl, rfl⟩
          go_wp2
          go_round
          case rel => exact ⟨4, by decide, rfl, by first | rfl | decide⟩
          case measure => simp [intOf]
        · go_wp2_with fail
          with_reducible refine (catOf_4 _ (HW.out.below H2.out.bel)).mono ?_
          rintro x wz ⟨rfl, rfl⟩
          go_wp2
          go_round
          case rel => exact ⟨5, by decide, rfl, by first | rfl | decide⟩
          case measure => simp [intOf]
        · go_wp2_with fail
          with_reducible refine (catOf_5 _ (HW.out.below H2.out.bel)).mono ?_
          rintro x wz ⟨rfl, rfl⟩
          go_wp2
          go_round
          case rel => exact ⟨6, by decide, rfl, by first | rfl | decide⟩
          case measure => simp [intOf]
        · go_wp2_with fail
          with_reducible refine (catS_as n _ (HW.out.below H2.out.bel) _ rfl).mono ?_
          rintro x wz ⟨rfl, rfl⟩
          go_wp2
          go_ret
          exact ⟨by first | rfl | simp, H2.out.bel⟩

set_option maxRecDepth 100000 in
set_option maxHeartbeats 6400000 in
theorem words_5 (n : Int) (w : World) (ht : Tab w) (hw : Wds w) :
    Calls Tryz.prog 3 #[.int .i64 n, .string ⟨#[111, 116, 104, 101, 114]⟩] w fun x w' => x = .returned (.bool true) ∧ Below w.heap.size w w' := by
  have HT := Lib.hid ht
  have HW := Lib.hid hw
  clear ht hw
  go_enter Tryz.func3, Tryz.ntmps3
  go_wp2_with fail
  with_reducible refine (head6 _ HT.out HW.out).mono ?_
  rintro x w1 ⟨rfl, hb⟩
  have H1 : Hid (HeldL w [] w1) := Lib.hid (HeldL.keep (HeldL.refl w) hb)
  clear hb
  go_upto_region 5 with fail
  have H2 : Hid (HeldL w [(w1.heap.size, #[.string ⟨#[122, 101, 114, 111]⟩, .string ⟨#[111, 110, 101]⟩, .string ⟨#[116, 119, 111]⟩, .string ⟨#[102, 101, 119]⟩, .string ⟨#[109, 97, 110, 121]⟩, .string ⟨#[111, 116, 104, 101, 114]⟩])] (w1.alloc (.cells #[.string ⟨#[122, 101, 114, 111]⟩, .string ⟨#[111, 110, 101]⟩, .string ⟨#[116, 119, 111]⟩, .string ⟨#[102, 101, 119]⟩, .string ⟨#[109, 97, 110, 121]⟩, .string ⟨#[111, 116, 104, 101, 114]⟩] 9))) := Lib.hid ((HeldL.alloc H1.out (w1.heap.size) #[.string ⟨#[122, 101, 114, 111]⟩, .string ⟨#[111, 110, 101]⟩, .string ⟨#[116, 119, 111]⟩, .string ⟨#[102, 101, 119]⟩, .string ⟨#[109, 97, 110, 121]⟩, .string ⟨#[111, 116, 104, 101, 114]⟩] 9 (by simp)))
  generalize (w1.alloc (.cells #[.string ⟨#[122, 101, 114, 111]⟩, .string ⟨#[111, 110, 101]⟩, .string ⟨#[116, 119, 111]⟩, .string ⟨#[102, 101, 119]⟩, .string ⟨#[109, 97, 110, 121]⟩, .string ⟨#[111, 116, 104, 101, 114]⟩] 9)) = w2 at *
  clear H1
  have bw0 : w2.cell? ⟨w1.heap.size, 0, none⟩ = some (.string ⟨#[122, 101, 114, 111]⟩) := (H2.out.f (List.Mem.head _)).cell 0
  have bw1 : w2.cell? ⟨w1.heap.size, 1, none⟩ = some (.string ⟨#[111, 110, 101]⟩) := (H2.out.f (List.Mem.head _)).cell 1
  have bw2 : w2.cell? ⟨w1.heap.size, 2, none⟩ = some (.string ⟨#[116, 119, 111]⟩) := (H2.out.f (List.Mem.head _)).cell 2
  have bw3 : w2.cell? ⟨w1.heap.size, 3, none⟩ = some (.string ⟨#[102, 101, 119]⟩) := (H2.out.f (List.Mem.head _)).cell 3
  have bw4 : w2.cell? ⟨w1.heap.size, 4, none⟩ = some (.string ⟨#[109, 97, 110, 121]⟩) := (H2.out.f (List.Mem.head _)).cell 4
  have bw5 : w2.cell? ⟨w1.heap.size, 5, none⟩ = some (.string ⟨#[111, 116, 104, 101, 114]⟩) := (H2.out.f (List.Mem.head _)).cell 5
  have bwl : w1.heap.size < w2.heap.size := (H2.out.f (List.Mem.head _)).lt
  go_cut [22] from 17 (fun v w' => v = .bool (decide (0 ≤ n ∧ n < 6)) ∧ w2 = w')
  case first =>
    by_cases n1 : (0 : Int) ≤ n
    · by_cases n2 : n < 6
      · have hd : decide (0 ≤ n ∧ n < 6) = true := decide_eq_true ⟨n1, n2⟩
        have HD := Lib.hid hd
        clear hd
        go_wp2
        go_meet
        case rel => exact ⟨by rw [HD.out], rfl⟩
      · have hd : decide (0 ≤ n ∧ n < 6) = false := decide_eq_false (fun h => n2 h.2)
        have HD := Lib.hid hd
        clear hd
        go_wp2
        go_meet
        case rel => exact ⟨by rw [HD.out], rfl⟩
    · have hd : decide (0 ≤ n ∧ n < 6) = false := decide_eq_false (fun h => n1 h.1)
      have HD := Lib.hid hd
      clear hd
      go_wp2
      go_meet
      case rel => exact ⟨by rw [HD.out], rfl⟩
  case rest =>
    obtain ⟨hv22, hw22⟩ := hcut
    subst hv22 hw22
    go_upto_if 22 with fail
    go_cut [6] from 14 (fun v w' => v = S (catT n) ∧ w2 = w')
    case first =>
      by_cases n1 : 0 ≤ n ∧ n < 6
      · rcases (show n = 0 ∨ n = 1 ∨ n = 2 ∨ n = 3 ∨ n = 4 ∨ n = 5 by omega) with rfl | rfl | rfl | rfl | rfl | rfl
        all_goals (go_wp2; go_meet; exact ⟨rfl, rfl⟩)
      · have hc : catT n = [] := if_neg (by omega)
        have HC := Lib.hid hc
        have hd : decide (0 ≤ n ∧ n < 6) = false := decide_eq_false n1
        clear hc
        go_wp2
        go_meet
        case rel => exact ⟨by rw [HC.out], rfl⟩
    case rest =>
      obtain ⟨hv6, hw6⟩ := hcut
      subst hv6 hw6
      go_wp2_with fail
      with_reducible refine (catOf_5 _ (HW.out.below H2.out.bel)).mono ?_
      rintro x wz ⟨rfl, rfl⟩
      go_wp2_with fail
      go_loop [9, 34] (fun b i => ∃ k : Nat, k ≤ 6 ∧ i = .int .i64 k ∧ b = .bool (decide (5 < k))) (fun _ i => 7 - (intOf i).toNat)
      case atStart => exact ⟨0, by decide, rfl, rfl⟩
      case round =>
        obtain ⟨k, hk, rfl, rfl⟩ := hrel
        rcases (show k = 0 ∨ k = 1 ∨ k = 2 ∨ k = 3 ∨ k = 4 ∨ k = 5 ∨ k = 6 by omega) with rfl | rfl | rfl | rfl | rfl | rfl | rfl
        · go_wp2_with fail
          with_reducible refine (catOf_0 _ (HW.out.below H2.out.bel)).mono ?_
          rintro x wz ⟨rfl, rfl⟩
          go_wp2
          go_round
          case rel => exact ⟨1, by decide, rfl, by first | rfl | decide⟩
          case measure => simp [intOf]
        · go_wp2_with fail
          with_reducible refine (catOf_1 _ (HW.out.below H2.out.bel)).mono ?_
          rintro x wz ⟨rfl, rfl⟩
          go_wp2
          go_round
          case rel => exact ⟨2, by decide, rfl, by first | rfl | decide⟩
          case measure => simp [intOf]
        · go_wp2_with fail
          with_reducible refine (catOf_2 _ (HW.out.below H2.out.bel)).mono ?_
          rintro x wz ⟨rfl, rfl⟩
          go_wp2
          go_round
          case rel => exact ⟨3, by decide, rfl, by first | rfl | decide⟩
          case measure => simp [intOf]
        · go_wp2_with fail
          with_reducible refine (catOf_3 _ (HW.out.below H2.out.bel)).mono ?_
          rintro x wz ⟨rfl, rfl⟩
          go_wp2
          go_round
          case rel => exact ⟨4, by decide, rfl, by first | rfl | decide⟩
          case measure => simp [intOf]
        · go_wp2_with fail
          with_reducible refine (catOf_4 _ (HW.out.below H2.out.bel)).mono ?_
          rintro x wz ⟨rfl, rfl⟩
          go_wp2
          go_round
          case rel => exact ⟨5, by decide, rfl, by first | rfl | decide⟩
          case measure => simp [intOf]
        · go_wp2_with fail
          with_reducible refine (catOf_5 _ (HW.out.below H2.out.bel)).mono ?_
          rintro x wz ⟨rfl, rfl⟩
          go_wp2
          go_round
          case rel => exact ⟨6, by decide, rfl, by first | rfl | decide⟩
          case measure => simp [intOf]
        · go_wp2_with fail
          with_reducible refine (catS_as n _ (HW.out.below H2.out.bel) _ rfl).mono ?_
          rintro x wz ⟨rfl, rfl⟩
          go_wp2
          go_ret
          exact ⟨by first | rfl | simp, H2.out.bel⟩

set_option maxRecDepth 100000 in
set_option maxHeartbeats 6400000 in
theorem words_6 (n : Int) (s : ByteArray) (w : World) (ht : Tab w) (hw : Wds w) (hs : catB s.data.toList = 6) :
    Calls Tryz.prog 3 #[.int .i64 n, .string s] w fun x w' => x = .returned (.bool true) ∧ Below w.heap.size w w' := by
  have HT := Lib.hid ht
  have HW := Lib.hid hw
  have hn : ∀ x ∈ wordB, s.data.toList ≠ x := by
    intro x hx e
    have : catB s.data.toList < wordB.length := List.idxOf_lt_length_of_mem (by rw [e]; exact hx)
    rw [hs] at this
    exact absurd this (by decide)
  have e0 : (s.toList == [122, 101, 114, 111]) = false := by rw [Lib.toList_data]; exact beq_eq_false_iff_ne.2 (hn _ (by decide))
  have d0 : ([122, 101, 114, 111] == s.toList) = false := by rw [Lib.toList_data]; exact beq_eq_false_iff_ne.2 (fun e => hn _ (by decide) e.symm)
  have e1 : (s.toList == [111, 110, 101]) = false := by rw [Lib.toList_data]; exact beq_eq_false_iff_ne.2 (hn _ (by decide))
  have d1 : ([111, 110, 101] == s.toList) = false := by rw [Lib.toList_data]; exact beq_eq_false_iff_ne.2 (fun e => hn _ (by decide) e.symm)
  have e2 : (s.toList == [116, 119, 111]) = false := by rw [Lib.toList_data]; exact beq_eq_false_iff_ne.2 (hn _ (by decide))
  have d2 : ([116, 119, 111] == s.toList) = false := by rw [Lib.toList_data]; exact beq_eq_false_iff_ne.2 (fun e => hn _ (by decide) e.symm)
  have e3 : (s.toList == [102, 101, 119]) = false := by rw [Lib.toList_data]; exact beq_eq_false_iff_ne.2 (hn _ (by decide))
  have d3 : ([102, 101, 119] == s.toList) = false := by rw [Lib.toList_data]; exact beq_eq_false_iff_ne.2 (fun e => hn _ (by decide) e.symm)
  have e4 : (s.toList == [109, 97, 110, 121]) = false := by rw [Lib.toList_data]; exact beq_eq_false_iff_ne.2 (hn _ (by decide))
  have d4 : ([109, 97, 110, 121] == s.toList) = false := by rw [Lib.toList_data]; exact beq_eq_false_iff_ne.2 (fun e => hn _ (by decide) e.symm)
  have e5 : (s.toList == [111, 116, 104, 101, 114]) = false := by rw [Lib.toList_data]; exact beq_eq_false_iff_ne.2 (hn _ (by decide))
  have d5 : ([111, 116, 104, 101, 114] == s.toList) = false := by rw [Lib.toList_data]; exact beq_eq_false_iff_ne.2 (fun e => hn _ (by decide) e.symm)
  have HS := Lib.hid hs
  clear hn hs
  clear ht hw
  go_enter Tryz.func3, Tryz.ntmps3
  go_wp2_with fail
  with_reducible refine (head6 _ HT.out HW.out).mono ?_
  rintro x w1 ⟨rfl, hb⟩
  have H1 : Hid (HeldL w [] w1) := Lib.hid (HeldL.keep (HeldL.refl w) hb)
  clear hb
  go_upto_region 5 with fail
  have H2 : Hid (HeldL w [(w1.heap.size, #[.string ⟨#[122, 101, 114, 111]⟩, .string ⟨#[111, 110, 101]⟩, .string ⟨#[116, 119, 111]⟩, .string ⟨#[102, 101, 119]⟩, .string ⟨#[109, 97, 110, 121]⟩, .string ⟨#[111, 116, 104, 101, 114]⟩])] (w1.alloc (.cells #[.string ⟨#[122, 101, 114, 111]⟩, .string ⟨#[111, 110, 101]⟩, .string ⟨#[116, 119, 111]⟩, .string ⟨#[102, 101, 119]⟩, .string ⟨#[109, 97, 110, 121]⟩, .string ⟨#[111, 116, 104, 101, 114]⟩] 9))) := Lib.hid ((HeldL.alloc H1.out (w1.heap.size) #[.string ⟨#[122, 101, 114, 111]⟩, .string ⟨#[111, 110, 101]⟩, .string ⟨#[116, 119, 111]⟩, .string ⟨#[102, 101, 119]⟩, .string ⟨#[109, 97, 110, 121]⟩, .string ⟨#[111, 116, 104, 101, 114]⟩] 9 (by simp)))
  generalize (w1.alloc (.cells #[.string ⟨#[122, 101, 114, 111]⟩, .string ⟨#[111, 110, 101]⟩, .string ⟨#[116, 119, 111]⟩, .string ⟨#[102, 101, 119]⟩, .string ⟨#[109, 97, 110, 121]⟩, .string ⟨#[111, 116, 104, 101, 114]⟩] 9)) = w2 at *
  clear H1
  have bw0 : w2.cell? ⟨w1.heap.size, 0, none⟩ = some (.string ⟨#[122, 101, 114, 111]⟩) := (H2.out.f (List.Mem.head _)).cell 0
  have bw1 : w2.cell? ⟨w1.heap.size, 1, none⟩ = some (.string ⟨#[111, 110, 101]⟩) := (H2.out.f (List.Mem.head _)).cell 1
  have bw2 : w2.cell? ⟨w1.heap.size, 2, none⟩ = some (.string ⟨#[116, 119, 111]⟩) := (H2.out.f (List.Mem.head _)).cell 2
  have bw3 : w2.cell? ⟨w1.heap.size, 3, none⟩ = some (.string ⟨#[102, 101, 119]⟩) := (H2.out.f (List.Mem.head _)).cell 3
  have bw4 : w2.cell? ⟨w1.heap.size, 4, none⟩ = some (.string ⟨#[109, 97, 110, 121]⟩) := (H2.out.f (List.Mem.head _)).cell 4
  have bw5 : w2.cell? ⟨w1.heap.size, 5, none⟩ = some (.string ⟨#[111, 116, 104, 101, 114]⟩) := (H2.out.f (List.Mem.head _)).cell 5
  have bwl : w1.heap.size < w2.heap.size := (H2.out.f (List.Mem.head _)).lt
  go_cut [22] from 17 (fun v w' => v = .bool (decide (0 ≤ n ∧ n < 6)) ∧ w2 = w')
  case first =>
    by_cases n1 : (0 : Int) ≤ n
    · by_cases n2 : n < 6
      · have hd : decide (0 ≤ n ∧ n < 6) = true := decide_eq_true ⟨n1, n2⟩
        have HD := Lib.hid hd
        clear hd
        go_wp2
        go_meet
        case rel => exact ⟨by rw [HD.out], rfl⟩
      · have hd : decide (0 ≤ n ∧ n < 6) = false := decide_eq_false (fun h => n2 h.2)
        have HD := Lib.hid hd
        clear hd
        go_wp2
        go_meet
        case rel => exact ⟨by rw [HD.out], rfl⟩
    · have hd : decide (0 ≤ n ∧ n < 6) = false := decide_eq_false (fun h => n1 h.1)
      have HD := Lib.hid hd
      clear hd
      go_wp2
      go_meet
      case rel => exact ⟨by rw [HD.out], rfl⟩
  case rest =>
    obtain ⟨hv22, hw22⟩ := hcut
    subst hv22 hw22
    go_upto_if 22 with fail
    go_cut [6] from 14 (fun v w' => v = S (catT n) ∧ w2 = w')
    case first =>
      by_cases n1 : 0 ≤ n ∧ n < 6
      · rcases (show n = 0 ∨ n = 1 ∨ n = 2 ∨ n = 3 ∨ n = 4 ∨ n = 5 by omega) with rfl | rfl | rfl | rfl | rfl | rfl
        all_goals (go_wp2; go_meet; exact ⟨rfl, rfl⟩)
      · have hc : catT n = [] := if_neg (by omega)
        have HC := Lib.hid hc
        have hd : decide (0 ≤ n ∧ n < 6) = false := decide_eq_false n1
        clear hc
        go_wp2
        go_meet
        case rel => exact ⟨by rw [HC.out], rfl⟩
    case rest =>
      obtain ⟨hv6, hw6⟩ := hcut
      subst hv6 hw6
      go_wp2_with fail
      with_reducible refine (catOf_no s _ (HW.out.below H2.out.bel) HS.out).mono ?_
      rintro x wz ⟨rfl, rfl⟩
      go_wp2_with fail
      go_loop [9, 34] (fun b i => ∃ k : Nat, k ≤ 6 ∧ i = .int .i64 k ∧ b = .bool false) (fun _ i => 7 - (intOf i).toNat)
      case atStart => exact ⟨0, by decide, rfl, rfl⟩
      case round =>
        obtain ⟨k, hk, rfl, rfl⟩ := hrel
        rcases (show k = 0 ∨ k = 1 ∨ k = 2 ∨ k = 3 ∨ k = 4 ∨ k = 5 ∨ k = 6 by omega) with rfl | rfl | rfl | rfl | rfl | rfl | rfl
        · go_wp2_with fail
          with_reducible refine (catOf_0 _ (HW.out.below H2.out.bel)).mono ?_
          rintro x wz ⟨rfl, rfl⟩
          go_wp2
          go_round
          case rel => exact ⟨1, by decide, rfl, rfl⟩
          case measure => simp [intOf]
        · go_wp2_with fail
          with_reducible refine (catOf_1 _ (HW.out.below H2.out.bel)).mono ?_
          rintro x wz ⟨rfl, rfl⟩
          go_wp2
          go_round
          case rel => exact ⟨2, by decide, rfl, rfl⟩
          case measure => simp [intOf]
        · go_wp2_with fail
          with_reducible refine (catOf_2 _ (HW.out.below H2.out.bel)).mono ?_
          rintro x wz ⟨rfl, rfl⟩
          go_wp2
          go_round
          case rel => exact ⟨3, by decide, rfl, rfl⟩
          case measure => simp [intOf]
        · go_wp2_with fail
          with_reducible refine (catOf_3 _ (HW.out.below H2.out.bel)).mono ?_
          rintro x wz ⟨rfl, rfl⟩
          go_wp2
          go_round
          case rel => exact ⟨4, by decide, rfl, rfl⟩
          case measure => simp [intOf]
        · go_wp2_with fail
          with_reducible refine (catOf_4 _ (HW.out.below H2.out.bel)).mono ?_
          rintro x wz ⟨rfl, rfl⟩
          go_wp2
          go_round
          case rel => exact ⟨5, by decide, rfl, rfl⟩
          case measure => simp [intOf]
        · go_wp2_with fail
          with_reducible refine (catOf_5 _ (HW.out.below H2.out.bel)).mono ?_
          rintro x wz ⟨rfl, rfl⟩
          go_wp2
          go_round
          case rel => exact ⟨6, by decide, rfl, rfl⟩
          case measure => simp [intOf]
        · go_wp2_with fail
          with_reducible refine (catS_as n _ (HW.out.below H2.out.bel) _ rfl).mono ?_
          rintro x wz ⟨rfl, rfl⟩
          go_wp2
          go_ret
          exact ⟨by first | rfl | simp, H2.out.bel⟩

theorem ruleWords_walk (n : Int) (s : ByteArray) (w : World) (_hn : (Lit.int .i64 n).wf = true) (_hs : s.size ≤ maxLen) (ht : Tab w) (hw : Wds w) :
    Calls Tryz.prog 3 #[.int .i64 n, .string s] w fun x w' => x = .returned (.bool true) ∧ Below w.heap.size w w' := by
  by_cases h0 : s.data.toList = [122, 101, 114, 111]
  · obtain rfl : s = ⟨#[122, 101, 114, 111]⟩ := byte_of h0
    exact words_0 n w ht hw
  by_cases h1 : s.data.toList = [111, 110, 101]
  · obtain rfl : s = ⟨#[111, 110, 101]⟩ := byte_of h1
    exact words_1 n w ht hw
  by_cases h2 : s.data.toList = [116, 119, 111]
  · obtain rfl : s = ⟨#[116, 119, 111]⟩ := byte_of h2
    exact words_2 n w ht hw
  by_cases h3 : s.data.toList = [102, 101, 119]
  · obtain rfl : s = ⟨#[102, 101, 119]⟩ := byte_of h3
    exact words_3 n w ht hw
  by_cases h4 : s.data.toList = [109, 97, 110, 121]
  · obtain rfl : s = ⟨#[109, 97, 110, 121]⟩ := byte_of h4
    exact words_4 n w ht hw
  by_cases h5 : s.data.toList = [111, 116, 104, 101, 114]
  · obtain rfl : s = ⟨#[111, 116, 104, 101, 114]⟩ := byte_of h5
    exact words_5 n w ht hw
  refine words_6 n s w ht hw ?_
  unfold catB wordB
  rw [List.idxOf_eq_length]
  · rfl
  · simp [h0, h1, h2, h3, h4, h5]
end Go.Proofs.YtcobokfccfeonaaGreatDoor
