/- A code point, as the law writes it in any of its ways. -/
import Derived.Test.YtbfhkcljkblnmaaDoorCrT
import Derived.Test.YtbfhkcljkblnmaaDoorCrU
namespace Go.Proofs.YtbfhkcljkblnmaaDoor
open Go.RowKit Florin
set_option linter.unusedVariables false
set_option linter.unusedSimpArgs false
attribute [local go_sem ↓] Go.wp_at_zero Go.wp_at_succ
set_option maxRecDepth 100000 in
set_option maxHeartbeats 12800000 in
theorem one_as (N K : Int) (w : World) :
    Calls Tryd.prog 37 #[.agg #[.int .i64 N, .int .i64 K]] w fun e w' => ∃ (p : Nat) (l : List UInt8), e = .returned (.tuple #[.int .i64 (p : Int), S l]) ∧ WrOK p l ∧ Below w.heap.size w w' := by
  obtain ⟨k, hk, hand⟩ := and_mask9 K 3 (by decide)
  rw [show ((3 : Nat) : Int) = 3 from rfl] at hand
  have hP : ∃ p : Nat, isPt p ∧ ∀ W, Calls Tryd.prog 50 #[.int .i64 N] W fun e w' => e = .returned (.int .i64 (p : Int)) ∧ W = w' := point_ex N
  obtain ⟨p, his, hpt⟩ := hP
  have htop : p ≤ 1114111 := by unfold isPt at his; omega
  have HIS := Lib.hid his
  have HPT := Lib.hid hpt
  have HTOP := Lib.hid htop
  have HX1 : Hid (∀ W, Calls Tryd.prog 41 #[.int .i64 (p : Int), .int .i64 1] W fun e w' => e = .returned (S (hyS p 1)) ∧ Below W.heap.size W w') := Lib.hid (fun W => hex_as p 1 (by omega) (by decide) W)
  have HX6 : Hid (∀ W, Calls Tryd.prog 41 #[.int .i64 (p : Int), .int .i64 6] W fun e w' => e = .returned (S (hyS p 6)) ∧ Below W.heap.size W w') := Lib.hid (fun W => hex_as p 6 (by omega) (by decide) W)
  have hy1 := (hyS_ok p 1 htop (by decide) (by decide)).1
  have hy6 := (hyS_ok p 6 htop (by decide) (by decide)).1
  have hsl := sign_len p
  have BX : Hid (Below w.heap.size w (w.alloc (.cells #[.int .i64 N, .int .i64 K] 65))) := Lib.hid ((Below.refl _ _).alloc (Nat.le_refl _) _)
  clear his hpt
  cases hm : isMark p with
  | false =>
    have HMK := Lib.hid hm
    have hne : p ≠ 91 ∧ p ≠ 93 ∧ p ≠ 45 ∧ p ≠ 94 ∧ p ≠ 92 ∧ p ≠ 32 := by
      refine ⟨?_, ?_, ?_, ?_, ?_, ?_⟩ <;> (rintro rfl; revert hm; decide)
    have n0 : ¬ (p : Int) = 91 := by omega
    have e0 : ((p : Int) == 91) = false := by simp; omega
    have n1 : ¬ (p : Int) = 93 := by omega
    have e1 : ((p : Int) == 93) = false := by simp; omega
    have n2 : ¬ (p : Int) = 45 := by omega
    have e2 : ((p : Int) == 45) = false := by simp; omega
    have n3 : ¬ (p : Int) = 94 := by omega
    have e3 : ((p : Int) == 94) = false := by simp; omega
    have n4 : ¬ (p : Int) = 92 := by omega
    have e4 : ((p : Int) == 92) = false := by simp; omega
    have n5 : ¬ (p : Int) = 32 := by omega
    have e5 : ((p : Int) == 32) = false := by simp; omega
    clear hm hne
    rcases (show k = 0 ∨ k = 1 ∨ k = 2 ∨ k = 3 by omega) with rfl | rfl | rfl | rfl
    · rw [show ((0 : Nat) : Int) = 0 from rfl] at hand
      go_enter Tryd.func37, Tryd.ntmps37
      go_wp2_with fail
      with_reducible refine (HPT.out _).mono ?_
      rintro e w1 ⟨rfl, rfl⟩
      go_wp2_with fail
      with_reducible refine (sgn_as p HIS.out _).mono ?_
      rintro e w2 ⟨rfl, h1⟩
      go_wp2
      go_ret2
      exact ⟨p, signL p, rfl, wrok_sign p HIS.out HMK.out, ((BX.out).trans (h1.mono BX.out.size))⟩
    · rw [show ((1 : Nat) : Int) = 1 from rfl] at hand
      go_enter Tryd.func37, Tryd.ntmps37
      go_wp2_with fail
      with_reducible refine (HPT.out _).mono ?_
      rintro e w1 ⟨rfl, rfl⟩
      go_wp2_with fail
      with_reducible refine (HX1.out _).mono ?_
      rintro e w2 ⟨rfl, h1⟩
      go_wp2
      go_ret2
      exact ⟨p, [92, 117, 123] ++ hyS p 1 ++ [125], congrArg (fun t => Ending.returned (.tuple #[.int .i64 (p : Int), .string t])) (esc_join (hyS p 1)), wrok_hex p 1 HTOP.out (by decide) (by decide), ((BX.out).trans (h1.mono BX.out.size))⟩
    · rw [show ((2 : Nat) : Int) = 2 from rfl] at hand
      go_enter Tryd.func37, Tryd.ntmps37
      go_wp2_with fail
      with_reducible refine (HPT.out _).mono ?_
      rintro e w1 ⟨rfl, rfl⟩
      go_wp2_with fail
      with_reducible refine (HX1.out _).mono ?_
      rintro e w2 ⟨rfl, h1⟩
      go_wp2
      go_ret2
      exact ⟨p, [92, 117, 123] ++ hyS p 1 ++ [125], congrArg (fun t => Ending.returned (.tuple #[.int .i64 (p : Int), .string t])) (esc_join (hyS p 1)), wrok_hex p 1 HTOP.out (by decide) (by decide), ((BX.out).trans (h1.mono BX.out.size))⟩
    · rw [show ((3 : Nat) : Int) = 3 from rfl] at hand
      go_enter Tryd.func37, Tryd.ntmps37
      go_wp2_with fail
      with_reducible refine (HPT.out _).mono ?_
      rintro e w1 ⟨rfl, rfl⟩
      go_wp2_with fail
      with_reducible refine (HX6.out _).mono ?_
      rintro e w2 ⟨rfl, h1⟩
      go_wp2
      go_ret2
      exact ⟨p, [92, 117, 123] ++ hyS p 6 ++ [125], congrArg (fun t => Ending.returned (.tuple #[.int .i64 (p : Int), .string t])) (esc_join (hyS p 6)), wrok_hex p 6 HTOP.out (by decide) (by decide), ((BX.out).trans (h1.mono BX.out.size))⟩
  | true =>
    have HMK := Lib.hid hm
    rcases mark_cases hm with hp | hp | hp | hp | hp | hp
    · have e0 : ((p : Int) == 91) = true := by simp; omega
      clear hm hp
      rcases (show k = 0 ∨ k = 1 ∨ k = 2 ∨ k = 3 by omega) with rfl | rfl | rfl | rfl
      · rw [show ((0 : Nat) : Int) = 0 from rfl] at hand
        go_enter Tryd.func37, Tryd.ntmps37
        go_wp2_with fail
        with_reducible refine (HPT.out _).mono ?_
        rintro e w1 ⟨rfl, rfl⟩
        go_wp2_with fail
        with_reducible refine (HX1.out _).mono ?_
        rintro e w2 ⟨rfl, h1⟩
        go_wp2
        go_ret2
        exact ⟨p, [92, 117, 123] ++ hyS p 1 ++ [125], congrArg (fun t => Ending.returned (.tuple #[.int .i64 (p : Int), .string t])) (esc_join (hyS p 1)), wrok_hex p 1 HTOP.out (by decide) (by decide), ((BX.out).trans (h1.mono BX.out.size))⟩
      · rw [show ((1 : Nat) : Int) = 1 from rfl] at hand
        go_enter Tryd.func37, Tryd.ntmps37
        go_wp2_with fail
        with_reducible refine (HPT.out _).mono ?_
        rintro e w1 ⟨rfl, rfl⟩
        go_wp2_with fail
        with_reducible refine (sgn_as p HIS.out _).mono ?_
        rintro e w2 ⟨rfl, h1⟩
        go_wp2
        go_ret2
        exact ⟨p, [92] ++ signL p, congrArg (fun t => Ending.returned (.tuple #[.int .i64 (p : Int), .string t])) (arr_append [92] (signL p)), wrok_esc p HMK.out, ((BX.out).trans (h1.mono BX.out.size))⟩
      · rw [show ((2 : Nat) : Int) = 2 from rfl] at hand
        go_enter Tryd.func37, Tryd.ntmps37
        go_wp2_with fail
        with_reducible refine (HPT.out _).mono ?_
        rintro e w1 ⟨rfl, rfl⟩
        go_wp2_with fail
        with_reducible refine (HX1.out _).mono ?_
        rintro e w2 ⟨rfl, h1⟩
        go_wp2
        go_ret2
        exact ⟨p, [92, 117, 123] ++ hyS p 1 ++ [125], congrArg (fun t => Ending.returned (.tuple #[.int .i64 (p : Int), .string t])) (esc_join (hyS p 1)), wrok_hex p 1 HTOP.out (by decide) (by decide), ((BX.out).trans (h1.mono BX.out.size))⟩
      · rw [show ((3 : Nat) : Int) = 3 from rfl] at hand
        go_enter Tryd.func37, Tryd.ntmps37
        go_wp2_with fail
        with_reducible refine (HPT.out _).mono ?_
        rintro e w1 ⟨rfl, rfl⟩
        go_wp2_with fail
        with_reducible refine (HX6.out _).mono ?_
        rintro e w2 ⟨rfl, h1⟩
        go_wp2
        go_ret2
        exact ⟨p, [92, 117, 123] ++ hyS p 6 ++ [125], congrArg (fun t => Ending.returned (.tuple #[.int .i64 (p : Int), .string t])) (esc_join (hyS p 6)), wrok_hex p 6 HTOP.out (by decide) (by decide), ((BX.out).trans (h1.mono BX.out.size))⟩
    · have n0 : ¬ (p : Int) = 91 := by omega
      have e0 : ((p : Int) == 91) = false := by simp; omega
      have e1 : ((p : Int) == 93) = true := by simp; omega
      clear hm hp
      rcases (show k = 0 ∨ k = 1 ∨ k = 2 ∨ k = 3 by omega) with rfl | rfl | rfl | rfl
      · rw [show ((0 : Nat) : Int) = 0 from rfl] at hand
        go_enter Tryd.func37, Tryd.ntmps37
        go_wp2_with fail
        with_reducible refine (HPT.out _).mono ?_
        rintro e w1 ⟨rfl, rfl⟩
        go_wp2_with fail
        with_reducible refine (HX1.out _).mono ?_
        rintro e w2 ⟨rfl, h1⟩
        go_wp2
        go_ret2
        exact ⟨p, [92, 117, 123] ++ hyS p 1 ++ [125], congrArg (fun t => Ending.returned (.tuple #[.int .i64 (p : Int), .string t])) (esc_join (hyS p 1)), wrok_hex p 1 HTOP.out (by decide) (by decide), ((BX.out).trans (h1.mono BX.out.size))⟩
      · rw [show ((1 : Nat) : Int) = 1 from rfl] at hand
        go_enter Tryd.func37, Tryd.ntmps37
        go_wp2_with fail
        with_reducible refine (HPT.out _).mono ?_
        rintro e w1 ⟨rfl, rfl⟩
        go_wp2_with fail
        with_reducible refine (sgn_as p HIS.out _).mono ?_
        rintro e w2 ⟨rfl, h1⟩
        go_wp2
        go_ret2
        exact ⟨p, [92] ++ signL p, congrArg (fun t => Ending.returned (.tuple #[.int .i64 (p : Int), .string t])) (arr_append [92] (signL p)), wrok_esc p HMK.out, ((BX.out).trans (h1.mono BX.out.size))⟩
      · rw [show ((2 : Nat) : Int) = 2 from rfl] at hand
        go_enter Tryd.func37, Tryd.ntmps37
        go_wp2_with fail
        with_reducible refine (HPT.out _).mono ?_
        rintro e w1 ⟨rfl, rfl⟩
        go_wp2_with fail
        with_reducible refine (HX1.out _).mono ?_
        rintro e w2 ⟨rfl, h1⟩
        go_wp2
        go_ret2
        exact ⟨p, [92, 117, 123] ++ hyS p 1 ++ [125], congrArg (fun t => Ending.returned (.tuple #[.int .i64 (p : Int), .string t])) (esc_join (hyS p 1)), wrok_hex p 1 HTOP.out (by decide) (by decide), ((BX.out).trans (h1.mono BX.out.size))⟩
      · rw [show ((3 : Nat) : Int) = 3 from rfl] at hand
        go_enter Tryd.func37, Tryd.ntmps37
        go_wp2_with fail
        with_reducible refine (HPT.out _).mono ?_
        rintro e w1 ⟨rfl, rfl⟩
        go_wp2_with fail
        with_reducible refine (HX6.out _).mono ?_
        rintro e w2 ⟨rfl, h1⟩
        go_wp2
        go_ret2
        exact ⟨p, [92, 117, 123] ++ hyS p 6 ++ [125], congrArg (fun t => Ending.returned (.tuple #[.int .i64 (p : Int), .string t])) (esc_join (hyS p 6)), wrok_hex p 6 HTOP.out (by decide) (by decide), ((BX.out).trans (h1.mono BX.out.size))⟩
    · have n0 : ¬ (p : Int) = 91 := by omega
      have e0 : ((p : Int) == 91) = false := by simp; omega
      have n1 : ¬ (p : Int) = 93 := by omega
      have e1 : ((p : Int) == 93) = false := by simp; omega
      have e2 : ((p : Int) == 45) = true := by simp; omega
      clear hm hp
      rcases (show k = 0 ∨ k = 1 ∨ k = 2 ∨ k = 3 by omega) with rfl | rfl | rfl | rfl
      · rw [show ((0 : Nat) : Int) = 0 from rfl] at hand
        go_enter Tryd.func37, Tryd.ntmps37
        go_wp2_with fail
        with_reducible refine (HPT.out _).mono ?_
        rintro e w1 ⟨rfl, rfl⟩
        go_wp2_with fail
        with_reducible refine (HX1.out _).mono ?_
        rintro e w2 ⟨rfl, h1⟩
        go_wp2
        go_ret2
        exact ⟨p, [92, 117, 123] ++ hyS p 1 ++ [125], congrArg (fun t => Ending.returned (.tuple #[.int .i64 (p : Int), .string t])) (esc_join (hyS p 1)), wrok_hex p 1 HTOP.out (by decide) (by decide), ((BX.out).trans (h1.mono BX.out.size))⟩
      · rw [show ((1 : Nat) : Int) = 1 from rfl] at hand
        go_enter Tryd.func37, Tryd.ntmps37
        go_wp2_with fail
        with_reducible refine (HPT.out _).mono ?_
        rintro e w1 ⟨rfl, rfl⟩
        go_wp2_with fail
        with_reducible refine (sgn_as p HIS.out _).mono ?_
        rintro e w2 ⟨rfl, h1⟩
        go_wp2
        go_ret2
        exact ⟨p, [92] ++ signL p, congrArg (fun t => Ending.returned (.tuple #[.int .i64 (p : Int), .string t])) (arr_append [92] (signL p)), wrok_esc p HMK.out, ((BX.out).trans (h1.mono BX.out.size))⟩
      · rw [show ((2 : Nat) : Int) = 2 from rfl] at hand
        go_enter Tryd.func37, Tryd.ntmps37
        go_wp2_with fail
        with_reducible refine (HPT.out _).mono ?_
        rintro e w1 ⟨rfl, rfl⟩
        go_wp2_with fail
        with_reducible refine (HX1.out _).mono ?_
        rintro e w2 ⟨rfl, h1⟩
        go_wp2
        go_ret2
        exact ⟨p, [92, 117, 123] ++ hyS p 1 ++ [125], congrArg (fun t => Ending.returned (.tuple #[.int .i64 (p : Int), .string t])) (esc_join (hyS p 1)), wrok_hex p 1 HTOP.out (by decide) (by decide), ((BX.out).trans (h1.mono BX.out.size))⟩
      · rw [show ((3 : Nat) : Int) = 3 from rfl] at hand
        go_enter Tryd.func37, Tryd.ntmps37
        go_wp2_with fail
        with_reducible refine (HPT.out _).mono ?_
        rintro e w1 ⟨rfl, rfl⟩
        go_wp2_with fail
        with_reducible refine (HX6.out _).mono ?_
        rintro e w2 ⟨rfl, h1⟩
        go_wp2
        go_ret2
        exact ⟨p, [92, 117, 123] ++ hyS p 6 ++ [125], congrArg (fun t => Ending.returned (.tuple #[.int .i64 (p : Int), .string t])) (esc_join (hyS p 6)), wrok_hex p 6 HTOP.out (by decide) (by decide), ((BX.out).trans (h1.mono BX.out.size))⟩
    · have n0 : ¬ (p : Int) = 91 := by omega
      have e0 : ((p : Int) == 91) = false := by simp; omega
      have n1 : ¬ (p : Int) = 93 := by omega
      have e1 : ((p : Int) == 93) = false := by simp; omega
      have n2 : ¬ (p : Int) = 45 := by omega
      have e2 : ((p : Int) == 45) = false := by simp; omega
      have e3 : ((p : Int) == 94) = true := by simp; omega
      clear hm hp
      rcases (show k = 0 ∨ k = 1 ∨ k = 2 ∨ k = 3 by omega) with rfl | rfl | rfl | rfl
      · rw [show ((0 : Nat) : Int) = 0 from rfl] at hand
        go_enter Tryd.func37, Tryd.ntmps37
        go_wp2_with fail
        with_reducible refine (HPT.out _).mono ?_
        rintro e w1 ⟨rfl, rfl⟩
        go_wp2_with fail
        with_reducible refine (HX1.out _).mono ?_
        rintro e w2 ⟨rfl, h1⟩
        go_wp2
        go_ret2
        exact ⟨p, [92, 117, 123] ++ hyS p 1 ++ [125], congrArg (fun t => Ending.returned (.tuple #[.int .i64 (p : Int), .string t])) (esc_join (hyS p 1)), wrok_hex p 1 HTOP.out (by decide) (by decide), ((BX.out).trans (h1.mono BX.out.size))⟩
      · rw [show ((1 : Nat) : Int) = 1 from rfl] at hand
        go_enter Tryd.func37, Tryd.ntmps37
        go_wp2_with fail
        with_reducible refine (HPT.out _).mono ?_
        rintro e w1 ⟨rfl, rfl⟩
        go_wp2_with fail
        with_reducible refine (sgn_as p HIS.out _).mono ?_
        rintro e w2 ⟨rfl, h1⟩
        go_wp2
        go_ret2
        exact ⟨p, [92] ++ signL p, congrArg (fun t => Ending.returned (.tuple #[.int .i64 (p : Int), .string t])) (arr_append [92] (signL p)), wrok_esc p HMK.out, ((BX.out).trans (h1.mono BX.out.size))⟩
      · rw [show ((2 : Nat) : Int) = 2 from rfl] at hand
        go_enter Tryd.func37, Tryd.ntmps37
        go_wp2_with fail
        with_reducible refine (HPT.out _).mono ?_
        rintro e w1 ⟨rfl, rfl⟩
        go_wp2_with fail
        with_reducible refine (HX1.out _).mono ?_
        rintro e w2 ⟨rfl, h1⟩
        go_wp2
        go_ret2
        exact ⟨p, [92, 117, 123] ++ hyS p 1 ++ [125], congrArg (fun t => Ending.returned (.tuple #[.int .i64 (p : Int), .string t])) (esc_join (hyS p 1)), wrok_hex p 1 HTOP.out (by decide) (by decide), ((BX.out).trans (h1.mono BX.out.size))⟩
      · rw [show ((3 : Nat) : Int) = 3 from rfl] at hand
        go_enter Tryd.func37, Tryd.ntmps37
        go_wp2_with fail
        with_reducible refine (HPT.out _).mono ?_
        rintro e w1 ⟨rfl, rfl⟩
        go_wp2_with fail
        with_reducible refine (HX6.out _).mono ?_
        rintro e w2 ⟨rfl, h1⟩
        go_wp2
        go_ret2
        exact ⟨p, [92, 117, 123] ++ hyS p 6 ++ [125], congrArg (fun t => Ending.returned (.tuple #[.int .i64 (p : Int), .string t])) (esc_join (hyS p 6)), wrok_hex p 6 HTOP.out (by decide) (by decide), ((BX.out).trans (h1.mono BX.out.size))⟩
    · have n0 : ¬ (p : Int) = 91 := by omega
      have e0 : ((p : Int) == 91) = false := by simp; omega
      have n1 : ¬ (p : Int) = 93 := by omega
      have e1 : ((p : Int) == 93) = false := by simp; omega
      have n2 : ¬ (p : Int) = 45 := by omega
      have e2 : ((p : Int) == 45) = false := by simp; omega
      have n3 : ¬ (p : Int) = 94 := by omega
      have e3 : ((p : Int) == 94) = false := by simp; omega
      have e4 : ((p : Int) == 92) = true := by simp; omega
      clear hm hp
      rcases (show k = 0 ∨ k = 1 ∨ k = 2 ∨ k = 3 by omega) with rfl | rfl | rfl | rfl
      · rw [show ((0 : Nat) : Int) = 0 from rfl] at hand
        go_enter Tryd.func37, Tryd.ntmps37
        go_wp2_with fail
        with_reducible refine (HPT.out _).mono ?_
        rintro e w1 ⟨rfl, rfl⟩
        go_wp2_with fail
        with_reducible refine (HX1.out _).mono ?_
        rintro e w2 ⟨rfl, h1⟩
        go_wp2
        go_ret2
        exact ⟨p, [92, 117, 123] ++ hyS p 1 ++ [125], congrArg (fun t => Ending.returned (.tuple #[.int .i64 (p : Int), .string t])) (esc_join (hyS p 1)), wrok_hex p 1 HTOP.out (by decide) (by decide), ((BX.out).trans (h1.mono BX.out.size))⟩
      · rw [show ((1 : Nat) : Int) = 1 from rfl] at hand
        go_enter Tryd.func37, Tryd.ntmps37
        go_wp2_with fail
        with_reducible refine (HPT.out _).mono ?_
        rintro e w1 ⟨rfl, rfl⟩
        go_wp2_with fail
        with_reducible refine (sgn_as p HIS.out _).mono ?_
        rintro e w2 ⟨rfl, h1⟩
        go_wp2
        go_ret2
        exact ⟨p, [92] ++ signL p, congrArg (fun t => Ending.returned (.tuple #[.int .i64 (p : Int), .string t])) (arr_append [92] (signL p)), wrok_esc p HMK.out, ((BX.out).trans (h1.mono BX.out.size))⟩
      · rw [show ((2 : Nat) : Int) = 2 from rfl] at hand
        go_enter Tryd.func37, Tryd.ntmps37
        go_wp2_with fail
        with_reducible refine (HPT.out _).mono ?_
        rintro e w1 ⟨rfl, rfl⟩
        go_wp2_with fail
        with_reducible refine (HX1.out _).mono ?_
        rintro e w2 ⟨rfl, h1⟩
        go_wp2
        go_ret2
        exact ⟨p, [92, 117, 123] ++ hyS p 1 ++ [125], congrArg (fun t => Ending.returned (.tuple #[.int .i64 (p : Int), .string t])) (esc_join (hyS p 1)), wrok_hex p 1 HTOP.out (by decide) (by decide), ((BX.out).trans (h1.mono BX.out.size))⟩
      · rw [show ((3 : Nat) : Int) = 3 from rfl] at hand
        go_enter Tryd.func37, Tryd.ntmps37
        go_wp2_with fail
        with_reducible refine (HPT.out _).mono ?_
        rintro e w1 ⟨rfl, rfl⟩
        go_wp2_with fail
        with_reducible refine (HX6.out _).mono ?_
        rintro e w2 ⟨rfl, h1⟩
        go_wp2
        go_ret2
        exact ⟨p, [92, 117, 123] ++ hyS p 6 ++ [125], congrArg (fun t => Ending.returned (.tuple #[.int .i64 (p : Int), .string t])) (esc_join (hyS p 6)), wrok_hex p 6 HTOP.out (by decide) (by decide), ((BX.out).trans (h1.mono BX.out.size))⟩
    · have n0 : ¬ (p : Int) = 91 := by omega
      have e0 : ((p : Int) == 91) = false := by simp; omega
      have n1 : ¬ (p : Int) = 93 := by omega
      have e1 : ((p : Int) == 93) = false := by simp; omega
      have n2 : ¬ (p : Int) = 45 := by omega
      have e2 : ((p : Int) == 45) = false := by simp; omega
      have n3 : ¬ (p : Int) = 94 := by omega
      have e3 : ((p : Int) == 94) = false := by simp; omega
      have n4 : ¬ (p : Int) = 92 := by omega
      have e4 : ((p : Int) == 92) = false := by simp; omega
      have e5 : ((p : Int) == 32) = true := by simp; omega
      clear hm hp
      rcases (show k = 0 ∨ k = 1 ∨ k = 2 ∨ k = 3 by omega) with rfl | rfl | rfl | rfl
      · rw [show ((0 : Nat) : Int) = 0 from rfl] at hand
        go_enter Tryd.func37, Tryd.ntmps37
        go_wp2_with fail
        with_reducible refine (HPT.out _).mono ?_
        rintro e w1 ⟨rfl, rfl⟩
        go_wp2_with fail
        with_reducible refine (HX1.out _).mono ?_
        rintro e w2 ⟨rfl, h1⟩
        go_wp2
        go_ret2
        exact ⟨p, [92, 117, 123] ++ hyS p 1 ++ [125], congrArg (fun t => Ending.returned (.tuple #[.int .i64 (p : Int), .string t])) (esc_join (hyS p 1)), wrok_hex p 1 HTOP.out (by decide) (by decide), ((BX.out).trans (h1.mono BX.out.size))⟩
      · rw [show ((1 : Nat) : Int) = 1 from rfl] at hand
        go_enter Tryd.func37, Tryd.ntmps37
        go_wp2_with fail
        with_reducible refine (HPT.out _).mono ?_
        rintro e w1 ⟨rfl, rfl⟩
        go_wp2_with fail
        with_reducible refine (sgn_as p HIS.out _).mono ?_
        rintro e w2 ⟨rfl, h1⟩
        go_wp2
        go_ret2
        exact ⟨p, [92] ++ signL p, congrArg (fun t => Ending.returned (.tuple #[.int .i64 (p : Int), .string t])) (arr_append [92] (signL p)), wrok_esc p HMK.out, ((BX.out).trans (h1.mono BX.out.size))⟩
      · rw [show ((2 : Nat) : Int) = 2 from rfl] at hand
        go_enter Tryd.func37, Tryd.ntmps37
        go_wp2_with fail
        with_reducible refine (HPT.out _).mono ?_
        rintro e w1 ⟨rfl, rfl⟩
        go_wp2_with fail
        with_reducible refine (HX1.out _).mono ?_
        rintro e w2 ⟨rfl, h1⟩
        go_wp2
        go_ret2
        exact ⟨p, [92, 117, 123] ++ hyS p 1 ++ [125], congrArg (fun t => Ending.returned (.tuple #[.int .i64 (p : Int), .string t])) (esc_join (hyS p 1)), wrok_hex p 1 HTOP.out (by decide) (by decide), ((BX.out).trans (h1.mono BX.out.size))⟩
      · rw [show ((3 : Nat) : Int) = 3 from rfl] at hand
        go_enter Tryd.func37, Tryd.ntmps37
        go_wp2_with fail
        with_reducible refine (HPT.out _).mono ?_
        rintro e w1 ⟨rfl, rfl⟩
        go_wp2_with fail
        with_reducible refine (HX6.out _).mono ?_
        rintro e w2 ⟨rfl, h1⟩
        go_wp2
        go_ret2
        exact ⟨p, [92, 117, 123] ++ hyS p 6 ++ [125], congrArg (fun t => Ending.returned (.tuple #[.int .i64 (p : Int), .string t])) (esc_join (hyS p 6)), wrok_hex p 6 HTOP.out (by decide) (by decide), ((BX.out).trans (h1.mono BX.out.size))⟩
end Go.Proofs.YtbfhkcljkblnmaaDoor
