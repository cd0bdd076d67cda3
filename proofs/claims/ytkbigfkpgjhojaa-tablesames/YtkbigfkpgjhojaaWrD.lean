/- The reader of numbers and texts: what its methods return. -/
import Derived.Test.YtkbigfkpgjhojaaWBase
import Derived.Deep.DrawnRows
import Derived.Laws.Shifts
namespace Go.Proofs.Ytkbigfkpgjhojaa
open Go.RowKit Florin
set_option linter.unusedVariables false
set_option linter.unusedSimpArgs false
attribute [local go_sem ↓] Go.wp_at_zero Go.wp_at_succ
abbrev TRd : TypeId := 94
theorem pow7 (k : Nat) : 128 ^ k = 2 ^ (7 * k) := by rw [show 128 = 2 ^ 7 from rfl, ← Nat.pow_mul]
/-- A group shifted to its place. -/
theorem shl7 (c k : Nat) (hk : k < 9) : IntKind.i64.wrap ((c : Int) % 128 * 2 ^ (7 * (k : Int)).toNat) = ((c % 128 * 128 ^ k : Nat) : Int) := by
  have e : (7 * (k : Int)).toNat = 7 * k := by omega
  have h1 : c % 128 * 128 ^ k < 9223372036854775808 := by
    have h2 := grp_lt (i := k) (n := 0) (c := c % 128) (Nat.pow_pos (by decide)) (Nat.mod_lt _ (by decide))
    have h3 := pow_nine (i := k + 1) (by omega)
    omega
  rw [e]
  rw [pow7] at *
  rw [show ((c : Int) % 128 * 2 ^ (7 * k)) = ((c % 128 * 2 ^ (7 * k) : Nat) : Int) by push_cast; rfl]
  exact IntWalk.i64_in _ (by omega)
set_option maxRecDepth 100000 in
set_option maxHeartbeats 1600000 in
theorem first_as (T : ByteArray) (w : World) (hT : T.size ≤ maxLen) :
    Calls Try.prog 55 #[.string T] w fun e w' => e = .returned (.tuple #[.int .i64 ((rdV T.data.toList).1 : Nat), .int .i64 ((rdV T.data.toList).2 : Nat)]) ∧ w = w' := by
  unfold maxLen at hT
  rcases (show (9 : Int) < (T.size : Int) ∨ (T.size : Int) ≤ 9 by omega) with h9 | h9
  all_goals
    go_enter Try.func55, Try.ntmps55
    go_wp2_with fail
    go_loop [4, 9] (fun x i => ∃ (k n : Nat), k ≤ T.size ∧ k ≤ 9 ∧ i = .int .i64 (k : Int) ∧ x = .int .i64 (n : Int) ∧ n < 128 ^ k ∧ rdW k n (T.data.toList.drop k) = rdV T.data.toList) (fun _ i => T.size - (intOf i).toNat)
    case atStart => exact ⟨0, 0, Nat.zero_le _, by decide, rfl, rfl, by decide, rfl⟩
    case round =>
      obtain ⟨k, n, hk1, hk2, rfl, rfl, hn, hr⟩ := hrel
      have HR := Lib.hid hr
      have HN := Lib.hid hn
      clear hr hn
      by_cases hlt : k < T.size ∧ k < 9
      · obtain ⟨hlt, hlt9⟩ := hlt
        have HA := Lib.hid (at_list T k hlt)
        obtain ⟨G, hG⟩ : ∃ G, G = T[k].toNat % 128 * 128 ^ k := ⟨_, rfl⟩
        have hsh := shl7 T[k].toNat k hlt9
        rw [← hG] at hsh
        have hsum : n + G < 9223372036854775808 := by
          have h2 := grp_lt HN.out (Nat.mod_lt T[k].toNat (show 0 < 128 by decide))
          have h3 := pow_nine (i := k + 1) (by omega)
          rw [← hG] at h2
          omega
        have hsum2 : Hid (n + G < 128 ^ (k + 1)) := Lib.hid (by rw [hG]; exact grp_lt HN.out (Nat.mod_lt T[k].toNat (show 0 < 128 by decide)))
        have HG := Lib.hid hG
        clear hG
        by_cases hc : (128 : Int) ≤ (T[k].toNat : Int)
        · go_wp2
          go_round
          case rel => exact ⟨k + 1, n + G, by omega, by omega, by go_num, by go_num, hsum2.out, by rw [← HR.out, HA.out, rdW_more hlt9 (by omega), HG.out]⟩
          case measure => simp [intOf]; omega
        · by_cases h0 : (T[k].toNat : Int) = 0
          · have h0b : ((T[k].toNat : Int) == 0) = true := by simp [h0]
            have H0 := Lib.hid h0
            clear h0
            by_cases hk0 : (0 : Int) < (k : Int)
            · have HZ := Lib.hid (rdW_zero (i := k) (n := n) (c := T[k]) (l := T.data.toList.drop (k + 1)) (by omega) (by have := H0.out; omega))
              go_wp2
              go_ret2
              exact ⟨ret_two (by rw [← HR.out, HA.out, HZ.out]; rfl) (by rw [← HR.out, HA.out, HZ.out]; rfl), rfl⟩
            · have HZ := Lib.hid (rdW_last (i := k) (n := n) (c := T[k]) (l := T.data.toList.drop (k + 1)) (by omega) (by omega) (by omega))
              rw [← HG.out] at HZ
              go_wp2
              go_ret2
              exact ⟨ret_two (by rw [← HR.out, HA.out, HZ.out]; push_cast; rfl) (by rw [← HR.out, HA.out, HZ.out]; push_cast; rfl), rfl⟩
          · have h0b : ((T[k].toNat : Int) == 0) = false := by simpa using h0
            have HZ := Lib.hid (rdW_last (i := k) (n := n) (c := T[k]) (l := T.data.toList.drop (k + 1)) (by omega) (by omega) (by omega))
            rw [← HG.out] at HZ
            have H0 := Lib.hid h0
            clear h0
            go_wp2
            go_ret2
            exact ⟨ret_two (by rw [← HR.out, HA.out, HZ.out]; push_cast; rfl) (by rw [← HR.out, HA.out, HZ.out]; push_cast; rfl), rfl⟩
      · have HE : Hid (rdW k n (T.data.toList.drop k) = (0, 0)) := Lib.hid (by
          by_cases h : k < T.size
          · exact rdW_nine _ _ (by omega)
          · rw [List.drop_eq_nil_of_le (by rw [size_list]; omega)]; rfl)
        have hge : ¬ ((k : Int) < (T.size : Int) ∧ (k : Int) < 9) := by omega
        go_wp2
        go_ret2
        exact ⟨ret_two (by rw [← HR.out, HE.out]; rfl) (by rw [← HR.out, HE.out]; rfl), rfl⟩
end Go.Proofs.Ytkbigfkpgjhojaa
