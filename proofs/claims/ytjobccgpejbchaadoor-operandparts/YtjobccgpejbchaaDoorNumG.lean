/- What num.Div and num.Int return, at any world. -/
import Derived.Test.YtjobccgpejbchaaDoorNumF
namespace Go.Proofs.YtjobccgpejbchaaDoor
open Go.RowKit Florin

theorem isD_at (s : ByteArray) (k : Nat) (hd : isDig s.data.toList = true) (h : k < s.size) : isD s[k] = true := by
  unfold isDig at hd
  rw [List.all_eq_true] at hd
  exact hd _ (by simp [ByteArray.getElem_eq_getElem_data])
theorem set_quo (n k q d : Nat) (hk : k < n) (q0 : Nat) (hq : q / 10 = q0) (hd : d % 10 = q % 10) : (digs k q0 ++ List.replicate (n - k) (0 : UInt8)).set k (db d) = digs (k + 1) q ++ List.replicate (n - (k + 1)) 0 := by
  rw [show digs (k + 1) q = digs k (q / 10) ++ [db q] from rfl, hq, db_congr hd]
  rw [List.set_append_right _ _ (by rw [digs_length]; omega), digs_length, Nat.sub_self]
  rw [show n - k = (n - (k + 1)) + 1 by omega, List.replicate_succ]
  simp

theorem ret_I2 {a b : Int} {v : Value} (h : a = b) : Ending.returned (.tuple #[.int .i64 a, v]) = .returned (.tuple #[.int .i64 b, v]) := by rw [h]
theorem trim_some (s : ByteArray) (w : World) (hs : s.size ≤ maxLen) (hd : isDig s.data.toList = true) :
    Calls Tryd.prog 11 #[.string s] w fun e w' => ∃ q : ByteArray, e = .returned (.string q) ∧ q.data.toList = trim s.data.toList ∧ w = w' :=
  (trim_yes s w hs hd).mono fun _ _ ⟨he, hw⟩ => ⟨_, he, arr_list _, hw⟩

set_option maxHeartbeats 400000 in
theorem int_yes (s : ByteArray) (w : World) (hs : s.size ≤ maxLen) (d1 : isDig s.data.toList = true) (h18 : (trim s.data.toList).length ≤ 18) :
    Calls Tryd.prog 28 #[.string s] w fun e w' => e = .returned (.tuple #[.int .i64 (val s.data.toList), .bool true]) ∧ w = w' := by
  have D1 := Lib.hid d1
  clear d1
  go_enter Tryd.func28, Tryd.ntmps28
  go_wp2_with fail
  refine (trim_some s _ hs D1.out).mono ?_
  rintro e w' ⟨q, rfl, hq, rfl⟩
  have h18' : q.size ≤ 18 := by rw [← size_list, hq]; exact h18
  have HDT : Hid (isDig q.data.toList = true) := Lib.hid (by rw [hq]; exact isDig_trim _ D1.out)
  have HV : Hid (val q.data.toList = val s.data.toList) := Lib.hid (by rw [hq, val_trim])
  clear hq h18
  go_wp2_with fail
  refine (is_yes s _ hs D1.out).mono ?_
  rintro e w' ⟨rfl, rfl⟩
  go_wp2_with fail
  go_loop [5, 19] (fun n i => ∃ k : Nat, k ≤ q.size ∧ i = .int .i64 k ∧ n = .int .i64 (val (q.data.toList.take k))) (fun _ i => q.size - (intOf i).toNat)
  case atStart => exact ⟨0, Nat.zero_le _, rfl, by simp [val]⟩
  case round =>
    obtain ⟨k, hk, rfl, rfl⟩ := hrel
    by_cases hlt : k < q.size
    · have HV2 : Hid (val (q.data.toList.take (k + 1)) = 10 * val (q.data.toList.take k) + dv q[k]) := Lib.hid (by rw [take_snoc q k hlt, val_snoc])
      have HI := Lib.hid (isD_at q k HDT.out hlt)
      have b1 := dv_lt HI.out
      have b2 : val (q.data.toList.take k) < 100000000000000000 := by
        have hd : isDig (q.data.toList.take k) = true := by
          have := HDT.out
          unfold isDig at this ⊢
          rw [List.all_eq_true] at this ⊢
          exact fun c hc => this c (List.mem_of_mem_take hc)
        have h1 := val_lt _ hd
        have h2 : (q.data.toList.take k).length ≤ 17 := by
          have := List.length_take_le k q.data.toList
          omega
        have h3 : 10 ^ (q.data.toList.take k).length ≤ 10 ^ 17 := Nat.pow_le_pow_right (by decide) h2
        have h4 : (10 : Nat) ^ 17 = 100000000000000000 := by decide
        omega
      generalize val (q.data.toList.take k) = v at *
      go_wp2_with fail
      refine (digitValue_any _ _ HI.out).mono ?_
      rintro e w' ⟨rfl, rfl⟩
      go_wp2
      go_round
      case rel => exact ⟨k + 1, by omega, by go_num, vint (by rw [HV2.out]; omega)⟩
      case measure => simp [intOf]; omega
    · have HA := Lib.hid (take_all q k (by omega))
      go_wp2
      go_ret2
      exact ⟨ret_I2 (by rw [HA.out, HV.out]), rfl⟩
set_option maxHeartbeats 400000 in
theorem int_big (s : ByteArray) (w : World) (hs : s.size ≤ maxLen) (d1 : isDig s.data.toList = true) (h18 : 18 < (trim s.data.toList).length) :
    Calls Tryd.prog 28 #[.string s] w fun e w' => e = .returned (.tuple #[.int .i64 0, .bool false]) ∧ w = w' := by
  go_enter Tryd.func28, Tryd.ntmps28
  go_wp2_with fail
  refine (trim_yes s _ hs d1).mono ?_
  rintro e w' ⟨rfl, rfl⟩
  go_wp2_with fail
  refine (is_yes s _ hs d1).mono ?_
  rintro e w' ⟨rfl, rfl⟩
  go_wp2
  go_ret2
  exact ⟨rfl, rfl⟩
set_option maxHeartbeats 400000 in
theorem int_no (s : ByteArray) (w : World) (hs : s.size ≤ maxLen) (d1 : isDig s.data.toList = false) :
    Calls Tryd.prog 28 #[.string s] w fun e w' => e = .returned (.tuple #[.int .i64 0, .bool false]) ∧ w = w' := by
  go_enter Tryd.func28, Tryd.ntmps28
  go_wp2_with fail
  refine (trim_no s _ hs d1).mono ?_
  rintro e w' ⟨rfl, rfl⟩
  go_wp2_with fail
  refine (is_no s _ hs d1).mono ?_
  rintro e w' ⟨rfl, rfl⟩
  go_wp2
  go_ret2
  exact ⟨rfl, rfl⟩
end Go.Proofs.YtjobccgpejbchaaDoor
