/- What num.Div and num.Int return, at any world. -/
import Derived.Test.YtkjhdehpcanciaaGreatDoorNumF
namespace Go.Proofs.YtkjhdehpcanciaaGreatDoor
open Go.RowKit Florin

theorem isD_at (s : ByteArray) (k : Nat) (hd : isDig s.data.toList = true) (h : k < s.size) : isD s[k] = true := by
  unfold isDig at hd
  rw [List.all_eq_true] at hd
  exact hd _ (by simp [ByteArray.getElem_eq_getElem_data])
theorem set_quo (n k q d : Nat) (hk : k < n) (q0 : Nat) (hq : q / 10 = q0) (hd : d % 10 = q % 10) : (digs k q0 ++ List.replicate (n - k) (0 : UInt8)).set k (db d) = digs (k + 1) q ++ List.replicate (n - (k + 1)) 0 := by
  rw [show digs (k + 1) q = digs k (q / 10) ++ [db q] from rfl, hq, db_congr hd]
  rw [List.set_append_right _ _ (by rw [digs_length]; omega), digs_length, Nat.sub_self]
  rw [show n - k = (n - (k + 1)) + 1 by omega, List.replicate_succ]
  simp

set_option maxRecDepth 100000 in
set_option maxHeartbeats 800000 in
theorem div_yes (s : ByteArray) (m : Nat) (w : World) (hs : s.size ≤ 1000000) (d1 : isDig s.data.toList = true) (m1 : 1 ≤ m) (m2 : m ≤ 1000000000) :
    Calls Tryz.prog 67 #[.string s, .int .i64 m] w fun e w' => e = .returned (.tuple #[S (dig (val s.data.toList / m)), .int .i64 ((val s.data.toList % m : Nat) : Int)]) ∧ Below w.heap.size w w' := by
  obtain ⟨i0, hi, hz0, hz1, hz2⟩ := info_parts Tryz.infoB
  have D1 := Lib.hid d1
  clear d1
  go_enter Tryz.func67, Tryz.ntmps67
  go_wp2_with fail
  refine (is_yes s _ (by unfold maxLen; omega) D1.out).mono ?_
  rintro e w' ⟨rfl, rfl⟩
  go_wp2_with (at_make; refine wpList_make_full _ rfl (.tmp 22) (.tmp 22) 40 rfl w.heap.size 5 i0 (.int .u8 0) 1 Tryz.underlying40 hi hz0 hz1 .i64 .i64 _ _ s.size rfl rfl rfl rfl (by rw [hz2]; omega) (by unfold maxLen; omega) (by omega) ?_; intro w1 hown hgrow)
  have hrow := RowB.made hown
  have hb1 : Below w.heap.size w w1 := (Below.refl _ _).grown hgrow (by omega) (by intro g hg; cases hg)
  clear hown hgrow hi hz0 hz1 hz2 i0
  go_loopw [7, 26] (fun r i wr => ∃ k : Nat, k ≤ s.size ∧ i = .int .i64 k ∧ r = .int .i64 ((val (s.data.toList.take k) % m : Nat) : Int) ∧
      RowB wr w.heap.size w.heap.size s.size (digs k (val (s.data.toList.take k) / m) ++ List.replicate (s.size - k) 0) ∧ Below w.heap.size w wr)
    (fun _ i _ => s.size - (intOf i).toNat)
  case atStart => exact ⟨0, Nat.zero_le _, rfl, by simp [val], by simpa [digs] using hrow, hb1⟩
  case round =>
    obtain ⟨k, hk, rfl, rfl, hr, hb⟩ := hrel
    clear hrow hb1 w1
    by_cases hlt : k < s.size
    · obtain ⟨x, hc⟩ := hr.cell k (by omega)
      have hf := hr.frozen k
      have HV : Hid (val (s.data.toList.take (k + 1)) = 10 * val (s.data.toList.take k) + dv s[k]) := Lib.hid (by rw [take_snoc s k hlt, val_snoc])
      have HI := Lib.hid (isD_at s k D1.out hlt)
      have b1 := dv_lt HI.out
      have b2 := Nat.mod_lt (val (s.data.toList.take k)) m1
      have HS := Lib.hid (div_step (val (s.data.toList.take k)) (dv s[k]) m m1 b1)
      generalize val (s.data.toList.take k) = v at *
      go_wp2_with fail
      refine (digitValue_any _ _ HI.out).mono ?_
      rintro e w' ⟨rfl, rfl⟩
      go_wp2_with fail
      obtain ⟨z1, z2, z3, z4⟩ := HS.out
      have hq : ((v : Int) % m * 10 + (dv s[k] : Int)) / m = (((v % m * 10 + dv s[k]) / m : Nat) : Int) := by simp
      generalize hqd : (v % m * 10 + dv s[k]) / m = q at *
      have HQ := Lib.hid hq
      have HQD := Lib.hid hqd
      clear hqd
      have Z1 := Lib.hid z1
      have Z2 := Lib.hid z2
      have Z3 := Lib.hid z3
      clear z1 z2 z3 hq
      refine (digitByte_any _ _ (by rw [HQ.out]; omega) (by rw [HQ.out]; omega)).mono ?_
      rintro e w' ⟨rfl, rfl⟩
      go_wp2
      go_roundw
      case rel =>
        refine ⟨k + 1, by omega, by go_num, vint ?_, ?_, hb.setCell (by simp) _⟩
        · rw [HV.out, Z3.out]; simp
        · rw [HV.out]
          have := hr.stored k (db q)
          rw [set_quo s.size k ((10 * v + dv s[k]) / m) _ hlt _ Z1.out (by rw [Z2.out]; omega)] at this
          simpa [HQ.out, HQD.out] using this
      case measure => simp [intOf]; omega
    · obtain rfl : k = s.size := by omega
      have hcv := hr.conv
      rw [Nat.sub_self, List.replicate_zero, List.append_nil, take_all s _ (Nat.le_refl _)] at hcv
      have HT : Hid (val s.data.toList / m < 10 ^ s.size) := Lib.hid (by have := val_lt _ D1.out; rw [size_list] at this; exact Nat.lt_of_le_of_lt (Nat.div_le_self _ _) this)
      have HA := Lib.hid (take_all s _ (Nat.le_refl _))
      clear hr
      go_wp2_with fail
      refine (trim_yes _ _ (by rw [arr_size, digs_length]; unfold maxLen; omega) (arr_dig _ (isDig_digs _ _))).mono ?_
      rintro e w' ⟨rfl, rfl⟩
      go_wp2
      go_ret2
      refine ⟨?_, hb⟩
      rw [arr_list, trim_digs _ _ HT.out, HA.out]
      simp
set_option maxHeartbeats 400000 in
theorem div_no (s : ByteArray) (m : Int) (w : World) (hs : s.size ≤ maxLen) (d1 : isDig s.data.toList = false) :
    Calls Tryz.prog 67 #[.string s, .int .i64 m] w fun e w' => e = .returned (.tuple #[S [], .int .i64 0]) ∧ w = w' := by
  go_enter Tryz.func67, Tryz.ntmps67
  go_wp2_with fail
  refine (is_no s _ hs d1).mono ?_
  rintro e w' ⟨rfl, rfl⟩
  go_wp2
  go_ret2
  exact ⟨rfl, rfl⟩
set_option maxHeartbeats 400000 in
theorem div_out (s : ByteArray) (m : Int) (w : World) (hs : s.size ≤ maxLen) (d1 : isDig s.data.toList = true) (hm : m < 1 ∨ 1000000000 < m) :
    Calls Tryz.prog 67 #[.string s, .int .i64 m] w fun e w' => e = .returned (.tuple #[S [], .int .i64 0]) ∧ w = w' := by
  rcases hm with hm | hm
  · go_enter Tryz.func67, Tryz.ntmps67
    go_wp2_with fail
    refine (is_yes s _ hs d1).mono ?_
    rintro e w' ⟨rfl, rfl⟩
    go_wp2
    go_ret2
    exact ⟨rfl, rfl⟩
  · have h2 : ¬ m < 1 := by omega
    go_enter Tryz.func67, Tryz.ntmps67
    go_wp2_with fail
    refine (is_yes s _ hs d1).mono ?_
    rintro e w' ⟨rfl, rfl⟩
    go_wp2
    go_ret2
    exact ⟨rfl, rfl⟩

theorem ret_I2 {a b : Int} {v : Value} (h : a = b) : Ending.returned (.tuple #[.int .i64 a, v]) = .returned (.tuple #[.int .i64 b, v]) := by rw [h]
theorem trim_some (s : ByteArray) (w : World) (hs : s.size ≤ maxLen) (hd : isDig s.data.toList = true) :
    Calls Tryz.prog 41 #[.string s] w fun e w' => ∃ q : ByteArray, e = .returned (.string q) ∧ q.data.toList = trim s.data.toList ∧ w = w' :=
  (trim_yes s w hs hd).mono fun _ _ ⟨he, hw⟩ => ⟨_, he, arr_list _, hw⟩

set_option maxHeartbeats 400000 in
theorem int_yes (s : ByteArray) (w : World) (hs : s.size ≤ maxLen) (d1 : isDig s.data.toList = true) (h18 : (trim s.data.toList).length ≤ 18) :
    Calls Tryz.prog 63 #[.string s] w fun e w' => e = .returned (.tuple #[.int .i64 (val s.data.toList), .bool true]) ∧ w = w' := by
  have D1 := Lib.hid d1
  clear d1
  go_enter Tryz.func63, Tryz.ntmps63
  go_wp2_with fail
  refine (trim_some s _ hs D1.out).mono ?_
  rintro e w' ⟨q, rfl, hq, rfl⟩
  have h18' : q.size ≤ 18 := by rw [← size_list, hq]; exact h18
  have HDT : Hid (isDig q.data.toList = true) := Lib.hid (by rw [hq]; exact isDig_trim _ D1.out)
  have HV : Hid (val q.data.toList = val s.data.toList) := Lib.hid (by rw [hq, val_trim])
  clear hq h18
  go_wp2_with fail
  refine (is_yes s _ hs D1.out).mono ?_
  rintro e w' ⟨rfl, rfl⟩
  go_wp2_with fail
  go_loop [5, 19] (fun n i => ∃ k : Nat, k ≤ q.size ∧ i = .int .i64 k ∧ n = .int .i64 (val (q.data.toList.take k))) (fun _ i => q.size - (intOf i).toNat)
  case atStart => exact ⟨0, Nat.zero_le _, rfl, by simp [val]⟩
  case round =>
    obtain ⟨k, hk, rfl, rfl⟩ := hrel
    by_cases hlt : k < q.size
    · have HV2 : Hid (val (q.data.toList.take (k + 1)) = 10 * val (q.data.toList.take k) + dv q[k]) := Lib.hid (by rw [take_snoc q k hlt, val_snoc])
      have HI := Lib.hid (isD_at q k HDT.out hlt)
      have b1 := dv_lt HI.out
      have b2 : val (q.data.toList.take k) < 100000000000000000 := by
        have hd : isDig (q.data.toList.take k) = true := by
          have := HDT.out
          unfold isDig at this ⊢
          rw [List.all_eq_true] at this ⊢
          exact fun c hc => this c (List.mem_of_mem_take hc)
        have h1 := val_lt _ hd
        have h2 : (q.data.toList.take k).length ≤ 17 := by
          have := List.length_take_le k q.data.toList
          omega
        have h3 : 10 ^ (q.data.toList.take k).length ≤ 10 ^ 17 := Nat.pow_le_pow_right (by decide) h2
        have h4 : (10 : Nat) ^ 17 = 100000000000000000 := by decide
        omega
      generalize val (q.data.toList.take k) = v at *
      go_wp2_with fail
      refine (digitValue_any _ _ HI.out).mono ?_
      rintro e w' ⟨rfl, rfl⟩
      go_wp2
      go_round
      case rel => exact ⟨k + 1, by omega, by go_num, vint (by rw [HV2.out]; omega)⟩
      case measure => simp [intOf]; omega
    · have HA := Lib.hid (take_all q k (by omega))
      go_wp2
      go_ret2
      exact ⟨ret_I2 (by rw [HA.out, HV.out]), rfl⟩
set_option maxHeartbeats 400000 in
theorem int_big (s : ByteArray) (w : World) (hs : s.size ≤ maxLen) (d1 : isDig s.data.toList = true) (h18 : 18 < (trim s.data.toList).length) :
    Calls Tryz.prog 63 #[.string s] w fun e w' => e = .returned (.tuple #[.int .i64 0, .bool false]) ∧ w = w' := by
  go_enter Tryz.func63, Tryz.ntmps63
  go_wp2_with fail
  refine (trim_yes s _ hs d1).mono ?_
  rintro e w' ⟨rfl, rfl⟩
  go_wp2_with fail
  refine (is_yes s _ hs d1).mono ?_
  rintro e w' ⟨rfl, rfl⟩
  go_wp2
  go_ret2
  exact ⟨rfl, rfl⟩
set_option maxHeartbeats 400000 in
theorem int_no (s : ByteArray) (w : World) (hs : s.size ≤ maxLen) (d1 : isDig s.data.toList = false) :
    Calls Tryz.prog 63 #[.string s] w fun e w' => e = .returned (.tuple #[.int .i64 0, .bool false]) ∧ w = w' := by
  go_enter Tryz.func63, Tryz.ntmps63
  go_wp2_with fail
  refine (trim_no s _ hs d1).mono ?_
  rintro e w' ⟨rfl, rfl⟩
  go_wp2_with fail
  refine (is_no s _ hs d1).mono ?_
  rintro e w' ⟨rfl, rfl⟩
  go_wp2
  go_ret2
  exact ⟨rfl, rfl⟩
end Go.Proofs.YtkjhdehpcanciaaGreatDoor
