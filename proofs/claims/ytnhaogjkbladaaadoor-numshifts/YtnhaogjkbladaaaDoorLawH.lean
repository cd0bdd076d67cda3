/- The walk of the law NumShifts. -/
import Derived.Test.YtnhaogjkbladaaaDoorLawF
namespace Go.Proofs.YtnhaogjkbladaaaDoor
open Go.RowKit Florin

theorem digits_some (a : Option Addr) (len cap : Nat) (L : List UInt8) (w : World) (hin : InB w a len cap L) (hl : len ≤ 1000000) :
    Calls Tryd.prog 23 #[.slice a len cap] w fun e w' => ∃ s : ByteArray, e = .returned (.string s) ∧ s.data.toList = dgs L ∧ Below w.heap.size w w' :=
  (digits_any a len cap L w hin hl).mono fun _ _ ⟨he, hw⟩ => ⟨_, he, arr_list _, hw⟩
theorem split_div (D : List UInt8) (k : Nat) (hd : isDig D = true) : val D / 10 ^ k = val (D.take (D.length - k)) ∧ val D % 10 ^ k = val (D.drop (D.length - k)) := by
  have e := val_append (D.take (D.length - k)) (D.drop (D.length - k))
  rw [List.take_append_drop] at e
  have hdd : isDig (D.drop (D.length - k)) = true := by
    unfold isDig at hd ⊢
    rw [List.all_eq_true] at hd ⊢
    exact fun c hc => hd c (List.mem_of_mem_drop hc)
  have hv := val_lt _ hdd
  rw [List.length_drop] at e hv
  by_cases h : k ≤ D.length
  · rw [show D.length - (D.length - k) = k by omega] at e hv
    rw [e]
    have hp := pow_pos' k
    rw [Nat.mul_comm, Nat.mul_add_div hp, Nat.mul_add_mod, Nat.div_eq_of_lt hv, Nat.mod_eq_of_lt hv]
    exact ⟨by omega, rfl⟩
  · rw [show D.length - k = 0 by omega] at *
    simp only [List.take_zero, List.drop_zero, Nat.sub_zero] at *
    have h2 : val D < 10 ^ k := Nat.lt_of_lt_of_le hv (Nat.pow_le_pow_right (by decide) (by omega))
    rw [Nat.div_eq_of_lt h2, Nat.mod_eq_of_lt h2]
    exact ⟨rfl, rfl⟩
theorem isDig_take (D : List UInt8) (k : Nat) (hd : isDig D = true) : isDig (D.take k) = true := by
  unfold isDig at hd ⊢
  rw [List.all_eq_true] at hd ⊢
  exact fun c hc => hd c (List.mem_of_mem_take hc)
theorem isDig_drop (D : List UInt8) (k : Nat) (hd : isDig D = true) : isDig (D.drop k) = true := by
  unfold isDig at hd ⊢
  rw [List.all_eq_true] at hd ⊢
  exact fun c hc => hd c (List.mem_of_mem_drop hc)
theorem int_part (s : ByteArray) (D : List UInt8) (c : Nat) (w : World) (hs : s.data.toList = D) (hd : isDig D = true) (_hl : D.length ≤ 200) (hc : D.length ≤ c + 7) :
    Calls Tryd.prog 19 #[.string (s.extract c s.size)] w fun e w' => e = .returned (.tuple #[.int .i64 (val (D.drop c)), .bool true]) ∧ w = w' := by
  have e1 : (s.extract c s.size).data.toList = D.drop c := by
    rw [Lib.extract_data, hs, List.take_of_length_le]
    rw [List.length_drop, ← hs, size_list]; omega
  have e2 := isDig_drop D c hd
  refine (int_yes _ w ?_ (by rw [e1]; exact e2) ?_).mono fun e w' ⟨he, hw⟩ => ⟨by rw [he, e1], hw⟩
  · rw [← size_list, e1, List.length_drop]; unfold maxLen; omega
  · rw [e1]; have := trim_length_le (D.drop c); rw [List.length_drop] at this; omega
theorem bare_part (s : ByteArray) (D : List UInt8) (c : Nat) (w : World) (hs : s.data.toList = D) (hd : isDig D = true) (hl : D.length ≤ 200) :
    Calls Tryd.prog 15 #[.string (s.extract 0 c)] w fun e w' => e = .returned (S (dig (val (D.take c)))) ∧ w = w' := by
  have e1 : (s.extract 0 c).data.toList = D.take c := by rw [Lib.extract_data, hs]; rfl
  refine (bare_any _ w ?_).mono fun e w' ⟨he, hw⟩ => ⟨by rw [he, e1, dig_val (isDig_take D c hd)], hw⟩
  rw [← size_list, e1]; have := List.length_take_le c D; unfold maxLen
  have := List.length_take (i := c) (l := D)
  omega
theorem bare_zeros (s : ByteArray) (D : List UInt8) (k : Nat) (w : World) (hs : s.data.toList = D) (hd : isDig D = true) (hl : D.length ≤ 200) (hk : k ≤ 7) :
    Calls Tryd.prog 15 #[.string (s ++ (⟨(List.replicate k 48).toArray⟩ : ByteArray))] w fun e w' => e = .returned (S (dig (val D * 10 ^ k))) ∧ w = w' := by
  have e1 : (s ++ (⟨(List.replicate k 48).toArray⟩ : ByteArray)).data.toList = D ++ List.replicate k 48 := by rw [← hs]; simp [ByteArray.data_append]
  refine (bare_any _ w ?_).mono fun e w' ⟨he, hw⟩ => ⟨by rw [he, e1, ← dig_val (by rw [isDig_append, hd, isDig_rep]; rfl), val_append, val_rep, List.length_replicate, Nat.add_zero], hw⟩
  rw [← size_list, e1, List.length_append, List.length_replicate]; unfold maxLen; omega
theorem times_str (s : ByteArray) (D : List UInt8) (m : Nat) (w : World) (hs : s.data.toList = D) (hd : isDig D = true) (hl : D.length ≤ 200) (hm : m ≤ 1000000000) (ht : Tab w) :
    Calls Tryd.prog 21 #[.string s, .int .i64 m] w fun e w' => e = .returned (S (dig (val D * m))) ∧ Below w.heap.size w w' :=
  (times_yes s m w (by rw [← size_list, hs]; omega) (by rw [hs]; exact hd) hm ht).mono fun e w' ⟨he, hw⟩ => ⟨by rw [he, hs], hw⟩
theorem div_str (s : ByteArray) (D : List UInt8) (m : Nat) (w : World) (hs : s.data.toList = D) (hd : isDig D = true) (hl : D.length ≤ 200) (h1 : 1 ≤ m) (hm : m ≤ 1000000000) :
    Calls Tryd.prog 18 #[.string s, .int .i64 m] w fun e w' => e = .returned (.tuple #[S (dig (val D / m)), .int .i64 ((val D % m : Nat) : Int)]) ∧ Below w.heap.size w w' :=
  (div_yes s m w (by rw [← size_list, hs]; omega) (by rw [hs]; exact hd) h1 hm).mono fun e w' ⟨he, hw⟩ => ⟨by rw [he, hs], hw⟩

set_option maxRecDepth 100000 in
set_option maxHeartbeats 2000000 in
theorem numShifts_short (a : Option Addr) (la ca : Nat) (L : List UInt8) (n : Int) (w : World) (hi1 : InB w a la ca L) (ht : Tab w) (h1 : la ≤ 200) :
    Calls Tryd.prog 11 #[.slice a la ca, .int .i64 n] w fun e w' => e = .returned (.bool true) ∧ Below w.heap.size w w' := by
  have H1 := Lib.hid hi1
  have HT := Lib.hid ht
  have m1 := hi1.2.2.1
  have m3 := hi1.2.1
  unfold maxLen at m1
  have l1 : (dgs L).length ≤ 200 := by rw [dgs_length, hi1.len]; exact h1
  have I1 := Lib.hid (isDig_dgs L)
  obtain ⟨k, hk, hand⟩ : ∃ k : Nat, k ≤ 7 ∧ bits .and .i64 n 7 = (k : Int) := and_mask n 7 (by decide)
  clear hi1 ht
  go_enter Tryd.func11, Tryd.ntmps11
  go_wp2_with fail
  refine (head_any _).mono ?_
  rintro e w1 ⟨rfl, hb1⟩
  have t1 := Lib.hid (HT.out.below hb1)
  have b1 := Lib.hid hb1
  clear hb1
  go_wp2_with fail
  refine (digits_some a la ca L _ (H1.out.below b1.out) (by omega)).mono ?_
  rintro e w2 ⟨s, rfl, hs, hb2⟩
  have t2 := Lib.hid (t1.out.below hb2)
  have b2 := Lib.hid (b1.out.trans (hb2.mono b1.out.size))
  have ss : s.size ≤ 200 := by rw [← size_list, hs]; exact l1
  have HSL : Hid (s.size = (dgs L).length) := Lib.hid (by rw [← size_list, hs])
  have HS := Lib.hid hs
  clear hb2 hs
  go_wp2_with fail
  go_loop [6, 7] (fun m i => ∃ j : Nat, j ≤ k ∧ i = .int .i64 j ∧ m = .int .i64 ((10 ^ j : Nat) : Int)) (fun _ i => k - (intOf i).toNat)
  case atStart => exact ⟨0, Nat.zero_le _, rfl, rfl⟩
  case round =>
    obtain ⟨j, hj, rfl, rfl⟩ := hrel
    have hp : 10 ^ j ≤ 10000000 := Nat.le_trans (Nat.pow_le_pow_right (by decide) (show j ≤ 7 by omega)) (by decide)
    have hp0 := pow_pos' j
    by_cases hlt : j < k
    · have HP : Hid (10 ^ (j + 1) = 10 ^ j * 10) := Lib.hid (Nat.pow_succ _ _)
      generalize 10 ^ j = P at *
      go_wp2
      go_round
      case rel => exact ⟨j + 1, by omega, by go_num, vint (by rw [HP.out]; omega)⟩
      case measure => simp [intOf]; omega
    · obtain rfl : j = k := by omega
      have HD := Lib.hid (split_div (dgs L) j I1.out)
      have HT10 : Hid (val (dgs L) * 10 ^ j = val (dgs L) * 10 ^ j) := Lib.hid rfl
      obtain ⟨c, hc⟩ : ∃ c : Nat, c = s.size - j := ⟨_, rfl⟩
      have hcut : max ((s.size : Int) - (j : Int)) 0 = (c : Int) := by omega
      have HCD : Hid ((dgs L).length - j = c) := Lib.hid (by rw [← HSL.out]; omega)
      have hc1 : c ≤ s.size := by omega
      have hc2 : Hid ((dgs L).length ≤ c + 7) := Lib.hid (by rw [← HSL.out]; omega)
      clear hc
      have HPW : Hid ((10 : Nat) ^ j = 10 ^ j) := Lib.hid rfl
      generalize hPP : 10 ^ j = P at *
      have HPP := Lib.hid hPP
      clear hPP hlt
      go_wp2_with fail
      refine (div_str s (dgs L) P _ HS.out I1.out l1 hp0 (by omega)).mono ?_
      rintro e w3 ⟨rfl, hb3⟩
      have t3 := Lib.hid (t2.out.below hb3)
      have b3 := Lib.hid (b2.out.trans (hb3.mono b2.out.size))
      clear hb3
      rw [HD.out.1, HD.out.2, HCD.out]
      go_wp2_with fail
      refine (int_part s (dgs L) c _ HS.out I1.out l1 hc2.out).mono ?_
      rintro e wz ⟨rfl, rfl⟩
      go_wp2_with fail
      refine (times_str s (dgs L) P _ HS.out I1.out l1 (by omega) t3.out).mono ?_
      rintro e w4 ⟨rfl, hb4⟩
      have t4 := Lib.hid (t3.out.below hb4)
      have b4 := Lib.hid (b3.out.trans (hb4.mono b3.out.size))
      clear hb4
      go_wp2_with fail
      refine (zerosN j _ (by omega)).mono ?_
      rintro e w5 ⟨rfl, hb5⟩
      have t5 := Lib.hid (t4.out.below hb5)
      have b5 := Lib.hid (b4.out.trans (hb5.mono b4.out.size))
      clear hb5
      go_wp2_with fail
      refine (bare_zeros s (dgs L) j _ HS.out I1.out l1 (by omega)).mono ?_
      rintro e wz ⟨rfl, rfl⟩
      rw [HPP.out]
      go_wp2_with fail
      refine (bare_part s (dgs L) c _ HS.out I1.out l1).mono ?_
      rintro e wz ⟨rfl, rfl⟩
      go_wp2
      go_ret
      exact ⟨rfl, b5.out⟩

set_option maxRecDepth 100000 in
set_option maxHeartbeats 1000000 in
theorem numShifts_walk (a : Option Addr) (la ca : Nat) (L : List UInt8) (n : Int) (w : World) (hi1 : InB w a la ca L) (_hn : (Lit.int .i64 n).wf = true) (ht : Tab w) :
    Calls Tryd.prog 11 #[.slice a la ca, .int .i64 n] w fun e w' => e = .returned (.bool true) ∧ Below w.heap.size w w' := by
  by_cases h1 : la ≤ 200
  · exact numShifts_short a la ca L n w hi1 ht h1
  · have m1 := hi1.2.2.1
    have m3 := hi1.2.1
    unfold maxLen at m1
    clear hi1 ht
    go_enter Tryd.func11, Tryd.ntmps11
    go_wp2_with fail
    refine (head_any _).mono ?_
    rintro e w1 ⟨rfl, hb1⟩
    go_wp2
    go_ret
    exact ⟨rfl, hb1⟩
end Go.Proofs.YtnhaogjkbladaaaDoor
