/- The walk of the law NumInts. -/
import Derived.Test.YtnhaogjkbladaaaDoorLawD
namespace Go.Proofs.YtnhaogjkbladaaaDoor
open Go.RowKit Florin

theorem of_some (n : Nat) (w : World) (h : n ≤ 9223372036854775807) (ht : Tab w) :
    Calls Tryd.prog 22 #[.int .i64 n] w fun e w' => ∃ q : ByteArray, e = .returned (.string q) ∧ q.data.toList = dig n ∧ Below w.heap.size w w' :=
  (ofN n w h ht).mono fun _ _ ⟨he, hw⟩ => ⟨_, he, arr_list _, hw⟩
theorem val_take_le (l : List UInt8) (k : Nat) : val (l.take k) ≤ val l := by
  have e := val_append (l.take k) (l.drop k)
  rw [List.take_append_drop] at e
  have hp := pow_pos' (l.drop k).length
  have := Nat.le_mul_of_pos_right (val (l.take k)) hp
  omega
theorem bare_back (q : ByteArray) (n : Nat) (w : World) (hs : q.size ≤ maxLen) (hq : q.data.toList = dig n) :
    Calls Tryd.prog 15 #[.string q] w fun e w' => e = .returned (.string q) ∧ w = w' :=
  (bare_any q w hs).mono fun e w' ⟨he, hw⟩ => ⟨by rw [he, hq, trim_dig, ← hq], hw⟩

set_option maxRecDepth 100000 in
set_option maxHeartbeats 2000000 in
theorem numInts_small (a : Option Addr) (la ca : Nat) (L : List UInt8) (n : Int) (w : World) (hi1 : InB w a la ca L) (ht : Tab w) (h1 : la ≤ 60) (hc : (dig (val (dgs L))).length ≤ 18) :
    Calls Tryd.prog 10 #[.slice a la ca, .int .i64 n] w fun e w' => e = .returned (.bool true) ∧ Below w.heap.size w w' := by
  have H1 := Lib.hid hi1
  have HT := Lib.hid ht
  have m1 := hi1.2.2.1
  have m3 := hi1.2.1
  unfold maxLen at m1
  have l1 : (dgs L).length ≤ 60 := by rw [dgs_length, hi1.len]; exact h1
  have g1 : (dig (val (dgs L))).length ≤ 1000 := Nat.le_trans ((dig_length_le _ 60).2 (val_dgs_lt L (by rw [hi1.len]; exact h1))) (by decide)
  have I1 := Lib.hid (isDig_dgs L)
  obtain ⟨z, hz, hand⟩ : ∃ k : Nat, k ≤ 9223372036854775807 ∧ bits .and .i64 n 9223372036854775807 = (k : Int) := and_mask n 9223372036854775807 (by decide)
  have HZ := Lib.hid hz
  have HAND := Lib.hid hand
  clear hi1 ht hz hand
  have hv18 : val (dgs L) < 1000000000000000000 := by
    have := (dig_length_le (val (dgs L)) 18).1 hc
    have e : (10 : Nat) ^ 18 = 1000000000000000000 := by decide
    omega
  have HC := Lib.hid hc
  go_enter Tryd.func10, Tryd.ntmps10
  go_wp2_with fail
  refine (head_any _).mono ?_
  rintro e w1 ⟨rfl, hb1⟩
  have t1 := Lib.hid (HT.out.below hb1)
  have b1 := Lib.hid hb1
  clear hb1
  go_wp2_with fail
  refine (digits_any a la ca L _ (H1.out.below b1.out) (by omega)).mono ?_
  rintro e w2 ⟨rfl, hb2⟩
  have t2 := Lib.hid (t1.out.below hb2)
  have b2 := Lib.hid (b1.out.trans (hb2.mono b1.out.size))
  clear hb2
  go_wp2_with fail
  refine (intS (dgs L) _ (by omega) I1.out HC.out).mono ?_
  rintro e wz ⟨rfl, rfl⟩
  go_wp2_with fail
  rw [HAND.out]
  refine (of_some z _ HZ.out t2.out).mono ?_
  rintro e w3 ⟨q, rfl, hq, hb3⟩
  have t3 := Lib.hid (t2.out.below hb3)
  have b3 := Lib.hid (b2.out.trans (hb3.mono b2.out.size))
  clear hb3
  have sq : q.size ≤ 19 := by
    rw [← size_list, hq]
    refine (dig_length_le z 19).2 ?_
    have e : (10 : Nat) ^ 19 = 10000000000000000000 := by decide
    have := HZ.out
    omega
  have HQ := Lib.hid hq
  clear hq
  go_wp2_with fail
  go_loop [9, 10] (fun v i => ∃ k : Nat, k ≤ q.size ∧ i = .int .i64 k ∧ v = .int .i64 (val (q.data.toList.take k))) (fun _ i => q.size - (intOf i).toNat)
  case atStart => exact ⟨0, Nat.zero_le _, rfl, by simp [val]⟩
  case round =>
    obtain ⟨k, hk, rfl, rfl⟩ := hrel
    by_cases hlt : k < q.size
    · have HV2 : Hid (val (q.data.toList.take (k + 1)) = 10 * val (q.data.toList.take k) + dv q[k]) := Lib.hid (by rw [take_snoc q k hlt, val_snoc])
      have hid := isD_at q k (by rw [HQ.out]; exact isDig_dig _) hlt
      have hle : 10 * val (q.data.toList.take k) + dv q[k] ≤ 9223372036854775807 := by
        have h5 := val_take_le q.data.toList (k + 1)
        rw [HV2.out] at h5
        rw [HQ.out, val_dig] at h5
        have := HZ.out
        rw [HQ.out]
        omega
      rw [isD_iff] at hid
      obtain ⟨c1, c2⟩ := hid
      unfold dv at hle
      have HV3 : Hid (10 * (val (q.data.toList.take k) : Int) + ((q[k].toNat : Int) - 48) = (val (q.data.toList.take (k + 1)) : Int)) := Lib.hid (by rw [HV2.out]; unfold dv; omega)
      generalize val (q.data.toList.take k) = v at *
      go_wp2
      go_round
      case rel => exact ⟨k + 1, by omega, by go_num, vint (by rw [← HV3.out])⟩
      case measure => simp [intOf]; omega
    · have HF : Hid (val (q.data.toList.take k) = z) := Lib.hid (by rw [take_all q k (by omega), HQ.out, val_dig])
      rw [HF.out]
      have hl18 : decide ((dig (val (dgs L))).length ≤ 18) = true := by have := HC.out; simp; omega
      have hl19 : decide (((dig (val (dgs L))).length : Int) ≤ 18) = true := by have := HC.out; simp; omega
      go_wp2_with fail
      refine (bareS (dgs L) _ (by omega) I1.out).mono ?_
      rintro e wz ⟨rfl, rfl⟩
      go_wp2_with fail
      refine (ofN (val (dgs L)) _ (by omega) t3.out).mono ?_
      rintro e w4 ⟨rfl, hb4⟩
      have t4 := Lib.hid (t3.out.below hb4)
      have b4 := Lib.hid (b3.out.trans (hb4.mono b3.out.size))
      clear hb4
      go_wp2_with fail
      refine (bareS (dgs L) _ (by omega) I1.out).mono ?_
      rintro e wz ⟨rfl, rfl⟩
      go_wp2_with fail
      refine (bare_back q z _ (by unfold maxLen; omega) HQ.out).mono ?_
      rintro e wz ⟨rfl, rfl⟩
      go_wp2
      go_ret
      exact ⟨rfl, b4.out⟩

set_option maxRecDepth 100000 in
set_option maxHeartbeats 2000000 in
theorem numInts_big (a : Option Addr) (la ca : Nat) (L : List UInt8) (n : Int) (w : World) (hi1 : InB w a la ca L) (ht : Tab w) (h1 : la ≤ 60) (hc : 18 < (dig (val (dgs L))).length) :
    Calls Tryd.prog 10 #[.slice a la ca, .int .i64 n] w fun e w' => e = .returned (.bool true) ∧ Below w.heap.size w w' := by
  have H1 := Lib.hid hi1
  have HT := Lib.hid ht
  have m1 := hi1.2.2.1
  have m3 := hi1.2.1
  unfold maxLen at m1
  have l1 : (dgs L).length ≤ 60 := by rw [dgs_length, hi1.len]; exact h1
  have g1 : (dig (val (dgs L))).length ≤ 1000 := Nat.le_trans ((dig_length_le _ 60).2 (val_dgs_lt L (by rw [hi1.len]; exact h1))) (by decide)
  have I1 := Lib.hid (isDig_dgs L)
  obtain ⟨z, hz, hand⟩ : ∃ k : Nat, k ≤ 9223372036854775807 ∧ bits .and .i64 n 9223372036854775807 = (k : Int) := and_mask n 9223372036854775807 (by decide)
  have HZ := Lib.hid hz
  have HAND := Lib.hid hand
  clear hi1 ht hz hand
  have HC := Lib.hid hc
  go_enter Tryd.func10, Tryd.ntmps10
  go_wp2_with fail
  refine (head_any _).mono ?_
  rintro e w1 ⟨rfl, hb1⟩
  have t1 := Lib.hid (HT.out.below hb1)
  have b1 := Lib.hid hb1
  clear hb1
  go_wp2_with fail
  refine (digits_any a la ca L _ (H1.out.below b1.out) (by omega)).mono ?_
  rintro e w2 ⟨rfl, hb2⟩
  have t2 := Lib.hid (t1.out.below hb2)
  have b2 := Lib.hid (b1.out.trans (hb2.mono b1.out.size))
  clear hb2
  go_wp2_with fail
  refine (intS_big (dgs L) _ (by omega) I1.out HC.out).mono ?_
  rintro e wz ⟨rfl, rfl⟩
  go_wp2_with fail
  rw [HAND.out]
  refine (of_some z _ HZ.out t2.out).mono ?_
  rintro e w3 ⟨q, rfl, hq, hb3⟩
  have t3 := Lib.hid (t2.out.below hb3)
  have b3 := Lib.hid (b2.out.trans (hb3.mono b2.out.size))
  clear hb3
  have sq : q.size ≤ 19 := by
    rw [← size_list, hq]
    refine (dig_length_le z 19).2 ?_
    have e : (10 : Nat) ^ 19 = 10000000000000000000 := by decide
    have := HZ.out
    omega
  have HQ := Lib.hid hq
  clear hq
  go_wp2_with fail
  go_loop [9, 10] (fun v i => ∃ k : Nat, k ≤ q.size ∧ i = .int .i64 k ∧ v = .int .i64 (val (q.data.toList.take k))) (fun _ i => q.size - (intOf i).toNat)
  case atStart => exact ⟨0, Nat.zero_le _, rfl, by simp [val]⟩
  case round =>
    obtain ⟨k, hk, rfl, rfl⟩ := hrel
    by_cases hlt : k < q.size
    · have HV2 : Hid (val (q.data.toList.take (k + 1)) = 10 * val (q.data.toList.take k) + dv q[k]) := Lib.hid (by rw [take_snoc q k hlt, val_snoc])
      have hid := isD_at q k (by rw [HQ.out]; exact isDig_dig _) hlt
      have hle : 10 * val (q.data.toList.take k) + dv q[k] ≤ 9223372036854775807 := by
        have h5 := val_take_le q.data.toList (k + 1)
        rw [HV2.out] at h5
        rw [HQ.out, val_dig] at h5
        have := HZ.out
        rw [HQ.out]
        omega
      rw [isD_iff] at hid
      obtain ⟨c1, c2⟩ := hid
      unfold dv at hle
      have HV3 : Hid (10 * (val (q.data.toList.take k) : Int) + ((q[k].toNat : Int) - 48) = (val (q.data.toList.take (k + 1)) : Int)) := Lib.hid (by rw [HV2.out]; unfold dv; omega)
      generalize val (q.data.toList.take k) = v at *
      go_wp2
      go_round
      case rel => exact ⟨k + 1, by omega, by go_num, vint (by rw [← HV3.out])⟩
      case measure => simp [intOf]; omega
    · have HF : Hid (val (q.data.toList.take k) = z) := Lib.hid (by rw [take_all q k (by omega), HQ.out, val_dig])
      rw [HF.out]
      have hl18 : decide ((dig (val (dgs L))).length ≤ 18) = false := by have := HC.out; simp; omega
      have hl19 : decide (((dig (val (dgs L))).length : Int) ≤ 18) = false := by have := HC.out; simp; omega
      go_wp2_with fail
      refine (bareS (dgs L) _ (by omega) I1.out).mono ?_
      rintro e wz ⟨rfl, rfl⟩
      go_wp2_with fail
      refine (bare_back q z _ (by unfold maxLen; omega) HQ.out).mono ?_
      rintro e wz ⟨rfl, rfl⟩
      go_wp2
      go_ret
      exact ⟨rfl, b3.out⟩

set_option maxRecDepth 100000 in
set_option maxHeartbeats 1000000 in
theorem numInts_walk (a : Option Addr) (la ca : Nat) (L : List UInt8) (n : Int) (w : World) (hi1 : InB w a la ca L) (_hn : (Lit.int .i64 n).wf = true) (ht : Tab w) :
    Calls Tryd.prog 10 #[.slice a la ca, .int .i64 n] w fun e w' => e = .returned (.bool true) ∧ Below w.heap.size w w' := by
  by_cases h1 : la ≤ 60
  · by_cases hc : (dig (val (dgs L))).length ≤ 18
    · exact numInts_small a la ca L n w hi1 ht h1 hc
    · exact numInts_big a la ca L n w hi1 ht h1 (by omega)
  · have m1 := hi1.2.2.1
    have m3 := hi1.2.1
    unfold maxLen at m1
    clear hi1 ht
    go_enter Tryd.func10, Tryd.ntmps10
    go_wp2_with fail
    refine (head_any _).mono ?_
    rintro e w1 ⟨rfl, hb1⟩
    go_wp2
    go_ret
    exact ⟨rfl, hb1⟩
end Go.Proofs.YtnhaogjkbladaaaDoor
