/- What num.Sub returns, at any world. -/
import Derived.Test.YtkjhdehpcanciaaGreatDoorNumE
namespace Go.Proofs.YtkjhdehpcanciaaGreatDoor
open Go.RowKit Florin

theorem cmpv_lt {a b : List UInt8} (ha : isDig a = true) (hb : isDig b = true) : cmpv a b < 0 ↔ val a < val b := by
  rw [cmpv_yes (by rw [ha, hb]; rfl)]
  unfold Lib.compareInt
  split
  · omega
  · split <;> omega

set_option maxRecDepth 100000 in
set_option maxHeartbeats 800000 in
theorem sub_yes (s t : ByteArray) (w : World) (hs : s.size ≤ 1000000) (ht : t.size ≤ 1000000) (d1 : isDig s.data.toList = true) (d2 : isDig t.data.toList = true) (hle : val t.data.toList ≤ val s.data.toList) :
    Calls Tryz.prog 97 #[.string s, .string t] w fun e w' => e = .returned (.tuple #[S (dig (val s.data.toList - val t.data.toList)), .bool true]) ∧ Below w.heap.size w w' := by
  obtain ⟨i0, hi, hz0, hz1, hz2⟩ := info_parts Tryz.infoB
  have hcm : ¬ cmpv s.data.toList t.data.toList < 0 := by rw [cmpv_lt d1 d2]; omega
  have D1 := Lib.hid d1
  have D2 := Lib.hid d2
  have HLE := Lib.hid hle
  clear d1 d2 hle
  go_enter Tryz.func97, Tryz.ntmps97
  go_wp2_with fail
  refine (allDigits_yes _ s t _ (by unfold maxLen; omega) (by unfold maxLen; omega) D1.out D2.out (by simp) (by simp)).mono ?_
  rintro e w' ⟨rfl, rfl⟩
  go_wp2_with fail
  refine (cmp_any s t _ (by unfold maxLen; omega) (by unfold maxLen; omega)).mono ?_
  rintro e w0 ⟨rfl, hb0⟩
  have hz : w.heap.size + 1 ≤ w0.heap.size := by have := hb0.size; simpa using this
  go_wp2_with (at_make; refine wpList_make_full _ rfl (.tmp 24) (.tmp 24) 40 rfl w.heap.size 5 i0 (.int .u8 0) 1 Tryz.underlying40 hi hz0 hz1 .i64 .i64 _ _ s.size rfl rfl rfl rfl (by rw [hz2]; omega) (by unfold maxLen; omega) (by omega) ?_; intro w1 hown hgrow)
  have hrow := RowB.made hown
  have hb1 : Below w.heap.size w w1 := ((((Below.refl _ _).alloc (Nat.le_refl _) _).trans (hb0.mono (by simp))).grown hgrow (by omega) (by intro g hg; cases hg))
  have hg0 : w.heap.size ≤ w0.heap.size := by omega
  clear hown hgrow hi hz0 hz1 hz2 i0 hcm hb0 hz
  generalize w0.heap.size = g at *
  go_loopw [8, 27] (fun c i wr => ∃ k : Nat, k ≤ s.size ∧ i = .int .i64 k ∧ c = .int .i64 (subC (val s.data.toList) (val t.data.toList) k) ∧
      RowB wr w.heap.size g s.size (List.replicate (s.size - k) 0 ++ digs k (val s.data.toList - val t.data.toList)) ∧ Below w.heap.size w wr)
    (fun _ i _ => s.size - (intOf i).toNat)
  case atStart => exact ⟨0, Nat.zero_le _, rfl, by rw [subC_zero]; rfl, by simpa [digs] using hrow, hb1⟩
  case round =>
    obtain ⟨k, hk, rfl, rfl, hr, hb⟩ := hrel
    clear hrow hb1 w1
    have c1 := subC_le (val s.data.toList) (val t.data.toList) k
    have p1 : plc s.data.toList k < 10 := Nat.mod_lt _ (by decide)
    have p2 : plc t.data.toList k < 10 := Nat.mod_lt _ (by decide)
    by_cases hlt : k < s.size
    · obtain ⟨x, hc⟩ := hr.cell (s.size - 1 - k) (by omega)
      have hf := hr.frozen (s.size - 1 - k)
      by_cases hneg : (plc s.data.toList k : Int) - plc t.data.toList k - subC (val s.data.toList) (val t.data.toList) k < 0
      · go_wp2_with fail
        refine (digitAt_any s k _ (by unfold maxLen; omega) D1.out).mono ?_
        rintro e w' ⟨rfl, rfl⟩
        go_wp2_with fail
        refine (digitAt_any t k _ (by unfold maxLen; omega) D2.out).mono ?_
        rintro e w' ⟨rfl, rfl⟩
        go_wp2_with fail
        refine (digitByte_any _ _ (by omega) (by omega)).mono ?_
        rintro e w' ⟨rfl, rfl⟩
        go_wp2
        go_roundw
        case rel =>
          refine ⟨k + 1, by omega, by go_num, vint ?_, ?_, hb.setCell (by simpa using hg0) _⟩
          · rw [subC_succ, if_pos (by unfold plc at hneg; omega)]; rfl
          · rw [← set_digs s.size k _ _ hlt ?_]
            · exact hr.stored _ _
            · rw [sub_digit _ _ _ HLE.out]; unfold plc at hneg ⊢; omega
        case measure => simp [intOf]; omega
      · go_wp2_with fail
        refine (digitAt_any s k _ (by unfold maxLen; omega) D1.out).mono ?_
        rintro e w' ⟨rfl, rfl⟩
        go_wp2_with fail
        refine (digitAt_any t k _ (by unfold maxLen; omega) D2.out).mono ?_
        rintro e w' ⟨rfl, rfl⟩
        go_wp2_with fail
        refine (digitByte_any _ _ (by omega) (by omega)).mono ?_
        rintro e w' ⟨rfl, rfl⟩
        go_wp2
        go_roundw
        case rel =>
          refine ⟨k + 1, by omega, by go_num, vint ?_, ?_, hb.setCell (by simpa using hg0) _⟩
          · rw [subC_succ, if_neg (by unfold plc at hneg; omega)]; rfl
          · rw [← set_digs s.size k _ _ hlt ?_]
            · exact hr.stored _ _
            · rw [sub_digit _ _ _ HLE.out]; unfold plc at hneg ⊢; omega
        case measure => simp [intOf]; omega
    · obtain rfl : k = s.size := by omega
      have hcv := hr.conv
      rw [Nat.sub_self, List.replicate_zero, List.nil_append] at hcv
      have HT : Hid (val s.data.toList - val t.data.toList < 10 ^ s.size) := Lib.hid (by have := val_lt _ D1.out; rw [size_list] at this; omega)
      clear hr
      go_wp2_with fail
      refine (trim_yes _ _ (by rw [arr_size, digs_length]; unfold maxLen; omega) (arr_dig _ (isDig_digs _ _))).mono ?_
      rintro e w' ⟨rfl, rfl⟩
      go_wp2
      go_ret2
      exact ⟨ret_S2 (by rw [← trim_digs _ _ HT.out]), hb⟩
set_option maxHeartbeats 400000 in
theorem sub_less (s t : ByteArray) (w : World) (hs : s.size ≤ maxLen) (ht : t.size ≤ maxLen) (d1 : isDig s.data.toList = true) (d2 : isDig t.data.toList = true) (hle : val s.data.toList < val t.data.toList) :
    Calls Tryz.prog 97 #[.string s, .string t] w fun e w' => e = .returned (.tuple #[S [], .bool false]) ∧ Below w.heap.size w w' := by
  have hcm : cmpv s.data.toList t.data.toList < 0 := by rw [cmpv_lt d1 d2]; omega
  have D1 := Lib.hid d1
  have D2 := Lib.hid d2
  clear d1 d2 hle
  go_enter Tryz.func97, Tryz.ntmps97
  go_wp2_with fail
  refine (allDigits_yes _ s t _ hs ht D1.out D2.out (by simp) (by simp)).mono ?_
  rintro e w' ⟨rfl, rfl⟩
  go_wp2_with fail
  refine (cmp_any s t _ hs ht).mono ?_
  rintro e w0 ⟨rfl, hb0⟩
  go_wp2
  go_ret2
  exact ⟨rfl, ((Below.refl _ _).alloc (Nat.le_refl _) _).trans (hb0.mono (by simp))⟩
theorem sub_no (s t : ByteArray) (w : World) (hs : s.size ≤ maxLen) (ht : t.size ≤ maxLen) (h0 : (isDig s.data.toList && isDig t.data.toList) = false) :
    Calls Tryz.prog 97 #[.string s, .string t] w fun e w' => e = .returned (.tuple #[S [], .bool false]) ∧ Below w.heap.size w w' := by
  go_enter Tryz.func97, Tryz.ntmps97
  go_wp2_with fail
  refine (allDigits_no _ s t _ hs ht h0 (by simp) (by simp)).mono ?_
  rintro e w' ⟨rfl, rfl⟩
  go_wp2
  go_ret2
  exact ⟨rfl, (Below.refl _ _).alloc (Nat.le_refl _) _⟩
end Go.Proofs.YtkjhdehpcanciaaGreatDoor
