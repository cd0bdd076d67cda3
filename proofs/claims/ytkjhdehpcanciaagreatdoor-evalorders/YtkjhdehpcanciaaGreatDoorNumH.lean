/- What num.Of, num.Zeros and num.Times return, at any world in which the library's table of powers of ten stands. -/
import Derived.Lib.Repeat
import Derived.Test.YtkjhdehpcanciaaGreatDoorNumG
import Derived.WalkSmall
import Derived.Lib.LaidTab
namespace Go.Proofs.YtkjhdehpcanciaaGreatDoor
open Go.RowKit Florin
open Go.Sort (grow)

/-- The library's table of powers of ten stands in its variable. -/
def Tab (w : World) : Prop := Lib.TabIs Tryz.prog w "internal/strconv.uint64pow10" .u64 Lib.pow10Tab
theorem Tryz.pow10 : Tryz.prog.globalNamed "internal/strconv.uint64pow10" = some 1 := by kernel_rfl
theorem Tab.lt {w : World} (h : Tab w) : 1 < w.heap.size := by
  unfold Tab Lib.TabIs World.var? at h
  rw [Tryz.pow10] at h
  rcases Nat.lt_or_ge 1 w.heap.size with h1 | h1
  · exact h1
  · simp [Array.getElem?_eq_none h1] at h
theorem Tab.below {w w' : World} (h : Tab w) (hb : Below w.heap.size w w') : Tab w' := var?_below hb Tryz.pow10 h.lt h

theorem below_grow' (w : World) (k : Nat) (os : Array Obj) : Below w.heap.size w (grow (w.drewN k) os) :=
  ⟨rfl, rfl, rfl, by show w.heap.size ≤ (w.heap ++ os).size; rw [Array.size_append]; omega, fun j hj => by show (w.heap ++ os)[j]? = _; rw [Array.getElem?_append_left hj]⟩
theorem decDigits_dig (n : Nat) (h : 0 < n) : Lib.decDigits n = dig n := by
  induction n using Nat.strongRecOn with
  | ind n ih =>
    rw [Lib.decDigits, dig_pos (by omega)]
    by_cases h10 : n < 10
    · rw [dif_pos h10, show n / 10 = 0 by omega, dig_zero]
      unfold db
      rw [Nat.mod_eq_of_lt h10]; rfl
    · rw [dif_neg h10, ih (n / 10) (by omega) (by omega)]; rfl
theorem itoa_dig (n : Int) (h : 0 < n) : Lib.itoa n = dig n.toNat := by
  unfold Lib.itoa
  rw [if_neg (by omega), decDigits_dig _ (by omega)]
theorem repeatL_zero (c : Nat) : Lib.repeatL [48] c = List.replicate c 48 := by
  induction c with
  | zero => rfl
  | succ c ih => rw [Lib.repeatL, ih]; rfl

set_option maxHeartbeats 400000 in
theorem of_pos (n : Int) (w : World) (h0 : 0 < n) (h1 : n ≤ 9223372036854775807) (ht : Tab w) :
    Calls Tryz.prog 28 #[.int .i64 n] w fun e w' => e = .returned (S (dig n.toNat)) ∧ Below w.heap.size w w' := by
  have HD := Lib.hid (itoa_dig n h0)
  have HT := Lib.hid ht
  have H1 := Lib.hid h1
  clear ht h1
  go_enter Tryz.func28, Tryz.ntmps28
  go_wp2_with fail
  refine (Tryz.strconv_Itoa n (by omega) H1.out _ HT.out).mono ?_
  rintro e w' ⟨rfl, k, os, rfl⟩
  go_wp2
  go_ret
  exact ⟨ret_S HD.out, below_grow' _ _ _⟩
theorem of_neg (n : Int) (w : World) (h0 : n ≤ 0) :
    Calls Tryz.prog 28 #[.int .i64 n] w fun e w' => e = .returned (S []) ∧ w = w' := by
  go_enter Tryz.func28, Tryz.ntmps28
  go_wp2
  go_ret
  exact ⟨rfl, rfl⟩
theorem of_any (n : Int) (w : World) (h1 : n ≤ 9223372036854775807) (ht : Tab w) :
    Calls Tryz.prog 28 #[.int .i64 n] w fun e w' => e = .returned (S (dig n.toNat)) ∧ Below w.heap.size w w' := by
  by_cases h0 : 0 < n
  · exact of_pos n w h0 h1 ht
  · refine (of_neg n w (by omega)).mono ?_
    rintro e w' ⟨rfl, rfl⟩
    exact ⟨ret_S (by rw [show n.toNat = 0 by omega, dig_zero]), Below.refl _ _⟩

set_option maxHeartbeats 400000 in
theorem zeros_any (n : Int) (w : World) :
    Calls Tryz.prog 40 #[.int .i64 n] w fun e w' => e = .returned (S (List.replicate (min n.toNat 60000) 48)) ∧ Below w.heap.size w w' := by
  go_enter Tryz.func40, Tryz.ntmps40
  go_wp2_with fail
  rw [show min (max n 0) 60000 = ((min n.toNat 60000 : Nat) : Int) by omega]
  refine (Tryz.strings_Repeat _ _ _ (by omega) (by simp [ByteArray.size]; omega)).mono ?_
  rintro e w' ⟨rfl, hb⟩
  go_wp2
  go_ret
  refine ⟨ret_S ?_, hb⟩
  rw [← repeatL_zero]

theorem arr_append (x y : List UInt8) : ((⟨x.toArray⟩ : ByteArray) ++ (⟨y.toArray⟩ : ByteArray)) = ⟨(x ++ y).toArray⟩ := by
  apply ByteArray.ext
  simp [ByteArray.data_append]

theorem mul_lt_pow {l : List UInt8} (h : isDig l = true) (m : Nat) : mulC (val l) m l.length * 10 ^ l.length + val l * m % 10 ^ l.length = val l * m := mulC_end _ _ _ (val_lt l h)

set_option maxRecDepth 100000 in
set_option maxHeartbeats 800000 in
theorem times_yes (s : ByteArray) (m : Nat) (w : World) (hs : s.size ≤ 1000000) (d1 : isDig s.data.toList = true) (m2 : m ≤ 1000000000) (htb : Tab w) :
    Calls Tryz.prog 27 #[.string s, .int .i64 m] w fun e w' => e = .returned (S (dig (val s.data.toList * m))) ∧ Below w.heap.size w w' := by
  obtain ⟨i0, hi, hz0, hz1, hz2⟩ := info_parts Tryz.infoB
  have D1 := Lib.hid d1
  have HTB := Lib.hid htb
  clear d1 htb
  go_enter Tryz.func27, Tryz.ntmps27
  go_wp2_with fail
  refine (is_yes s _ (by unfold maxLen; omega) D1.out).mono ?_
  rintro e w' ⟨rfl, rfl⟩
  go_wp2_with (at_make; refine wpList_make_full _ rfl (.tmp 23) (.tmp 23) 40 rfl w.heap.size 5 i0 (.int .u8 0) 1 Tryz.underlying40 hi hz0 hz1 .i64 .i64 _ _ s.size rfl rfl rfl rfl (by rw [hz2]; omega) (by unfold maxLen; omega) (by omega) ?_; intro w1 hown hgrow)
  have hrow := RowB.made hown
  have hb1 : Below w.heap.size w w1 := (Below.refl _ _).grown hgrow (by omega) (by intro g hg; cases hg)
  clear hown hgrow hi hz0 hz1 hz2 i0
  go_loopw [7, 26] (fun c i wr => ∃ k : Nat, k ≤ s.size ∧ i = .int .i64 k ∧ c = .int .i64 (mulC (val s.data.toList) m k) ∧
      RowB wr w.heap.size w.heap.size s.size (List.replicate (s.size - k) 0 ++ digs k (val s.data.toList * m)) ∧ Below w.heap.size w wr)
    (fun _ i _ => s.size - (intOf i).toNat)
  case atStart => exact ⟨0, Nat.zero_le _, rfl, by rw [mulC_zero]; rfl, by simpa [digs] using hrow, hb1⟩
  case round =>
    obtain ⟨k, hk, rfl, rfl, hr, hb⟩ := hrel
    clear hrow hb1 w1
    have c1 := mulC_le (val s.data.toList) m k
    have p1 : plc s.data.toList k < 10 := Nat.mod_lt _ (by decide)
    have p2 : plc s.data.toList k * m ≤ 9 * m := Nat.mul_le_mul_right _ (by omega)
    by_cases hlt : k < s.size
    · obtain ⟨x, hc⟩ := hr.cell (s.size - 1 - k) (by omega)
      have hf := hr.frozen (s.size - 1 - k)
      go_wp2_with fail
      refine (digitAt_any s k _ (by unfold maxLen; omega) D1.out).mono ?_
      rintro e w' ⟨rfl, rfl⟩
      go_wp2_with fail
      have HM : Hid (((plc s.data.toList k : Int) * m + mulC (val s.data.toList) m k) % 10 = (((plc s.data.toList k * m + mulC (val s.data.toList) m k) % 10 : Nat) : Int)) := Lib.hid (by simp)
      refine (digitByte_any _ _ (by omega) (by omega)).mono ?_
      rintro e w' ⟨rfl, rfl⟩
      go_wp2
      go_roundw
      case rel =>
        refine ⟨k + 1, by omega, by go_num, vint ?_, ?_, hb.setCell (by simp) _⟩
        · rw [mulC_succ]; unfold plc; simp
        · rw [← set_digs s.size k _ ((plc s.data.toList k * m + mulC (val s.data.toList) m k) % 10) hlt ?_]
          · have := hr.stored (s.size - 1 - k) (db ((plc s.data.toList k * m + mulC (val s.data.toList) m k) % 10))
            simpa [HM.out] using this
          · rw [mul_digit]; unfold plc; omega
      case measure => simp [intOf]; omega
    · obtain rfl : k = s.size := by omega
      rw [Nat.sub_self, List.replicate_zero, List.nil_append] at hr
      have HR := Lib.hid hr
      have HB := Lib.hid hb
      have HT1 : Hid (Tab wr) := Lib.hid (HTB.out.below hb)
      clear hr hb p1 p2
      have hcv0 : (convert 40 9 (.slice (some ⟨w.heap.size, 0, none⟩) s.size s.size)).run Tryz.prog wr.drew = .ok (S (digs s.size (val s.data.toList * m))) wr.drew := HR.out.conv_later ((Below.refl _ wr).drew)
      have hof : ∀ w2, Below wr.heap.size wr w2 → Calls Tryz.prog 28 #[.int .i64 (mulC (val s.data.toList) m s.size)] w2 fun e w1 => e = .returned (S (dig (mulC (val s.data.toList) m s.size))) ∧ Below wr.heap.size wr w1 ∧ (convert 40 9 (.slice (some ⟨w.heap.size, 0, none⟩) s.size s.size)).run Tryz.prog w1 = .ok (S (digs s.size (val s.data.toList * m))) w1 := by
        intro w2 hb2
        refine (of_any _ _ (by omega) (HT1.out.below hb2)).mono ?_
        rintro e w1 ⟨rfl, hb3⟩
        have hb4 := hb2.trans (hb3.mono hb2.size)
        exact ⟨rfl, hb4, HR.out.conv_later hb4⟩
      have l1 : (dig (mulC (val s.data.toList) m s.size)).length ≤ 10 := (dig_length_le _ _).2 (by omega)
      have l2 : (digs s.size (val s.data.toList * m)).length ≤ 1000000 := by rw [digs_length]; exact hs
      have htr : ∀ w2, Calls Tryz.prog 41 #[.string ((⟨(dig (mulC (val s.data.toList) m s.size)).toArray⟩ : ByteArray) ++ (⟨(digs s.size (val s.data.toList * m)).toArray⟩ : ByteArray))] w2 fun e w' => e = .returned (S (dig (val s.data.toList * m))) ∧ w2 = w' := by
        intro w2
        rw [arr_append]
        refine (trim_yes _ _ (by rw [arr_size, List.length_append]; unfold maxLen; omega) (arr_dig _ (by rw [isDig_append, isDig_dig, isDig_digs]; rfl))).mono ?_
        rintro e w' ⟨rfl, rfl⟩
        refine ⟨ret_S ?_, rfl⟩
        rw [arr_list, ← dig_val (by rw [isDig_append, isDig_dig, isDig_digs]; rfl), val_append, val_dig, val_digs, digs_length]
        have := mul_lt_pow D1.out m
        rw [size_list] at this
        rw [this]
      have HTR := Lib.hid htr
      clear htr
      have HOF := Lib.hid hof
      clear hof
      go_wp2_with fail
      go_region_with (first | (go_at_call 28; refine (HOF.out _ ((Below.refl _ wr).drew)).mono ?_; rintro e w1 ⟨rfl, hb1, hcv1⟩) | (go_at_call 41; refine (HTR.out _).mono ?_; rintro e w3 ⟨rfl, rfl⟩))
      all_goals go_wp2
      all_goals go_ret
      all_goals exact ⟨rfl, HB.out.trans (hb1.mono HB.out.size)⟩
theorem times_no (s : ByteArray) (m : Int) (w : World) (hs : s.size ≤ maxLen) (d1 : isDig s.data.toList = false) :
    Calls Tryz.prog 27 #[.string s, .int .i64 m] w fun e w' => e = .returned (S []) ∧ w = w' := by
  go_enter Tryz.func27, Tryz.ntmps27
  go_wp2_with fail
  refine (is_no s _ hs d1).mono ?_
  rintro e w' ⟨rfl, rfl⟩
  go_wp2
  go_ret
  exact ⟨rfl, rfl⟩
theorem times_out (s : ByteArray) (m : Int) (w : World) (hs : s.size ≤ maxLen) (d1 : isDig s.data.toList = true) (hm : m < 0 ∨ 1000000000 < m) :
    Calls Tryz.prog 27 #[.string s, .int .i64 m] w fun e w' => e = .returned (S []) ∧ w = w' := by
  rcases hm with hm | hm
  · go_enter Tryz.func27, Tryz.ntmps27
    go_wp2_with fail
    refine (is_yes s _ hs d1).mono ?_
    rintro e w' ⟨rfl, rfl⟩
    go_wp2
    go_ret
    exact ⟨rfl, rfl⟩
  · have h2 : ¬ m < 0 := by omega
    go_enter Tryz.func27, Tryz.ntmps27
    go_wp2_with fail
    refine (is_yes s _ hs d1).mono ?_
    rintro e w' ⟨rfl, rfl⟩
    go_wp2
    go_ret
    exact ⟨rfl, rfl⟩
end Go.Proofs.YtkjhdehpcanciaaGreatDoor
