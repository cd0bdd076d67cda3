/- The walks of the law NumTexts. -/
import Derived.Test.YtnhaogjkbladaaaDoorNumI
namespace Go.Proofs.YtnhaogjkbladaaaDoor
open Go.RowKit Florin

theorem zero_data (s : ByteArray) : ((⟨#[48]⟩ : ByteArray) ++ s).data.toList = 48 :: s.data.toList := by simp [ByteArray.data_append]
theorem zero_size (s : ByteArray) : ((⟨#[48]⟩ : ByteArray) ++ s).size = s.size + 1 := by rw [← size_list, zero_data]; simp
theorem isDig_zero (l : List UInt8) : isDig (48 :: l) = isDig l := by rw [isDig_cons]; rfl
theorem cmp_zero (s : ByteArray) (w : World) (hs : s.size ≤ 100) (d : isDig s.data.toList = true) :
    Calls Tryd.prog 16 #[.string s, .string ((⟨#[48]⟩ : ByteArray) ++ s)] w fun e w' => e = .returned (.int .i64 0) ∧ Below w.heap.size w w' :=
  (cmp_any s _ w (by unfold maxLen; omega) (by rw [zero_size]; unfold maxLen; omega)).mono fun e w' ⟨he, hb⟩ => ⟨by
    rw [he, zero_data, cmpv_yes (by rw [isDig_zero, d]; rfl), val_cons, dv48, Nat.zero_mul, Nat.zero_add, compareInt_self], hb⟩
theorem cmp_empty (s : ByteArray) (w : World) (hs : s.size ≤ 100) (d : isDig s.data.toList = true) :
    Calls Tryd.prog 16 #[.string s, .string ⟨#[]⟩] w fun e w' => e = .returned (.int .i64 (min ((trim s.data.toList).length : Int) 1)) ∧ Below w.heap.size w w' :=
  (cmp_any s _ w (by unfold maxLen; omega) (by decide)).mono fun e w' ⟨he, hb⟩ => ⟨by
    rw [he]
    refine ret_int ?_
    show cmpv s.data.toList [] = _
    rw [cmpv_yes (by rw [d]; rfl), val_nil, ← dig_val d]
    by_cases h : val s.data.toList = 0
    · rw [h, dig_zero]; decide
    · have h1 : dig (val s.data.toList) ≠ [] := fun e => h ((dig_eq_nil _).1 e)
      have h2 : 0 < (dig (val s.data.toList)).length := List.length_pos_iff.2 h1
      rw [compareInt_of_gt (by omega)]; omega, hb⟩

set_option maxRecDepth 100000 in
set_option maxHeartbeats 1000000 in
theorem numTexts_long (s : ByteArray) (m : Int) (w : World) (h : 100 < s.size) :
    Calls Tryd.prog 3 #[.string s, .int .i64 m] w fun e w' => e = .returned (.bool true) ∧ Below w.heap.size w w' := by
  go_enter Tryd.func3, Tryd.ntmps3
  go_wp2_with fail
  refine (head_any _).mono ?_
  rintro e w1 ⟨rfl, hb1⟩
  go_wp2
  go_ret
  exact ⟨rfl, hb1⟩

set_option maxRecDepth 100000 in
set_option maxHeartbeats 1000000 in
theorem numTexts_yes (s : ByteArray) (m : Int) (w : World) (h : s.size ≤ 100) (d : isDig s.data.toList = true) :
    Calls Tryd.prog 3 #[.string s, .int .i64 m] w fun e w' => e = .returned (.bool true) ∧ Below w.heap.size w w' := by
  have D := Lib.hid d
  clear d
  have hm : s.size ≤ maxLen := by unfold maxLen; omega
  go_enter Tryd.func3, Tryd.ntmps3
  go_wp2_with fail
  refine (head_any _).mono ?_
  rintro e w1 ⟨rfl, hb1⟩
  go_wp2_with fail
  go_loop [5, 6] (fun b i => ∃ k : Nat, k ≤ s.size ∧ i = .int .i64 k ∧ b = .bool true) (fun _ i => s.size - (intOf i).toNat)
  case atStart => exact ⟨0, Nat.zero_le _, rfl, rfl⟩
  case round =>
    obtain ⟨k, hk, rfl, rfl⟩ := hrel
    by_cases hlt : k < s.size
    · have hd := isD_at s k D.out hlt
      rw [isD_iff] at hd
      obtain ⟨b1, b2⟩ := hd
      have c1 : (48 : Int) ≤ (s[k].toNat : Int) := by omega
      have c2 : (s[k].toNat : Int) ≤ (57 : Int) := by omega
      clear b1 b2
      go_wp2
      go_round
      case rel => exact ⟨k + 1, by omega, by go_num, rfl⟩
      case measure => simp [intOf]; omega
    · go_wp2_with fail
      refine (is_yes s _ hm D.out).mono ?_
      rintro e w2 ⟨rfl, rfl⟩
      go_wp2_with fail
      refine (trim_yes s _ hm D.out).mono ?_
      rintro e w2 ⟨rfl, rfl⟩
      go_wp2_with fail
      refine (bare_any s _ hm).mono ?_
      rintro e w2 ⟨rfl, rfl⟩
      go_wp2_with fail
      refine (cmp_zero s _ h D.out).mono ?_
      rintro e w2 ⟨rfl, hb2⟩
      go_wp2_with fail
      refine (cmp_empty s _ h D.out).mono ?_
      rintro e w3 ⟨rfl, hb3⟩
      go_wp2_with fail
      refine (bare_any s _ hm).mono ?_
      rintro e w4 ⟨rfl, rfl⟩
      go_wp2
      go_ret
      exact ⟨rfl, hb1.trans ((hb2.trans (hb3.mono hb2.size)).mono hb1.size)⟩

theorem cmp_no_left (s : ByteArray) (w : World) (hs : s.size ≤ 100) (d : isDig s.data.toList = false) :
    Calls Tryd.prog 16 #[.string s, .string ⟨#[49]⟩] w fun e w' => e = .returned (.int .i64 0) ∧ Below w.heap.size w w' :=
  (cmp_any s _ w (by unfold maxLen; omega) (by decide)).mono fun e w' ⟨he, hb⟩ => ⟨by rw [he, cmpv_no (by rw [d]; rfl)], hb⟩
theorem cmp_no_right (s : ByteArray) (w : World) (hs : s.size ≤ 100) (d : isDig s.data.toList = false) :
    Calls Tryd.prog 16 #[.string ⟨#[49]⟩, .string s] w fun e w' => e = .returned (.int .i64 0) ∧ Below w.heap.size w w' :=
  (cmp_any _ s w (by decide) (by unfold maxLen; omega)).mono fun e w' ⟨he, hb⟩ => ⟨by rw [he, cmpv_no (by rw [d, Bool.and_false])], hb⟩

set_option maxRecDepth 100000 in
set_option maxHeartbeats 2000000 in
theorem numTexts_no (s : ByteArray) (m : Int) (w : World) (h : s.size ≤ 100) (d : isDig s.data.toList = false) :
    Calls Tryd.prog 3 #[.string s, .int .i64 m] w fun e w' => e = .returned (.bool true) ∧ Below w.heap.size w w' := by
  have D := Lib.hid d
  clear d
  have hm : s.size ≤ maxLen := by unfold maxLen; omega
  go_enter Tryd.func3, Tryd.ntmps3
  go_wp2_with fail
  refine (head_any _).mono ?_
  rintro e w1 ⟨rfl, hb1⟩
  go_wp2_with fail
  go_loop [5, 6] (fun b i => ∃ k : Nat, k ≤ s.size ∧ i = .int .i64 k ∧ b = .bool (isDig (s.data.toList.take k))) (fun _ i => s.size - (intOf i).toNat)
  case atStart => exact ⟨0, Nat.zero_le _, rfl, rfl⟩
  case round =>
    obtain ⟨k, hk, rfl, rfl⟩ := hrel
    by_cases hlt : k < s.size
    · have HS : Hid (isDig (s.data.toList.take (k + 1)) = (isDig (s.data.toList.take k) && isD s[k])) := Lib.hid (by rw [take_snoc s k hlt, isDig_snoc])
      generalize isDig (s.data.toList.take k) = b at *
      cases b
      · go_wp2
        go_round
        case rel => exact ⟨k + 1, by omega, by go_num, by rw [HS.out]; rfl⟩
        case measure => simp [intOf]; omega
      · by_cases c1 : (48 : Int) ≤ (s[k].toNat : Int)
        · by_cases c2 : (s[k].toNat : Int) ≤ (57 : Int)
          · go_wp2
            go_round
            case rel => exact ⟨k + 1, by omega, by go_num, by rw [HS.out, (isD_iff _).2 (by omega)]; rfl⟩
            case measure => simp [intOf]; omega
          · go_wp2
            go_round
            case rel => exact ⟨k + 1, by omega, by go_num, by rw [HS.out, show isD s[k] = false by unfold isD; simp; omega]; rfl⟩
            case measure => simp [intOf]; omega
        · go_wp2
          go_round
          case rel => exact ⟨k + 1, by omega, by go_num, by rw [HS.out, show isD s[k] = false by unfold isD; simp; omega]; rfl⟩
          case measure => simp [intOf]; omega
    · rw [take_all s k (by omega), D.out]
      go_wp2_with fail
      refine (is_no s _ hm D.out).mono ?_
      rintro e w2 ⟨rfl, rfl⟩
      go_wp2_with fail
      refine (sub_no s ⟨#[]⟩ _ hm (by decide) (by rw [D.out]; rfl)).mono ?_
      rintro e w2 ⟨rfl, hb2⟩
      go_wp2_with fail
      refine (sub_no ⟨#[49]⟩ s _ (by decide) hm (by rw [D.out, Bool.and_false])).mono ?_
      rintro e w3 ⟨rfl, hb3⟩
      go_wp2_with fail
      refine (div_no s 3 _ hm D.out).mono ?_
      rintro e w4 ⟨rfl, rfl⟩
      go_wp2_with fail
      refine (int_no s _ hm D.out).mono ?_
      rintro e w4 ⟨rfl, rfl⟩
      go_wp2_with fail
      refine (trim_no s _ hm D.out).mono ?_
      rintro e w4 ⟨rfl, rfl⟩
      go_wp2_with fail
      refine (cmp_no_left s _ h D.out).mono ?_
      rintro e w4 ⟨rfl, hb4⟩
      go_wp2_with fail
      refine (cmp_no_right s _ h D.out).mono ?_
      rintro e w5 ⟨rfl, hb5⟩
      go_wp2_with fail
      refine (add_no s ⟨#[49]⟩ _ hm (by decide) (by rw [D.out]; rfl)).mono ?_
      rintro e w6 ⟨rfl, hb6⟩
      go_wp2_with fail
      refine (add_no ⟨#[49]⟩ s _ (by decide) hm (by rw [D.out, Bool.and_false])).mono ?_
      rintro e w7 ⟨rfl, hb7⟩
      go_wp2_with fail
      refine (times_no s m _ hm D.out).mono ?_
      rintro e w8 ⟨rfl, rfl⟩
      go_wp2
      go_ret
      have k2 := hb1.size
      have k3 := hb2.size
      have k4 := hb3.size
      have k5 := hb4.size
      have k6 := hb5.size
      have k7 := hb6.size
      exact ⟨rfl, hb1.trans ((hb2.mono (by omega)).trans ((hb3.mono (by omega)).trans ((hb4.mono (by omega)).trans ((hb5.mono (by omega)).trans ((hb6.mono (by omega)).trans (hb7.mono (by omega)))))))⟩
theorem numTexts_walk (s : ByteArray) (m : Int) (w : World) :
    Calls Tryd.prog 3 #[.string s, .int .i64 m] w fun e w' => e = .returned (.bool true) ∧ Below w.heap.size w w' := by
  by_cases h : s.size ≤ 100
  · by_cases d : isDig s.data.toList = true
    · exact numTexts_yes s m w h d
    · exact numTexts_no s m w h (by simpa using d)
  · exact numTexts_long s m w (by omega)
end Go.Proofs.YtnhaogjkbladaaaDoor
