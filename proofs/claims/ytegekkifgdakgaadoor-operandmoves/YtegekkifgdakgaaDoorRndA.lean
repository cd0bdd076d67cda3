/- What round's small functions return: Valid, away, odd, half. -/
import Derived.Test.YtegekkifgdakgaaDoorDecP
import Derived.Test.YtegekkifgdakgaaDoorRPlain3
import Derived.Deep.RegionWith
import Derived.Deep.DrawnRows
namespace Go.Proofs.YtegekkifgdakgaaDoor
open Go.RowKit Florin
set_option linter.unusedVariables false
set_option linter.unusedSimpArgs false
attribute [local go_sem ↓] Go.wp_at_zero Go.wp_at_succ

set_option maxHeartbeats 800000 in
theorem modeValid_yes (m : Int) (w : World) (h0 : 0 ≤ m) (h6 : m ≤ 6) :
    Calls Tryd.prog 58 #[.int .i64 m] w fun x w' => x = .returned (.bool true) ∧ w = w' := by
  go_enter Tryd.func58, Tryd.ntmps58
  go_wp2
  go_ret
  exact ⟨rfl, rfl⟩
set_option maxHeartbeats 800000 in
theorem modeValid_no (m : Int) (w : World) (h : m < 0 ∨ 6 < m) :
    Calls Tryd.prog 58 #[.int .i64 m] w fun x w' => x = .returned (.bool false) ∧ w = w' := by
  rcases h with h | h
  · go_enter Tryd.func58, Tryd.ntmps58
    go_wp2
    go_ret
    exact ⟨rfl, rfl⟩
  · go_enter Tryd.func58, Tryd.ntmps58
    go_wp2
    go_ret
    refine ⟨?_, rfl⟩
    show Ending.returned (.bool (decide (m ≤ 6))) = _
    exact ret_bool (by simp; omega)
def vm (m : Int) : Bool := decide (0 ≤ m ∧ m ≤ 6)
theorem modeValid_as (m : Int) (w : World) (v : Bool) (hv : vm m = v) :
    Calls Tryd.prog 58 #[.int .i64 m] w fun x w' => x = .returned (.bool v) ∧ w = w' := by
  unfold vm at hv
  cases v with
  | true => have := of_decide_eq_true hv; exact modeValid_yes m w this.1 this.2
  | false => have := of_decide_eq_false hv; exact modeValid_no m w (by omega)

set_option maxHeartbeats 1600000 in
theorem away_as (m : Int) (neg : Bool) (h : Int) (odd : Bool) (w : World) (h0 : 0 ≤ m) (h6 : m ≤ 6) (a : Bool) (ha : away m neg h odd = a) :
    Calls Tryd.prog 84 #[.int .i64 m, .bool neg, .int .i64 h, .bool odd] w fun x w' => x = .returned (.bool a) ∧ w = w' := by
  subst ha
  have hm : m = 0 ∨ m = 1 ∨ m = 2 ∨ m = 3 ∨ m = 4 ∨ m = 5 ∨ m = 6 := by omega
  rcases hm with rfl | rfl | rfl | rfl | rfl | rfl | rfl
  all_goals
    by_cases hh : h = 0
    · subst hh
      cases neg <;> cases odd
      all_goals
        go_enter Tryd.func84, Tryd.ntmps84
        go_wp2
        go_ret
        exact ⟨rfl, rfl⟩
    · by_cases hp : 0 < h
      · cases neg
        all_goals
          have e1 : decide (0 < h) = true := by simpa using hp
          go_enter Tryd.func84, Tryd.ntmps84
          go_wp2
          go_ret
          exact ⟨by simp [away, hh, hp], rfl⟩
      · cases neg
        all_goals
          have e1 : decide (0 < h) = false := by simpa using hp
          go_enter Tryd.func84, Tryd.ntmps84
          go_wp2
          go_ret
          exact ⟨by simp [away, hh, hp], rfl⟩

theorem div2 (a : List UInt8) (w : World) (ha : a.length ≤ 1000000) (da : isDig a = true) :
    Calls Tryd.prog 83 #[S a, .int .i64 2] w fun e w' => e = .returned (.tuple #[S (dig (val a / 2)), .int .i64 ((val a % 2 : Nat) : Int)]) ∧ Below w.heap.size w w' := divS a 2 w ha da (by decide) (by decide)
theorem times2 (a : List UInt8) (w : World) (ha : a.length ≤ 1000000) (da : isDig a = true) (ht : Tab w) :
    Calls Tryd.prog 33 #[S a, .int .i64 2] w fun e w' => e = .returned (S (dig (val a * 2))) ∧ Below w.heap.size w w' := timesS a 2 w ha da (by decide) ht
set_option maxHeartbeats 800000 in
theorem odd_as (l : List UInt8) (w : World) (hl : l.length ≤ 1000000) (hd : isDig l = true) (b : Bool) (hb : (val l % 2 == 1) = b) :
    Calls Tryd.prog 86 #[S l] w fun x w' => x = .returned (.bool b) ∧ Below w.heap.size w w' := by
  have HD := Lib.hid hd
  obtain ⟨r, hr⟩ : ∃ r : Nat, val l % 2 = r := ⟨_, rfl⟩
  have r2 : r < 2 := by omega
  rw [hr] at hb
  have HR := Lib.hid hr
  have HB : Hid (((r : Int) == 1) = b) := Lib.hid (by
    rw [← hb]; have : r = 0 ∨ r = 1 := by omega
    rcases this with rfl | rfl <;> rfl)
  clear hd hr hb
  go_enter Tryd.func86, Tryd.ntmps86
  go_wp2_with fail
  with_reducible refine (div2 l _ hl HD.out).mono ?_
  rintro x w1 ⟨rfl, hb⟩
  rw [HR.out]
  have b1 := Lib.hid hb
  clear hb
  go_wp2
  go_ret
  exact ⟨ret_bool HB.out, b1.out⟩

theorem ret_ci {a b c d : Int} (h1 : a = c) (h2 : b = d) : Ending.returned (.int .i64 (Lib.compareInt a b)) = .returned (.int .i64 (Lib.compareInt c d)) := by rw [h1, h2]
set_option maxHeartbeats 1600000 in
theorem half_as (left : Nat) (below : List UInt8) (F : Nat) (w : World) (h1 : left ≤ 1000000000) (hF : F ≤ 1000000000) (hl : below.length ≤ 60000) (hd : isDig below = true) (ht : Tab w) (c : Int) (hc : Lib.compareInt (((left * 10 ^ below.length + val below) * 2 : Nat) : Int) ((F * 10 ^ below.length : Nat) : Int) = c) :
    Calls Tryd.prog 85 #[.int .i64 left, S below, .int .i64 F] w fun x w' => x = .returned (.int .i64 c) ∧ Below w.heap.size w w' := by
  have HD := Lib.hid hd
  have HT := Lib.hid ht
  have HC := Lib.hid hc
  have dl : (dig left).length ≤ 20 := (dig_length_le _ _).2 (Nat.lt_of_le_of_lt h1 (by decide))
  have dF : (dig F).length ≤ 20 := (dig_length_le _ _).2 (Nat.lt_of_le_of_lt hF (by decide))
  have HS : Hid ((⟨(dig left).toArray⟩ : ByteArray) ++ (⟨below.toArray⟩ : ByteArray) = ⟨(dig left ++ below).toArray⟩) := Lib.hid (arr_append _ _)
  have HS2 : Hid ((⟨(dig F).toArray⟩ : ByteArray) ++ (⟨(zs below.length).toArray⟩ : ByteArray) = ⟨(dig F ++ zs below.length).toArray⟩) := Lib.hid (arr_append _ _)
  have lr : (dig left ++ below).length ≤ 70000 := by rw [List.length_append]; omega
  have hcat : ¬ 9223372036854775807 < (dig left).length + below.length := by omega
  have zl : (zs below.length).length = below.length := zs_length _
  have hcat2 : ¬ 9223372036854775807 < (dig F).length + (zs below.length).length := by omega
  have vr : val (dig left ++ below) = left * 10 ^ below.length + val below := by rw [val_append, val_dig]
  have dr : isDig (dig left ++ below) = true := by rw [isDig_append, isDig_dig, hd]; rfl
  have HV := Lib.hid vr
  have HDR := Lib.hid dr
  have HD2 : Hid (isDig (dig F ++ zs below.length) = true) := Lib.hid (by rw [isDig_append, isDig_dig, isDig_zs]; rfl)
  have HV2 : Hid (val (dig F ++ zs below.length) = F * 10 ^ below.length) := Lib.hid (by rw [val_app_zs, val_dig])
  have l2 : (dig (val (dig left ++ below) * 2)).length ≤ 1000000 := by
    have h3 := val_lt _ dr
    have h4 : val (dig left ++ below) * 2 < 10 ^ ((dig left ++ below).length + 1) := by rw [Nat.pow_succ]; omega
    have h5 := (dig_length_le _ _).2 h4
    omega
  have L2 := Lib.hid l2
  have lr2 : (dig F ++ zs below.length).length ≤ 1000000 := by rw [List.length_append, zl]; omega
  clear hd ht hc vr dr l2 zl
  go_enter Tryd.func85, Tryd.ntmps85
  go_wp2_with fail
  with_reducible refine (ofN left _ (by omega) HT.out).mono ?_
  rintro x w1 ⟨rfl, hb⟩
  have b1 := Lib.hid hb
  clear hb
  go_wp2_with fail
  rw [HS.out]
  with_reducible refine (times2 (dig left ++ below) _ (by omega) HDR.out (HT.out.below b1.out)).mono ?_
  rintro x w2 ⟨rfl, hb⟩
  have b2 := Lib.hid (b1.out.trans (hb.mono (B' := w.heap.size) b1.out.size))
  clear hb
  go_wp2_with fail
  with_reducible refine (ofN F _ (by omega) (HT.out.below b2.out)).mono ?_
  rintro x w3 ⟨rfl, hb⟩
  have b3 := Lib.hid (b2.out.trans (hb.mono (B' := w.heap.size) b2.out.size))
  clear hb
  go_wp2_with fail
  with_reducible refine (zeros_as below.length _ (by omega)).mono ?_
  rintro x w4 ⟨rfl, hb⟩
  simp only [Int.toNat_natCast]
  have b4 := Lib.hid (b3.out.trans (hb.mono (B' := w.heap.size) b3.out.size))
  clear hb
  go_wp2_with fail
  rw [HS2.out]
  with_reducible refine (cmpS (dig (val (dig left ++ below) * 2)) (dig F ++ zs below.length) _ L2.out lr2 (isDig_dig _) HD2.out).mono ?_
  rintro x w5 ⟨rfl, hb⟩
  rw [val_dig, HV.out, HV2.out, HC.out]
  have b5 := Lib.hid (b4.out.trans (hb.mono (B' := w.heap.size) b4.out.size))
  clear hb
  go_wp2
  go_ret
  exact ⟨rfl, b5.out⟩
end Go.Proofs.YtegekkifgdakgaaDoor
