/- The walk of the law NumTimes. -/
import Derived.Test.YtnhaogjkbladaaaDoorNumS
namespace Go.Proofs.YtnhaogjkbladaaaDoor
open Go.RowKit Florin

theorem dig1e9 : dig 1000000000 = [49, 48, 48, 48, 48, 48, 48, 48, 48, 48] := dig_val (l := [49, 48, 48, 48, 48, 48, 48, 48, 48, 48]) rfl
theorem dgs_zero (L : List UInt8) : ((⟨(dgs L).toArray⟩ : ByteArray) ++ (⟨#[48]⟩ : ByteArray)) = ⟨(dgs L ++ [48]).toArray⟩ := arr_append (dgs L) [48]
theorem one_e9 (w : World) (ht : Tab w) : Calls Tryd.prog 21 #[.string ⟨#[49]⟩, .int .i64 1000000000] w fun e w' => e = .returned (.string ⟨#[49, 48, 48, 48, 48, 48, 48, 48, 48, 48]⟩) ∧ Below w.heap.size w w' :=
  (timesS [49] 1000000000 w (by decide) (by decide) (by decide) ht).mono fun e w' ⟨he, hb⟩ => ⟨by
    rw [he]
    have e1 : val [49] * 1000000000 = 1000000000 := by decide
    rw [e1, dig1e9], hb⟩

set_option maxRecDepth 100000 in
set_option maxHeartbeats 1000000 in
theorem numTimes_walk (a : Option Addr) (len cap : Nat) (L : List UInt8) (m n : Int) (w : World) (hin : InB w a len cap L) (_hm : (Lit.int .i64 m).wf = true) (_hn : (Lit.int .i64 n).wf = true) (ht : Tab w) :
    Calls Tryd.prog 8 #[.slice a len cap, .int .i64 m, .int .i64 n] w fun e w' => e = .returned (.bool true) ∧ Below w.heap.size w w' := by
  have HIN := Lib.hid hin
  have HT := Lib.hid ht
  obtain ⟨k, k1, handk⟩ : ∃ k : Nat, k ≤ 268435455 ∧ bits .and .i64 m 268435455 = (k : Int) := and_mask m 268435455 (by decide)
  obtain ⟨j, j1, handj⟩ : ∃ k : Nat, k ≤ 268435455 ∧ bits .and .i64 n 268435455 = (k : Int) := and_mask n 268435455 (by decide)
  have hlen := hin.1
  have hcap := hin.2.1
  have hmax := hin.2.2.1
  unfold maxLen at hmax
  clear hin ht
  by_cases h : len ≤ 200
  · have hL : L.length ≤ 200 := by omega
    have hV := val_dgs_lt L hL
    have hdl : (dgs L).length ≤ 1000000 := by rw [dgs_length]; omega
    have hdl2 : (dgs L).length ≤ 200 := by rw [dgs_length]; omega
    have HID := Lib.hid (isDig_dgs L)
    have HLEN := Lib.hid hlen
    clear hlen
    have big : ∀ x : Nat, x ≤ 1000000000 → (dig (val (dgs L) * x)).length ≤ 1000000 := by
      intro x hx
      refine dig_len (k := 210) ?_ (by decide)
      have h1 : val (dgs L) * x ≤ val (dgs L) * 1000000000 := Nat.mul_le_mul_left _ hx
      have h2 : val (dgs L) * 1000000000 < 10 ^ 200 * 1000000000 := Nat.mul_lt_mul_of_pos_right hV (by decide)
      have h3 : 10 ^ 200 * 1000000000 ≤ 10 ^ 210 := by decide
      omega
    have BIG := Lib.hid big
    have HZ := Lib.hid (dgs_zero L)
    have HV10 : Hid (val (dgs L ++ [48]) = val (dgs L) * 10) := Lib.hid (by rw [val_snoc, dv48]; omega)
    have HI0 : Hid (isDig (dgs L ++ [48]) = true) := Lib.hid (by rw [isDig_snoc, HID.out]; rfl)
    clear big hV
    go_enter Tryd.func8, Tryd.ntmps8
    go_wp2_with fail
    refine (head_any _).mono ?_
    rintro e w1 ⟨rfl, hb1⟩
    have t1 := Lib.hid (HT.out.below hb1)
    go_wp2_with fail
    refine (digits_any a len cap L _ (HIN.out.below hb1) (by omega)).mono ?_
    rintro e w2 ⟨rfl, hb2⟩
    have t2 := Lib.hid (t1.out.below hb2)
    have b2 := Lib.hid (hb1.trans (hb2.mono hb1.size))
    clear hb1 hb2
    go_wp2_with fail
    refine (timesS (dgs L) 0 _ hdl HID.out (by decide) t2.out).mono ?_
    rintro e w3 ⟨rfl, hb3⟩
    rw [Nat.mul_zero, dig_zero]
    have t3 := Lib.hid (t2.out.below hb3)
    have b3 := Lib.hid (b2.out.trans (hb3.mono b2.out.size))
    clear hb3
    go_wp2_with fail
    refine (timesS (dgs L) 1 _ hdl HID.out (by decide) t3.out).mono ?_
    rintro e w4 ⟨rfl, hb4⟩
    rw [Nat.mul_one]
    have t4 := Lib.hid (t3.out.below hb4)
    have b4 := Lib.hid (b3.out.trans (hb4.mono b3.out.size))
    clear hb4
    go_wp2_with fail
    refine (bareS (dgs L) _ hdl HID.out).mono ?_
    rintro e w5 ⟨rfl, rfl⟩
    go_wp2_with fail
    refine (timesS (dgs L) 10 _ hdl HID.out (by decide) t4.out).mono ?_
    rintro e w5 ⟨rfl, hb5⟩
    have t5 := Lib.hid (t4.out.below hb5)
    have b5 := Lib.hid (b4.out.trans (hb5.mono b4.out.size))
    clear hb5
    go_wp2_with fail
    rw [HZ.out]
    refine (bareS (dgs L ++ [48]) _ (by simp; omega) HI0.out).mono ?_
    rintro e w6 ⟨rfl, rfl⟩
    rw [HV10.out]
    go_wp2_with fail
    rw [show ((k : Int) + (j : Int)) = ((k + j : Nat) : Int) by simp]
    refine (timesS (dgs L) (k + j) _ hdl HID.out (by omega) t5.out).mono ?_
    rintro e w6 ⟨rfl, hb6⟩
    have t6 := Lib.hid (t5.out.below hb6)
    have b6 := Lib.hid (b5.out.trans (hb6.mono b5.out.size))
    clear hb6
    go_wp2_with fail
    refine (timesS (dgs L) k _ hdl HID.out (by omega) t6.out).mono ?_
    rintro e w7 ⟨rfl, hb7⟩
    have t7 := Lib.hid (t6.out.below hb7)
    have b7 := Lib.hid (b6.out.trans (hb7.mono b6.out.size))
    clear hb7
    go_wp2_with fail
    refine (timesS (dgs L) j _ hdl HID.out (by omega) t7.out).mono ?_
    rintro e w8 ⟨rfl, hb8⟩
    have t8 := Lib.hid (t7.out.below hb8)
    have b8 := Lib.hid (b7.out.trans (hb8.mono b7.out.size))
    clear hb8
    go_wp2_with fail
    refine (addN _ _ _ (BIG.out k (by omega)) (BIG.out j (by omega))).mono ?_
    rintro e w9 ⟨rfl, hb9⟩
    have t9 := Lib.hid (t8.out.below hb9)
    have b9 := Lib.hid (b8.out.trans (hb9.mono b8.out.size))
    clear hb9
    rw [← Nat.mul_add]
    go_wp2_with fail
    rw [show ((k : Int) + 1) = ((k + 1 : Nat) : Int) by simp]
    refine (timesS (dgs L) (k + 1) _ hdl HID.out (by omega) t9.out).mono ?_
    rintro e w10 ⟨rfl, hb10⟩
    have t10 := Lib.hid (t9.out.below hb10)
    have b10 := Lib.hid (b9.out.trans (hb10.mono b9.out.size))
    clear hb10
    go_wp2_with fail
    refine (timesS (dgs L) k _ hdl HID.out (by omega) t10.out).mono ?_
    rintro e w11 ⟨rfl, hb11⟩
    have t11 := Lib.hid (t10.out.below hb11)
    have b11 := Lib.hid (b10.out.trans (hb11.mono b10.out.size))
    clear hb11
    go_wp2_with fail
    refine (addS (dig (val (dgs L) * k)) (dgs L) _ (BIG.out k (by omega)) hdl (isDig_dig _) HID.out).mono ?_
    rintro e w12 ⟨rfl, hb12⟩
    have t12 := Lib.hid (t11.out.below hb12)
    have b12 := Lib.hid (b11.out.trans (hb12.mono b11.out.size))
    clear hb12
    rw [val_dig, ← Nat.mul_succ]
    go_wp2_with fail
    refine (timesS_out (dgs L) (-1) _ hdl HID.out (by omega)).mono ?_
    rintro e w13 ⟨rfl, rfl⟩
    go_wp2_with fail
    refine (times_out ⟨#[49]⟩ 1000000001 _ (by decide) (by decide) (by omega)).mono ?_
    rintro e w13 ⟨rfl, rfl⟩
    go_wp2_with fail
    refine (one_e9 _ t12.out).mono ?_
    rintro e w13 ⟨rfl, hb13⟩
    have t13 := Lib.hid (t12.out.below hb13)
    have b13 := Lib.hid (b12.out.trans (hb13.mono b12.out.size))
    clear hb13
    go_wp2
    go_ret
    exact ⟨rfl, b13.out⟩
  · go_enter Tryd.func8, Tryd.ntmps8
    go_wp2_with fail
    refine (head_any _).mono ?_
    rintro e w1 ⟨rfl, hb1⟩
    go_wp2
    go_ret
    exact ⟨rfl, hb1⟩
end Go.Proofs.YtnhaogjkbladaaaDoor
