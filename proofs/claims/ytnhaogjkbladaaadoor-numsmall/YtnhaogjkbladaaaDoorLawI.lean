/- The walk of the law NumSmall. -/
import Derived.Test.YtnhaogjkbladaaaDoorNumS
namespace Go.Proofs.YtnhaogjkbladaaaDoor
open Go.RowKit Florin

theorem int00 (x : Nat) (w : World) (hx : (dig x).length ≤ 13) :
    Calls Tryd.prog 19 #[.string ((⟨#[48, 48]⟩ : ByteArray) ++ (⟨(dig x).toArray⟩ : ByteArray))] w fun e w' => e = .returned (.tuple #[.int .i64 x, .bool true]) ∧ w = w' := by
  have e0 : ((⟨#[48, 48]⟩ : ByteArray) ++ (⟨(dig x).toArray⟩ : ByteArray)) = ⟨([48, 48] ++ dig x).toArray⟩ := arr_append [48, 48] (dig x)
  have hv : val ([48, 48] ++ dig x) = x := by rw [val_append, val_dig]; simp [val, dv48]
  rw [e0]
  refine (intS ([48, 48] ++ dig x) w (by simp; omega) (by rw [isDig_append, isDig_dig]; rfl) (by rw [hv]; omega)).mono fun e w' ⟨he, hw⟩ => ⟨by rw [he, hv], hw⟩
theorem of_minus (n : Int) (w : World) (h : n ≤ 0) : Calls Tryd.prog 22 #[.int .i64 n] w fun e w' => e = .returned (S []) ∧ w = w' := of_neg n w h

set_option maxRecDepth 100000 in
set_option maxHeartbeats 800000 in
theorem numSmall_lt (x y m : Int) (w : World) (ht : Tab w) (X Y M : Nat) (hX : X ≤ 1099511627775) (hY : Y ≤ 1099511627775) (hM : M ≤ 65535)
    (ax : bits .and .i64 x 1099511627775 = (X : Int)) (ay : bits .and .i64 y 1099511627775 = (Y : Int)) (am : bits .and .i64 m 65535 = (M : Int)) (hc : X < Y) :
    Calls Tryd.prog 4 #[.int .i64 x, .int .i64 y, .int .i64 m] w fun e w' => e = .returned (.bool true) ∧ Below w.heap.size w w' := by
  have HT := Lib.hid ht
  clear ht
  have p13 : (10 : Nat) ^ 13 = 10000000000000 := by decide
  have g1 : (dig X).length ≤ 13 := (dig_length_le X 13).2 (by omega)
  have g2 : (dig Y).length ≤ 13 := (dig_length_le Y 13).2 (by omega)
  have hmul : X * M ≤ 72057594037927936 := Nat.le_trans (Nat.mul_le_mul hX hM) (by decide)
  have P13 := Lib.hid p13
  have WD : Hid (wrap64 ((X : Int) / ((M : Int) + 1)) = ((X / (M + 1) : Nat) : Int)) := Lib.hid (by
    have hd : ((X : Int) / ((M : Int) + 1)) = ((X / (M + 1) : Nat) : Int) := by simp
    rw [hd]
    have := Nat.div_le_self X (M + 1)
    generalize X / (M + 1) = q at *
    unfold wrap64
    omega)
  clear p13
  have HC := Lib.hid hc
  have f1 : decide (Y ≤ X) = false := by simp; omega
  have f2 : decide ((Y : Int) ≤ (X : Int)) = false := by simp; omega
  go_enter Tryd.func4, Tryd.ntmps4
  go_wp2_with fail
  with_reducible refine (head_any _).mono ?_
  rintro e w1 ⟨rfl, hb1⟩
  have t1 := Lib.hid (HT.out.below hb1)
  have b1 := Lib.hid hb1
  clear hb1
  go_wp2_with fail
  with_reducible refine (ofN X _ (by omega) t1.out).mono ?_
  rintro e w2 ⟨rfl, hb2⟩
  have t2 := Lib.hid (t1.out.below hb2)
  have b2 := Lib.hid (b1.out.trans (hb2.mono b1.out.size))
  clear hb2
  go_wp2_with fail
  with_reducible refine (ofN Y _ (by omega) t2.out).mono ?_
  rintro e w3 ⟨rfl, hb3⟩
  have t3 := Lib.hid (t2.out.below hb3)
  have b3 := Lib.hid (b2.out.trans (hb3.mono b2.out.size))
  clear hb3
  go_wp2_with fail
  with_reducible refine (int00 X _ g1).mono ?_
  rintro e wz ⟨rfl, rfl⟩
  go_wp2_with fail
  with_reducible refine (bareN X _ (by omega)).mono ?_
  rintro e wz ⟨rfl, rfl⟩
  go_wp2_with fail
  with_reducible refine (of_minus (-1) _ (by decide)).mono ?_
  rintro e wz ⟨rfl, rfl⟩
  go_wp2_with fail
  with_reducible refine (of_minus 0 _ (by decide)).mono ?_
  rintro e wz ⟨rfl, rfl⟩
  go_wp2_with fail
  with_reducible refine (subS_less (dig X) (dig Y) _ (by omega) (by omega) (isDig_dig X) (isDig_dig Y) (by rw [val_dig, val_dig]; exact HC.out)).mono ?_
  rintro e w4 ⟨rfl, hb4⟩
  have t4 := Lib.hid (t3.out.below hb4)
  have b4 := Lib.hid (b3.out.trans (hb4.mono b3.out.size))
  clear hb4
  go_wp2_with fail
  rw [show ((M : Int) + 1) = ((M + 1 : Nat) : Int) by simp]
  with_reducible refine (divS (dig X) (M + 1) _ (by omega) (isDig_dig X) (by omega) (by omega)).mono ?_
  rintro e w5 ⟨rfl, hb5⟩
  have t5 := Lib.hid (t4.out.below hb5)
  have b5 := Lib.hid (b4.out.trans (hb5.mono b4.out.size))
  clear hb5
  rw [val_dig]
  go_wp2_with fail
  with_reducible refine (addN X Y _ (by omega) (by omega)).mono ?_
  rintro e w6 ⟨rfl, hb6⟩
  have t6 := Lib.hid (t5.out.below hb6)
  have b6 := Lib.hid (b5.out.trans (hb6.mono b5.out.size))
  clear hb6
  go_wp2_with fail
  rw [show ((X : Int) + (Y : Int)) = ((X + Y : Nat) : Int) by simp]
  with_reducible refine (ofN (X + Y) _ (by omega) t6.out).mono ?_
  rintro e w7 ⟨rfl, hb7⟩
  have t7 := Lib.hid (t6.out.below hb7)
  have b7 := Lib.hid (b6.out.trans (hb7.mono b6.out.size))
  clear hb7
  go_wp2_with fail
  with_reducible refine (cmpS (dig X) (dig Y) _ (by omega) (by omega) (isDig_dig X) (isDig_dig Y)).mono ?_
  rintro e w8 ⟨rfl, hb8⟩
  have t8 := Lib.hid (t7.out.below hb8)
  have b8 := Lib.hid (b7.out.trans (hb8.mono b7.out.size))
  clear hb8
  rw [val_dig, val_dig, compareInt_of_lt (by have := HC.out; omega)]
  go_wp2_with fail
  rw [show max ((X : Int) - (Y : Int)) 0 = 0 by have := HC.out; omega]
  with_reducible refine (of_minus 0 _ (by decide)).mono ?_
  rintro e wz ⟨rfl, rfl⟩
  go_wp2_with fail
  with_reducible refine (timesN X M _ (by omega) (by omega) t8.out).mono ?_
  rintro e w9 ⟨rfl, hb9⟩
  have t9 := Lib.hid (t8.out.below hb9)
  have b9 := Lib.hid (b8.out.trans (hb9.mono b8.out.size))
  clear hb9
  go_wp2_with fail
  rw [show ((X : Int) * (M : Int)) = ((X * M : Nat) : Int) by simp]
  with_reducible refine (ofN (X * M) _ (by omega) t9.out).mono ?_
  rintro e w10 ⟨rfl, hb10⟩
  have t10 := Lib.hid (t9.out.below hb10)
  have b10 := Lib.hid (b9.out.trans (hb10.mono b9.out.size))
  clear hb10
  go_wp2_with fail
  rw [WD.out]
  with_reducible refine (ofN (X / (M + 1)) _ (by have := Nat.div_le_self X (M + 1); omega) t10.out).mono ?_
  rintro e w11 ⟨rfl, hb11⟩
  have t11 := Lib.hid (t10.out.below hb11)
  have b11 := Lib.hid (b10.out.trans (hb11.mono b10.out.size))
  clear hb11
  go_wp2
  go_ret
  exact ⟨rfl, b11.out⟩

set_option maxRecDepth 100000 in
set_option maxHeartbeats 800000 in
theorem numSmall_gt (x y m : Int) (w : World) (ht : Tab w) (X Y M : Nat) (hX : X ≤ 1099511627775) (hY : Y ≤ 1099511627775) (hM : M ≤ 65535)
    (ax : bits .and .i64 x 1099511627775 = (X : Int)) (ay : bits .and .i64 y 1099511627775 = (Y : Int)) (am : bits .and .i64 m 65535 = (M : Int)) (hc : Y < X) :
    Calls Tryd.prog 4 #[.int .i64 x, .int .i64 y, .int .i64 m] w fun e w' => e = .returned (.bool true) ∧ Below w.heap.size w w' := by
  have HT := Lib.hid ht
  clear ht
  have p13 : (10 : Nat) ^ 13 = 10000000000000 := by decide
  have g1 : (dig X).length ≤ 13 := (dig_length_le X 13).2 (by omega)
  have g2 : (dig Y).length ≤ 13 := (dig_length_le Y 13).2 (by omega)
  have hmul : X * M ≤ 72057594037927936 := Nat.le_trans (Nat.mul_le_mul hX hM) (by decide)
  have P13 := Lib.hid p13
  have WD : Hid (wrap64 ((X : Int) / ((M : Int) + 1)) = ((X / (M + 1) : Nat) : Int)) := Lib.hid (by
    have hd : ((X : Int) / ((M : Int) + 1)) = ((X / (M + 1) : Nat) : Int) := by simp
    rw [hd]
    have := Nat.div_le_self X (M + 1)
    generalize X / (M + 1) = q at *
    unfold wrap64
    omega)
  clear p13
  have HC := Lib.hid hc
  have f1 : decide (Y ≤ X) = true := by simp; omega
  have f2 : decide ((Y : Int) ≤ (X : Int)) = true := by simp; omega
  go_enter Tryd.func4, Tryd.ntmps4
  go_wp2_with fail
  with_reducible refine (head_any _).mono ?_
  rintro e w1 ⟨rfl, hb1⟩
  have t1 := Lib.hid (HT.out.below hb1)
  have b1 := Lib.hid hb1
  clear hb1
  go_wp2_with fail
  with_reducible refine (ofN X _ (by omega) t1.out).mono ?_
  rintro e w2 ⟨rfl, hb2⟩
  have t2 := Lib.hid (t1.out.below hb2)
  have b2 := Lib.hid (b1.out.trans (hb2.mono b1.out.size))
  clear hb2
  go_wp2_with fail
  with_reducible refine (ofN Y _ (by omega) t2.out).mono ?_
  rintro e w3 ⟨rfl, hb3⟩
  have t3 := Lib.hid (t2.out.below hb3)
  have b3 := Lib.hid (b2.out.trans (hb3.mono b2.out.size))
  clear hb3
  go_wp2_with fail
  with_reducible refine (int00 X _ g1).mono ?_
  rintro e wz ⟨rfl, rfl⟩
  go_wp2_with fail
  with_reducible refine (bareN X _ (by omega)).mono ?_
  rintro e wz ⟨rfl, rfl⟩
  go_wp2_with fail
  with_reducible refine (of_minus (-1) _ (by decide)).mono ?_
  rintro e wz ⟨rfl, rfl⟩
  go_wp2_with fail
  with_reducible refine (of_minus 0 _ (by decide)).mono ?_
  rintro e wz ⟨rfl, rfl⟩
  go_wp2_with fail
  with_reducible refine (subS (dig X) (dig Y) _ (by omega) (by omega) (isDig_dig X) (isDig_dig Y) (by rw [val_dig, val_dig]; exact Nat.le_of_lt HC.out)).mono ?_
  rintro e w4 ⟨rfl, hb4⟩
  have t4 := Lib.hid (t3.out.below hb4)
  have b4 := Lib.hid (b3.out.trans (hb4.mono b3.out.size))
  clear hb4
  rw [val_dig, val_dig]
  go_wp2_with fail
  rw [show ((M : Int) + 1) = ((M + 1 : Nat) : Int) by simp]
  with_reducible refine (divS (dig X) (M + 1) _ (by omega) (isDig_dig X) (by omega) (by omega)).mono ?_
  rintro e w5 ⟨rfl, hb5⟩
  have t5 := Lib.hid (t4.out.below hb5)
  have b5 := Lib.hid (b4.out.trans (hb5.mono b4.out.size))
  clear hb5
  rw [val_dig]
  go_wp2_with fail
  with_reducible refine (addN X Y _ (by omega) (by omega)).mono ?_
  rintro e w6 ⟨rfl, hb6⟩
  have t6 := Lib.hid (t5.out.below hb6)
  have b6 := Lib.hid (b5.out.trans (hb6.mono b5.out.size))
  clear hb6
  go_wp2_with fail
  rw [show ((X : Int) + (Y : Int)) = ((X + Y : Nat) : Int) by simp]
  with_reducible refine (ofN (X + Y) _ (by omega) t6.out).mono ?_
  rintro e w7 ⟨rfl, hb7⟩
  have t7 := Lib.hid (t6.out.below hb7)
  have b7 := Lib.hid (b6.out.trans (hb7.mono b6.out.size))
  clear hb7
  go_wp2_with fail
  with_reducible refine (cmpS (dig X) (dig Y) _ (by omega) (by omega) (isDig_dig X) (isDig_dig Y)).mono ?_
  rintro e w8 ⟨rfl, hb8⟩
  have t8 := Lib.hid (t7.out.below hb8)
  have b8 := Lib.hid (b7.out.trans (hb8.mono b7.out.size))
  clear hb8
  rw [val_dig, val_dig, compareInt_of_gt (by have := HC.out; omega)]
  go_wp2_with fail
  rw [show max ((X : Int) - (Y : Int)) 0 = ((X - Y : Nat) : Int) by have := HC.out; omega]
  with_reducible refine (ofN (X - Y) _ (by omega) t8.out).mono ?_
  rintro e w9 ⟨rfl, hb9⟩
  have t9 := Lib.hid (t8.out.below hb9)
  have b9 := Lib.hid (b8.out.trans (hb9.mono b8.out.size))
  clear hb9
  go_wp2_with fail
  with_reducible refine (timesN X M _ (by omega) (by omega) t9.out).mono ?_
  rintro e w10 ⟨rfl, hb10⟩
  have t10 := Lib.hid (t9.out.below hb10)
  have b10 := Lib.hid (b9.out.trans (hb10.mono b9.out.size))
  clear hb10
  go_wp2_with fail
  rw [show ((X : Int) * (M : Int)) = ((X * M : Nat) : Int) by simp]
  with_reducible refine (ofN (X * M) _ (by omega) t10.out).mono ?_
  rintro e w11 ⟨rfl, hb11⟩
  have t11 := Lib.hid (t10.out.below hb11)
  have b11 := Lib.hid (b10.out.trans (hb11.mono b10.out.size))
  clear hb11
  go_wp2_with fail
  rw [WD.out]
  with_reducible refine (ofN (X / (M + 1)) _ (by have := Nat.div_le_self X (M + 1); omega) t11.out).mono ?_
  rintro e w12 ⟨rfl, hb12⟩
  have t12 := Lib.hid (t11.out.below hb12)
  have b12 := Lib.hid (b11.out.trans (hb12.mono b11.out.size))
  clear hb12
  go_wp2
  go_ret
  exact ⟨rfl, b12.out⟩

set_option maxRecDepth 100000 in
set_option maxHeartbeats 800000 in
theorem numSmall_eq (x y m : Int) (w : World) (ht : Tab w) (X Y M : Nat) (hX : X ≤ 1099511627775) (hY : Y ≤ 1099511627775) (hM : M ≤ 65535)
    (ax : bits .and .i64 x 1099511627775 = (X : Int)) (ay : bits .and .i64 y 1099511627775 = (Y : Int)) (am : bits .and .i64 m 65535 = (M : Int)) (hc : X = Y) :
    Calls Tryd.prog 4 #[.int .i64 x, .int .i64 y, .int .i64 m] w fun e w' => e = .returned (.bool true) ∧ Below w.heap.size w w' := by
  have HT := Lib.hid ht
  clear ht
  have p13 : (10 : Nat) ^ 13 = 10000000000000 := by decide
  have g1 : (dig X).length ≤ 13 := (dig_length_le X 13).2 (by omega)
  have g2 : (dig Y).length ≤ 13 := (dig_length_le Y 13).2 (by omega)
  have hmul : X * M ≤ 72057594037927936 := Nat.le_trans (Nat.mul_le_mul hX hM) (by decide)
  have P13 := Lib.hid p13
  have WD : Hid (wrap64 ((X : Int) / ((M : Int) + 1)) = ((X / (M + 1) : Nat) : Int)) := Lib.hid (by
    have hd : ((X : Int) / ((M : Int) + 1)) = ((X / (M + 1) : Nat) : Int) := by simp
    rw [hd]
    have := Nat.div_le_self X (M + 1)
    generalize X / (M + 1) = q at *
    unfold wrap64
    omega)
  clear p13
  subst hc
  have HC : Hid (X = X) := Lib.hid rfl
  go_enter Tryd.func4, Tryd.ntmps4
  go_wp2_with fail
  with_reducible refine (head_any _).mono ?_
  rintro e w1 ⟨rfl, hb1⟩
  have t1 := Lib.hid (HT.out.below hb1)
  have b1 := Lib.hid hb1
  clear hb1
  go_wp2_with fail
  with_reducible refine (ofN X _ (by omega) t1.out).mono ?_
  rintro e w2 ⟨rfl, hb2⟩
  have t2 := Lib.hid (t1.out.below hb2)
  have b2 := Lib.hid (b1.out.trans (hb2.mono b1.out.size))
  clear hb2
  go_wp2_with fail
  with_reducible refine (ofN X _ (by omega) t2.out).mono ?_
  rintro e w3 ⟨rfl, hb3⟩
  have t3 := Lib.hid (t2.out.below hb3)
  have b3 := Lib.hid (b2.out.trans (hb3.mono b2.out.size))
  clear hb3
  go_wp2_with fail
  with_reducible refine (int00 X _ g1).mono ?_
  rintro e wz ⟨rfl, rfl⟩
  go_wp2_with fail
  with_reducible refine (bareN X _ (by omega)).mono ?_
  rintro e wz ⟨rfl, rfl⟩
  go_wp2_with fail
  with_reducible refine (of_minus (-1) _ (by decide)).mono ?_
  rintro e wz ⟨rfl, rfl⟩
  go_wp2_with fail
  with_reducible refine (of_minus 0 _ (by decide)).mono ?_
  rintro e wz ⟨rfl, rfl⟩
  go_wp2_with fail
  with_reducible refine (subS (dig X) (dig X) _ (by omega) (by omega) (isDig_dig X) (isDig_dig X) (Nat.le_refl _)).mono ?_
  rintro e w4 ⟨rfl, hb4⟩
  have t4 := Lib.hid (t3.out.below hb4)
  have b4 := Lib.hid (b3.out.trans (hb4.mono b3.out.size))
  clear hb4
  rw [val_dig, Nat.sub_self, dig_zero]
  go_wp2_with fail
  rw [show ((M : Int) + 1) = ((M + 1 : Nat) : Int) by simp]
  with_reducible refine (divS (dig X) (M + 1) _ (by omega) (isDig_dig X) (by omega) (by omega)).mono ?_
  rintro e w5 ⟨rfl, hb5⟩
  have t5 := Lib.hid (t4.out.below hb5)
  have b5 := Lib.hid (b4.out.trans (hb5.mono b4.out.size))
  clear hb5
  rw [val_dig]
  go_wp2_with fail
  with_reducible refine (addN X X _ (by omega) (by omega)).mono ?_
  rintro e w6 ⟨rfl, hb6⟩
  have t6 := Lib.hid (t5.out.below hb6)
  have b6 := Lib.hid (b5.out.trans (hb6.mono b5.out.size))
  clear hb6
  go_wp2_with fail
  rw [show ((X : Int) + (X : Int)) = ((X + X : Nat) : Int) by simp]
  with_reducible refine (ofN (X + X) _ (by omega) t6.out).mono ?_
  rintro e w7 ⟨rfl, hb7⟩
  have t7 := Lib.hid (t6.out.below hb7)
  have b7 := Lib.hid (b6.out.trans (hb7.mono b6.out.size))
  clear hb7
  go_wp2_with fail
  with_reducible refine (cmpS (dig X) (dig X) _ (by omega) (by omega) (isDig_dig X) (isDig_dig X)).mono ?_
  rintro e w8 ⟨rfl, hb8⟩
  have t8 := Lib.hid (t7.out.below hb8)
  have b8 := Lib.hid (b7.out.trans (hb8.mono b7.out.size))
  clear hb8
  rw [val_dig, compareInt_self]
  go_wp2_with fail
  with_reducible refine (of_minus 0 _ (by decide)).mono ?_
  rintro e wz ⟨rfl, rfl⟩
  go_wp2_with fail
  with_reducible refine (timesN X M _ (by omega) (by omega) t8.out).mono ?_
  rintro e w9 ⟨rfl, hb9⟩
  have t9 := Lib.hid (t8.out.below hb9)
  have b9 := Lib.hid (b8.out.trans (hb9.mono b8.out.size))
  clear hb9
  go_wp2_with fail
  rw [show ((X : Int) * (M : Int)) = ((X * M : Nat) : Int) by simp]
  with_reducible refine (ofN (X * M) _ (by omega) t9.out).mono ?_
  rintro e w10 ⟨rfl, hb10⟩
  have t10 := Lib.hid (t9.out.below hb10)
  have b10 := Lib.hid (b9.out.trans (hb10.mono b9.out.size))
  clear hb10
  go_wp2_with fail
  rw [WD.out]
  with_reducible refine (ofN (X / (M + 1)) _ (by have := Nat.div_le_self X (M + 1); omega) t10.out).mono ?_
  rintro e w11 ⟨rfl, hb11⟩
  have t11 := Lib.hid (t10.out.below hb11)
  have b11 := Lib.hid (b10.out.trans (hb11.mono b10.out.size))
  clear hb11
  go_wp2
  go_ret
  exact ⟨rfl, b11.out⟩

theorem numSmall_walk (x y m : Int) (w : World) (_h0 : (Lit.int .i64 x).wf = true) (_h1 : (Lit.int .i64 y).wf = true) (_h2 : (Lit.int .i64 m).wf = true) (ht : Tab w) :
    Calls Tryd.prog 4 #[.int .i64 x, .int .i64 y, .int .i64 m] w fun e w' => e = .returned (.bool true) ∧ Below w.heap.size w w' := by
  obtain ⟨X, hX, ax⟩ := and_mask x 1099511627775 (by decide)
  obtain ⟨Y, hY, ay⟩ := and_mask y 1099511627775 (by decide)
  obtain ⟨M, hM, am⟩ := and_mask m 65535 (by decide)
  rcases Nat.lt_trichotomy X Y with hc | hc | hc
  · exact numSmall_lt x y m w ht X Y M hX hY hM ax ay am hc
  · exact numSmall_eq x y m w ht X Y M hX hY hM ax ay am hc
  · exact numSmall_gt x y m w ht X Y M hX hY hM ax ay am hc
end Go.Proofs.YtnhaogjkbladaaaDoor
