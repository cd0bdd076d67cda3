/- The walk of the law NumCmps. -/
import Derived.Test.YtnhaogjkbladaaaDoorLawD
import Derived.RegionTactic
import Derived.ChangeAlike
namespace Go.Proofs.YtnhaogjkbladaaaDoor
open Go.RowKit Florin

theorem bare_some (l : List UInt8) (w : World) (hl : l.length ≤ 1000000) (hd : isDig l = true) :
    Calls Tryd.prog 15 #[S l] w fun e w' => ∃ q : ByteArray, e = .returned (.string q) ∧ q.data.toList = dig (val l) ∧ w = w' :=
  (bareS l w hl hd).mono fun _ _ ⟨he, hw⟩ => ⟨_, he, arr_list _, hw⟩
theorem zerosN (k : Nat) (w : World) (hk : k ≤ 60000) :
    Calls Tryd.prog 25 #[.int .i64 k] w fun e w' => e = .returned (S (List.replicate k 48)) ∧ Below w.heap.size w w' :=
  (zeros_any k w).mono fun e w' ⟨he, hw⟩ => ⟨by rw [he, Int.toNat_natCast, Nat.min_eq_left hk], hw⟩
theorem zerosNeg (w : World) :
    Calls Tryd.prog 25 #[.int .i64 (-3)] w fun e w' => e = .returned (S []) ∧ Below w.heap.size w w' :=
  (zeros_any (-3) w).mono fun e w' ⟨he, hw⟩ => ⟨by rw [he]; rfl, hw⟩
theorem isDig_rep (k : Nat) : isDig (List.replicate k 48) = true := by
  unfold isDig; rw [List.all_replicate]; simp; exact .inr rfl
theorem val_rep (k : Nat) : val (List.replicate k 48) = 0 := by
  induction k with
  | zero => rfl
  | succ k ih => rw [List.replicate_succ, val_cons, ih, dv48]; omega
theorem pad_data (k : Nat) (q : ByteArray) : ((⟨(List.replicate k (48 : UInt8)).toArray⟩ : ByteArray) ++ q).data.toList = List.replicate k 48 ++ q.data.toList := by simp [ByteArray.data_append]
theorem cmp_rep (k : Nat) (w : World) (hk : k ≤ 60000) :
    Calls Tryd.prog 16 #[S (List.replicate k 48), .string ⟨#[]⟩] w fun e w' => e = .returned (.int .i64 0) ∧ Below w.heap.size w w' :=
  (cmpS (List.replicate k 48) [] w (by simp; omega) (by decide) (isDig_rep k) rfl).mono fun e w' ⟨he, hw⟩ => ⟨by rw [he, val_rep, val_nil]; rfl, hw⟩
theorem cmp_padl (k : Nat) (p q : ByteArray) (A B : Nat) (v : Int) (w : World) (hk : k ≤ 60000) (hp : p.data.toList = dig A) (hq : q.data.toList = dig B) (h1 : (dig A).length ≤ 1000) (h2 : (dig B).length ≤ 1000) (hv : Lib.compareInt A B = v) :
    Calls Tryd.prog 16 #[.string ((⟨(List.replicate k 48).toArray⟩ : ByteArray) ++ p), .string q] w fun e w' => e = .returned (.int .i64 v) ∧ Below w.heap.size w w' :=
  (cmp_any _ q w (by rw [← size_list, pad_data, hp, List.length_append, List.length_replicate]; unfold maxLen; omega) (by rw [← size_list, hq]; unfold maxLen; omega)).mono fun e w' ⟨he, hw⟩ => ⟨by
    rw [he, pad_data, hp, hq, cmpv_yes (by rw [isDig_append, isDig_rep, isDig_dig, isDig_dig]; rfl), val_append, val_rep, val_dig, val_dig, Nat.zero_mul, Nat.zero_add, hv], hw⟩
theorem cmp_padr (k : Nat) (p q : ByteArray) (A B : Nat) (v : Int) (w : World) (hk : k ≤ 60000) (hp : p.data.toList = dig A) (hq : q.data.toList = dig B) (h1 : (dig A).length ≤ 1000) (h2 : (dig B).length ≤ 1000) (hv : Lib.compareInt A B = v) :
    Calls Tryd.prog 16 #[.string p, .string ((⟨(List.replicate k 48).toArray⟩ : ByteArray) ++ q)] w fun e w' => e = .returned (.int .i64 v) ∧ Below w.heap.size w w' :=
  (cmp_any p _ w (by rw [← size_list, hp]; unfold maxLen; omega) (by rw [← size_list, pad_data, hq, List.length_append, List.length_replicate]; unfold maxLen; omega)).mono fun e w' ⟨he, hw⟩ => ⟨by
    rw [he, pad_data, hp, hq, cmpv_yes (by rw [isDig_append, isDig_rep, isDig_dig, isDig_dig]; rfl), val_append, val_rep, val_dig, val_dig, Nat.zero_mul, Nat.zero_add, hv], hw⟩
theorem dig_mono {A B : Nat} (h : (dig A).length < (dig B).length) : A < B := by
  rcases Nat.lt_or_ge A B with h1 | h1
  · exact h1
  · have h2 : B < 10 ^ (dig A).length := Nat.lt_of_le_of_lt h1 (by have := val_lt _ (isDig_dig A); rwa [val_dig] at this)
    have := (dig_length_le B _).2 h2
    omega
/-- The first digit that differs decides. -/
theorem first_lt {a b : List UInt8} {k : Nat} (hl : a.length = b.length) (ha : isDig a = true) (hb : isDig b = true) (hk : k < a.length) (ht : a.take k = b.take k) (hx : a[k].toNat < (b[k]'(by omega)).toNat) : val a < val b := by
  have ea : a = a.take k ++ (a[k] :: a.drop (k + 1)) := by rw [List.getElem_cons_drop, List.take_append_drop]
  have eb : b = b.take k ++ (b[k]'(by omega) :: b.drop (k + 1)) := by rw [List.getElem_cons_drop, List.take_append_drop]
  have da : isDig (a.take k ++ (a[k] :: a.drop (k + 1))) = true := by rw [← ea]; exact ha
  have db : isDig (b.take k ++ (b[k]'(by omega) :: b.drop (k + 1))) = true := by rw [← eb]; exact hb
  rw [isDig_append, isDig_cons] at da db
  simp only [Bool.and_eq_true] at da db
  rw [ea, eb, val_append, val_append, val_cons, val_cons, ht]
  have hlen : (a.drop (k + 1)).length = (b.drop (k + 1)).length := by simp [hl]
  have v1 := val_lt _ da.2.2
  rw [hlen] at v1
  have hxd := (isD_iff _).1 da.2.1
  have hyd := (isD_iff _).1 db.2.1
  have hdv : dv a[k] + 1 ≤ dv (b[k]'(by omega)) := by unfold dv; omega
  have := Nat.mul_le_mul_right (10 ^ (b.drop (k + 1)).length) hdv
  rw [Nat.add_mul] at this
  simp only [List.length_cons, hlen]
  omega
theorem take_byte (q : ByteArray) (k : Nat) (h : k < q.size) : q.data.toList[k]'(by simpa using h) = q[k] := by simp [ByteArray.getElem_eq_getElem_data]

set_option maxRecDepth 100000 in
set_option maxHeartbeats 2000000 in
theorem numCmps_lt (a : Option Addr) (la ca : Nat) (L : List UInt8) (b : Option Addr) (lb cb : Nat) (M : List UInt8) (n : Int) (w : World) (hi1 : InB w a la ca L) (hi2 : InB w b lb cb M) (h1 : la ≤ 200) (h2 : lb ≤ 200) (hc : (dig (val (dgs L))).length < (dig (val (dgs M))).length) :
    Calls Tryd.prog 7 #[.slice a la ca, .slice b lb cb, .int .i64 n] w fun e w' => e = .returned (.bool true) ∧ Below w.heap.size w w' := by
  have H1 := Lib.hid hi1
  have H2 := Lib.hid hi2
  have m1 := hi1.2.2.1
  have m2 := hi2.2.2.1
  have m3 := hi1.2.1
  have m4 := hi2.2.1
  unfold maxLen at m1 m2
  have l1 : (dgs L).length ≤ 200 := by rw [dgs_length, hi1.len]; exact h1
  have l2 : (dgs M).length ≤ 200 := by rw [dgs_length, hi2.len]; exact h2
  have g1 : (dig (val (dgs L))).length ≤ 1000 := Nat.le_trans ((dig_length_le _ 200).2 (val_dgs_lt L (by rw [hi1.len]; exact h1))) (by decide)
  have g2 : (dig (val (dgs M))).length ≤ 1000 := Nat.le_trans ((dig_length_le _ 200).2 (val_dgs_lt M (by rw [hi2.len]; exact h2))) (by decide)
  have I1 := Lib.hid (isDig_dgs L)
  have I2 := Lib.hid (isDig_dgs M)
  obtain ⟨z, hz, hand⟩ : ∃ k : Nat, k ≤ 31 ∧ bits .and .i64 n 31 = (k : Int) := and_mask n 31 (by decide)
  generalize hA : val (dgs L) = A at *
  generalize hB : val (dgs M) = B at *
  have HA := Lib.hid hA
  have HB := Lib.hid hB
  clear hi1 hi2 hA hB
  have HV : Hid (Lib.compareInt A B = -1) := Lib.hid (compareInt_of_lt (by have := dig_mono hc; omega))
  have HC := Lib.hid hc
  go_enter Tryd.func7, Tryd.ntmps7
  go_wp2_with fail
  refine (head_any _).mono ?_
  rintro e w1 ⟨rfl, hb1⟩
  have b1 := Lib.hid hb1
  clear hb1
  go_wp2_with fail
  refine (digits_any a la ca L _ (H1.out.below b1.out) (by omega)).mono ?_
  rintro e w2 ⟨rfl, hb2⟩
  have b2 := Lib.hid (b1.out.trans (hb2.mono b1.out.size))
  clear hb2
  go_wp2_with fail
  refine (bare_some (dgs L) _ (by omega) I1.out).mono ?_
  rintro e wz ⟨p, rfl, hp, rfl⟩
  rw [HA.out] at hp
  have sp : p.size ≤ 1000 := by rw [← size_list, hp]; exact g1
  have spl : p.size = (dig A).length := by rw [← size_list, hp]
  have SPL := Lib.hid spl
  have HP := Lib.hid hp
  clear hp spl
  go_wp2_with fail
  refine (digits_any b lb cb M _ (H2.out.below b2.out) (by omega)).mono ?_
  rintro e w3 ⟨rfl, hb3⟩
  have b3 := Lib.hid (b2.out.trans (hb3.mono b2.out.size))
  clear hb3
  go_wp2_with fail
  refine (bare_some (dgs M) _ (by omega) I2.out).mono ?_
  rintro e wz ⟨q, rfl, hq, rfl⟩
  rw [HB.out] at hq
  have sq : q.size ≤ 1000 := by rw [← size_list, hq]; exact g2
  have sql : q.size = (dig B).length := by rw [← size_list, hq]
  have SQL := Lib.hid sql
  have HQ := Lib.hid hq
  clear hq sql
  have hlt : p.size < q.size := by rw [SPL.out, SQL.out]; exact HC.out
  clear hc
  go_wp2_with fail
  refine (zerosN z _ (by omega)).mono ?_
  rintro e w4 ⟨rfl, hb4⟩
  have b4 := Lib.hid (b3.out.trans (hb4.mono b3.out.size))
  clear hb4
  go_wp2_with fail
  refine (cmp_rep z _ (by omega)).mono ?_
  rintro e w5 ⟨rfl, hb5⟩
  have b5 := Lib.hid (b4.out.trans (hb5.mono b4.out.size))
  clear hb5
  go_wp2_with fail
  refine (cmp_padl z p q A B (-1) _ (by omega) HP.out HQ.out g1 g2 HV.out).mono ?_
  rintro e w6 ⟨rfl, hb6⟩
  have b6 := Lib.hid (b5.out.trans (hb6.mono b5.out.size))
  clear hb6
  go_wp2_with fail
  refine (cmp_padr z p q A B (-1) _ (by omega) HP.out HQ.out g1 g2 HV.out).mono ?_
  rintro e w7 ⟨rfl, hb7⟩
  have b7 := Lib.hid (b6.out.trans (hb7.mono b6.out.size))
  clear hb7
  go_wp2_with fail
  refine (zerosNeg _).mono ?_
  rintro e w8 ⟨rfl, hb8⟩
  have b8 := Lib.hid (b7.out.trans (hb8.mono b7.out.size))
  clear hb8
  go_wp2
  go_ret
  exact ⟨rfl, b8.out⟩

set_option maxRecDepth 100000 in
set_option maxHeartbeats 2000000 in
theorem numCmps_gt (a : Option Addr) (la ca : Nat) (L : List UInt8) (b : Option Addr) (lb cb : Nat) (M : List UInt8) (n : Int) (w : World) (hi1 : InB w a la ca L) (hi2 : InB w b lb cb M) (h1 : la ≤ 200) (h2 : lb ≤ 200) (hc : (dig (val (dgs M))).length < (dig (val (dgs L))).length) :
    Calls Tryd.prog 7 #[.slice a la ca, .slice b lb cb, .int .i64 n] w fun e w' => e = .returned (.bool true) ∧ Below w.heap.size w w' := by
  have H1 := Lib.hid hi1
  have H2 := Lib.hid hi2
  have m1 := hi1.2.2.1
  have m2 := hi2.2.2.1
  have m3 := hi1.2.1
  have m4 := hi2.2.1
  unfold maxLen at m1 m2
  have l1 : (dgs L).length ≤ 200 := by rw [dgs_length, hi1.len]; exact h1
  have l2 : (dgs M).length ≤ 200 := by rw [dgs_length, hi2.len]; exact h2
  have g1 : (dig (val (dgs L))).length ≤ 1000 := Nat.le_trans ((dig_length_le _ 200).2 (val_dgs_lt L (by rw [hi1.len]; exact h1))) (by decide)
  have g2 : (dig (val (dgs M))).length ≤ 1000 := Nat.le_trans ((dig_length_le _ 200).2 (val_dgs_lt M (by rw [hi2.len]; exact h2))) (by decide)
  have I1 := Lib.hid (isDig_dgs L)
  have I2 := Lib.hid (isDig_dgs M)
  obtain ⟨z, hz, hand⟩ : ∃ k : Nat, k ≤ 31 ∧ bits .and .i64 n 31 = (k : Int) := and_mask n 31 (by decide)
  generalize hA : val (dgs L) = A at *
  generalize hB : val (dgs M) = B at *
  have HA := Lib.hid hA
  have HB := Lib.hid hB
  clear hi1 hi2 hA hB
  have HV : Hid (Lib.compareInt A B = 1) := Lib.hid (compareInt_of_gt (by have := dig_mono hc; omega))
  have HC := Lib.hid hc
  go_enter Tryd.func7, Tryd.ntmps7
  go_wp2_with fail
  refine (head_any _).mono ?_
  rintro e w1 ⟨rfl, hb1⟩
  have b1 := Lib.hid hb1
  clear hb1
  go_wp2_with fail
  refine (digits_any a la ca L _ (H1.out.below b1.out) (by omega)).mono ?_
  rintro e w2 ⟨rfl, hb2⟩
  have b2 := Lib.hid (b1.out.trans (hb2.mono b1.out.size))
  clear hb2
  go_wp2_with fail
  refine (bare_some (dgs L) _ (by omega) I1.out).mono ?_
  rintro e wz ⟨p, rfl, hp, rfl⟩
  rw [HA.out] at hp
  have sp : p.size ≤ 1000 := by rw [← size_list, hp]; exact g1
  have spl : p.size = (dig A).length := by rw [← size_list, hp]
  have SPL := Lib.hid spl
  have HP := Lib.hid hp
  clear hp spl
  go_wp2_with fail
  refine (digits_any b lb cb M _ (H2.out.below b2.out) (by omega)).mono ?_
  rintro e w3 ⟨rfl, hb3⟩
  have b3 := Lib.hid (b2.out.trans (hb3.mono b2.out.size))
  clear hb3
  go_wp2_with fail
  refine (bare_some (dgs M) _ (by omega) I2.out).mono ?_
  rintro e wz ⟨q, rfl, hq, rfl⟩
  rw [HB.out] at hq
  have sq : q.size ≤ 1000 := by rw [← size_list, hq]; exact g2
  have sql : q.size = (dig B).length := by rw [← size_list, hq]
  have SQL := Lib.hid sql
  have HQ := Lib.hid hq
  clear hq sql
  have hlt : q.size < p.size := by rw [SPL.out, SQL.out]; exact HC.out
  clear hc
  go_wp2_with fail
  refine (zerosN z _ (by omega)).mono ?_
  rintro e w4 ⟨rfl, hb4⟩
  have b4 := Lib.hid (b3.out.trans (hb4.mono b3.out.size))
  clear hb4
  go_wp2_with fail
  refine (cmp_rep z _ (by omega)).mono ?_
  rintro e w5 ⟨rfl, hb5⟩
  have b5 := Lib.hid (b4.out.trans (hb5.mono b4.out.size))
  clear hb5
  go_wp2_with fail
  refine (cmp_padl z p q A B 1 _ (by omega) HP.out HQ.out g1 g2 HV.out).mono ?_
  rintro e w6 ⟨rfl, hb6⟩
  have b6 := Lib.hid (b5.out.trans (hb6.mono b5.out.size))
  clear hb6
  go_wp2_with fail
  refine (cmp_padr z p q A B 1 _ (by omega) HP.out HQ.out g1 g2 HV.out).mono ?_
  rintro e w7 ⟨rfl, hb7⟩
  have b7 := Lib.hid (b6.out.trans (hb7.mono b6.out.size))
  clear hb7
  go_wp2_with fail
  refine (zerosNeg _).mono ?_
  rintro e w8 ⟨rfl, hb8⟩
  have b8 := Lib.hid (b7.out.trans (hb8.mono b7.out.size))
  clear hb8
  go_wp2
  go_ret
  exact ⟨rfl, b8.out⟩

set_option maxRecDepth 100000 in
set_option maxHeartbeats 2000000 in
theorem numCmps_eq (a : Option Addr) (la ca : Nat) (L : List UInt8) (b : Option Addr) (lb cb : Nat) (M : List UInt8) (n : Int) (w : World) (hi1 : InB w a la ca L) (hi2 : InB w b lb cb M) (h1 : la ≤ 200) (h2 : lb ≤ 200) (hc : (dig (val (dgs L))).length = (dig (val (dgs M))).length) :
    Calls Tryd.prog 7 #[.slice a la ca, .slice b lb cb, .int .i64 n] w fun e w' => e = .returned (.bool true) ∧ Below w.heap.size w w' := by
  have H1 := Lib.hid hi1
  have H2 := Lib.hid hi2
  have m1 := hi1.2.2.1
  have m2 := hi2.2.2.1
  have m3 := hi1.2.1
  have m4 := hi2.2.1
  unfold maxLen at m1 m2
  have l1 : (dgs L).length ≤ 200 := by rw [dgs_length, hi1.len]; exact h1
  have l2 : (dgs M).length ≤ 200 := by rw [dgs_length, hi2.len]; exact h2
  have g1 : (dig (val (dgs L))).length ≤ 1000 := Nat.le_trans ((dig_length_le _ 200).2 (val_dgs_lt L (by rw [hi1.len]; exact h1))) (by decide)
  have g2 : (dig (val (dgs M))).length ≤ 1000 := Nat.le_trans ((dig_length_le _ 200).2 (val_dgs_lt M (by rw [hi2.len]; exact h2))) (by decide)
  have I1 := Lib.hid (isDig_dgs L)
  have I2 := Lib.hid (isDig_dgs M)
  obtain ⟨z, hz, hand⟩ : ∃ k : Nat, k ≤ 31 ∧ bits .and .i64 n 31 = (k : Int) := and_mask n 31 (by decide)
  generalize hA : val (dgs L) = A at *
  generalize hB : val (dgs M) = B at *
  have HA := Lib.hid hA
  have HB := Lib.hid hB
  clear hi1 hi2 hA hB
  have HC := Lib.hid hc
  go_enter Tryd.func7, Tryd.ntmps7
  go_wp2_with fail
  refine (head_any _).mono ?_
  rintro e w1 ⟨rfl, hb1⟩
  have b1 := Lib.hid hb1
  clear hb1
  go_wp2_with fail
  refine (digits_any a la ca L _ (H1.out.below b1.out) (by omega)).mono ?_
  rintro e w2 ⟨rfl, hb2⟩
  have b2 := Lib.hid (b1.out.trans (hb2.mono b1.out.size))
  clear hb2
  go_wp2_with fail
  refine (bare_some (dgs L) _ (by omega) I1.out).mono ?_
  rintro e wz ⟨p, rfl, hp, rfl⟩
  rw [HA.out] at hp
  have sp : p.size ≤ 1000 := by rw [← size_list, hp]; exact g1
  have spl : p.size = (dig A).length := by rw [← size_list, hp]
  have SPL := Lib.hid spl
  have HP := Lib.hid hp
  clear hp spl
  go_wp2_with fail
  refine (digits_any b lb cb M _ (H2.out.below b2.out) (by omega)).mono ?_
  rintro e w3 ⟨rfl, hb3⟩
  have b3 := Lib.hid (b2.out.trans (hb3.mono b2.out.size))
  clear hb3
  go_wp2_with fail
  refine (bare_some (dgs M) _ (by omega) I2.out).mono ?_
  rintro e wz ⟨q, rfl, hq, rfl⟩
  rw [HB.out] at hq
  have sq : q.size ≤ 1000 := by rw [← size_list, hq]; exact g2
  have sql : q.size = (dig B).length := by rw [← size_list, hq]
  have SQL := Lib.hid sql
  have HQ := Lib.hid hq
  clear hq sql
  have hpq : p.size ≤ q.size := by rw [SPL.out, SQL.out]; exact Nat.le_of_eq HC.out
  have hqp : q.size ≤ p.size := by rw [SPL.out, SQL.out]; exact Nat.le_of_eq HC.out.symm
  clear hc
  have f1 : decide (p.size < q.size) = false := by simp; omega
  have f2 : decide (q.size < p.size) = false := by simp; omega
  have f3 : decide ((p.size : Int) < (q.size : Int)) = false := by simp; omega
  have f4 : decide ((q.size : Int) < (p.size : Int)) = false := by simp; omega
  go_wp2_with fail
  go_loopw [9, 10] (fun v i wr => ∃ (k : Nat) (x : Int), k ≤ p.size ∧ i = .int .i64 k ∧ v = .int .i64 x ∧ ((x = 0 ∧ (dig A).take k = (dig B).take k) ∨ (x ≠ 0 ∧ Lib.compareInt A B = x)) ∧ Below w.heap.size w wr) (fun _ i _ => p.size - (intOf i).toNat)
  case atStart => exact ⟨0, 0, Nat.zero_le _, rfl, rfl, .inl ⟨rfl, rfl⟩, b3.out⟩
  case round =>
    obtain ⟨k, x, hk, rfl, rfl, hx, hbr⟩ := hrel
    have HX := Lib.hid hx
    clear hx b3
    have b3 := Lib.hid hbr
    clear hbr
    by_cases hx0 : x = 0
    · subst hx0
      have HTK : Hid ((dig A).take k = (dig B).take k) := Lib.hid (by rcases HX.out with ⟨_, h⟩ | ⟨h, _⟩; exact h; exact absurd rfl h)
      by_cases hlt : k < p.size
      · have hlq : k < q.size := by omega
        have TP := Lib.hid (take_byte p k hlt)
        have TQ := Lib.hid (take_byte q k hlq)
        have FL : Hid (p[k].toNat < q[k].toNat → A < B) := Lib.hid (by
          intro h
          have h5 := first_lt (a := dig A) (b := dig B) (k := k) HC.out (isDig_dig A) (isDig_dig B) (by rw [← SPL.out]; exact hlt) HTK.out (by
            have e1 : (dig A)[k]'(by rw [← SPL.out]; exact hlt) = p[k] := by rw [← TP.out]; simp only [HP.out]
            have e2 : (dig B)[k]'(by rw [← SQL.out]; exact hlq) = q[k] := by rw [← TQ.out]; simp only [HQ.out]
            rw [e1, e2]; exact h)
          rw [val_dig, val_dig] at h5; exact h5)
        have FG : Hid (q[k].toNat < p[k].toNat → B < A) := Lib.hid (by
          intro h
          have h5 := first_lt (a := dig B) (b := dig A) (k := k) HC.out.symm (isDig_dig B) (isDig_dig A) (by rw [← SQL.out]; exact hlq) HTK.out.symm (by
            have e1 : (dig A)[k]'(by rw [← SPL.out]; exact hlt) = p[k] := by rw [← TP.out]; simp only [HP.out]
            have e2 : (dig B)[k]'(by rw [← SQL.out]; exact hlq) = q[k] := by rw [← TQ.out]; simp only [HQ.out]
            rw [e1, e2]; exact h)
          rw [val_dig, val_dig] at h5; exact h5)
        have FE : Hid (p[k].toNat = q[k].toNat → (dig A).take (k + 1) = (dig B).take (k + 1)) := Lib.hid (by
          intro h
          have e1 : (dig A)[k]'(by rw [← SPL.out]; exact hlt) = p[k] := by rw [← TP.out]; simp only [HP.out]
          have e2 : (dig B)[k]'(by rw [← SQL.out]; exact hlq) = q[k] := by rw [← TQ.out]; simp only [HQ.out]
          rw [List.take_succ_eq_append_getElem (by rw [← SPL.out]; exact hlt), List.take_succ_eq_append_getElem (by rw [← SQL.out]; exact hlq), HTK.out, e1, e2, UInt8.toNat_inj.1 h])
        by_cases c1 : (p[k].toNat : Int) < (q[k].toNat : Int)
        · go_wp2
          go_region
          go_wp2
          go_region
          go_wp2
          go_roundw
          case rel => first | exact ⟨k + 1, -1, by omega, by go_num, rfl, .inr ⟨by decide, compareInt_of_lt (by have := FL.out (by omega); omega)⟩, b3.out.drew.drew⟩ | ((repeat apply Exists.intro); refine ⟨?_, rfl⟩; exact ⟨k + 1, -1, by omega, by go_num, rfl, .inr ⟨by decide, compareInt_of_lt (by have := FL.out (by omega); omega)⟩, b3.out.drew.drew⟩)
          case measure => simp [intOf]; omega
        · by_cases c2 : (q[k].toNat : Int) < (p[k].toNat : Int)
          · go_wp2
            go_region
            go_wp2
            go_region
            go_wp2
            go_roundw
            case rel => first | exact ⟨k + 1, 1, by omega, by go_num, rfl, .inr ⟨by decide, compareInt_of_gt (by have := FG.out (by omega); omega)⟩, b3.out.drew.drew⟩ | ((repeat apply Exists.intro); refine ⟨?_, rfl⟩; exact ⟨k + 1, 1, by omega, by go_num, rfl, .inr ⟨by decide, compareInt_of_gt (by have := FG.out (by omega); omega)⟩, b3.out.drew.drew⟩)
            case measure => simp [intOf]; omega
          · go_wp2
            go_region
            go_wp2
            go_region
            go_wp2
            go_roundw
            case rel => first | exact ⟨k + 1, 0, by omega, by go_num, rfl, .inl ⟨rfl, FE.out (by omega)⟩, b3.out.drew.drew⟩ | ((repeat apply Exists.intro); refine ⟨?_, rfl⟩; exact ⟨k + 1, 0, by omega, by go_num, rfl, .inl ⟨rfl, FE.out (by omega)⟩, b3.out.drew.drew⟩)
            case measure => simp [intOf]; omega
      · have HV : Hid (Lib.compareInt A B = 0) := Lib.hid (by
          have e1 : (dig A).take k = dig A := List.take_of_length_le (by rw [← SPL.out]; omega)
          have e2 : (dig B).take k = dig B := List.take_of_length_le (by rw [← SQL.out]; omega)
          have e3 := HTK.out
          rw [e1, e2] at e3
          rw [dig_inj' e3, compareInt_self])
        go_wp2_with fail
        refine (zerosN z _ (by omega)).mono ?_
        rintro e w4 ⟨rfl, hb4⟩
        have b4 := Lib.hid (b3.out.trans (hb4.mono b3.out.size))
        clear hb4
        go_wp2_with fail
        refine (cmp_rep z _ (by omega)).mono ?_
        rintro e w5 ⟨rfl, hb5⟩
        have b5 := Lib.hid (b4.out.trans (hb5.mono b4.out.size))
        clear hb5
        go_wp2_with fail
        refine (cmp_padl z p q A B 0 _ (by omega) HP.out HQ.out g1 g2 HV.out).mono ?_
        rintro e w6 ⟨rfl, hb6⟩
        have b6 := Lib.hid (b5.out.trans (hb6.mono b5.out.size))
        clear hb6
        go_wp2_with fail
        refine (cmp_padr z p q A B 0 _ (by omega) HP.out HQ.out g1 g2 HV.out).mono ?_
        rintro e w7 ⟨rfl, hb7⟩
        have b7 := Lib.hid (b6.out.trans (hb7.mono b6.out.size))
        clear hb7
        go_wp2_with fail
        refine (zerosNeg _).mono ?_
        rintro e w8 ⟨rfl, hb8⟩
        have b8 := Lib.hid (b7.out.trans (hb8.mono b7.out.size))
        clear hb8
        go_wp2
        go_ret
        exact ⟨rfl, b8.out⟩
    · have HV : Hid (Lib.compareInt A B = x) := Lib.hid (by rcases HX.out with ⟨h, _⟩ | ⟨_, h⟩; exact absurd h hx0; exact h)
      have hxb : (x == 0) = false := by simpa using hx0
      have HX0 := Lib.hid hx0
      clear hx0
      by_cases hlt : k < p.size
      · skip
        go_wp2_with fail
        refine (zerosN z _ (by omega)).mono ?_
        rintro e w4 ⟨rfl, hb4⟩
        have b4 := Lib.hid (b3.out.trans (hb4.mono b3.out.size))
        clear hb4
        go_wp2_with fail
        refine (cmp_rep z _ (by omega)).mono ?_
        rintro e w5 ⟨rfl, hb5⟩
        have b5 := Lib.hid (b4.out.trans (hb5.mono b4.out.size))
        clear hb5
        go_wp2_with fail
        refine (cmp_padl z p q A B x _ (by omega) HP.out HQ.out g1 g2 HV.out).mono ?_
        rintro e w6 ⟨rfl, hb6⟩
        have b6 := Lib.hid (b5.out.trans (hb6.mono b5.out.size))
        clear hb6
        go_wp2_with fail
        refine (cmp_padr z p q A B x _ (by omega) HP.out HQ.out g1 g2 HV.out).mono ?_
        rintro e w7 ⟨rfl, hb7⟩
        have b7 := Lib.hid (b6.out.trans (hb7.mono b6.out.size))
        clear hb7
        go_wp2_with fail
        refine (zerosNeg _).mono ?_
        rintro e w8 ⟨rfl, hb8⟩
        have b8 := Lib.hid (b7.out.trans (hb8.mono b7.out.size))
        clear hb8
        go_wp2
        go_ret
        exact ⟨rfl, b8.out⟩
      · skip
        go_wp2_with fail
        refine (zerosN z _ (by omega)).mono ?_
        rintro e w4 ⟨rfl, hb4⟩
        have b4 := Lib.hid (b3.out.trans (hb4.mono b3.out.size))
        clear hb4
        go_wp2_with fail
        refine (cmp_rep z _ (by omega)).mono ?_
        rintro e w5 ⟨rfl, hb5⟩
        have b5 := Lib.hid (b4.out.trans (hb5.mono b4.out.size))
        clear hb5
        go_wp2_with fail
        refine (cmp_padl z p q A B x _ (by omega) HP.out HQ.out g1 g2 HV.out).mono ?_
        rintro e w6 ⟨rfl, hb6⟩
        have b6 := Lib.hid (b5.out.trans (hb6.mono b5.out.size))
        clear hb6
        go_wp2_with fail
        refine (cmp_padr z p q A B x _ (by omega) HP.out HQ.out g1 g2 HV.out).mono ?_
        rintro e w7 ⟨rfl, hb7⟩
        have b7 := Lib.hid (b6.out.trans (hb7.mono b6.out.size))
        clear hb7
        go_wp2_with fail
        refine (zerosNeg _).mono ?_
        rintro e w8 ⟨rfl, hb8⟩
        have b8 := Lib.hid (b7.out.trans (hb8.mono b7.out.size))
        clear hb8
        go_wp2
        go_ret
        exact ⟨rfl, b8.out⟩

set_option maxRecDepth 100000 in
set_option maxHeartbeats 1000000 in
theorem numCmps_walk (a : Option Addr) (la ca : Nat) (L : List UInt8) (b : Option Addr) (lb cb : Nat) (M : List UInt8) (n : Int) (w : World) (hi1 : InB w a la ca L) (hi2 : InB w b lb cb M) (_hn : (Lit.int .i64 n).wf = true) :
    Calls Tryd.prog 7 #[.slice a la ca, .slice b lb cb, .int .i64 n] w fun e w' => e = .returned (.bool true) ∧ Below w.heap.size w w' := by
  by_cases h1 : la ≤ 200
  · by_cases h2 : lb ≤ 200
    · rcases Nat.lt_trichotomy (dig (val (dgs L))).length (dig (val (dgs M))).length with hc | hc | hc
      · exact numCmps_lt a la ca L b lb cb M n w hi1 hi2 h1 h2 hc
      · exact numCmps_eq a la ca L b lb cb M n w hi1 hi2 h1 h2 hc
      · exact numCmps_gt a la ca L b lb cb M n w hi1 hi2 h1 h2 hc
    · have m1 := hi1.2.2.1
      have m2 := hi2.2.2.1
      have m3 := hi1.2.1
      have m4 := hi2.2.1
      unfold maxLen at m1 m2
      clear hi1 hi2
      go_enter Tryd.func7, Tryd.ntmps7
      go_wp2_with fail
      refine (head_any _).mono ?_
      rintro e w1 ⟨rfl, hb1⟩
      go_wp2
      go_ret
      exact ⟨rfl, hb1⟩
  · have m1 := hi1.2.2.1
    have m3 := hi1.2.1
    unfold maxLen at m1
    clear hi1 hi2
    go_enter Tryd.func7, Tryd.ntmps7
    go_wp2_with fail
    refine (head_any _).mono ?_
    rintro e w1 ⟨rfl, hb1⟩
    go_wp2
    go_ret
    exact ⟨rfl, hb1⟩
end Go.Proofs.YtnhaogjkbladaaaDoor
