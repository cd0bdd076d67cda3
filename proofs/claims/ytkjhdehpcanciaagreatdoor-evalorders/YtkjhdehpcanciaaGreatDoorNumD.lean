/- What cmp.Compare at texts of digits and num.Cmp return, at any world. -/
import Derived.Test.YtkjhdehpcanciaaGreatDoorNumC
namespace Go.Proofs.YtkjhdehpcanciaaGreatDoor
open Go.RowKit Florin

/-- Of as many digits the order of the texts is that of the numbers. -/
theorem bytesLess_val : ∀ (a b : List UInt8), a.length = b.length → isDig a = true → isDig b = true → Op.bytesLess a b = decide (val a < val b)
  | [], [], _, _, _ => by simp [Op.bytesLess, val]
  | [], _ :: _, h, _, _ => by simp at h
  | _ :: _, [], h, _, _ => by simp at h
  | x :: a, y :: b, h, ha, hb => by
    rw [isDig_cons] at ha hb
    simp only [Bool.and_eq_true] at ha hb
    have hl : a.length = b.length := by simpa using h
    have ih := bytesLess_val a b hl ha.2 hb.2
    have va := val_lt a ha.2
    have vb := val_lt b hb.2
    rw [Op.bytesLess, ih, val_cons, val_cons, hl]
    rw [hl] at va
    have hx := ha.1
    have hy := hb.1
    rw [isD_iff] at hx hy
    generalize val a = A at *
    generalize val b = B at *
    generalize 10 ^ b.length = P at *
    have e1 : (x < y) ↔ dv x < dv y := by rw [UInt8.lt_iff_toNat_lt]; unfold dv; omega
    have e2 : (x = y) ↔ dv x = dv y := by rw [← UInt8.toNat_inj]; unfold dv; omega
    generalize dv x = p at *
    generalize dv y = q at *
    rcases Nat.lt_trichotomy p q with h3 | h3 | h3
    · have : (p + 1) * P ≤ q * P := Nat.mul_le_mul_right _ h3
      rw [Nat.add_mul] at this
      have : p * P + A < q * P + B := by omega
      simp [e1.2 h3, this]
    · subst h3
      have e3 : x = y := e2.2 rfl
      subst e3
      simp
    · have : (q + 1) * P ≤ p * P := Nat.mul_le_mul_right _ h3
      rw [Nat.add_mul] at this
      have h4 : ¬ p * P + A < q * P + B := by omega
      have h5 : ¬ x < y := fun e => by have := e1.1 e; omega
      have h6 : ¬ x = y := fun e => by have := e2.1 e; omega
      simp [h4, h5, h6]

set_option maxHeartbeats 400000 in
theorem compareStr_any (s t : ByteArray) (w : World) (hl : s.size = t.size) (hs : isDig s.data.toList = true) (ht : isDig t.data.toList = true) :
    Calls Tryz.prog 102 #[.string s, .string t] w fun e w' => e = .returned (.int .i64 (Lib.compareInt (val s.data.toList) (val t.data.toList))) ∧ w = w' := by
  have hl' : s.data.toList.length = t.data.toList.length := by simpa using hl
  have e1 : Op.bytesLess s.toList t.toList = decide (val s.data.toList < val t.data.toList) := by
    rw [Lib.toList_data, Lib.toList_data, bytesLess_val _ _ hl' hs ht]
  have e2 : (s.toList == t.toList) = decide (val s.data.toList = val t.data.toList) := by
    rw [Lib.toList_data, Lib.toList_data]
    by_cases h : s.data.toList = t.data.toList
    · rw [h]; simp
    · have : val s.data.toList ≠ val t.data.toList := fun e => h (dig_inj hs ht hl' e)
      rw [beq_eq_false_iff_ne.2 h]; simp [this]
  have hfin : ∀ a b : Nat, Lib.compareInt a b = if a < b then -1 else if a = b then 0 else 1 := by
    intro a b; unfold Lib.compareInt; split <;> split <;> (try split) <;> omega
  have HF := Lib.hid (hfin (val s.data.toList) (val t.data.toList))
  clear hfin hl' hs ht hl
  generalize val s.data.toList = a at *
  generalize val t.data.toList = b at *
  rcases Nat.lt_trichotomy a b with h | h | h
  · have f1 : Op.bytesLess s.toList t.toList = true := by rw [e1]; simp [h]
    clear e1 e2
    go_enter Tryz.func102, Tryz.ntmps102
    go_wp2
    go_ret
    exact ⟨ret_int (by rw [HF.out, if_pos h]), rfl⟩
  · have f1 : Op.bytesLess s.toList t.toList = false := by rw [e1]; simp [h]
    have f2 : (s.toList == t.toList) = true := by rw [e2]; simp [h]
    have H := Lib.hid h
    clear e1 e2 h
    go_enter Tryz.func102, Tryz.ntmps102
    go_wp2
    go_ret
    exact ⟨ret_int (by rw [HF.out, if_neg (by have := H.out; omega), if_pos H.out]), rfl⟩
  · have f1 : Op.bytesLess s.toList t.toList = false := by rw [e1]; simp; omega
    have f2 : (s.toList == t.toList) = false := by rw [e2]; simp; omega
    clear e1 e2
    go_enter Tryz.func102, Tryz.ntmps102
    go_wp2
    go_ret
    exact ⟨ret_int (by rw [HF.out, if_neg (by omega), if_neg (by omega)]), rfl⟩

/-- What num.Cmp tells. -/
def cmpv (a b : List UInt8) : Int := if isDig a && isDig b then Lib.compareInt (val a) (val b) else 0

theorem len_mono {a b : List UInt8} (ha : isDig a = true) (hb : isDig b = true) (h : (trim a).length < (trim b).length) : val a < val b := by
  rw [← dig_val ha, ← dig_val hb] at h
  rcases Nat.lt_or_ge (val a) (val b) with h1 | h1
  · exact h1
  · have h2 : val b < 10 ^ (dig (val a)).length := Nat.lt_of_le_of_lt h1 (by have := val_lt _ (isDig_dig (val a)); rwa [val_dig] at this)
    have := (dig_length_le (val b) _).2 h2
    omega
theorem arr_size (l : List UInt8) : (⟨l.toArray⟩ : ByteArray).size = l.length := by simp [ByteArray.size]
theorem arr_list (l : List UInt8) : (⟨l.toArray⟩ : ByteArray).data.toList = l := by simp
theorem size_list (s : ByteArray) : s.data.toList.length = s.size := by simp

theorem compareInt_of_lt {a b : Int} (h : a < b) : Lib.compareInt a b = -1 := by unfold Lib.compareInt; rw [if_pos h]
theorem compareInt_of_gt {a b : Int} (h : b < a) : Lib.compareInt a b = 1 := by unfold Lib.compareInt; rw [if_neg (by omega), if_pos h]
theorem compareInt_self (a : Int) : Lib.compareInt a a = 0 := by unfold Lib.compareInt; rw [if_neg (by omega), if_neg (by omega)]
theorem cmpv_no {a b : List UInt8} (h : (isDig a && isDig b) = false) : cmpv a b = 0 := by unfold cmpv; rw [h]; rfl
theorem cmpv_yes {a b : List UInt8} (h : (isDig a && isDig b) = true) : cmpv a b = Lib.compareInt (val a) (val b) := by unfold cmpv; rw [h]; rfl

set_option maxHeartbeats 800000 in
theorem cmp_any (s t : ByteArray) (w : World) (hs : s.size ≤ maxLen) (ht : t.size ≤ maxLen) :
    Calls Tryz.prog 73 #[.string s, .string t] w fun e w' => e = .returned (.int .i64 (cmpv s.data.toList t.data.toList)) ∧ Below w.heap.size w w' := by
  by_cases h0 : (isDig s.data.toList && isDig t.data.toList) = true
  · have h1 := h0
    simp only [Bool.and_eq_true] at h1
    obtain ⟨d1, d2⟩ := h1
    have HC := Lib.hid (cmpv_yes h0)
    have M1 := Lib.hid (len_mono d1 d2)
    have M2 := Lib.hid (len_mono d2 d1)
    have D1 := Lib.hid d1
    have D2 := Lib.hid d2
    clear d1 d2
    by_cases hl : (trim s.data.toList).length = (trim t.data.toList).length
    · have hb : (((trim s.data.toList).length : Int) != ((trim t.data.toList).length : Int)) = false := by simp [hl]
      have HL := Lib.hid hl
      clear hl
      go_enter Tryz.func73, Tryz.ntmps73
      go_wp2_with fail
      refine (allDigits_two _ s t _ hs ht (by simp) (by simp)).mono ?_
      rintro e w' ⟨rfl, rfl⟩
      go_wp2_with fail
      refine (trim_yes _ _ hs D1.out).mono ?_
      rintro e w' ⟨rfl, rfl⟩
      go_wp2_with fail
      refine (trim_yes _ _ ht D2.out).mono ?_
      rintro e w' ⟨rfl, rfl⟩
      go_wp2_with fail
      refine (compareStr_any _ _ _ (by rw [arr_size, arr_size]; exact HL.out) (by rw [arr_list]; exact isDig_trim _ D1.out) (by rw [arr_list]; exact isDig_trim _ D2.out)).mono ?_
      rintro e w' ⟨rfl, rfl⟩
      go_wp2
      go_ret
      refine ⟨ret_int ?_, (Below.refl _ _).alloc (Nat.le_refl _) _⟩
      rw [HC.out, arr_list, arr_list, val_trim, val_trim]
    · have hb : (((trim s.data.toList).length : Int) != ((trim t.data.toList).length : Int)) = true := by simp; omega
      have HL := Lib.hid hl
      clear hl
      go_enter Tryz.func73, Tryz.ntmps73
      go_wp2_with fail
      refine (allDigits_two _ s t _ hs ht (by simp) (by simp)).mono ?_
      rintro e w' ⟨rfl, rfl⟩
      go_wp2_with fail
      refine (trim_yes _ _ hs D1.out).mono ?_
      rintro e w' ⟨rfl, rfl⟩
      go_wp2_with fail
      refine (trim_yes _ _ ht D2.out).mono ?_
      rintro e w' ⟨rfl, rfl⟩
      go_wp2_with fail
      refine (Tryz.cmp_Compare_int _ _ _).mono ?_
      rintro e w' ⟨rfl, rfl⟩
      go_wp2
      go_ret
      refine ⟨ret_int ?_, (Below.refl _ _).alloc (Nat.le_refl _) _⟩
      rw [HC.out]
      have k1 := M1.out
      have k2 := M2.out
      have k3 := HL.out
      rcases Nat.lt_or_ge (trim s.data.toList).length (trim t.data.toList).length with h | h
      · have := k1 h
        rw [compareInt_of_lt (by omega), compareInt_of_lt (by omega)]
      · have := k2 (by omega)
        rw [compareInt_of_gt (by omega), compareInt_of_gt (by omega)]
  · have h1 : (isDig s.data.toList && isDig t.data.toList) = false := by simpa using h0
    have HC := Lib.hid (cmpv_no h1)
    clear h0
    go_enter Tryz.func73, Tryz.ntmps73
    go_wp2_with fail
    refine (allDigits_two _ s t _ hs ht (by simp) (by simp)).mono ?_
    rintro e w' ⟨rfl, rfl⟩
    go_wp2
    go_ret
    exact ⟨ret_int HC.out.symm, (Below.refl _ _).alloc (Nat.le_refl _) _⟩
end Go.Proofs.YtkjhdehpcanciaaGreatDoor
