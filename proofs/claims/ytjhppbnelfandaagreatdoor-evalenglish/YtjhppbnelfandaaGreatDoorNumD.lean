/- What cmp.Compare at texts of digits and num.Cmp return, at any world. -/
import Derived.Test.YtjhppbnelfandaaGreatDoorNumC
namespace Go.Proofs.YtjhppbnelfandaaGreatDoor
open Go.RowKit Florin

/-- Of as many digits the order of the texts is that of the numbers. -/
theorem bytesLess_val : ∀ (a b : List UInt8), a.length = b.length → isDig a = true → isDig b = true → Op.bytesLess a b = decide (val a < val b)
  | [], [], _, _, _ => by simp [Op.bytesLess, val]
  | [], _ :: _, h, _, _ => by simp at h
  | _ :: _, [], h, _, _ => by simp at h
  | x :: a, y :: b, h, ha, hb => by
    rw [isDig_cons] at ha hb
    simp only [Bool.and_eq_true] at ha hb
    have hl : a.length = b.length := by simpa using h
    have ih := bytesLess_val a b hl ha.2 hb.2
    have va := val_lt a ha.2
    have vb := val_lt b hb.2
    rw [Op.bytesLess, ih, val_cons, val_cons, hl]
    rw [hl] at va
    have hx := ha.1
    have hy := hb.1
    rw [isD_iff] at hx hy
    generalize val a = A at *
    generalize val b = B at *
    generalize 10 ^ b.length = P at *
    have e1 : (x < y) ↔ dv x < dv y := by rw [UInt8.lt_iff_toNat_lt]; unfold dv; omega
    have e2 : (x = y) ↔ dv x = dv y := by rw [← UInt8.toNat_inj]; unfold dv; omega
    generalize dv x = p at *
    generalize dv y = q at *
    rcases Nat.lt_trichotomy p q with h3 | h3 | h3
    · have : (p + 1) * P ≤ q * P := Nat.mul_le_mul_right _ h3
      rw [Nat.add_mul] at this
      have : p * P + A < q * P + B := by omega
      simp [e1.2 h3, this]
    · subst h3
      have e3 : x = y := e2.2 rfl
      subst e3
      simp
    · have : (q + 1) * P ≤ p * P := Nat.mul_le_mul_right _ h3
      rw [Nat.add_mul] at this
      have h4 : ¬ p * P + A < q * P + B := by omega
      have h5 : ¬ x < y := fun e => by have := e1.1 e; omega
      have h6 : ¬ x = y := fun e => by have := e2.1 e; omega
      simp [h4, h5, h6]

/-- What num.Cmp tells. -/
def cmpv (a b : List UInt8) : Int := if isDig a && isDig b then Lib.compareInt (val a) (val b) else 0

theorem len_mono {a b : List UInt8} (ha : isDig a = true) (hb : isDig b = true) (h : (trim a).length < (trim b).length) : val a < val b := by
  rw [← dig_val ha, ← dig_val hb] at h
  rcases Nat.lt_or_ge (val a) (val b) with h1 | h1
  · exact h1
  · have h2 : val b < 10 ^ (dig (val a)).length := Nat.lt_of_le_of_lt h1 (by have := val_lt _ (isDig_dig (val a)); rwa [val_dig] at this)
    have := (dig_length_le (val b) _).2 h2
    omega
theorem arr_size (l : List UInt8) : (⟨l.toArray⟩ : ByteArray).size = l.length := by simp [ByteArray.size]
theorem arr_list (l : List UInt8) : (⟨l.toArray⟩ : ByteArray).data.toList = l := by simp
theorem size_list (s : ByteArray) : s.data.toList.length = s.size := by simp

theorem compareInt_of_lt {a b : Int} (h : a < b) : Lib.compareInt a b = -1 := by unfold Lib.compareInt; rw [if_pos h]
theorem compareInt_of_gt {a b : Int} (h : b < a) : Lib.compareInt a b = 1 := by unfold Lib.compareInt; rw [if_neg (by omega), if_pos h]
theorem compareInt_self (a : Int) : Lib.compareInt a a = 0 := by unfold Lib.compareInt; rw [if_neg (by omega), if_neg (by omega)]
theorem cmpv_no {a b : List UInt8} (h : (isDig a && isDig b) = false) : cmpv a b = 0 := by unfold cmpv; rw [h]; rfl
theorem cmpv_yes {a b : List UInt8} (h : (isDig a && isDig b) = true) : cmpv a b = Lib.compareInt (val a) (val b) := by unfold cmpv; rw [h]; rfl

end Go.Proofs.YtjhppbnelfandaaGreatDoor
