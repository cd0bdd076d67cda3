/- What num.digitAt, column, bare, num.allDigits and num.Cmp return, at any world. -/
import Derived.Test.YtjhppbnelfandaaGreatDoorNumB
namespace Go.Proofs.YtjhppbnelfandaaGreatDoor
open Go.RowKit Florin

theorem plc_byte (s : ByteArray) (k : Nat) (hd : isDig s.data.toList = true) (h : k < s.size) : isD (s[s.size - 1 - k]'(by omega)) = true ∧ plc s.data.toList k = dv (s[s.size - 1 - k]'(by omega)) := by
  have hl : s.data.toList.length = s.size := by simp
  constructor
  · unfold isDig at hd
    rw [List.all_eq_true] at hd
    exact hd _ (by simp [ByteArray.getElem_eq_getElem_data])
  · rw [plc_lt hd (by omega)]
    simp [ByteArray.getElem_eq_getElem_data]

theorem drop_one (t : ByteArray) (h : 0 < t.size) : t.data.toList = t[0] :: (t.extract 1 t.size).data.toList := by
  rw [Lib.extract_data]
  have hl : t.data.toList.length = t.size := by simp
  cases hc : t.data.toList with
  | nil => rw [hc] at hl; simp at hl; omega
  | cons c l =>
    rw [hc] at hl
    have : t[0] = c := by
      have e : t[0] = t.data.toList[0]'(by rw [hc]; simp) := by simp [ByteArray.getElem_eq_getElem_data]
      rw [e]; simp [hc]
    rw [this]; simp at hl ⊢; rw [List.take_of_length_le (by omega)]
theorem back_data (t : ByteArray) : (⟨t.data.toList.toArray⟩ : ByteArray) = t := by simp

theorem is_yes (s : ByteArray) (w : World) (hs : s.size ≤ maxLen) (h : isDig s.data.toList = true) :
    Calls Tryz.prog 22 #[.string s] w fun e w' => e = .returned (.bool true) ∧ w = w' :=
  (is_any s w hs).mono fun e w' ⟨he, hw⟩ => ⟨by rw [he, h], hw⟩
theorem is_no (s : ByteArray) (w : World) (hs : s.size ≤ maxLen) (h : isDig s.data.toList = false) :
    Calls Tryz.prog 22 #[.string s] w fun e w' => e = .returned (.bool false) ∧ w = w' :=
  (is_any s w hs).mono fun e w' ⟨he, hw⟩ => ⟨by rw [he, h], hw⟩
end Go.Proofs.YtjhppbnelfandaaGreatDoor
