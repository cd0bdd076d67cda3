/- What num.digitAt, column, bare, num.allDigits and num.Cmp return, at any world. -/
import Derived.Test.YtkjhdehpcanciaaGreatDoorNumB
namespace Go.Proofs.YtkjhdehpcanciaaGreatDoor
open Go.RowKit Florin

theorem plc_byte (s : ByteArray) (k : Nat) (hd : isDig s.data.toList = true) (h : k < s.size) : isD (s[s.size - 1 - k]'(by omega)) = true ∧ plc s.data.toList k = dv (s[s.size - 1 - k]'(by omega)) := by
  have hl : s.data.toList.length = s.size := by simp
  constructor
  · unfold isDig at hd
    rw [List.all_eq_true] at hd
    exact hd _ (by simp [ByteArray.getElem_eq_getElem_data])
  · rw [plc_lt hd (by omega)]
    simp [ByteArray.getElem_eq_getElem_data]

set_option maxHeartbeats 400000 in
theorem digitAt_any (s : ByteArray) (k : Nat) (w : World) (hs : s.size ≤ maxLen) (hd : isDig s.data.toList = true) :
    Calls Tryz.prog 51 #[.string s, .int .i64 k] w fun e w' => e = .returned (.int .i64 (plc s.data.toList k)) ∧ w = w' := by
  unfold maxLen at hs
  by_cases h : k < s.size
  · obtain ⟨h1, h2⟩ := plc_byte s k hd h
    have H2 := Lib.hid h2
    have H1 := Lib.hid h1
    clear h2 hd h1
    go_enter Tryz.func51, Tryz.ntmps51
    go_wp2_with fail
    refine (digitValue_any _ _ H1.out).mono ?_
    rintro e w' ⟨rfl, rfl⟩
    go_wp2
    go_ret
    exact ⟨ret_int (by rw [H2.out]), rfl⟩
  · have h2 := plc_ge (i := k) hd (by simp; omega)
    have H2 := Lib.hid h2
    clear h2 hd
    go_enter Tryz.func51, Tryz.ntmps51
    go_wp2
    go_ret
    exact ⟨ret_int (by rw [H2.out]; rfl), rfl⟩

theorem drop_one (t : ByteArray) (h : 0 < t.size) : t.data.toList = t[0] :: (t.extract 1 t.size).data.toList := by
  rw [Lib.extract_data]
  have hl : t.data.toList.length = t.size := by simp
  cases hc : t.data.toList with
  | nil => rw [hc] at hl; simp at hl; omega
  | cons c l =>
    rw [hc] at hl
    have : t[0] = c := by
      have e : t[0] = t.data.toList[0]'(by rw [hc]; simp) := by simp [ByteArray.getElem_eq_getElem_data]
      rw [e]; simp [hc]
    rw [this]; simp at hl ⊢; rw [List.take_of_length_le (by omega)]
theorem back_data (t : ByteArray) : (⟨t.data.toList.toArray⟩ : ByteArray) = t := by simp

set_option maxHeartbeats 400000 in
/-- Two texts, asked whether both are digits. -/
theorem allDigits_two (b : Nat) (s t : ByteArray) (w : World) (hs : s.size ≤ maxLen) (ht : t.size ≤ maxLen)
    (hc0 : w.cell? ⟨b, 0, none⟩ = some (.string s)) (hc1 : w.cell? ⟨b, 1, none⟩ = some (.string t)) :
    Calls Tryz.prog 50 #[.slice (some ⟨b, 0, none⟩) 2 2] w fun e w' => e = .returned (.bool (isDig s.data.toList && isDig t.data.toList)) ∧ w = w' := by
  by_cases h0 : isDig s.data.toList = true
  · by_cases h1 : isDig t.data.toList = true
    · go_enter Tryz.func50, Tryz.ntmps50
      go_wp2
      refine wp_loop_rounds 3 ?_
      rw [rounds_succ]
      go_wp2_with fail
      refine (is_any _ _ hs).mono ?_
      rintro e w' ⟨rfl, rfl⟩
      go_wp2_with fail
      rw [rounds_succ]
      go_wp2_with fail
      refine (is_any _ _ ht).mono ?_
      rintro e w' ⟨rfl, rfl⟩
      go_wp2_with fail
      rw [rounds_succ]
      go_wp2
      go_ret
      exact ⟨ret_bool (by rw [h0, h1]; rfl), rfl⟩
    · have h1' : isDig t.data.toList = false := by simpa using h1
      clear h1
      go_enter Tryz.func50, Tryz.ntmps50
      go_wp2
      refine wp_loop_rounds 3 ?_
      rw [rounds_succ]
      go_wp2_with fail
      refine (is_any _ _ hs).mono ?_
      rintro e w' ⟨rfl, rfl⟩
      go_wp2_with fail
      rw [rounds_succ]
      go_wp2_with fail
      refine (is_any _ _ ht).mono ?_
      rintro e w' ⟨rfl, rfl⟩
      go_wp2
      go_ret
      exact ⟨ret_bool (by rw [h0, h1']; rfl), rfl⟩
  · have h0' : isDig s.data.toList = false := by simpa using h0
    clear h0
    go_enter Tryz.func50, Tryz.ntmps50
    go_wp2
    refine wp_loop_rounds 3 ?_
    rw [rounds_succ]
    go_wp2_with fail
    refine (is_any _ _ hs).mono ?_
    rintro e w' ⟨rfl, rfl⟩
    go_wp2
    go_ret
    exact ⟨ret_bool (by rw [h0']; rfl), rfl⟩
theorem allDigits_yes (b : Nat) (s t : ByteArray) (w : World) (hs : s.size ≤ maxLen) (ht : t.size ≤ maxLen) (h0 : isDig s.data.toList = true) (h1 : isDig t.data.toList = true)
    (hc0 : w.cell? ⟨b, 0, none⟩ = some (.string s)) (hc1 : w.cell? ⟨b, 1, none⟩ = some (.string t)) :
    Calls Tryz.prog 50 #[.slice (some ⟨b, 0, none⟩) 2 2] w fun e w' => e = .returned (.bool true) ∧ w = w' :=
  (allDigits_two b s t w hs ht hc0 hc1).mono fun e w' ⟨he, hw⟩ => ⟨by rw [he, h0, h1]; rfl, hw⟩
theorem allDigits_no (b : Nat) (s t : ByteArray) (w : World) (hs : s.size ≤ maxLen) (ht : t.size ≤ maxLen) (h0 : (isDig s.data.toList && isDig t.data.toList) = false)
    (hc0 : w.cell? ⟨b, 0, none⟩ = some (.string s)) (hc1 : w.cell? ⟨b, 1, none⟩ = some (.string t)) :
    Calls Tryz.prog 50 #[.slice (some ⟨b, 0, none⟩) 2 2] w fun e w' => e = .returned (.bool false) ∧ w = w' :=
  (allDigits_two b s t w hs ht hc0 hc1).mono fun e w' ⟨he, hw⟩ => ⟨by rw [he, h0], hw⟩
theorem is_yes (s : ByteArray) (w : World) (hs : s.size ≤ maxLen) (h : isDig s.data.toList = true) :
    Calls Tryz.prog 53 #[.string s] w fun e w' => e = .returned (.bool true) ∧ w = w' :=
  (is_any s w hs).mono fun e w' ⟨he, hw⟩ => ⟨by rw [he, h], hw⟩
theorem is_no (s : ByteArray) (w : World) (hs : s.size ≤ maxLen) (h : isDig s.data.toList = false) :
    Calls Tryz.prog 53 #[.string s] w fun e w' => e = .returned (.bool false) ∧ w = w' :=
  (is_any s w hs).mono fun e w' ⟨he, hw⟩ => ⟨by rw [he, h], hw⟩
end Go.Proofs.YtkjhdehpcanciaaGreatDoor
