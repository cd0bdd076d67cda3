/- What someDigits, cutSign of dec and strings.Cut at a point return; where the first e stands. -/
import Derived.Test.YtkjhdehpcanciaaGreatDoorDecE
namespace Go.Proofs.YtkjhdehpcanciaaGreatDoor
open Go.RowKit Florin

theorem indexByte_dot (l : List UInt8) : (Lib.indexByte l 46 = -1 ∧ l.dropWhile (fun c => c != 46) = [] ∧ l.takeWhile (fun c => c != 46) = l) ∨
    (∃ k : Nat, Lib.indexByte l 46 = k ∧ k < l.length ∧ l.takeWhile (fun c => c != 46) = l.take k ∧ l.dropWhile (fun c => c != 46) = l.drop k ∧ (l.dropWhile (fun c => c != 46)).tail = l.drop (k + 1)) := by
  induction l with
  | nil => left; exact ⟨rfl, rfl, rfl⟩
  | cons a l ih =>
    by_cases h : a = 46
    · subst h
      right
      exact ⟨0, by unfold Lib.indexByte; simp, by simp, by simp, by simp, by simp⟩
    · have hp : (a == 46) = false := by simp [h]
      rcases ih with ⟨i1, i2, i3⟩ | ⟨k, i1, i2, i3, i4, i5⟩
      · left
        refine ⟨?_, ?_, ?_⟩
        · unfold Lib.indexByte; rw [hp, i1]; rfl
        · simp [h, i2]
        · simp [h, i3]
      · right
        refine ⟨k + 1, ?_, by simp; omega, ?_, ?_, ?_⟩
        · unfold Lib.indexByte; rw [hp, i1]
          have : ((k : Int) == -1) = false := by simp
          rw [this]; simp
        · simp [h, i3]
        · simp [h, i4]
        · simp only [List.dropWhile_cons, bne_iff_ne, ne_eq, h, not_false_eq_true, if_true]; rw [i5]; rfl
theorem index_at (s : ByteArray) (w : World) (i : Int) (hi : Lib.indexByte s.data.toList 46 = i) :
    Calls Tryz.prog 142 #[.string s, .string ⟨#[46]⟩] w fun x w' => x = .returned (.int .i64 i) ∧ w = w' :=
  (Tryz.stringslite_Index_one s 46 w).mono fun x w' ⟨hx, hw⟩ => ⟨by rw [hx, hi], hw.symm⟩
theorem ext_take (s : ByteArray) (k : Nat) : (s.extract 0 k) = ⟨(s.data.toList.take k).toArray⟩ := by
  have := cut_arr s.data.toList 0 k
  rw [back_data] at this; rw [this]; simp
theorem ext_drop (s : ByteArray) (k : Nat) : (s.extract k s.size) = ⟨(s.data.toList.drop k).toArray⟩ := by
  have := cut_arr s.data.toList k s.size
  rw [back_data] at this; rw [this, List.take_of_length_le (by rw [List.length_drop, size_list]; omega)]

set_option maxRecDepth 100000 in
set_option maxHeartbeats 1600000 in
theorem cutl_yes (s : ByteArray) (w : World) (k : Nat) (hk : Lib.indexByte s.data.toList 46 = k) (hl : k < s.size) (hs : s.size ≤ 1000000) :
    Calls Tryz.prog 116 #[.string s, .string ⟨#[46]⟩] w fun x w' => x = .returned (.tuple #[.string (s.extract 0 k), .string (s.extract (k + 1) s.size), .bool true]) ∧ Below w.heap.size w w' := by
  have HK := Lib.hid hk
  clear hk
  have c1 : (0 : Int) ≤ (k : Int) := by omega
  have c2 : (k : Int) ≤ (s.size : Int) := by omega
  have c3 : (k : Int) + 1 ≤ (s.size : Int) := by omega
  have c4 : (0 : Int) ≤ (k : Int) + 1 := by omega
  go_enter Tryz.func116, Tryz.ntmps116
  go_wp2_with fail
  with_reducible refine (index_at s _ k HK.out).mono ?_
  rintro x w' ⟨rfl, rfl⟩
  go_wp2_with fail
  go_quiet (fail)
  go_wp2
  go_ret3
  exact ⟨rfl, Joins.below_draws _ _ _⟩
set_option maxHeartbeats 1600000 in
theorem cutl_no (s : ByteArray) (w : World) (hk : Lib.indexByte s.data.toList 46 = -1) :
    Calls Tryz.prog 116 #[.string s, .string ⟨#[46]⟩] w fun x w' => x = .returned (.tuple #[.string s, .string ⟨#[]⟩, .bool false]) ∧ Below w.heap.size w w' := by
  have HK := Lib.hid hk
  clear hk
  go_enter Tryz.func116, Tryz.ntmps116
  go_wp2_with fail
  with_reducible refine (index_at s _ (-1) HK.out).mono ?_
  rintro x w' ⟨rfl, rfl⟩
  go_wp2
  go_ret3
  exact ⟨rfl, Below.refl _ _⟩
/-- strings.Cut at a point. -/
theorem cutl_as (s : ByteArray) (w : World) (hs : s.size ≤ 1000000) (a b : List UInt8) (z : Bool) (ha : s.data.toList.takeWhile (fun c => c != 46) = a) (hb : (s.data.toList.dropWhile (fun c => c != 46)).tail = b) (hz : (s.data.toList.dropWhile (fun c => c != 46)).isEmpty = !z) :
    Calls Tryz.prog 116 #[.string s, .string ⟨#[46]⟩] w fun x w' => x = .returned (.tuple #[S a, S b, .bool z]) ∧ Below w.heap.size w w' := by
  rcases indexByte_dot s.data.toList with ⟨h1, h2, h3⟩ | ⟨k, h1, h2, h3, h4, h5⟩
  · refine (cutl_no s w h1).mono fun x w' ⟨hx, hw⟩ => ⟨?_, hw⟩
    rw [h3] at ha
    rw [h2] at hb hz
    have hz' : z = false := by cases z <;> simp_all
    subst ha hb hz'
    rw [hx]
    show _ = Ending.returned (.tuple #[.string ⟨s.data.toList.toArray⟩, .string ⟨#[]⟩, .bool false])
    rw [back_data]
  · refine (cutl_yes s w k h1 (by rw [← size_list]; exact h2) hs).mono fun x w' ⟨hx, hw⟩ => ⟨?_, hw⟩
    rw [h3] at ha
    rw [h5] at hb
    have hz' : z = true := by
      rw [h4, List.isEmpty_eq_false_iff.2 (by intro e; have := congrArg List.length e; simp at this; rw [size_list] at h2; omega)] at hz
      cases z <;> simp_all
    subst ha hb hz'
    rw [hx, ext_take, ext_drop]
set_option maxHeartbeats 1600000 in
theorem cut_as (s : ByteArray) (w : World) (hs : s.size ≤ 1000000) (a b : List UInt8) (z : Bool) (ha : s.data.toList.takeWhile (fun c => c != 46) = a) (hb : (s.data.toList.dropWhile (fun c => c != 46)).tail = b) (hz : (s.data.toList.dropWhile (fun c => c != 46)).isEmpty = !z) :
    Calls Tryz.prog 88 #[.string s, .string ⟨#[46]⟩] w fun x w' => x = .returned (.tuple #[S a, S b, .bool z]) ∧ Below w.heap.size w w' := by
  have HA := Lib.hid ha
  have HB := Lib.hid hb
  have HZ := Lib.hid hz
  clear ha hb hz
  go_enter Tryz.func88, Tryz.ntmps88
  go_wp2_with fail
  with_reducible refine (cutl_as s _ hs a b z HA.out HB.out HZ.out).mono ?_
  rintro x w1 ⟨rfl, hb⟩
  have HB1 := Lib.hid hb
  clear hb
  go_wp2
  go_ret3
  exact ⟨rfl, HB1.out⟩

/-- strings.IndexAny at e and E tells, of this text, where the first one stands. -/
def IxOK (s : ByteArray) : Prop := ∀ (w : World), Calls Tryz.prog 86 #[.string s, .string ⟨#[101, 69]⟩] w fun x w' => x = .returned (.int .i64 (Lib.indexAny s.data.toList [101, 69])) ∧ Below w.heap.size w w'
theorem zero256 (w : World) : (zeroValue 147).run Tryz.prog w = .ok (.agg (Array.replicate 256 (.bool false))) w := by kernel_rfl
theorem ix_long (s : ByteArray) (h8 : 8 < s.size) (hs : s.size ≤ 1000000) : IxOK s := fun w =>
  (Tryz.strings_IndexAny_long zero256 s ⟨#[101, 69]⟩ w (by decide) h8 (by omega) (by decide) (by
    intro j b hj
    match j, hj with
    | 0, hj => simp at hj; subst hj; decide
    | 1, hj => simp at hj; subst hj; decide
    | j + 2, hj => simp at hj)).mono fun x w' ⟨hx, hw⟩ => ⟨hx, by rw [hw]; exact below_alloc2 w _ _⟩
theorem ix_short (s : ByteArray) (h8 : s.size ≤ 8) (ha : ∀ c ∈ s.data.toList, c.toNat < 128) : IxOK s := fun w =>
  (Tryz.strings_IndexAny_short s ⟨#[101, 69]⟩ w (by decide) h8 (by
    intro j b hj
    exact ha b (List.mem_of_getElem? hj))).mono fun x w' ⟨hx, pos, hw⟩ => ⟨hx, by rw [hw]; exact below_alloc w _⟩
theorem ix_ascii (s : ByteArray) (hs : s.size ≤ 1000000) (ha : ∀ c ∈ s.data.toList, c.toNat < 128) : IxOK s := by
  by_cases h : 8 < s.size
  · exact ix_long s h hs
  · exact ix_short s (by omega) ha
theorem ix_as {s : ByteArray} (h : IxOK s) (w : World) (i : Int) (hi : Lib.indexAny s.data.toList [101, 69] = i) :
    Calls Tryz.prog 86 #[.string s, .string ⟨#[101, 69]⟩] w fun x w' => x = .returned (.int .i64 i) ∧ Below w.heap.size w w' := by
  subst hi; exact h w
end Go.Proofs.YtkjhdehpcanciaaGreatDoor
