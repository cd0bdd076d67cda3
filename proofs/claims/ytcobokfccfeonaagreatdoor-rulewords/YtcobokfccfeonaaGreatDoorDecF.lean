/- What someDigits, cutSign of dec and strings.Cut at a point return; where the first e stands. -/
import Derived.Test.YtcobokfccfeonaaGreatDoorDecE
namespace Go.Proofs.YtcobokfccfeonaaGreatDoor
open Go.RowKit Florin

theorem indexByte_dot (l : List UInt8) : (Lib.indexByte l 46 = -1 ∧ l.dropWhile (fun c => c != 46) = [] ∧ l.takeWhile (fun c => c != 46) = l) ∨
    (∃ k : Nat, Lib.indexByte l 46 = k ∧ k < l.length ∧ l.takeWhile (fun c => c != 46) = l.take k ∧ l.dropWhile (fun c => c != 46) = l.drop k ∧ (l.dropWhile (fun c => c != 46)).tail = l.drop (k + 1)) := by
  induction l with
  | nil => left; exact ⟨rfl, rfl, rfl⟩
  | cons a l ih =>
    by_cases h : a = 46
    · subst h
      right
      exact ⟨0, by unfold Lib.indexByte; simp, by simp, by simp, by simp, by simp⟩
    · have hp : (a == 46) = false := by simp [h]
      rcases ih with ⟨i1, i2, i3⟩ | ⟨k, i1, i2, i3, i4, i5⟩
      · left
        refine ⟨?_, ?_, ?_⟩
        · unfold Lib.indexByte; rw [hp, i1]; rfl
        · simp [h, i2]
        · simp [h, i3]
      · right
        refine ⟨k + 1, ?_, by simp; omega, ?_, ?_, ?_⟩
        · unfold Lib.indexByte; rw [hp, i1]
          have : ((k : Int) == -1) = false := by simp
          rw [this]; simp
        · simp [h, i3]
        · simp [h, i4]
        · simp only [List.dropWhile_cons, bne_iff_ne, ne_eq, h, not_false_eq_true, if_true]; rw [i5]; rfl
theorem index_at (s : ByteArray) (w : World) (i : Int) (hi : Lib.indexByte s.data.toList 46 = i) :
    Calls Tryz.prog 70 #[.string s, .string ⟨#[46]⟩] w fun x w' => x = .returned (.int .i64 i) ∧ w = w' :=
  (Tryz.stringslite_Index_one s 46 w).mono fun x w' ⟨hx, hw⟩ => ⟨by rw [hx, hi], hw.symm⟩
theorem ext_take (s : ByteArray) (k : Nat) : (s.extract 0 k) = ⟨(s.data.toList.take k).toArray⟩ := by
  have := cut_arr s.data.toList 0 k
  rw [back_data] at this; rw [this]; simp
theorem ext_drop (s : ByteArray) (k : Nat) : (s.extract k s.size) = ⟨(s.data.toList.drop k).toArray⟩ := by
  have := cut_arr s.data.toList k s.size
  rw [back_data] at this; rw [this, List.take_of_length_le (by rw [List.length_drop, size_list]; omega)]

theorem zero256 (w : World) : (zeroValue 90).run Tryz.prog w = .ok (.agg (Array.replicate 256 (.bool false))) w := by kernel_rfl
end Go.Proofs.YtcobokfccfeonaaGreatDoor
