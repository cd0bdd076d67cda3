/- GlyphReads: whatever texts stand for digits, whatever text. -/
import Derived.Test.YtcdjclidckohpaaDoorLawG5
import Derived.Test.YtcdjclidckohpaaDoorGlL
namespace Go.Proofs.YtcdjclidckohpaaDoor
open Go.RowKit Florin
set_option linter.unusedVariables false
set_option linter.unusedSimpArgs false
/-- The least digit from m on whose text is there. -/
def hitV (g : Nat → ByteArray) (l : List UInt8) (m : Nat) (v : Int) : Prop := (v = -1 ∧ ∀ j, m ≤ j → j < 10 → hitG g l j = false) ∨ (∃ d : Nat, v = d ∧ m ≤ d ∧ d < 10 ∧ hitG g l d = true ∧ ∀ j, m ≤ j → j < d → hitG g l j = false)
theorem hitV_no {g : Nat → ByteArray} {l : List UInt8} {m : Nat} {v : Int} (h : hitV g l (m + 1) v) (hh : hitG g l m = false) : hitV g l m v := by
  rcases h with ⟨rfl, h⟩ | ⟨d, rfl, h1, h2, h3, h4⟩
  · refine .inl ⟨rfl, fun j hj hj2 => ?_⟩
    rcases Nat.eq_or_lt_of_le hj with e | e
    · rw [← e]; exact hh
    · exact h j e hj2
  · refine .inr ⟨d, rfl, by omega, h2, h3, fun j hj hj2 => ?_⟩
    rcases Nat.eq_or_lt_of_le hj with e | e
    · rw [← e]; exact hh
    · exact h4 j e hj2
theorem hitV_yes {g : Nat → ByteArray} {l : List UInt8} {m : Nat} (hm : m < 10) (hh : hitG g l m = true) : hitV g l m (m : Int) := .inr ⟨m, rfl, Nat.le_refl _, hm, hh, fun j hj hj2 => absurd hj2 (by omega)⟩
theorem hitV_end {g : Nat → ByteArray} {l : List UInt8} {v : Int} (h : hitV g l 0 v) : (v = -1 ∧ oneG g l = none) ∨ (∃ d : Nat, v = d ∧ d < 10 ∧ oneG g l = some d) := by
  rcases h with ⟨rfl, h⟩ | ⟨d, rfl, h1, h2, h3, h4⟩
  · exact .inl ⟨rfl, oneG_no (fun j hj => h j (Nat.zero_le _) hj)⟩
  · exact .inr ⟨d, rfl, h2, oneG_at h2 (fun j hj => h4 j (Nat.zero_le _) hj) h3⟩
/-- All that is told of the signs ahead of one. -/
def okTo (g : Nat → ByteArray) (k : Nat) : Bool := (List.range k).all (okG g)
theorem okTo_zero (g : Nat → ByteArray) : okTo g 0 = true := rfl
theorem okTo_succ (g : Nat → ByteArray) (k : Nat) : okTo g (k + 1) = (okTo g k && okG g k) := by unfold okTo; rw [List.range_succ, List.all_append]; simp
def newTo (g : Nat → ByteArray) (k j : Nat) : Bool := (List.range j).all fun i => (g i).data.toList != (g k).data.toList
theorem newTo_zero (g : Nat → ByteArray) (k : Nat) : newTo g k 0 = true := rfl
theorem newTo_succ (g : Nat → ByteArray) (k j : Nat) : newTo g k (j + 1) = (newTo g k j && ((g j).data.toList != (g k).data.toList)) := by unfold newTo; rw [List.range_succ, List.all_append]; simp
theorem one_len (l : List UInt8) : oneL l = ((lead l == l.length) && !l.isEmpty) := by
  rw [Bool.eq_iff_iff, one_iff]
  simp
  exact And.comm
theorem hit_sub (g : Nat → ByteArray) (s : ByteArray) (k m : Nat) (hk : k ≤ s.size) (hn : (g m).size ≤ s.size - k) (he : (g m).toList.isEmpty = false) : ((s.extract k (k + (g m).size)).toList == (g m).toList) = hitG g (s.data.toList.drop k) m := by
  unfold hitG
  rw [emp_iff] at he
  rw [he, ByteArray.toList_eq, ByteArray.toList_eq, ByteArray.data_extract, ← Lib.hasPrefix, ← Lib.hasPrefix_of_take]
  have e1 : (g m).data.toList.length = (g m).size := size_list _
  have e2 : (s.data.toList.drop k).length = s.size - k := by rw [List.length_drop, size_list]
  rw [e1, e2, decide_eq_true hn]
  simp
theorem hit_long (g : Nat → ByteArray) (s : ByteArray) (k m : Nat) (hn : ¬ (g m).size ≤ s.size - k) : hitG g (s.data.toList.drop k) m = false := by
  rw [Bool.eq_false_iff]
  intro h
  have := (hit_len h).2.1
  rw [List.length_drop, size_list] at this
  exact hn this
theorem hit_empty (g : Nat → ByteArray) (l : List UInt8) (m : Nat) (he : (g m).toList.isEmpty = true) : hitG g l m = false := by
  unfold hitG; rw [← emp_iff, he]; rfl
set_option maxRecDepth 100000 in
theorem ex_valid : validG plainG = true := by decide
set_option maxRecDepth 100000 in
theorem ex_write : wrL plainG [48, 49, 50, 51, 52, 53, 54, 55, 56, 57] = [48, 49, 50, 51, 52, 53, 54, 55, 56, 57] := by decide
theorem write_ex (w : World) : Calls Tryd.prog 18 #[SV plainG, .string ⟨#[48, 49, 50, 51, 52, 53, 54, 55, 56, 57]⟩] w fun e w' => e = .returned (.string ⟨#[48, 49, 50, 51, 52, 53, 54, 55, 56, 57]⟩) ∧ Below w.heap.size w w' := by
  have := write_as plainG ⟨#[48, 49, 50, 51, 52, 53, 54, 55, 56, 57]⟩ w (by decide) plain_size (by decide)
  rw [show (⟨#[48, 49, 50, 51, 52, 53, 54, 55, 56, 57]⟩ : ByteArray).data.toList = [48, 49, 50, 51, 52, 53, 54, 55, 56, 57] from rfl, ex_write] at this
  exact this
end Go.Proofs.YtcdjclidckohpaaDoor
