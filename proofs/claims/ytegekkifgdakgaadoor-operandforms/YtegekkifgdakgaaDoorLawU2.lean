/- The walk of the law OperandForms. -/
import Derived.Test.YtegekkifgdakgaaDoorMOpr
namespace Go.Proofs.YtegekkifgdakgaaDoor
open Go.RowKit Florin
set_option linter.unusedVariables false
set_option linter.unusedSimpArgs false
attribute [local go_sem ↓] eq_OL

set_option maxRecDepth 100000 in
set_option maxHeartbeats 1600000 in
theorem forms_n (s : ByteArray) (w : World) (hs : s.size ≤ 100) (hr : readO s.data.toList = ⟨[], [], 0⟩) (he : errO s.data.toList = 1) (hf : okO s.data.toList = false) :
    Calls Tryd.prog 8 #[.string s] w fun x w' => x = .returned (.bool true) ∧ Below w.heap.size w w' := by
  have HR := Lib.hid hr
  have HE := Lib.hid he
  have HF := Lib.hid hf
  clear hr he hf
  go_enter Tryd.func8, Tryd.ntmps8
  go_wp2_with fail
  with_reducible refine (head5 _).mono ?_
  rintro x w1 ⟨rfl, hb⟩
  have H1 : Hid (HeldL w [] w1) := Lib.hid (HeldL.keep (HeldL.refl w) hb)
  clear hb
  go_wp2_with fail
  with_reducible refine (read_as s _ (by omega) ⟨[], [], 0⟩ 1 HR.out HE.out).mono ?_
  rintro x w2 ⟨rfl, hb⟩
  have H2 : Hid (HeldL w [] w2) := Lib.hid (HeldL.keep H1.out hb)
  clear H1
  clear hb
  go_wp2_with fail
  with_reducible refine (form_as s _ (by omega) false HF.out).mono ?_
  rintro x wz ⟨rfl, rfl⟩
  go_wp2
  go_ret
  exact ⟨rfl, (HeldL.alloc H2.out (w2.heap.size) #[.string ⟨#[]⟩, .string ⟨#[]⟩, .int .i64 0] 48 (by simp)).bel⟩

set_option maxRecDepth 100000 in
set_option maxHeartbeats 1600000 in
theorem forms_l (s : ByteArray) (w : World) (hs : s.size ≤ 100) (hr : readO s.data.toList = ⟨[], [], 0⟩) (he : errO s.data.toList = 2) (hf : okO s.data.toList = true) :
    Calls Tryd.prog 8 #[.string s] w fun x w' => x = .returned (.bool true) ∧ Below w.heap.size w w' := by
  have HR := Lib.hid hr
  have HE := Lib.hid he
  have HF := Lib.hid hf
  clear hr he hf
  go_enter Tryd.func8, Tryd.ntmps8
  go_wp2_with fail
  with_reducible refine (head5 _).mono ?_
  rintro x w1 ⟨rfl, hb⟩
  have H1 : Hid (HeldL w [] w1) := Lib.hid (HeldL.keep (HeldL.refl w) hb)
  clear hb
  go_wp2_with fail
  with_reducible refine (read_as s _ (by omega) ⟨[], [], 0⟩ 2 HR.out HE.out).mono ?_
  rintro x w2 ⟨rfl, hb⟩
  have H2 : Hid (HeldL w [] w2) := Lib.hid (HeldL.keep H1.out hb)
  clear H1
  clear hb
  go_wp2_with fail
  with_reducible refine (form_as s _ (by omega) true HF.out).mono ?_
  rintro x wz ⟨rfl, rfl⟩
  go_wp2
  go_ret
  exact ⟨rfl, (HeldL.alloc H2.out (w2.heap.size) #[.string ⟨#[]⟩, .string ⟨#[]⟩, .int .i64 0] 48 (by simp)).bel⟩

set_option maxRecDepth 100000 in
set_option maxHeartbeats 1600000 in
theorem forms_o (s : ByteArray) (w : World) (hs : s.size ≤ 100) (o : Og) (hr : readO s.data.toList = o) (he : errO s.data.toList = 0) (hf : okO s.data.toList = true) (l1 : o.i.length ≤ 1000000) (l2 : o.f.length ≤ 1000000) (d1 : isDig o.i = true) (d2 : isDig o.f = true) :
    Calls Tryd.prog 8 #[.string s] w fun x w' => x = .returned (.bool true) ∧ Below w.heap.size w w' := by
  have HR := Lib.hid hr
  have HE := Lib.hid he
  have HF := Lib.hid hf
  clear hr he hf
  have D1 := Lib.hid d1
  have D2 := Lib.hid d2
  clear d1 d2
  go_enter Tryd.func8, Tryd.ntmps8
  go_wp2_with fail
  with_reducible refine (head5 _).mono ?_
  rintro x w1 ⟨rfl, hb⟩
  have H1 : Hid (HeldL w [] w1) := Lib.hid (HeldL.keep (HeldL.refl w) hb)
  clear hb
  go_wp2_with fail
  with_reducible refine (read_as s _ (by omega) o 0 HR.out HE.out).mono ?_
  rintro x w2 ⟨rfl, hb⟩
  have H2 : Hid (HeldL w [] w2) := Lib.hid (HeldL.keep H1.out hb)
  clear H1
  clear hb
  go_wp2_with fail
  with_reducible refine (form_as s _ (by omega) true HF.out).mono ?_
  rintro x wz ⟨rfl, rfl⟩
  go_wp2_with fail
  with_reducible refine (isS o.i _ l1 D1.out).mono ?_
  rintro x wz ⟨rfl, rfl⟩
  go_wp2_with fail
  with_reducible refine (isS o.f _ l2 D2.out).mono ?_
  rintro x wz ⟨rfl, rfl⟩
  go_wp2
  go_ret
  exact ⟨rfl, (HeldL.alloc H2.out (w2.heap.size) #[S o.i, S o.f, .int .i64 o.e] 48 (by simp)).bel⟩

set_option maxHeartbeats 800000 in
theorem forms_s (s : ByteArray) (w : World) (hs : 100 < s.size) :
    Calls Tryd.prog 8 #[.string s] w fun x w' => x = .returned (.bool true) ∧ Below w.heap.size w w' := by
  go_enter Tryd.func8, Tryd.ntmps8
  go_wp2_with fail
  with_reducible refine (head5 _).mono ?_
  rintro x w1 ⟨rfl, hb⟩
  have H1 : Hid (HeldL w [] w1) := Lib.hid (HeldL.keep (HeldL.refl w) hb)
  clear hb
  go_wp2
  go_ret
  exact ⟨rfl, H1.out.bel⟩

theorem bare_dig2 (l : List UInt8) : isDig (bare l) = true := by
  unfold bare
  split
  · rename_i h; exact isDig_trim l h
  · rfl
theorem bare_le (l : List UInt8) : (bare l).length ≤ l.length := by
  unfold bare; split
  · exact trim_length_le l
  · simp
theorem operandForms_walk (s : ByteArray) (w : World) (_hs : s.size ≤ maxLen) :
    Calls Tryd.prog 8 #[.string s] w fun x w' => x = .returned (.bool true) ∧ Below w.heap.size w w' := by
  by_cases hs : s.size ≤ 100
  · have sl : s.data.toList.length ≤ 100 := by rw [size_list]; exact hs
    have al : (cA s.data.toList).length ≤ 100 := Nat.le_trans (List.takeWhile_prefix _).length_le sl
    have wl : (whO s.data.toList).length ≤ 100 := Nat.le_trans (List.takeWhile_prefix _).length_le al
    have fl : (frO s.data.toList).length ≤ 100 := by
      unfold frO pbO
      rw [List.length_tail]
      have := (List.dropWhile_sublist (l := cA s.data.toList) (fun c => c != 46)).length_le
      omega
    cases hf : okO s.data.toList with
    | false => exact forms_n s w hs (by unfold readO; rw [hf]; rfl) (by unfold errO; rw [hf]; rfl) hf
    | true =>
      cases hl : longO s.data.toList with
      | true => exact forms_l s w hs (by unfold readO; rw [hf, hl]; rfl) (by unfold errO; rw [hf, hl]; rfl) hf
      | false =>
        have hff : isDig (frO s.data.toList) = true := by
          unfold okO at hf
          simp only [Bool.and_eq_true, Bool.or_eq_true] at hf
          rcases hf.2.2 with h | h
          · have : pbO s.data.toList = [] := by simpa using h
            unfold frO; rw [this]; rfl
          · exact ((sdig_iff _).1 h).2
        have hk := kOf_le ((val (pwO s.data.toList) : Nat) : Int)
        refine forms_o s w hs (ofP ⟨false, whO s.data.toList, frO s.data.toList⟩ (val (pwO s.data.toList))) (by unfold readO; rw [hf, hl]; rfl) (by unfold errO; rw [hf, hl]; rfl) hf ?_ ?_ ?_ ?_
        · unfold ofP; simp only
          refine Nat.le_trans (bare_le _) ?_
          rw [List.length_append, List.length_append, List.length_take, zs_length]; omega
        · unfold ofP; simp only; rw [List.length_drop]; omega
        · exact bare_dig2 _
        · unfold ofP; simp only
          have hs : frO s.data.toList = (frO s.data.toList).take (kOf (val (pwO s.data.toList))) ++ (frO s.data.toList).drop (kOf (val (pwO s.data.toList))) := (List.take_append_drop _ _).symm
          rw [hs, isDig_append] at hff
          simp only [Bool.and_eq_true] at hff
          exact hff.2
  · exact forms_s s w (by omega)
end Go.Proofs.YtegekkifgdakgaaDoor
