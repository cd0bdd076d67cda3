/- Which signs are marks of a class. -/
import Derived.Test.YtbfhkcljkblnmaaDoorCrB
import Derived.Laws.RangeAny
import Derived.Laws.RangeString
import Derived.Laws.Runes
import Derived.WalkMore
import Derived.Deep.DrawnRows
import Derived.Deep.QuietTactic
namespace Go.Proofs.YtbfhkcljkblnmaaDoor
open Go.RowKit Florin
set_option linter.unusedVariables false
set_option linter.unusedSimpArgs false
attribute [local go_sem ↓] Go.wp_at_zero Go.wp_at_succ
theorem encode_shape (r : Int) (h : 128 ≤ r) : (∃ a b : UInt8, Utf8.encode r = ⟨#[a, b]⟩ ∧ 128 ≤ b.toNat) ∨ (∃ a b c : UInt8, Utf8.encode r = ⟨#[a, b, c]⟩ ∧ 128 ≤ c.toNat) ∨ (∃ a b c d : UInt8, Utf8.encode r = ⟨#[a, b, c, d]⟩ ∧ 128 ≤ d.toNat) := by
  have hc : ¬ (if Utf8.valid r then r.toNat else Utf8.runeError) < 0x80 := by
    split
    · omega
    · decide
  unfold Utf8.encode
  simp only [hc, if_false]
  generalize (if Utf8.valid r then r.toNat else Utf8.runeError) = c
  split
  · exact .inl ⟨_, _, rfl, by simp [UInt8.toNat_ofNat']; omega⟩
  · split
    · exact .inr (.inl ⟨_, _, _, rfl, by simp [UInt8.toNat_ofNat']; omega⟩)
    · exact .inr (.inr ⟨_, _, _, _, rfl, by simp [UInt8.toNat_ofNat']; omega⟩)
theorem below_drewN {B : Nat} {w w1 : World} (h : Below B w w1) (n : Nat) : Below B w (w1.drewN n) := ⟨h.os, h.tape, h.output, h.size, h.block⟩
theorem ie_none : ∀ (l : List UInt8) (c : UInt8), 128 ≤ c.toNat → (∀ x ∈ l, x.toNat < 128) → Lib.indexByte l c = -1
  | [], _, _, _ => rfl
  | x :: t, c, hc, h => by
    have h1 := h x (List.mem_cons_self ..)
    have h2 := ie_none t c hc (fun y hy => h y (List.mem_cons_of_mem _ hy))
    have h3 : (x == c) = false := by
      simp
      rintro rfl
      omega
    unfold Lib.indexByte
    rw [h2]
    simp [h3]
theorem ie_cut (k : Nat) (hk : k ≤ 6) (c : UInt8) (hc : 128 ≤ c.toNat) : Lib.indexByte (ByteArray.extract ⟨#[91, 93, 45, 94, 92, 32]⟩ k 6).data.toList c = -1 := by
  apply ie_none _ _ hc
  intro x hx
  rw [ByteArray.data_extract] at hx
  simp only [Array.toList_extract] at hx
  have h2 := List.mem_of_mem_drop (List.mem_of_mem_take hx)
  exact (show ∀ y ∈ ([91, 93, 45, 94, 92, 32] : List UInt8), y.toNat < 128 by decide) x h2
set_option maxRecDepth 100000 in
theorem rune_bad (w : World) : Calls Tryd.prog 94 #[.string ⟨#[91, 93, 45, 94, 92, 32]⟩, .int .i32 65533] w fun x w' => x = .returned (.int .i64 (-1)) ∧ Below w.heap.size w w' := by
  have n0 := fun ty => run_next_ascii (P := Tryd.prog) w ⟨#[91, 93, 45, 94, 92, 32]⟩ 0 ty (by decide) (by decide)
  have n1 := fun ty => run_next_ascii (P := Tryd.prog) w ⟨#[91, 93, 45, 94, 92, 32]⟩ 1 ty (by decide) (by decide)
  have n2 := fun ty => run_next_ascii (P := Tryd.prog) w ⟨#[91, 93, 45, 94, 92, 32]⟩ 2 ty (by decide) (by decide)
  have n3 := fun ty => run_next_ascii (P := Tryd.prog) w ⟨#[91, 93, 45, 94, 92, 32]⟩ 3 ty (by decide) (by decide)
  have n4 := fun ty => run_next_ascii (P := Tryd.prog) w ⟨#[91, 93, 45, 94, 92, 32]⟩ 4 ty (by decide) (by decide)
  have n5 := fun ty => run_next_ascii (P := Tryd.prog) w ⟨#[91, 93, 45, 94, 92, 32]⟩ 5 ty (by decide) (by decide)
  have n6 := fun ty => run_next_end (P := Tryd.prog) w ⟨#[91, 93, 45, 94, 92, 32]⟩ 6 ty (by decide)
  go_enter Tryd.func94, Tryd.ntmps94
  go_wp2
  refine wp_loop_rounds 7 ?_
  rw [rounds_succ]
  go_wp2
  rw [rounds_succ]
  go_wp2
  rw [rounds_succ]
  go_wp2
  rw [rounds_succ]
  go_wp2
  rw [rounds_succ]
  go_wp2
  rw [rounds_succ]
  go_wp2
  rw [rounds_succ]
  go_wp2
  go_ret
  exact ⟨rfl, (Below.refl _ _).alloc (Nat.le_refl _) _⟩
set_option maxRecDepth 100000 in
set_option maxHeartbeats 3200000 in
theorem rune_high (r : Int) (w : World) (h : 128 ≤ r) (hm : r ≤ 2147483647) (hn : r ≠ 65533) : Calls Tryd.prog 94 #[.string ⟨#[91, 93, 45, 94, 92, 32]⟩, .int .i32 r] w fun x w' => x = .returned (.int .i64 (-1)) ∧ Below w.heap.size w w' := by
  have hE := encode_shape r h
  generalize hv : Lib.validRune r = v
  have HV := Lib.hid hv
  clear hv
  generalize hg : Utf8.encode r = E at hE
  cases v with
  | false =>
    clear hE hg
    go_enter Tryd.func94, Tryd.ntmps94
    go_wp2_with fail
    with_reducible refine (Tryd.utf8_ValidRune r _).mono ?_
    rintro x w' ⟨rfl, rfl⟩
    rw [HV.out]
    go_wp2
    go_ret
    exact ⟨rfl, Below.refl _ _⟩
  | true =>
    rcases hE with ⟨a, b, rfl, hb⟩ | ⟨a, b, c, rfl, hb⟩ | ⟨a, b, c, d, rfl, hb⟩
    · have hb2 : (((⟨#[91, 93, 45, 94, 92, 32]⟩ : ByteArray)[1].toNat : Int) != (((⟨#[a, b]⟩ : ByteArray)[1]'(by show 1 < 2; omega)).toNat : Int)) = true := by
        show ((93 : Int) != (b.toNat : Int)) = true
        simp; omega
      have HI : Hid (Lib.indexByte [45, 94, 92, 32] ((⟨#[a, b]⟩ : ByteArray)[1]'(by show 1 < 2; omega)) = -1) := Lib.hid (ie_none _ _ hb (by decide))
      go_enter Tryd.func94, Tryd.ntmps94
      go_wp2_with fail
      with_reducible refine (Tryd.utf8_ValidRune r _).mono ?_
      rintro x w' ⟨rfl, rfl⟩
      rw [HV.out]
      go_wp2
      apply wp_scope_straight
      go_wp2
      refine wp_loop_rounds 1 ?_
      rw [rounds_succ]
      go_wp2
      apply wp_scope_straight
      go_wp2
      go_quiet (fail)
      have BQ := Lib.hid (below_drewN (Below.refl w'.heap.size w') nq)
      generalize w'.drewN nq = wq at *
      go_wp2_with fail
      have hw2 : IntKind.i64.wrap 2 = 2 := by decide
      go_quiet ((go_at_call 92; exact Calls.quiet_of_same (Tryd.strings_IndexByte _ _ _)))
      rw [HI.out]
      go_wp2
      rw [Exit.noGoto_ret]
      go_wp2
      rw [Exit.noGoto_ret]
      go_wp2
      go_ret
      exact ⟨rfl, below_drewN BQ.out _⟩
    · have hb2 : (((⟨#[91, 93, 45, 94, 92, 32]⟩ : ByteArray)[2].toNat : Int) != (((⟨#[a, b, c]⟩ : ByteArray)[2]'(by show 2 < 3; omega)).toNat : Int)) = true := by
        show ((45 : Int) != (c.toNat : Int)) = true
        simp; omega
      have HI : Hid (Lib.indexByte [94, 92, 32] ((⟨#[a, b, c]⟩ : ByteArray)[2]'(by show 2 < 3; omega)) = -1) := Lib.hid (ie_none _ _ hb (by decide))
      go_enter Tryd.func94, Tryd.ntmps94
      go_wp2_with fail
      with_reducible refine (Tryd.utf8_ValidRune r _).mono ?_
      rintro x w' ⟨rfl, rfl⟩
      rw [HV.out]
      go_wp2
      apply wp_scope_straight
      go_wp2
      refine wp_loop_rounds 1 ?_
      rw [rounds_succ]
      go_wp2
      apply wp_scope_straight
      go_wp2
      go_quiet (fail)
      have BQ := Lib.hid (below_drewN (Below.refl w'.heap.size w') nq)
      generalize w'.drewN nq = wq at *
      go_wp2_with fail
      have hw2 : IntKind.i64.wrap 3 = 3 := by decide
      go_quiet ((go_at_call 92; exact Calls.quiet_of_same (Tryd.strings_IndexByte _ _ _)))
      rw [HI.out]
      go_wp2
      rw [Exit.noGoto_ret]
      go_wp2
      rw [Exit.noGoto_ret]
      go_wp2
      go_ret
      exact ⟨rfl, below_drewN BQ.out _⟩
    · have hb2 : (((⟨#[91, 93, 45, 94, 92, 32]⟩ : ByteArray)[3].toNat : Int) != (((⟨#[a, b, c, d]⟩ : ByteArray)[3]'(by show 3 < 4; omega)).toNat : Int)) = true := by
        show ((94 : Int) != (d.toNat : Int)) = true
        simp; omega
      have HI : Hid (Lib.indexByte [92, 32] ((⟨#[a, b, c, d]⟩ : ByteArray)[3]'(by show 3 < 4; omega)) = -1) := Lib.hid (ie_none _ _ hb (by decide))
      go_enter Tryd.func94, Tryd.ntmps94
      go_wp2_with fail
      with_reducible refine (Tryd.utf8_ValidRune r _).mono ?_
      rintro x w' ⟨rfl, rfl⟩
      rw [HV.out]
      go_wp2
      apply wp_scope_straight
      go_wp2
      refine wp_loop_rounds 1 ?_
      rw [rounds_succ]
      go_wp2
      apply wp_scope_straight
      go_wp2
      go_quiet (fail)
      have BQ := Lib.hid (below_drewN (Below.refl w'.heap.size w') nq)
      generalize w'.drewN nq = wq at *
      go_wp2_with fail
      have hw2 : IntKind.i64.wrap 4 = 4 := by decide
      go_quiet ((go_at_call 92; exact Calls.quiet_of_same (Tryd.strings_IndexByte _ _ _)))
      rw [HI.out]
      go_wp2
      rw [Exit.noGoto_ret]
      go_wp2
      rw [Exit.noGoto_ret]
      go_wp2
      go_ret
      exact ⟨rfl, below_drewN BQ.out _⟩
set_option maxRecDepth 100000 in
theorem mark_asc : ∀ r : Fin 128, decide (0 ≤ Lib.indexByte [91, 93, 45, 94, 92, 32] ((r.val : Int)).toNat.toUInt8) = isMark r.val := by decide
set_option maxHeartbeats 800000 in
theorem contains_as (r : Nat) (w : World) (hm : r ≤ 1114111) (b : Bool) (hb : isMark r = b) : Calls Tryd.prog 86 #[.string ⟨#[91, 93, 45, 94, 92, 32]⟩, .int .i32 (r : Int)] w fun x w' => x = .returned (.bool b) ∧ Below w.heap.size w w' := by
  by_cases h : r < 128
  · refine (Tryd.strings_ContainsRune_ascii ⟨#[91, 93, 45, 94, 92, 32]⟩ (r : Int) w (by omega) (by omega)).mono ?_
    rintro x w' ⟨rfl, rfl⟩
    exact ⟨by rw [← hb, ← mark_asc ⟨r, h⟩], Below.refl _ _⟩
  · have hR : Calls Tryd.prog 94 #[.string ⟨#[91, 93, 45, 94, 92, 32]⟩, .int .i32 (r : Int)] w fun x w' => x = .returned (.int .i64 (-1)) ∧ Below w.heap.size w w' := by
      by_cases hr : (r : Int) = 65533
      · rw [hr]; exact rune_bad w
      · exact rune_high r w (by omega) (by omega) hr
    have hf : b = false := by
      rw [← hb]
      unfold isMark
      simp
      omega
    subst hf
    clear hb
    go_enter Tryd.func86, Tryd.ntmps86
    go_wp2_with fail
    with_reducible refine hR.mono ?_
    rintro x w1 ⟨rfl, h1⟩
    go_wp2
    go_ret
    exact ⟨rfl, h1⟩
end Go.Proofs.YtbfhkcljkblnmaaDoor
