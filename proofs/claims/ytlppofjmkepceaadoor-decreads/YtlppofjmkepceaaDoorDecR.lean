/- strings.IndexRune of a rune past ASCII in "eE": there is none; strings.IndexAny at e and E in any short text. -/
import Derived.Test.YtlppofjmkepceaaDoorDecF
import Derived.Laws.RangeAny
import Derived.Laws.RangeString
import Derived.Laws.Runes
import Derived.Deep.LoopGhost
import Derived.WalkMore
import Derived.Deep.RegionWith
import Derived.Deep.DrawnRows
import Derived.Deep.QuietTactic
namespace Go.Proofs.YtlppofjmkepceaaDoor
open Go.RowKit Florin
set_option linter.unusedVariables false
set_option linter.unusedSimpArgs false
attribute [local go_sem ↓] Go.wp_at_zero Go.wp_at_succ

theorem encode_shape (r : Int) (h : 128 ≤ r) : (∃ a b : UInt8, Utf8.encode r = ⟨#[a, b]⟩ ∧ 128 ≤ b.toNat) ∨ (∃ a b c : UInt8, Utf8.encode r = ⟨#[a, b, c]⟩) ∨ (∃ a b c d : UInt8, Utf8.encode r = ⟨#[a, b, c, d]⟩) := by
  have hc : ¬ (if Utf8.valid r then r.toNat else Utf8.runeError) < 0x80 := by
    split
    · omega
    · decide
  unfold Utf8.encode
  simp only [hc, if_false]
  generalize (if Utf8.valid r then r.toNat else Utf8.runeError) = c
  split
  · exact .inl ⟨_, _, rfl, by simp [UInt8.toNat_ofNat']; omega⟩
  · split
    · exact .inr (.inl ⟨_, _, _, rfl⟩)
    · exact .inr (.inr ⟨_, _, _, _, rfl⟩)

theorem below_drewN {B : Nat} {w w1 : World} (h : Below B w w1) (n : Nat) : Below B w (w1.drewN n) := ⟨h.os, h.tape, h.output, h.size, h.block⟩
theorem ie_empty (c : UInt8) : Lib.indexByte ByteArray.empty.data.toList c = -1 := rfl
set_option maxRecDepth 100000 in
set_option maxHeartbeats 3200000 in
theorem rune_bad (w : World) : Calls Tryd.prog 76 #[.string ⟨#[101, 69]⟩, .int .i32 65533] w fun x w' => x = .returned (.int .i64 (-1)) ∧ Below w.heap.size w w' := by
  have n0 := fun ty => run_next_ascii (P := Tryd.prog) w ⟨#[101, 69]⟩ 0 ty (by decide) (by decide)
  have n1 := fun ty => run_next_ascii (P := Tryd.prog) w ⟨#[101, 69]⟩ 1 ty (by decide) (by decide)
  have n2 := fun ty => run_next_end (P := Tryd.prog) w ⟨#[101, 69]⟩ 2 ty (by decide)
  go_enter Tryd.func76, Tryd.ntmps76
  go_wp2
  refine wp_loop_rounds 3 ?_
  rw [rounds_succ]
  go_wp2
  rw [rounds_succ]
  go_wp2
  rw [rounds_succ]
  go_wp2
  go_ret
  exact ⟨rfl, below_alloc w _⟩
set_option maxRecDepth 100000 in
set_option maxHeartbeats 3200000 in
theorem rune_high (r : Int) (w : World) (h : 128 ≤ r) (hm : r ≤ 2147483647) (hn : r ≠ 65533) : Calls Tryd.prog 76 #[.string ⟨#[101, 69]⟩, .int .i32 r] w fun x w' => x = .returned (.int .i64 (-1)) ∧ Below w.heap.size w w' := by
  have hn' : (r == 65533) = false := by simp [hn]
  have hE := encode_shape r h
  generalize hv : Lib.validRune r = v
  have HV := Lib.hid hv
  clear hv
  generalize hg : Utf8.encode r = E at hE
  cases v with
  | false =>
    clear hE hg
    go_enter Tryd.func76, Tryd.ntmps76
    go_wp2_with fail
    with_reducible refine (Tryd.utf8_ValidRune r _).mono ?_
    rintro x w' ⟨rfl, rfl⟩
    rw [HV.out]
    go_wp2
    go_ret
    exact ⟨rfl, Below.refl _ _⟩
  | true =>
    rcases hE with ⟨a, b, rfl, hb⟩ | ⟨a, b, c, rfl⟩ | ⟨a, b, c, d, rfl⟩
    · have hb2 : (((⟨#[101, 69]⟩ : ByteArray)[1].toNat : Int) != (((⟨#[a, b]⟩ : ByteArray)[1]'(by show 1 < 2; omega)).toNat : Int)) = true := by
        show ((69 : Int) != (b.toNat : Int)) = true
        simp; omega
      go_enter Tryd.func76, Tryd.ntmps76
      go_wp2_with fail
      with_reducible refine (Tryd.utf8_ValidRune r _).mono ?_
      rintro x w' ⟨rfl, rfl⟩
      rw [HV.out]
      go_wp2
      apply wp_scope_straight
      go_wp2
      refine wp_loop_rounds 1 ?_
      rw [rounds_succ]
      go_wp2
      apply wp_scope_straight
      go_wp2
      go_quiet (fail)
      have BQ := Lib.hid (below_drewN (Below.refl w'.heap.size w') nq)
      generalize w'.drewN nq = wq at *
      go_wp2_with fail
      have hw2 : IntKind.i64.wrap 2 = 2 := by decide
      go_quiet ((go_at_call 90; exact Calls.quiet_of_same (Tryd.strings_IndexByte _ _ _)))
      simp only [ie_empty]
      go_wp2
      rw [Exit.noGoto_ret]
      go_wp2
      rw [Exit.noGoto_ret]
      go_wp2
      go_ret
      exact ⟨rfl, below_drewN BQ.out _⟩
    · go_enter Tryd.func76, Tryd.ntmps76
      go_wp2_with fail
      with_reducible refine (Tryd.utf8_ValidRune r _).mono ?_
      rintro x w' ⟨rfl, rfl⟩
      rw [HV.out]
      go_wp2
      apply wp_scope_straight
      go_wp2
      refine wp_loop_rounds 1 ?_
      rw [rounds_succ]
      go_wp2
      rw [Exit.noGoto_ret]
      go_wp2
      go_ret
      exact ⟨rfl, Below.refl _ _⟩
    · go_enter Tryd.func76, Tryd.ntmps76
      go_wp2_with fail
      with_reducible refine (Tryd.utf8_ValidRune r _).mono ?_
      rintro x w' ⟨rfl, rfl⟩
      rw [HV.out]
      go_wp2
      apply wp_scope_straight
      go_wp2
      refine wp_loop_rounds 1 ?_
      rw [rounds_succ]
      go_wp2
      rw [Exit.noGoto_ret]
      go_wp2
      go_ret
      exact ⟨rfl, Below.refl _ _⟩
end Go.Proofs.YtlppofjmkepceaaDoor
