/- The example of the laws on rounding: 2.5 and -2.5, mode by mode. -/
import Derived.Test.YtjobccgpejbchaaDoorRndE
namespace Go.Proofs.YtjobccgpejbchaaDoor
open Go.RowKit Florin
set_option linter.unusedVariables false
set_option linter.unusedSimpArgs false
attribute [local go_sem ↓] Go.wp_at_zero Go.wp_at_succ

theorem dig3 : dig 3 = [51] := dig_val (l := [51]) rfl
theorem mulT_25 (b : Bool) (m : Int) (h0 : 0 ≤ m) (h6 : m ≤ 6) (c : Nat) (hc : cnt m b 10 25 = c) : mulT ⟨b, [50, 53], -1⟩ 1 (hld 0) m = made b (dig c) 0 := by
  unfold mulT
  rw [if_pos ⟨h0, h6⟩]
  have e1 : nN ⟨b, [50, 53], -1⟩ (hld 0) = 25 := by unfold nN; rfl
  have e2 : uU ⟨b, [50, 53], -1⟩ 1 (hld 0) = 10 := by unfold uU; rfl
  rw [e1, e2, if_neg (by decide)]
  simp only
  rw [hc, Nat.mul_one]; rfl
theorem mulT_25_2 (b : Bool) (m : Int) (h0 : 0 ≤ m) (h6 : m ≤ 6) (hc : cnt m b 10 25 = 2) : mulT ⟨b, [50, 53], -1⟩ 1 (hld 0) m = ⟨b, [50], 0⟩ := by
  rw [mulT_25 b m h0 h6 2 hc, dig2]; cases b <;> decide
theorem mulT_25_3 (b : Bool) (m : Int) (h0 : 0 ≤ m) (h6 : m ≤ 6) (hc : cnt m b 10 25 = 3) : mulT ⟨b, [50, 53], -1⟩ 1 (hld 0) m = ⟨b, [51], 0⟩ := by
  rw [mulT_25 b m h0 h6 3 hc, dig3]; cases b <;> decide
end Go.Proofs.YtjobccgpejbchaaDoor
