/- What multiple of round returns. -/
import Derived.Test.YtjobccgpejbchaaDoorRndB
import Derived.Test.YtjobccgpejbchaaDoorHold
namespace Go.Proofs.YtjobccgpejbchaaDoor
open Go.RowKit Florin
set_option linter.unusedVariables false
set_option linter.unusedSimpArgs false
attribute [local go_sem ↓] Go.wp_at_zero Go.wp_at_succ

theorem cut_div (d : Tri) (p : Int) (F : Nat) (hd : isDig d.l = true) (a b : List UInt8) (hc : cutT d p = (a, b)) :
    nN d p / uU d F p = val a / F ∧ nN d p % uU d F p = (val a % F) * 10 ^ b.length + val b ∧ uU d F p = F * 10 ^ b.length := by
  obtain ⟨h1, h2, h3, h4, h5⟩ := cutT_val d p hd a b hc
  have hv := val_lt b h2
  have hp := pow_pos' b.length
  have hu : uU d F p = F * 10 ^ b.length := by unfold uU; rw [h4]
  rw [hu, ← h5]
  have e1 : (val a * 10 ^ b.length + val b) / 10 ^ b.length = val a := by rw [Nat.add_comm, Nat.add_mul_div_right _ _ hp, Nat.div_eq_of_lt hv]; omega
  have e2 : (val a * 10 ^ b.length + val b) % 10 ^ b.length = val b := by rw [Nat.add_comm, Nat.add_mul_mod_self_right, Nat.mod_eq_of_lt hv]
  refine ⟨?_, ?_, rfl⟩
  · rw [Nat.mul_comm F, ← Nat.div_div_eq_div_mul, e1]
  · rw [Nat.mul_comm F, Nat.mod_mul, e1, e2, Nat.mul_comm]; omega

end Go.Proofs.YtjobccgpejbchaaDoor
