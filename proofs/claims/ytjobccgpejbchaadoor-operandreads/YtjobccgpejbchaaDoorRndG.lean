/- What the helpers of the laws on rounding return; contracts over decimals as triples. -/
import Derived.Test.YtjobccgpejbchaaDoorRndH
import Derived.Test.YtjobccgpejbchaaDoorDawH0
import Derived.Test.YtjobccgpejbchaaDoorDecEq
namespace Go.Proofs.YtjobccgpejbchaaDoor
open Go.RowKit Florin
set_option linter.unusedVariables false
set_option linter.unusedSimpArgs false
attribute [local go_sem ↓] Go.wp_at_zero Go.wp_at_succ

/-- Two decimals compared. -/
def CmpIs (d g : Tri) (c : Int) : Prop := ∃ k x y, Fit k x ∧ Fit k y ∧ made d.neg d.l d.e = nf k x ∧ made g.neg g.l g.e = nf k y ∧ Lib.compareInt x y = c
def AddIs (d g r : Tri) : Prop := ∃ k x y, Fit k x ∧ Fit k y ∧ Fit k (x + y) ∧ made d.neg d.l d.e = nf k x ∧ made g.neg g.l g.e = nf k y ∧ nf k (x + y) = r
def SubIs (d g r : Tri) : Prop := ∃ k x y, Fit k x ∧ Fit k y ∧ Fit k (x - y) ∧ made d.neg d.l d.e = nf k x ∧ Dv k y g ∧ nf k (x - y) = r
theorem u64_mod (n : Int) (k : Int) (hk : 0 < k) (h9 : k ≤ 1000) : 0 ≤ wrap64 ((IntKind.u64.wrap n).tmod k) ∧ wrap64 ((IntKind.u64.wrap n).tmod k) < k := by
  have h0 : 0 ≤ IntKind.u64.wrap n := by
    show 0 ≤ n % _
    exact Int.emod_nonneg _ (by decide)
  have h1 := Int.tmod_lt_of_pos (IntKind.u64.wrap n) hk
  have h2 := Int.tmod_nonneg k h0
  generalize (IntKind.u64.wrap n).tmod k = t at *
  have : wrap64 t = t := by unfold wrap64; omega
  rw [this]; exact ⟨h2, h1⟩
end Go.Proofs.YtjobccgpejbchaaDoor
