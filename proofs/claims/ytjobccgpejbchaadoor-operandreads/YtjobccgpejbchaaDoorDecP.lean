/- What Sub, Minus, Abs, Norm of dec return, at k places. -/
import Derived.Test.YtjobccgpejbchaaDoorDecO
import Derived.Deep.RegionWith
import Derived.Deep.DrawnRows
namespace Go.Proofs.YtjobccgpejbchaaDoor
open Go.RowKit Florin
set_option linter.unusedVariables false
attribute [local go_sem ↓] Go.wp_at_zero Go.wp_at_succ

theorem dv_neg {k : Nat} {y : Int} {b : Bool} {l : List UInt8} {e : Int} (h : Dv k y ⟨b, l, e⟩) : Dv k (-y) ⟨!b, l, e⟩ := by
  obtain ⟨h1, h2, h3⟩ := h
  refine ⟨h1, h2, ?_⟩
  simp only at h3 ⊢
  rw [← h3]
  unfold sg; cases b <;> simp
theorem dv_abs {k : Nat} {y : Int} {b : Bool} {l : List UInt8} {e : Int} (h : Dv k y ⟨b, l, e⟩) : Dv k (y.natAbs : Int) ⟨false, l, e⟩ := by
  obtain ⟨h1, h2, h3⟩ := h
  refine ⟨h1, h2, ?_⟩
  simp only at h3 ⊢
  rw [← h3, sg_natAbs]; rfl
theorem fit_neg {k : Nat} {y : Int} (h : Fit k y) : Fit k (-y) := ⟨h.hk, by rw [Int.natAbs_neg]; exact h.hz⟩
theorem fit_abs {k : Nat} {y : Int} (h : Fit k y) : Fit k (y.natAbs : Int) := ⟨h.hk, by rw [Int.natAbs_natCast]; exact h.hz⟩

theorem nf_minus {k : Nat} {z : Int} (h : Fit k z) : made (!(nf k z).neg) (nf k z).l (nf k z).e = nf k (-z) := by
  have h1 := nf_dv h
  generalize nf k z = d at h1 ⊢
  obtain ⟨b, l, e⟩ := d
  exact (dv_neg h1).made (fit_neg h)

end Go.Proofs.YtjobccgpejbchaaDoor
