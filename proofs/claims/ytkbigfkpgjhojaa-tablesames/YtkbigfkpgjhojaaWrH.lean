/- What the law lays of a number by the page. -/
import Derived.Test.YtkbigfkpgjhojaaWrD
import Derived.Deep.RegionWith
namespace Go.Proofs.Ytkbigfkpgjhojaa
open Go.RowKit Florin
set_option linter.unusedVariables false
set_option linter.unusedSimpArgs false
attribute [local go_sem ↓] Go.wp_at_zero Go.wp_at_succ
theorem conv_box {W : World} {g : Nat} {z : Int} (c : UInt8) (h : BoxT W g #[.int .u8 z] 5) (hz : z = c.toNat) : (convert 81 9 (.slice (some ⟨g, 0, none⟩) 1 1)).run Try.prog W = .ok (S [c]) W := by
  subst hz
  refine run_convert_bytes_back W 81 9 5 ⟨g, 0, none⟩ 1 [c] Try.underlying81 Try.underlying5 Try.underlying9 ?_
  intro j hj
  obtain rfl : j = 0 := by simpa using hj
  have e : (⟨g, 0, none⟩ : Addr).add 0 = ⟨g, 0, none⟩ := by simp [Addr.add]
  rw [e, h.cell 0]
  rfl
end Go.Proofs.Ytkbigfkpgjhojaa
