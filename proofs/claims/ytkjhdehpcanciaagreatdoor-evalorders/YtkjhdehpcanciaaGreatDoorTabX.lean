import Derived.Test.YtkjhdehpcanciaaGreatDoorTie
import Derived.Test.YtkjhdehpcanciaaGreatDoorNumH
import Derived.Lib.LaidTab
import Derived.Stop.LaidErr
import Derived.Stop.Joined
import Derived.ProofKit
namespace Go.Proofs.YtkjhdehpcanciaaGreatDoor
theorem tab_data : (Rows.laid_internal_strconv_uint64pow10 : DataW Unit) = Lib.tabData .u64 Lib.pow10Tab := by kernel_rfl
theorem tab_of {W : World} {a b : String × DataW Unit} {r : List (String × DataW Unit)} (h : laidMet Tryz.prog (a :: b :: ("internal/strconv.uint64pow10", Rows.laid_internal_strconv_uint64pow10) :: r) W) : Tab W := by
  have h2 := laidMet.tail (laidMet.tail h)
  rw [tab_data] at h2
  exact Lib.tabIs_of_head Tryz.pow10 (by kernel_rfl) Tryz.underlying187 Tryz.underlying169 (by kernel_rfl) (by kernel_rfl) h2
end Go.Proofs.YtkjhdehpcanciaaGreatDoor
