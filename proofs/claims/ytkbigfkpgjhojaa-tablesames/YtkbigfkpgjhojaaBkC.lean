/- What the law lays of a table by the page: texts, lists of texts. -/
import Derived.Test.YtkbigfkpgjhojaaBkB
import Derived.Test.YtkbigfkpgjhojaaWrH
import Derived.Deep.RegionHeld3
import Derived.Deep.DrawnRows
namespace Go.Proofs.Ytkbigfkpgjhojaa
open Go.RowKit Florin
set_option linter.unusedVariables false
set_option linter.unusedSimpArgs false
attribute [local go_sem ↓] Go.wp_at_zero Go.wp_at_succ
theorem eTx_len (x : TxM) : (eTx x).length = (vnum x.1.toNat).length + (eT x.2).length := by unfold eTx eN; rw [List.length_append]
theorem eRow_len (x : RowM) : (eRow x).length = (vnum x.1.toNat).length + (eTxs x.2).length := by unfold eRow eN; rw [List.length_append]
end Go.Proofs.Ytkbigfkpgjhojaa
