/- What multiple of round returns between two multiples (nothing is left). -/
import Derived.Test.YtjobccgpejbchaaDoorRndC
namespace Go.Proofs.YtjobccgpejbchaaDoor
open Go.RowKit Florin
set_option linter.unusedVariables false
set_option linter.unusedSimpArgs false
attribute [local go_sem ↓] Go.wp_at_zero Go.wp_at_succ

end Go.Proofs.YtjobccgpejbchaaDoor
