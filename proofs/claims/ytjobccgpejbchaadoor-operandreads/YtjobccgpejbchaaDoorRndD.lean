/- What multiple of round returns, whatever comes in. -/
import Derived.Test.YtjobccgpejbchaaDoorRndC1
import Derived.Test.YtjobccgpejbchaaDoorRndC2
namespace Go.Proofs.YtjobccgpejbchaaDoor
open Go.RowKit Florin
set_option linter.unusedVariables false

end Go.Proofs.YtjobccgpejbchaaDoor
