/- What the small helpers of dec return, at any world: held, sign. -/
import Derived.Test.YtjobccgpejbchaaDoorNumS
import Derived.Test.YtjobccgpejbchaaDoorDPlain
namespace Go.Proofs.YtjobccgpejbchaaDoor
open Go.RowKit Florin

end Go.Proofs.YtjobccgpejbchaaDoor
