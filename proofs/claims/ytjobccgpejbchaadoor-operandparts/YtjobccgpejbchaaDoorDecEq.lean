/- Two decimals, compared as structs. -/
import Derived.Test.YtjobccgpejbchaaDoorDecC
import Derived.Laws.StructEq
namespace Go.Proofs.YtjobccgpejbchaaDoor
open Go.RowKit Florin

end Go.Proofs.YtjobccgpejbchaaDoor
