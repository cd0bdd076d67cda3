/- Two decimals, compared as structs. -/
import Derived.Test.YtjobccgpejbchabDoorDecC
import Derived.Laws.StructEq
namespace Go.Proofs.YtjobccgpejbchabDoor
open Go.RowKit Florin

end Go.Proofs.YtjobccgpejbchabDoor
