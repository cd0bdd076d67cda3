/- What the small helpers of dec return, at any world: held, sign. -/
import Derived.Test.YtjobccgpejbchabDoorNumS
import Derived.Test.YtjobccgpejbchabDoorDPlain
namespace Go.Proofs.YtjobccgpejbchabDoor
open Go.RowKit Florin

end Go.Proofs.YtjobccgpejbchabDoor
