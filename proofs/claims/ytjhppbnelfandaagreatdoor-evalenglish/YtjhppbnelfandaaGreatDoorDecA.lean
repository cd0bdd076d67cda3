/- What the small helpers of dec return, at any world: held, sign. -/
import Derived.Test.YtjhppbnelfandaaGreatDoorNumS
import Derived.Test.YtjhppbnelfandaaGreatDoorDPlain
namespace Go.Proofs.YtjhppbnelfandaaGreatDoor
open Go.RowKit Florin

end Go.Proofs.YtjhppbnelfandaaGreatDoor
