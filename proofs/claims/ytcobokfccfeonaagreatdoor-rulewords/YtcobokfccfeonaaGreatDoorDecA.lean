/- What the small helpers of dec return, at any world: held, sign. -/
import Derived.Test.YtcobokfccfeonaaGreatDoorNumS
import Derived.Test.YtcobokfccfeonaaGreatDoorDPlain
namespace Go.Proofs.YtcobokfccfeonaaGreatDoor
open Go.RowKit Florin

end Go.Proofs.YtcobokfccfeonaaGreatDoor
