/- What the small helpers of dec return, at any world: held, sign. -/
import Derived.Test.YtgmkmficdhdiiaaGreatDoorNumS
import Derived.Test.YtgmkmficdhdiiaaGreatDoorDPlain
namespace Go.Proofs.YtgmkmficdhdiiaaGreatDoor
open Go.RowKit Florin

end Go.Proofs.YtgmkmficdhdiiaaGreatDoor
