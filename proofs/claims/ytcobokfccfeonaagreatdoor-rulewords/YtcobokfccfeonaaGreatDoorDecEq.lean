/- Two decimals, compared as structs. -/
import Derived.Test.YtcobokfccfeonaaGreatDoorDecC
import Derived.Laws.StructEq
namespace Go.Proofs.YtcobokfccfeonaaGreatDoor
open Go.RowKit Florin

end Go.Proofs.YtcobokfccfeonaaGreatDoor
