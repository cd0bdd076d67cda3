/- Two decimals, compared as structs. -/
import Derived.Test.YtjhppbnelfandaaGreatDoorDecC
import Derived.Laws.StructEq
namespace Go.Proofs.YtjhppbnelfandaaGreatDoor
open Go.RowKit Florin

end Go.Proofs.YtjhppbnelfandaaGreatDoor
