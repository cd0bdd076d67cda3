/- Two decimals, compared as structs. -/
import Derived.Test.YtgmkmficdhdiiaaGreatDoorDecC
import Derived.Laws.StructEq
namespace Go.Proofs.YtgmkmficdhdiiaaGreatDoor
open Go.RowKit Florin

end Go.Proofs.YtgmkmficdhdiiaaGreatDoor
