/- The head of the laws: the document's example. -/
import Derived.Test.YtjhppbnelfandaaGreatDoorDecH
import Derived.Test.YtjhppbnelfandaaGreatDoorDecEq
namespace Go.Proofs.YtjhppbnelfandaaGreatDoor
open Go.RowKit Florin

def d125 : Tri := ⟨true, [49, 50, 53], 2⟩
theorem dig2 : dig 2 = [50] := dig_val (l := [50]) rfl
end Go.Proofs.YtjhppbnelfandaaGreatDoor
