/- The head of the laws: the document's example. -/
import Derived.Test.YtfbfjkacaadbpaaDoorDecH
import Derived.Test.YtfbfjkacaadbpaaDoorDecEq
namespace Go.Proofs.YtfbfjkacaadbpaaDoor
open Go.RowKit Florin

def d125 : Tri := ⟨true, [49, 50, 53], 2⟩
theorem dig2 : dig 2 = [50] := dig_val (l := [50]) rfl
theorem plain_head (w : World) : Calls Tryd.prog 35 #[.agg #[.bool true, .string ⟨#[49, 50, 53]⟩, .int .i64 2]] w fun x w' => x = .returned (.string ⟨#[45, 49, 50, 53, 48, 48]⟩) ∧ Below w.heap.size w w' :=
  plain_as true ⟨#[49, 50, 53]⟩ 2 w (by decide) d125 (by decide) (by decide)
end Go.Proofs.YtfbfjkacaadbpaaDoor
