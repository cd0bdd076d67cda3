/- The head of the laws: the document's example. -/
import Derived.Test.YtfbfjkacaadbpaaGreatDoorDecH
import Derived.Test.YtfbfjkacaadbpaaGreatDoorDecEq
namespace Go.Proofs.YtfbfjkacaadbpaaGreatDoor
open Go.RowKit Florin

def d125 : Tri := ⟨true, [49, 50, 53], 2⟩
theorem dig2 : dig 2 = [50] := dig_val (l := [50]) rfl
theorem parse_head (w : World) : Calls Tryz.prog 31 #[.string ⟨#[45, 49, 50, 46, 53, 48, 101, 51]⟩] w fun x w' => x = .returned (.tuple #[.agg #[.bool true, .string ⟨#[49, 50, 53]⟩, .int .i64 2], .int .i64 0]) ∧ Below w.heap.size w w' :=
  (parse_as ⟨#[45, 49, 50, 46, 53, 48, 101, 51]⟩ w (by decide) (ix_ascii _ (by decide) (by decide)) d125 0 (by decide) (by decide))
theorem plain_head (w : World) : Calls Tryz.prog 34 #[.agg #[.bool true, .string ⟨#[49, 50, 53]⟩, .int .i64 2]] w fun x w' => x = .returned (.string ⟨#[45, 49, 50, 53, 48, 48]⟩) ∧ Below w.heap.size w w' :=
  plain_as true ⟨#[49, 50, 53]⟩ 2 w (by decide) d125 (by decide) (by decide)
end Go.Proofs.YtfbfjkacaadbpaaGreatDoor
