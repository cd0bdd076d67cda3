/- The head of the laws: the document's example. -/
import Derived.Test.YtkjhdehpcanciaaGreatDoorDecH
import Derived.Test.YtkjhdehpcanciaaGreatDoorDecEq
namespace Go.Proofs.YtkjhdehpcanciaaGreatDoor
open Go.RowKit Florin

def d125 : Tri := ⟨true, [49, 50, 53], 2⟩
theorem dig2 : dig 2 = [50] := dig_val (l := [50]) rfl
theorem string_head (w : World) (ht : Tab w) : Calls Tryz.prog 197 #[.agg #[.bool true, .string ⟨#[49, 50, 53]⟩, .int .i64 2]] w fun x w' => x = .returned (.string ⟨#[45, 49, 50, 53, 101, 50]⟩) ∧ Below w.heap.size w w' :=
  (string_as true ⟨#[49, 50, 53]⟩ 2 w (by decide) d125 (by decide) (by decide) ht).mono fun x w' ⟨hx, hb⟩ => ⟨by
    rw [hx]
    have : textT d125 = [45, 49, 50, 53, 101, 50] := by
      unfold textT numT d125
      simp [dig2, signL]
    rw [this], hb⟩

end Go.Proofs.YtkjhdehpcanciaaGreatDoor
