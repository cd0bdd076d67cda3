/- The head of the laws: the document's example. -/
import Derived.Test.YtlppofjmkepceaaDoorDecH
import Derived.Test.YtlppofjmkepceaaDoorDecEq
namespace Go.Proofs.YtlppofjmkepceaaDoor
open Go.RowKit Florin

def d125 : Tri := ⟨true, [49, 50, 53], 2⟩
theorem dig2 : dig 2 = [50] := dig_val (l := [50]) rfl
theorem parse_head (w : World) : Calls Tryd.prog 22 #[.string ⟨#[45, 49, 50, 46, 53, 48, 101, 51]⟩] w fun x w' => x = .returned (.tuple #[.agg #[.bool true, .string ⟨#[49, 50, 53]⟩, .int .i64 2], .int .i64 0]) ∧ Below w.heap.size w w' :=
  (parse_as ⟨#[45, 49, 50, 46, 53, 48, 101, 51]⟩ w (by decide) (ix_ascii _ (by decide) (by decide)) d125 0 (by decide) (by decide))
theorem plain_head (w : World) : Calls Tryd.prog 27 #[.agg #[.bool true, .string ⟨#[49, 50, 53]⟩, .int .i64 2]] w fun x w' => x = .returned (.string ⟨#[45, 49, 50, 53, 48, 48]⟩) ∧ Below w.heap.size w w' :=
  plain_as true ⟨#[49, 50, 53]⟩ 2 w (by decide) d125 (by decide) (by decide)
theorem string_head (w : World) (ht : Tab w) : Calls Tryd.prog 26 #[.agg #[.bool true, .string ⟨#[49, 50, 53]⟩, .int .i64 2]] w fun x w' => x = .returned (.string ⟨#[45, 49, 50, 53, 101, 50]⟩) ∧ Below w.heap.size w w' :=
  (string_as true ⟨#[49, 50, 53]⟩ 2 w (by decide) d125 (by decide) (by decide) ht).mono fun x w' ⟨hx, hb⟩ => ⟨by
    rw [hx]
    have : textT d125 = [45, 49, 50, 53, 101, 50] := by
      unfold textT numT d125
      simp [dig2, signL]
    rw [this], hb⟩

set_option maxRecDepth 100000 in
set_option maxHeartbeats 1600000 in
theorem headD (w : World) (htab : Tab w) : Calls Tryd.prog 11 #[] w fun x w' => x = .returned (.bool true) ∧ Below w.heap.size w w' := by
  have HT := Lib.hid htab
  clear htab
  go_enter Tryd.func11, Tryd.ntmps11
  go_wp2_with fail
  with_reducible refine (parse_head _).mono ?_
  rintro x w1 ⟨rfl, hb⟩
  have HB1 := Lib.hid hb
  clear hb
  go_wp2_with fail
  with_reducible refine (plain_head _).mono ?_
  rintro x w2 ⟨rfl, hb⟩
  have B1 := Lib.hid ((Box.new w1 #[.bool true, .string ⟨#[49, 50, 53]⟩, .int .i64 2] 28).below hb (by simp))
  have HB2 := Lib.hid ((HB1.out.alloc HB1.out.size _).trans (hb.mono (B' := w.heap.size) (by have := HB1.out.size; simp; omega)))
  obtain ⟨q0, q1, q2, f0, f1, f2, lt⟩ := B1.out.three
  clear hb
  go_wp2_with fail
  with_reducible refine (string_head _ (HT.out.below HB2.out)).mono ?_
  rintro x w3 ⟨rfl, hb⟩
  have HB3 := Lib.hid (HB2.out.trans (hb.mono (B' := w.heap.size) HB2.out.size))
  clear hb q0 q1 q2 f0 f1 f2
  go_wp2
  go_ret
  exact ⟨rfl, HB3.out⟩
end Go.Proofs.YtlppofjmkepceaaDoor
