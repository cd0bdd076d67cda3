/- The head of the laws over numbers and texts. -/
import Derived.Test.YtopcheblhacaeaaWrC
import Derived.Test.YtopcheblhacaeaaWrG
namespace Go.Proofs.Ytopcheblhacaeaa
open Go.RowKit Florin
set_option linter.unusedVariables false
set_option linter.unusedSimpArgs false
attribute [local go_sem ↓] Go.wp_at_zero Go.wp_at_succ
theorem v300 : vnum 300 = [172, 2] := by rw [vnum_ge (by decide), vnum_lt (by decide)]; rfl
theorem v1 : vnum 1 = [1] := by rw [vnum_lt (by decide)]; rfl
theorem Rdr.kept {w w' : World} {b r : Nat} {st : RS} (h : Rdr w b st) (hg : w.grownBy w' (some r)) (hn : b ≠ r) : Rdr w' b st := BoxT.grown h hg (fun e => hn (Option.some.inj e))
set_option maxRecDepth 100000 in
set_option maxHeartbeats 3200000 in
theorem head14 (w : World) : Calls Try.prog 6 #[] w fun e w' => e = .returned (.bool true) ∧ Below w.heap.size w w' := by
  have e1 : vnum (300 : Int).toNat = [172, 2] := v300
  have e2 : vnum ([97] : List UInt8).length = [1] := v1
  have E1 := Lib.hid e1
  have E2 := Lib.hid e2
  have ER1 : numR ([172, 2, 1, 97], false) = (300, ([1, 97], false)) := by
    have := numR_vnum (n := 300) (by decide) [1, 97] false
    rw [v300] at this
    exact this
  have ER2 : textR ([1, 97], false) = ([97], ([], false)) := by
    have := textR_vnum [97] (by decide) [] false
    rw [show vnum ([97] : List UInt8).length = [1] from v1] at this
    exact this
  have HR1 := Lib.hid ER1
  have HR2 := Lib.hid ER2
  clear e1 e2 ER1 ER2
  go_enter Try.func6, Try.ntmps6
  go_wp2_with fail
  have HW0 := Lib.hid (WrT.new w w.heap.size (Nat.le_refl _))
  have HB0 : Hid (Below w.heap.size w (w.alloc (.cells #[.pointer none, .int .i64 0] TWr))) := Lib.hid ((Below.refl _ _).alloc (Nat.le_refl _) _)
  generalize w.alloc (.cells #[.pointer none, .int .i64 0] TWr) = w0 at *
  with_reducible refine (wnum_as w.heap.size w.heap.size [] 300 _ HW0.out (by decide) (by decide)).mono ?_
  rintro e w1 ⟨rfl, h1, g1⟩
  rw [E1.out] at h1
  have H1 := Lib.hid h1
  have B1 := Lib.hid (below_grown HB0.out HB0.out.size (Nat.le_refl _) g1)
  clear h1 g1 HB0 HW0
  go_wp2_with fail
  with_reducible refine (wtext_as w.heap.size w.heap.size _ [97] _ H1.out (by decide)).mono ?_
  rintro e w2 ⟨rfl, h2, g2⟩
  rw [E2.out] at h2
  have H2 := Lib.hid h2
  have B2 := Lib.hid (below_grown B1.out B1.out.size (Nat.le_refl _) g2)
  clear h2 g2 B1 H1
  go_wp2_with fail
  with_reducible refine (wstring_as w.heap.size w.heap.size _ _ H2.out (by decide)).mono ?_
  rintro e w3 ⟨rfl, b3⟩
  have H3 := Lib.hid (H2.out.below b3)
  have B3 := Lib.hid (B2.out.trans (b3.mono B2.out.size))
  clear b3 B2 H2
  rw [show cat [[97], [1], [172, 2]] = [172, 2, 1, 97] from rfl]
  go_wp2_with fail
  with_reducible refine (new_as [172, 2, 1, 97] _).mono ?_
  rintro e w4 ⟨rfl, r4, b4⟩
  have H4 := Lib.hid (H3.out.below b4)
  have R4 := Lib.hid r4
  have B4 := Lib.hid (B3.out.trans (b4.mono B3.out.size))
  have hge : w.heap.size ≤ w3.heap.size := B3.out.size
  clear b4 r4 B3 H3
  generalize w3.heap.size = r at *
  go_wp2_with fail
  with_reducible refine (wstring_as w.heap.size w.heap.size _ _ H4.out (by decide)).mono ?_
  rintro e w5 ⟨rfl, b5⟩
  have R5 := Lib.hid (R4.out.below b5)
  have B5 := Lib.hid (B4.out.trans (b5.mono B4.out.size))
  clear b5 B4 R4 H4
  rw [show cat [[97], [1], [172, 2]] = [172, 2, 1, 97] from rfl]
  go_wp2_with fail
  with_reducible refine (rnum_as r _ _ R5.out (by decide)).mono ?_
  rw [HR1.out]
  rintro e w6 ⟨rfl, r6, g6⟩
  have R6 := Lib.hid r6
  have B6 := Lib.hid (below_grown B5.out B5.out.size hge g6)
  clear r6 g6 B5 R5
  go_wp2_with fail
  with_reducible refine (rtext_as r _ _ R6.out (by decide)).mono ?_
  rw [HR2.out]
  rintro e w7 ⟨rfl, r7, g7⟩
  have R7 := Lib.hid r7
  have B7 := Lib.hid (below_grown B6.out B6.out.size hge g7)
  clear r7 g7 B6 R6
  go_wp2_with fail
  with_reducible refine (done_as r [] false _ R7.out).mono ?_
  rintro e w8 ⟨rfl, rfl⟩
  go_wp2_with fail
  with_reducible refine (ok_as r [] false _ R7.out).mono ?_
  rintro e w9 ⟨rfl, rfl⟩
  go_wp2
  go_ret
  exact ⟨rfl, B7.out⟩
end Go.Proofs.Ytopcheblhacaeaa
