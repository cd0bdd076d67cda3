/- What all statements of classes go through first. -/
import Derived.Test.YtbfhkcljkblnmaaDoorCrH
import Derived.Test.YtbfhkcljkblnmaaDoorCrK
namespace Go.Proofs.YtbfhkcljkblnmaaDoor
open Go.RowKit Florin
set_option linter.unusedVariables false
set_option linter.unusedSimpArgs false
attribute [local go_sem ↓] Go.wp_at_zero Go.wp_at_succ
def exC : List (Int × Int) := [(97, 99), (120, 120)]
set_option maxRecDepth 100000 in
theorem ex_par : classP [91, 97, 45, 99, 32, 120, 93] = (exC, false, true, []) := by decide
theorem ex_set : settledC exC := ⟨by decide, by decide, by decide, by decide, by decide, by decide, trivial⟩
theorem ex_is {c : List (Int × Int)} (hs : settledC c) (hm : ∀ z, memC c z ↔ 0 ≤ z ∧ z ≤ cTop ∧ (false != hasC exC z) = true) : c = exC := by
  refine settled_ext (a := 0) (b := 0) hs ex_set (fun r => ?_)
  rw [hm r, ← hasC_iff]
  constructor
  · rintro ⟨_, _, h⟩
    simpa using h
  · intro h
    have h2 := settled_ge (a := 0) ex_set r ((hasC_iff exC r).1 h)
    exact ⟨h2.1, h2.2, by rw [h]; rfl⟩
set_option maxRecDepth 100000 in
theorem ex_str : strC exC = [91, 97, 45, 99, 120, 93] := by decide
set_option maxRecDepth 100000 in
set_option maxHeartbeats 1600000 in
theorem head10 (w : World) (hTab : Tabs w) (hD : Deb w) :
    Calls Tryd.prog 10 #[] w fun e w' => e = .returned (.bool true) ∧ Below w.heap.size w w' := by
  have HP := Lib.hid (parse_as ⟨#[91, 97, 45, 99, 32, 120, 93]⟩ w (by decide) hTab)
  have HD := Lib.hid hD
  clear hTab hD
  go_enter Tryd.func10, Tryd.ntmps10
  go_wp2_with fail
  with_reducible refine HP.out.mono ?_
  rintro e w1 hp
  unfold ParTold at hp
  rw [show (⟨#[91, 97, 45, 99, 32, 120, 93]⟩ : ByteArray).data.toList = [91, 97, 45, 99, 32, 120, 93] from rfl, ex_par] at hp
  rw [if_pos rfl] at hp
  obtain ⟨v, c, rfl, ho, hs, hm, hb⟩ := hp
  obtain rfl : c = exC := ex_is hs hm
  have HO := Lib.hid ho.inC
  have HS := Lib.hid hs
  have B1 := Lib.hid hb
  have HSTR : Hid (∀ W, InC W v exC → Deb W → Calls Tryd.prog 25 #[v] W fun e w' => e = .returned (.string ⟨#[91, 97, 45, 99, 120, 93]⟩) ∧ Below W.heap.size W w') := Lib.hid (fun W h1 h2 => by
    have := string_as W v exC h1 hs h2
    rw [ex_str] at this
    exact this)
  clear ho hs hm hb HP
  go_wp2_with fail
  with_reducible refine (has_as _ v exC 97 HO.out HS.out (by decide) true (by decide)).mono ?_
  rintro e w2 ⟨rfl, hb2⟩
  have I2 := Lib.hid (HO.out.below hb2 (Nat.le_refl _))
  have B2 := Lib.hid (B1.out.trans (hb2.mono B1.out.size))
  clear hb2
  go_wp2_with fail
  with_reducible refine (has_as _ v exC 120 I2.out HS.out (by decide) true (by decide)).mono ?_
  rintro e w3 ⟨rfl, hb3⟩
  have I3 := Lib.hid (I2.out.below hb3 (Nat.le_refl _))
  have B3 := Lib.hid (B2.out.trans (hb3.mono B2.out.size))
  clear hb3
  go_wp2_with fail
  with_reducible refine (has_as _ v exC 100 I3.out HS.out (by decide) false (by decide)).mono ?_
  rintro e w4 ⟨rfl, hb4⟩
  have I4 := Lib.hid (I3.out.below hb4 (Nat.le_refl _))
  have B4 := Lib.hid (B3.out.trans (hb4.mono B3.out.size))
  clear hb4
  go_wp2_with fail
  with_reducible refine (HSTR.out _ I4.out (HD.out.below B4.out)).mono ?_
  rintro e w5 ⟨rfl, hb5⟩
  have B5 := Lib.hid (B4.out.trans (hb5.mono B4.out.size))
  clear hb5
  go_wp2
  go_ret
  exact ⟨rfl, B5.out⟩
end Go.Proofs.YtbfhkcljkblnmaaDoor
