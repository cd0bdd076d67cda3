/- The document's own example of compact patterns. -/
import Derived.Test.YtmmllhdphlnpjaaDoorPtS
import Derived.Test.YtmmllhdphlnpjaaDoorPtT
namespace Go.Proofs.YtmmllhdphlnpjaaDoor
open Go.RowKit Florin
set_option linter.unusedVariables false
set_option linter.unusedSimpArgs false
attribute [local go_sem ↓] Go.wp_at_zero Go.wp_at_succ
theorem ccell {x : NumT} {bare two : Bool} {vp vs np ns : Value} : (CC x bare vp vs np ns two)[0]? = some (.int .i64 (x.int : Int)) ∧ (CC x bare vp vs np ns two)[1]? = some (.bool bare) := ⟨rfl, rfl⟩
theorem patV_lists {w : World} {x : PatT} {vp vs np ns : Value} (h : PatV w x (.agg (HC x.pos.num vp vs np ns x.neg.isSome))) : PcL w vp x.pos.pre ∧ PcL w vs x.pos.suf ∧ PcL w np (negPre x) ∧ PcL w ns (negSuf x) := by
  obtain ⟨a, b, c, d, e, h1, h2, h3, h4⟩ := h
  simp [HC] at e
  obtain ⟨rfl, rfl, rfl, rfl⟩ := e
  exact ⟨h1, h2, h3, h4⟩
set_option maxRecDepth 100000 in
set_option maxHeartbeats 3200000 in
theorem head12 (w : World) (hE : EnvP w) :
    Calls Tryd.prog 5 #[] w fun e w' => e = .returned (.bool true) ∧ Below w.heap.size w w' := by
  have HE := Lib.hid hE
  have HP := Lib.hid (cparse_as ⟨#[48, 48, 32, 77, 105, 111]⟩ w hE (by decide) (fun x h => parse_len h) (.ok PM) cparse_mio)
  clear hE
  go_enter Tryd.func5, Tryd.ntmps5
  go_wp2_with fail
  with_reducible refine (HP.out).mono ?_
  rintro e w1 ⟨⟨vp, vs, np, ns, rfl, hv⟩, hb⟩
  obtain ⟨h1, h2, h3, h4⟩ := patV_lists hv
  obtain ⟨b1, d1, rfl⟩ := h1.slice
  obtain ⟨b2, d2, rfl⟩ := h2.slice
  obtain ⟨b3, d3, rfl⟩ := h3.slice
  obtain ⟨b4, d4, rfl⟩ := h4.slice
  have L2 : Hid (PcL w1 (.slice b2 1 d2) [⟨0, [32, 77, 105, 111], 0⟩]) := Lib.hid h2
  rw [show CC PM.pos.num (bareP PM) (.slice b1 PM.pos.pre.length d1) (.slice b2 PM.pos.suf.length d2) (.slice b3 (negPre PM).length d3) (.slice b4 (negSuf PM).length d4) PM.neg.isSome = YM (.slice b1 0 d1) (.slice b2 1 d2) (.slice b3 0 d3) (.slice b4 0 d4) from rfl]
  have HIN := Lib.hid (ym_info (.slice b1 0 d1) (.slice b2 1 d2) (.slice b3 0 d3) (.slice b4 0 d4))
  have HON := Lib.hid (cc_one NM false b1 b2 b3 b4 0 1 0 0 d1 d2 d3 d4 false)
  have HSZ : Hid (CZ.size = (YM (.slice b1 0 d1) (.slice b2 1 d2) (.slice b3 0 d3) (.slice b4 0 d4)).size) := Lib.hid rfl
  have HSH := Lib.hid (fun w => shift_s (.slice b1 0 d1) (.slice b2 1 d2) (.slice b3 0 d3) (.slice b4 0 d4) w)
  have HST := Lib.hid (fun w hE hv => cstring_s b1 b3 b4 d1 0 d3 0 d4 (.slice b2 1 d2) w hE hv)
  have HC0 : Hid ((YM (.slice b1 0 d1) (.slice b2 1 d2) (.slice b3 0 d3) (.slice b4 0 d4))[0]? = some (.int .i64 2)) := Lib.hid rfl
  have HC1 : Hid ((YM (.slice b1 0 d1) (.slice b2 1 d2) (.slice b3 0 d3) (.slice b4 0 d4))[1]? = some (.bool false)) := Lib.hid rfl
  have HON : Hid ((YM (.slice b1 0 d1) (.slice b2 1 d2) (.slice b3 0 d3) (.slice b4 0 d4)).all (·.oneCell') = true) := HON
  generalize YM (.slice b1 0 d1) (.slice b2 1 d2) (.slice b3 0 d3) (.slice b4 0 d4) = X at *
  have HX2 := Lib.hid (BoxT.new w1 CZ TC)
  have B1 := Lib.hid hb
  have E1 := Lib.hid (HE.out.below hb)
  have hs1 := hb.size
  clear hv hb h1 h2 h3 h4 HP
  go_upto_region 2 with (refine wpList_store_box (by rfl) TC (.tmp 1) (.tmp 6) (by rfl) w1.heap.size _ X TC (by rfl) (by rfl) HX2.out HIN.out HSZ.out HON.out ?_; intro w3 hx3 hg3)
  have X3 := Lib.hid hx3
  have B3 := Lib.hid ((B1.out.alloc (by omega) (.cells CZ TC)).grown hg3 (by simp; omega) (fun k h => by cases h; omega))
  have L3 := Lib.hid ((L2.out.keep (KeepB.below (below_alloc w1 (.cells CZ TC)))).keep (KeepB.of HX2.out (by decide) hg3))
  have E3 := Lib.hid (E1.out.belowB ((below_alloc w1 (.cells CZ TC)).grown hg3 (by simp) (fun k h => by cases h; exact Nat.le_refl _)) E1.out.low)
  clear hx3 hg3 HX2
  generalize w1.heap.size = q at *
  have c0 := (X3.out.cell 0).trans HC0.out
  have c1 := (X3.out.cell 1).trans HC1.out
  go_wp2_with (refine wpList_load_boxG (by rfl) TC (.tmp 1) (by rfl) q (by rfl) X TC _ X3.out Tryd.underlying29 (by rfl) HIN.out ?_)
  with_reducible refine (HSH.out _).mono ?_
  rintro e w4 ⟨rfl, hb4⟩
  have X4 := Lib.hid (X3.out.below hb4)
  have B4 := Lib.hid (B3.out.trans (hb4.mono B3.out.size))
  have L4 := Lib.hid (L3.out.keep (KeepB.below hb4))
  have E4 := Lib.hid (E3.out.below hb4)
  clear hb4 c0 c1
  go_wp2_with (refine wpList_load_boxG (by rfl) TC (.tmp 1) (by rfl) q (by rfl) X TC _ X4.out Tryd.underlying29 (by rfl) HIN.out ?_)
  with_reducible refine (HST.out _ E4.out.e L4.out).mono ?_
  rintro e w5 ⟨rfl, hb5⟩
  have B5 := Lib.hid (B4.out.trans (hb5.mono B4.out.size))
  clear hb5
  go_wp2
  go_ret
  exact ⟨rfl, B5.out⟩
end Go.Proofs.YtmmllhdphlnpjaaDoor
