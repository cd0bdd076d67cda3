/- Tables compared: two whose first texts differ, whatever else they hold. -/
import Derived.Test.YtkbigfkpgjhojaaTdE
namespace Go.Proofs.Ytkbigfkpgjhojaa
open Go.RowKit Florin
set_option linter.unusedVariables false
set_option linter.unusedSimpArgs false
attribute [local go_sem ↓] Go.wp_at_zero Go.wp_at_succ
set_option maxRecDepth 100000 in
set_option maxHeartbeats 6400000 in
theorem eqPt_no (a b : Nat) (s t : List UInt8) (X Y : Array Value) (v1 v2 : Value) (w : World) (h1 : PtL w v1 a) (h2 : PtL w v2 b) (hX : BoxT w a X TTb) (hY : BoxT w b Y TTb) (hf : X[0]? = some (S s)) (hf' : Y[0]? = some (S t)) (hne : s ≠ t) :
    Calls Try.prog 13 #[v1, v2, .func (Fn.func 15) #[] #[]] w fun e w' => e = .returned (.bool false) ∧ Below w.heap.size w w' := by
  obtain ⟨g1, c1, cur1, rfl, hg1, hc1, hm1, hq1⟩ := h1
  obtain ⟨g2, c2, cur2, rfl, hg2, hc2, hm2, hq2⟩ := h2
  unfold maxLen at hm1 hm2
  have p1 : w.cell? ⟨g1, 0, none⟩ = some (pAt a 0) := (BoxT.cell hg1 0).trans (hq1 0 (by decide))
  have p2 : w.cell? ⟨g2, 0, none⟩ = some (pAt b 0) := (BoxT.cell hg2 0).trans (hq2 0 (by decide))
  have HC := Lib.hid (sameText_as a b 0 0 s t w ((hX.cell 0).trans hf) ((hY.cell 0).trans hf'))
  clear hg1 hg2 hX hY hq1 hq2 hf hf'
  have HNE := Lib.hid hne
  clear hne
  go_enter Try.func13, Try.ntmps13
  go_wp2_with fail
  go_loopw [17] (fun i wr => i = .int .i64 0 ∧ wr = w) (fun i _ => 0)
  case atStart => exact ⟨rfl, rfl⟩
  case round =>
    obtain ⟨rfl, rfl⟩ := hrel
    have hk1 : (0 : Int) < (c1 : Int) := by omega
    have hk2 : (0 : Int) < (c2 : Int) := by omega
    go_wp2_with fail
    with_reducible refine (HC.out).mono ?_
    rintro e w4 ⟨rfl, hb4⟩
    have HB4 := Lib.hid hb4
    clear hb4 HC
    rw [show decide (s = t) = false from by simpa using HNE.out]
    go_wp2
    go_ret
    exact ⟨rfl, HB4.out⟩
set_option maxRecDepth 100000 in
set_option maxHeartbeats 12800000 in
theorem same_no (s t : List UInt8) (X Y : Array Value) (w : World) (hXi : (Try.prog.info? TTb).map (·.size) = some X.size) (hYi : (Try.prog.info? TTb).map (·.size) = some Y.size) (hX0 : X[0]? = some (S s)) (hY0 : Y[0]? = some (S t)) (hne : s ≠ t) :
    Calls Try.prog 7 #[.agg X, .agg Y] w fun e w' => e = .returned (.bool false) ∧ Below w.heap.size w w' := by
  have HIX := Lib.hid hXi
  have HIY := Lib.hid hYi
  have HX0 := Lib.hid hX0
  have HY0 := Lib.hid hY0
  have HNE := Lib.hid hne
  clear hXi hYi hX0 hY0 hne
  have HB0 := Lib.hid (((Below.refl w.heap.size w).alloc (Nat.le_refl _) (.cells X TTb)).alloc (by simp) (.cells Y TTb))
  have HX := Lib.hid ((BoxT.new w X TTb).alloc (.cells Y TTb))
  have HY := Lib.hid (BoxT.new (w.alloc (.cells X TTb)) Y TTb)
  rw [show (w.alloc (.cells X TTb)).heap.size = w.heap.size + 1 by simp] at HY
  go_enter Try.func7, Try.ntmps7
  go_wp2_with fail
  generalize (w.alloc (.cells X TTb)).alloc (.cells Y TTb) = w0 at *
  with_reducible refine (texts_as w.heap.size w0).mono ?_
  rintro e w1 ⟨t1, rfl, how1, hb1⟩
  have HP1 := Lib.hid (PtL.of how1)
  have HE1 := Lib.hid hb1
  clear how1 hb1
  go_wp2_with fail
  with_reducible refine (texts_as (w.heap.size + 1) w1).mono ?_
  rintro e w2 ⟨t2, rfl, how2, hb2⟩
  have HP2 := Lib.hid (PtL.of how2)
  have HP3 := Lib.hid (HP1.out.below hb2)
  have HE2 := Lib.hid (HE1.out.trans (hb2.mono HE1.out.size))
  clear how2 hb2 HE1
  go_wp2_with fail
  with_reducible refine (eqPt_no w.heap.size (w.heap.size + 1) s t X Y t1 t2 w2 HP3.out HP2.out (HX.out.below HE2.out) (HY.out.below HE2.out) HX0.out HY0.out HNE.out).mono ?_
  rintro e w3 ⟨rfl, hb3⟩
  have HE3 := Lib.hid (HE2.out.trans (hb3.mono HE2.out.size))
  clear hb3 HP1 HP2 HP3
  go_wp2
  go_ret
  exact ⟨rfl, below_two HB0.out HE3.out⟩
set_option maxRecDepth 100000 in
set_option maxHeartbeats 3200000 in
theorem gplain_as (w : World) : Calls Try.prog 28 #[] w fun e w' => e = .returned (.agg #[S [48], S [49], S [50], S [51], S [52], S [53], S [54], S [55], S [56], S [57]]) ∧ Below w.heap.size w w' := by
  have hld := run_loadVar_box (P := Try.prog) (BoxT.new w #[S [48], S [49], S [50], S [51], S [52], S [53], S [54], S [55], S [56], S [57]] 23) Try.underlying23 (by rfl) (by kernel_rfl)
  have HB := Lib.hid ((Below.refl w.heap.size w).alloc (Nat.le_refl _) (.cells #[S [48], S [49], S [50], S [51], S [52], S [53], S [54], S [55], S [56], S [57]] 23))
  go_enter Try.func28, Try.ntmps28
  go_wp2
  exact bodyPost_ret (v := .agg #[S [48], S [49], S [50], S [51], S [52], S [53], S [54], S [55], S [56], S [57]]) (by simp [results, Try.results28, asAddr, hld]) rfl ⟨rfl, HB.out⟩
set_option maxRecDepth 100000 in
set_option maxHeartbeats 3200000 in
theorem lone_as (s : List UInt8) (w : World) : Calls Try.prog 29 #[S s] w fun e w' => (∃ v, e = .returned (.slice (some ⟨v, 0, none⟩) 1 1)) ∧ Below w.heap.size w w' := by
  have HB := Lib.hid ((Below.refl w.heap.size w).alloc (Nat.le_refl _) (.cells #[.int .i64 5, S s] 56))
  go_enter Try.func29, Try.ntmps29
  go_wp2
  go_ret
  exact ⟨⟨_, rfl⟩, HB.out⟩
set_option maxRecDepth 100000 in
set_option maxHeartbeats 3200000 in
theorem ltwo_as (s t : List UInt8) (w : World) : Calls Try.prog 30 #[S s, S t] w fun e w' => (∃ v, e = .returned (.slice (some ⟨v, 0, none⟩) 2 2)) ∧ Below w.heap.size w w' := by
  have HB := Lib.hid ((Below.refl w.heap.size w).alloc (Nat.le_refl _) (.cells #[.int .i64 1, S s, .int .i64 5, S t] 56))
  go_enter Try.func30, Try.ntmps30
  go_wp2
  go_ret
  exact ⟨⟨_, rfl⟩, HB.out⟩
end Go.Proofs.Ytkbigfkpgjhojaa
