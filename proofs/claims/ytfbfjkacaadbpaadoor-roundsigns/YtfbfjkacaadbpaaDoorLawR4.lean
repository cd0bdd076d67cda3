/- The walk of the law RoundSigns. -/
import Derived.Test.YtfbfjkacaadbpaaDoorRndP
namespace Go.Proofs.YtfbfjkacaadbpaaDoor
open Go.RowKit Florin
set_option linter.unusedVariables false
set_option linter.unusedSimpArgs false
attribute [local go_sem ↓] Go.wp_at_zero Go.wp_at_succ eq_V ne_V

set_option maxRecDepth 100000 in
set_option maxHeartbeats 1600000 in
theorem signs_no (n0 : Bool) (a0 : Option Addr) (len0 cap0 : Nat) (e0 : Int) (pl mo : Int) (w : World) (hc0 : len0 ≤ cap0) (hm0 : cap0 ≤ maxLen) (htab : Tab w) (h : ¬ ((len0 : Int) ≤ 40 ∧ -40 ≤ e0 ∧ e0 ≤ 40)) :
    Calls Tryd.prog 5 #[RV n0 a0 len0 cap0 e0, .int .i64 pl, .int .i64 mo] w fun x w' => x = .returned (.bool true) ∧ Below w.heap.size w w' := by
  have HT := Lib.hid htab
  have H := Lib.hid h
  clear htab h
  go_enter Tryd.func5, Tryd.ntmps5
  go_wp2_with fail
  with_reducible refine (head3 _ (HT.out.below (HeldL.alloc (HeldL.refl w) (w.heap.size) #[.bool n0, .slice a0 len0 cap0, .int .i64 e0] 24 (by simp)).bel)).mono ?_
  rintro x w1 ⟨rfl, hb⟩
  have H1 : Hid (HeldL w [(w.heap.size, #[.bool n0, .slice a0 len0 cap0, .int .i64 e0])] w1) := Lib.hid (HeldL.keep (HeldL.alloc (HeldL.refl w) (w.heap.size) #[.bool n0, .slice a0 len0 cap0, .int .i64 e0] 24 (by simp)) hb)
  clear hb
  have r0 : w1.cell? ⟨w.heap.size, 0, none⟩ = some (.bool n0) := (H1.out.f (List.Mem.head _)).cell 0
  have r1 : w1.cell? ⟨w.heap.size, 1, none⟩ = some (.slice a0 len0 cap0) := (H1.out.f (List.Mem.head _)).cell 1
  have r2 : w1.cell? ⟨w.heap.size, 2, none⟩ = some (.int .i64 e0) := (H1.out.f (List.Mem.head _)).cell 2
  have rl : w.heap.size < w1.heap.size := (H1.out.f (List.Mem.head _)).lt
  go_wp2_with fail
  with_reducible refine (few_no n0 a0 len0 cap0 e0 40 _ hc0 hm0 (by decide) (by decide) H.out).mono ?_
  rintro x w2 ⟨rfl, hb⟩
  clear r0 r1 r2 rl
  have H2 : Hid (HeldL w [(w.heap.size, #[.bool n0, .slice a0 len0 cap0, .int .i64 e0])] w2) := Lib.hid (HeldL.keep H1.out hb)
  clear H1
  clear hb
  go_wp2
  go_ret
  exact ⟨rfl, H2.out.bel⟩
end Go.Proofs.YtfbfjkacaadbpaaDoor
