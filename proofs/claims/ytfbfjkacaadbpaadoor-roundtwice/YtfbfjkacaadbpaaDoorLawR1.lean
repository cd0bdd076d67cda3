/- The walk of the law RoundTwice. -/
import Derived.Test.YtfbfjkacaadbpaaDoorRndG
namespace Go.Proofs.YtfbfjkacaadbpaaDoor
open Go.RowKit Florin
set_option linter.unusedVariables false
set_option linter.unusedSimpArgs false
attribute [local go_sem ↓] Go.wp_at_zero Go.wp_at_succ eq_V

set_option maxRecDepth 100000 in
set_option maxHeartbeats 3200000 in
theorem twice_w (n : Bool) (a : Option Addr) (len cap : Nat) (L : List UInt8) (e pl more mo : Int) (w : World) (hin : InB w a len cap L) (htab : Tab w) (h1 : len ≤ 40) (h2 : -40 ≤ e) (h3 : e ≤ 40)
    (P M Q : Int) (hP : wrap64 (pl.tmod 60 - wrap64 ((pl.tmod 60).tdiv 2)) = P) (hM : wrap64 (3 + wrap64 ((IntKind.u64.wrap mo).tmod 4)) = M) (j : Nat) (hj : bits .and .i64 more 15 = (j : Int)) (hj2 : j ≤ 15) (hQ : P + (j : Int) = Q) (p1 : -30 ≤ P) (p2 : P ≤ 30)
    (g1 g2 : Tri) (hg1 : mulT (made n (dgs L) e) 1 (hld P) M = g1) (hg2 : mulT (made g1.neg g1.l g1.e) 1 (hld Q) M = g2) (hg3 : mulT (made n (dgs L) e) 1 (hld Q) M = g2) (l1 : g1.l.length ≤ 100000) :
    Calls Tryd.prog 6 #[RV n a len cap e, .int .i64 pl, .int .i64 more, .int .i64 mo] w fun x w' => x = .returned (.bool true) ∧ Below w.heap.size w w' := by
  have LL : (dgs L).length ≤ 100000 := by rw [dgs_length, hin.1]; omega
  have HP := Lib.hid hP
  have HM := Lib.hid hM
  have HJ := Lib.hid hj
  have HQ := Lib.hid hQ
  have HG1 := Lib.hid hg1
  have HG2 := Lib.hid hg2
  have HG3 := Lib.hid hg3
  have HT := Lib.hid htab
  have HIN := Lib.hid hin
  have hc1 := hin.2.1
  have hm1 := hin.2.2.1
  clear htab hin hP hM hj hQ hg1 hg2 hg3
  go_enter Tryd.func6, Tryd.ntmps6
  go_wp2_with fail
  with_reducible refine (head3 _ (HT.out.below (HeldL.alloc (HeldL.refl w) (w.heap.size) #[.bool n, .slice a len cap, .int .i64 e] 24 (by simp)).bel)).mono ?_
  rintro x w1 ⟨rfl, hb⟩
  have H1 : Hid (HeldL w [(w.heap.size, #[.bool n, .slice a len cap, .int .i64 e])] w1) := Lib.hid (HeldL.keep (HeldL.alloc (HeldL.refl w) (w.heap.size) #[.bool n, .slice a len cap, .int .i64 e] 24 (by simp)) hb)
  clear hb
  have r0 : w1.cell? ⟨w.heap.size, 0, none⟩ = some (.bool n) := (H1.out.f (List.Mem.head _)).cell 0
  have r1 : w1.cell? ⟨w.heap.size, 1, none⟩ = some (.slice a len cap) := (H1.out.f (List.Mem.head _)).cell 1
  have r2 : w1.cell? ⟨w.heap.size, 2, none⟩ = some (.int .i64 e) := (H1.out.f (List.Mem.head _)).cell 2
  have rl : w.heap.size < w1.heap.size := (H1.out.f (List.Mem.head _)).lt
  go_wp2_with fail
  with_reducible refine (few_yes n a len cap e 40 _ hc1 hm1 (by decide) (by decide) (by omega) h2 h3).mono ?_
  rintro x w2 ⟨rfl, hb⟩
  clear r0 r1 r2 rl
  have H2 : Hid (HeldL w [(w.heap.size, #[.bool n, .slice a len cap, .int .i64 e])] w2) := Lib.hid (HeldL.keep H1.out hb)
  clear H1
  clear hb
  have r0 : w2.cell? ⟨w.heap.size, 0, none⟩ = some (.bool n) := (H2.out.f (List.Mem.head _)).cell 0
  have r1 : w2.cell? ⟨w.heap.size, 1, none⟩ = some (.slice a len cap) := (H2.out.f (List.Mem.head _)).cell 1
  have r2 : w2.cell? ⟨w.heap.size, 2, none⟩ = some (.int .i64 e) := (H2.out.f (List.Mem.head _)).cell 2
  have rl : w.heap.size < w2.heap.size := (H2.out.f (List.Mem.head _)).lt
  go_wp2_with fail
  rw [HP.out, HM.out]
  with_reducible refine (make_as n a len cap L e _ (HIN.out.below H2.out.bel) (by omega)).mono ?_
  rintro x w3 ⟨rfl, hb⟩
  clear r0 r1 r2 rl
  have H3 : Hid (HeldL w [(w.heap.size, #[.bool n, .slice a len cap, .int .i64 e])] w3) := Lib.hid (HeldL.keep H2.out hb)
  clear H2
  clear hb
  go_wp2_with fail
  rw [HJ.out]
  have HQ2 : Hid (wrap64 (P + (j : Int)) = Q) := Lib.hid (by rw [← HQ.out]; unfold wrap64; omega)
  first | rw [HQ2.out] | rw [HQ.out]
  have ALL1 : Hid (∀ w' : World, HeldL w [(w3.heap.size, #[.bool n, S (dgs L), .int .i64 e]), (w.heap.size, #[.bool n, .slice a len cap, .int .i64 e])] w' → w'.cell? ⟨w3.heap.size, 0, none⟩ = some (.bool n) ∧ w'.cell? ⟨w3.heap.size, 1, none⟩ = some (S (dgs L)) ∧ w'.cell? ⟨w3.heap.size, 2, none⟩ = some (.int .i64 e) ∧ HeldL w [(w3.heap.size, #[.bool n, S (dgs L), .int .i64 e]), (w.heap.size, #[.bool n, .slice a len cap, .int .i64 e])] w') := Lib.hid (fun w' h => ⟨(h.f (List.Mem.head _)).cell 0, (h.f (List.Mem.head _)).cell 1, (h.f (List.Mem.head _)).cell 2, h⟩)
  have KEEP1 : Hid (∀ w' w'' : World, (w'.cell? ⟨w3.heap.size, 0, none⟩ = some (.bool n) ∧ w'.cell? ⟨w3.heap.size, 1, none⟩ = some (S (dgs L)) ∧ w'.cell? ⟨w3.heap.size, 2, none⟩ = some (.int .i64 e) ∧ HeldL w [(w3.heap.size, #[.bool n, S (dgs L), .int .i64 e]), (w.heap.size, #[.bool n, .slice a len cap, .int .i64 e])] w') → Below w'.heap.size w' w'' → (w''.cell? ⟨w3.heap.size, 0, none⟩ = some (.bool n) ∧ w''.cell? ⟨w3.heap.size, 1, none⟩ = some (S (dgs L)) ∧ w''.cell? ⟨w3.heap.size, 2, none⟩ = some (.int .i64 e) ∧ HeldL w [(w3.heap.size, #[.bool n, S (dgs L), .int .i64 e]), (w.heap.size, #[.bool n, .slice a len cap, .int .i64 e])] w'')) := Lib.hid (fun w' w'' h hb => ALL1.out _ (HeldL.keep (h.2.2.2) hb))
  have HS1 : Hid (HeldL w [(w3.heap.size, #[.bool n, S (dgs L), .int .i64 e]), (w.heap.size, #[.bool n, .slice a len cap, .int .i64 e])] _) := Lib.hid (HeldL.alloc H3.out (w3.heap.size) #[.bool n, S (dgs L), .int .i64 e] 28 (by simp))
  have TAB1 : Hid (∀ w' : World, (w'.cell? ⟨w3.heap.size, 0, none⟩ = some (.bool n) ∧ w'.cell? ⟨w3.heap.size, 1, none⟩ = some (S (dgs L)) ∧ w'.cell? ⟨w3.heap.size, 2, none⟩ = some (.int .i64 e) ∧ HeldL w [(w3.heap.size, #[.bool n, S (dgs L), .int .i64 e]), (w.heap.size, #[.bool n, .slice a len cap, .int .i64 e])] w') → Tab w') := Lib.hid (fun w' h => HT.out.below (h.2.2.2).bel)
  go_region_held3 (fun w' => w'.cell? ⟨w3.heap.size, 0, none⟩ = some (.bool n) ∧ w'.cell? ⟨w3.heap.size, 1, none⟩ = some (S (dgs L)) ∧ w'.cell? ⟨w3.heap.size, 2, none⟩ = some (.int .i64 e) ∧ HeldL w [(w3.heap.size, #[.bool n, S (dgs L), .int .i64 e]), (w.heap.size, #[.bool n, .slice a len cap, .int .i64 e])] w')
    (first | exact ALL1.out _ (HeldL.drew HS1.out) | exact KEEP1.out _ _ (by assumption) hb | assumption)
    (first | (go_at_call 15; (with_reducible refine (at_T ⟨n, dgs L, e⟩ P M g1 _ LL HG1.out (by first | exact HT.out.below HS1.out.bel.drew | exact TAB1.out _ (by assumption))).mono ?_); rintro x wA ⟨rfl, hb⟩) | (go_at_call 15; (with_reducible refine (at_T g1 Q M g2 _ l1 HG2.out (by first | exact HT.out.below HS1.out.bel.drew | exact TAB1.out _ (by assumption))).mono ?_); rintro x wB ⟨rfl, hb⟩) | (go_at_call 15; (with_reducible refine (at_T ⟨n, dgs L, e⟩ Q M g2 _ LL HG3.out (by first | exact HT.out.below HS1.out.bel.drew | exact TAB1.out _ (by assumption))).mono ?_); rintro x wC ⟨rfl, hb⟩))
  have HH : HeldL w [(w3.heap.size, #[.bool n, S (dgs L), .int .i64 e]), (w.heap.size, #[.bool n, .slice a len cap, .int .i64 e])] wC := (‹wC.cell? ⟨w3.heap.size, 0, none⟩ = some (.bool n) ∧ wC.cell? ⟨w3.heap.size, 1, none⟩ = some (S (dgs L)) ∧ wC.cell? ⟨w3.heap.size, 2, none⟩ = some (.int .i64 e) ∧ HeldL w [(w3.heap.size, #[.bool n, S (dgs L), .int .i64 e]), (w.heap.size, #[.bool n, .slice a len cap, .int .i64 e])] wC›).2.2.2
  have H4 : Hid (HeldL w [(w3.heap.size, #[.bool n, S (dgs L), .int .i64 e]), (w.heap.size, #[.bool n, .slice a len cap, .int .i64 e])] wC) := Lib.hid HH
  clear HH ALL1 KEEP1 HS1 TAB1 H3
  go_wp2
  go_ret
  exact ⟨rfl, H4.out.bel⟩
end Go.Proofs.YtfbfjkacaadbpaaDoor
