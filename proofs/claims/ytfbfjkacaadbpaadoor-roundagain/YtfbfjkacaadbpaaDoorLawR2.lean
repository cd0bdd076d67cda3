/- The walk of the law RoundAgain. -/
import Derived.Test.YtfbfjkacaadbpaaDoorRndP
namespace Go.Proofs.YtfbfjkacaadbpaaDoor
open Go.RowKit Florin
set_option linter.unusedVariables false
set_option linter.unusedSimpArgs false
attribute [local go_sem ↓] Go.wp_at_zero Go.wp_at_succ eq_V ne_V

theorem made_25 {P : Int} (h1 : -30000 ≤ P) (h2 : P ≤ 30000) : made false [50, 53] P = ⟨false, [50, 53], P⟩ := by
  rw [made_pos _ _ (by decide)]
  rw [show bare [50, 53] = [50, 53] by decide, show rt [50, 53] = [50, 53] by decide, Int.sub_self, Int.add_zero, hld_of h1 h2, hld_of h1 h2]
theorem step25 (d g : Tri) (P m : Int) (w : World) (h1 : d.l.length ≤ 100000) (p1 : -30000 ≤ P) (p2 : P ≤ 30000) (h : mulT (made d.neg d.l d.e) 25 P m = g) (ht : Tab w) :
    Calls Tryd.prog 17 #[V d, .agg #[.bool false, .string ⟨#[50, 53]⟩, .int .i64 P], .int .i64 m] w fun z w' => z = .returned (V g) ∧ Below w.heap.size w w' :=
  stepT_yes d ⟨false, [50, 53], P⟩ m g w h1 (by show 2 ≤ 100000; decide) [50, 53] P (made_25 p1 p2) (by decide) (by decide) h ht

set_option maxRecDepth 100000 in
set_option maxHeartbeats 6400000 in
theorem again_eq (n : Bool) (a : Option Addr) (len cap : Nat) (L : List UInt8) (e : Int) (n1 : Bool) (a1 : Option Addr) (len1 cap1 : Nat) (L1 : List UInt8) (e1 : Int) (pl mo : Int) (w : World) (hin : InB w a len cap L) (hin1 : InB w a1 len1 cap1 L1) (htab : Tab w) (h1 : len ≤ 40) (h2 : -40 ≤ e) (h3 : e ≤ 40) (k1 : len1 ≤ 40) (k2 : -40 ≤ e1) (k3 : e1 ≤ 40)
    (P M : Int) (hP : wrap64 (pl.tmod 60 - wrap64 ((pl.tmod 60).tdiv 2)) = P) (p1 : -30 ≤ P) (p2 : P ≤ 30) (hM : ∀ w : World, Calls Tryd.prog 19 #[.int .i64 mo] w fun x w' => x = .returned (.int .i64 M) ∧ w = w')
    (r t : Tri) (hr : mulT (made n (dgs L) e) 1 (hld P) M = r) (hs : mulT (made n1 (dgs L1) e1) 1 (hld P) M = r) (ht : mulT (made n (dgs L) e) 25 P M = t) (hu : mulT (made n1 (dgs L1) e1) 25 P M = t)
    (hrr : mulT (made r.neg r.l r.e) 1 (hld P) M = r) (htt : mulT (made t.neg t.l t.e) 25 P M = t) (rl : r.l.length ≤ 100000) (tl : t.l.length ≤ 100000) (hc : CmpIs ⟨n, dgs L, e⟩ ⟨n1, dgs L1, e1⟩ 0) :
    Calls Tryd.prog 4 #[RV n a len cap e, RV n1 a1 len1 cap1 e1, .int .i64 pl, .int .i64 mo] w fun x w' => x = .returned (.bool true) ∧ Below w.heap.size w w' := by
  have LL : (dgs L).length ≤ 100000 := by rw [dgs_length, hin.1]; omega
  have LL1 : (dgs L1).length ≤ 100000 := by rw [dgs_length, hin1.1]; omega
  have hcA := hin.2.1
  have hmA := hin.2.2.1
  have hcB := hin1.2.1
  have hmB := hin1.2.2.1
  have HP := Lib.hid hP
  have HR := Lib.hid hr
  have HS := Lib.hid hs
  have HTT := Lib.hid ht
  have HU := Lib.hid hu
  have HRR := Lib.hid hrr
  have HTT2 := Lib.hid htt
  have HT := Lib.hid htab
  have HIN := Lib.hid hin
  have HIN1 := Lib.hid hin1
  have HMO := Lib.hid hM
  have HC := Lib.hid hc
  clear hP hr hs ht hu hrr htt htab hin hin1 hM hc
  go_enter Tryd.func4, Tryd.ntmps4
  go_wp2_with fail
  with_reducible refine (head3 _ (HT.out.below (HeldL.alloc (HeldL.alloc (HeldL.refl w) (w.heap.size) #[.bool n, .slice a len cap, .int .i64 e] 24 (by simp)) (w.heap.size + 1) #[.bool n1, .slice a1 len1 cap1, .int .i64 e1] 24 (by simp)).bel)).mono ?_
  rintro x w1 ⟨rfl, hb⟩
  have H1 : Hid (HeldL w [(w.heap.size + 1, #[.bool n1, .slice a1 len1 cap1, .int .i64 e1]), (w.heap.size, #[.bool n, .slice a len cap, .int .i64 e])] w1) := Lib.hid (HeldL.keep (HeldL.alloc (HeldL.alloc (HeldL.refl w) (w.heap.size) #[.bool n, .slice a len cap, .int .i64 e] 24 (by simp)) (w.heap.size + 1) #[.bool n1, .slice a1 len1 cap1, .int .i64 e1] 24 (by simp)) hb)
  clear hb
  have r0 : w1.cell? ⟨w.heap.size, 0, none⟩ = some (.bool n) := (H1.out.f (List.Mem.tail _ (List.Mem.head _))).cell 0
  have r1 : w1.cell? ⟨w.heap.size, 1, none⟩ = some (.slice a len cap) := (H1.out.f (List.Mem.tail _ (List.Mem.head _))).cell 1
  have r2 : w1.cell? ⟨w.heap.size, 2, none⟩ = some (.int .i64 e) := (H1.out.f (List.Mem.tail _ (List.Mem.head _))).cell 2
  have rl : w.heap.size < w1.heap.size := (H1.out.f (List.Mem.tail _ (List.Mem.head _))).lt
  have q0 : w1.cell? ⟨w.heap.size + 1, 0, none⟩ = some (.bool n1) := (H1.out.f (List.Mem.head _)).cell 0
  have q1 : w1.cell? ⟨w.heap.size + 1, 1, none⟩ = some (.slice a1 len1 cap1) := (H1.out.f (List.Mem.head _)).cell 1
  have q2 : w1.cell? ⟨w.heap.size + 1, 2, none⟩ = some (.int .i64 e1) := (H1.out.f (List.Mem.head _)).cell 2
  have ql : w.heap.size + 1 < w1.heap.size := (H1.out.f (List.Mem.head _)).lt
  go_wp2_with fail
  with_reducible refine (few_yes n a len cap e 40 _ hcA hmA (by decide) (by decide) (by omega) h2 h3).mono ?_
  rintro x w2 ⟨rfl, hb⟩
  clear r0 r1 r2 rl q0 q1 q2 ql
  have H2 : Hid (HeldL w [(w.heap.size + 1, #[.bool n1, .slice a1 len1 cap1, .int .i64 e1]), (w.heap.size, #[.bool n, .slice a len cap, .int .i64 e])] w2) := Lib.hid (HeldL.keep H1.out hb)
  clear H1
  clear hb
  have r0 : w2.cell? ⟨w.heap.size, 0, none⟩ = some (.bool n) := (H2.out.f (List.Mem.tail _ (List.Mem.head _))).cell 0
  have r1 : w2.cell? ⟨w.heap.size, 1, none⟩ = some (.slice a len cap) := (H2.out.f (List.Mem.tail _ (List.Mem.head _))).cell 1
  have r2 : w2.cell? ⟨w.heap.size, 2, none⟩ = some (.int .i64 e) := (H2.out.f (List.Mem.tail _ (List.Mem.head _))).cell 2
  have rl : w.heap.size < w2.heap.size := (H2.out.f (List.Mem.tail _ (List.Mem.head _))).lt
  have q0 : w2.cell? ⟨w.heap.size + 1, 0, none⟩ = some (.bool n1) := (H2.out.f (List.Mem.head _)).cell 0
  have q1 : w2.cell? ⟨w.heap.size + 1, 1, none⟩ = some (.slice a1 len1 cap1) := (H2.out.f (List.Mem.head _)).cell 1
  have q2 : w2.cell? ⟨w.heap.size + 1, 2, none⟩ = some (.int .i64 e1) := (H2.out.f (List.Mem.head _)).cell 2
  have ql : w.heap.size + 1 < w2.heap.size := (H2.out.f (List.Mem.head _)).lt
  go_wp2_with fail
  with_reducible refine (few_yes n1 a1 len1 cap1 e1 40 _ hcB hmB (by decide) (by decide) (by omega) k2 k3).mono ?_
  rintro x w3 ⟨rfl, hb⟩
  clear r0 r1 r2 rl q0 q1 q2 ql
  have H3 : Hid (HeldL w [(w.heap.size + 1, #[.bool n1, .slice a1 len1 cap1, .int .i64 e1]), (w.heap.size, #[.bool n, .slice a len cap, .int .i64 e])] w3) := Lib.hid (HeldL.keep H2.out hb)
  clear H2
  clear hb
  have r0 : w3.cell? ⟨w.heap.size, 0, none⟩ = some (.bool n) := (H3.out.f (List.Mem.tail _ (List.Mem.head _))).cell 0
  have r1 : w3.cell? ⟨w.heap.size, 1, none⟩ = some (.slice a len cap) := (H3.out.f (List.Mem.tail _ (List.Mem.head _))).cell 1
  have r2 : w3.cell? ⟨w.heap.size, 2, none⟩ = some (.int .i64 e) := (H3.out.f (List.Mem.tail _ (List.Mem.head _))).cell 2
  have rl : w.heap.size < w3.heap.size := (H3.out.f (List.Mem.tail _ (List.Mem.head _))).lt
  have q0 : w3.cell? ⟨w.heap.size + 1, 0, none⟩ = some (.bool n1) := (H3.out.f (List.Mem.head _)).cell 0
  have q1 : w3.cell? ⟨w.heap.size + 1, 1, none⟩ = some (.slice a1 len1 cap1) := (H3.out.f (List.Mem.head _)).cell 1
  have q2 : w3.cell? ⟨w.heap.size + 1, 2, none⟩ = some (.int .i64 e1) := (H3.out.f (List.Mem.head _)).cell 2
  have ql : w.heap.size + 1 < w3.heap.size := (H3.out.f (List.Mem.head _)).lt
  go_wp2_with fail
  rw [HP.out]
  with_reducible refine (HMO.out _).mono ?_
  rintro x wz ⟨rfl, rfl⟩
  go_wp2_with fail
  with_reducible refine (make_as n a len cap L e _ (HIN.out.below H3.out.bel) (by omega)).mono ?_
  rintro x w4 ⟨rfl, hb⟩
  clear r0 r1 r2 rl q0 q1 q2 ql
  have H4 : Hid (HeldL w [(w.heap.size + 1, #[.bool n1, .slice a1 len1 cap1, .int .i64 e1]), (w.heap.size, #[.bool n, .slice a len cap, .int .i64 e])] w4) := Lib.hid (HeldL.keep H3.out hb)
  clear H3
  clear hb
  have q0 : w4.cell? ⟨w.heap.size + 1, 0, none⟩ = some (.bool n1) := (H4.out.f (List.Mem.head _)).cell 0
  have q1 : w4.cell? ⟨w.heap.size + 1, 1, none⟩ = some (.slice a1 len1 cap1) := (H4.out.f (List.Mem.head _)).cell 1
  have q2 : w4.cell? ⟨w.heap.size + 1, 2, none⟩ = some (.int .i64 e1) := (H4.out.f (List.Mem.head _)).cell 2
  have ql : w.heap.size + 1 < w4.heap.size := (H4.out.f (List.Mem.head _)).lt
  go_wp2_with fail
  with_reducible refine (make_as n1 a1 len1 cap1 L1 e1 _ (HIN1.out.below (HeldL.alloc H4.out (w4.heap.size) #[.bool n, S (dgs L), .int .i64 e] 28 (by simp)).bel) (by omega)).mono ?_
  rintro x w5 ⟨rfl, hb⟩
  clear q0 q1 q2 ql
  have H5 : Hid (HeldL w [(w4.heap.size, #[.bool n, S (dgs L), .int .i64 e]), (w.heap.size + 1, #[.bool n1, .slice a1 len1 cap1, .int .i64 e1]), (w.heap.size, #[.bool n, .slice a len cap, .int .i64 e])] w5) := Lib.hid (HeldL.keep (HeldL.alloc H4.out (w4.heap.size) #[.bool n, S (dgs L), .int .i64 e] 28 (by simp)) hb)
  clear H4
  clear hb
  have x0 : w5.cell? ⟨w4.heap.size, 0, none⟩ = some (.bool n) := (H5.out.f (List.Mem.head _)).cell 0
  have x1 : w5.cell? ⟨w4.heap.size, 1, none⟩ = some (S (dgs L)) := (H5.out.f (List.Mem.head _)).cell 1
  have x2 : w5.cell? ⟨w4.heap.size, 2, none⟩ = some (.int .i64 e) := (H5.out.f (List.Mem.head _)).cell 2
  have xl : w4.heap.size < w5.heap.size := (H5.out.f (List.Mem.head _)).lt
  go_wp2_with fail
  with_reducible refine (at_T ⟨n, dgs L, e⟩ P M r _ LL HR.out (HT.out.below (HeldL.alloc H5.out (w5.heap.size) #[.bool n1, S (dgs L1), .int .i64 e1] 28 (by simp)).bel)).mono ?_
  rintro x w6 ⟨rfl, hb⟩
  clear x0 x1 x2 xl
  have H6 : Hid (HeldL w [(w5.heap.size, #[.bool n1, S (dgs L1), .int .i64 e1]), (w4.heap.size, #[.bool n, S (dgs L), .int .i64 e]), (w.heap.size + 1, #[.bool n1, .slice a1 len1 cap1, .int .i64 e1]), (w.heap.size, #[.bool n, .slice a len cap, .int .i64 e])] w6) := Lib.hid (HeldL.keep (HeldL.alloc H5.out (w5.heap.size) #[.bool n1, S (dgs L1), .int .i64 e1] 28 (by simp)) hb)
  clear H5
  clear hb
  have x0 : w6.cell? ⟨w4.heap.size, 0, none⟩ = some (.bool n) := (H6.out.f (List.Mem.tail _ (List.Mem.head _))).cell 0
  have x1 : w6.cell? ⟨w4.heap.size, 1, none⟩ = some (S (dgs L)) := (H6.out.f (List.Mem.tail _ (List.Mem.head _))).cell 1
  have x2 : w6.cell? ⟨w4.heap.size, 2, none⟩ = some (.int .i64 e) := (H6.out.f (List.Mem.tail _ (List.Mem.head _))).cell 2
  have xl : w4.heap.size < w6.heap.size := (H6.out.f (List.Mem.tail _ (List.Mem.head _))).lt
  have y0 : w6.cell? ⟨w5.heap.size, 0, none⟩ = some (.bool n1) := (H6.out.f (List.Mem.head _)).cell 0
  have y1 : w6.cell? ⟨w5.heap.size, 1, none⟩ = some (S (dgs L1)) := (H6.out.f (List.Mem.head _)).cell 1
  have y2 : w6.cell? ⟨w5.heap.size, 2, none⟩ = some (.int .i64 e1) := (H6.out.f (List.Mem.head _)).cell 2
  have yl : w5.heap.size < w6.heap.size := (H6.out.f (List.Mem.head _)).lt
  go_wp2_with fail
  with_reducible refine (at_T ⟨n1, dgs L1, e1⟩ P M r _ LL1 HS.out (HT.out.below (HeldL.alloc H6.out (w6.heap.size) #[.bool r.neg, S r.l, .int .i64 r.e] 28 (by simp)).bel)).mono ?_
  rintro x w7 ⟨rfl, hb⟩
  clear x0 x1 x2 xl y0 y1 y2 yl
  have H7 : Hid (HeldL w [(w6.heap.size, #[.bool r.neg, S r.l, .int .i64 r.e]), (w5.heap.size, #[.bool n1, S (dgs L1), .int .i64 e1]), (w4.heap.size, #[.bool n, S (dgs L), .int .i64 e]), (w.heap.size + 1, #[.bool n1, .slice a1 len1 cap1, .int .i64 e1]), (w.heap.size, #[.bool n, .slice a len cap, .int .i64 e])] w7) := Lib.hid (HeldL.keep (HeldL.alloc H6.out (w6.heap.size) #[.bool r.neg, S r.l, .int .i64 r.e] 28 (by simp)) hb)
  clear H6
  clear hb
  have x0 : w7.cell? ⟨w4.heap.size, 0, none⟩ = some (.bool n) := (H7.out.f (List.Mem.tail _ (List.Mem.tail _ (List.Mem.head _)))).cell 0
  have x1 : w7.cell? ⟨w4.heap.size, 1, none⟩ = some (S (dgs L)) := (H7.out.f (List.Mem.tail _ (List.Mem.tail _ (List.Mem.head _)))).cell 1
  have x2 : w7.cell? ⟨w4.heap.size, 2, none⟩ = some (.int .i64 e) := (H7.out.f (List.Mem.tail _ (List.Mem.tail _ (List.Mem.head _)))).cell 2
  have xl : w4.heap.size < w7.heap.size := (H7.out.f (List.Mem.tail _ (List.Mem.tail _ (List.Mem.head _)))).lt
  have y0 : w7.cell? ⟨w5.heap.size, 0, none⟩ = some (.bool n1) := (H7.out.f (List.Mem.tail _ (List.Mem.head _))).cell 0
  have y1 : w7.cell? ⟨w5.heap.size, 1, none⟩ = some (S (dgs L1)) := (H7.out.f (List.Mem.tail _ (List.Mem.head _))).cell 1
  have y2 : w7.cell? ⟨w5.heap.size, 2, none⟩ = some (.int .i64 e1) := (H7.out.f (List.Mem.tail _ (List.Mem.head _))).cell 2
  have yl : w5.heap.size < w7.heap.size := (H7.out.f (List.Mem.tail _ (List.Mem.head _))).lt
  go_wp2_with fail
  with_reducible refine (made_as false ⟨#[50, 53]⟩ P _ (by decide) ⟨false, [50, 53], P⟩ (made_25 (by omega) (by omega))).mono ?_
  rintro x w8 ⟨rfl, hb⟩
  clear x0 x1 x2 xl y0 y1 y2 yl
  have H8 : Hid (HeldL w [(w7.heap.size, #[.bool r.neg, S r.l, .int .i64 r.e]), (w6.heap.size, #[.bool r.neg, S r.l, .int .i64 r.e]), (w5.heap.size, #[.bool n1, S (dgs L1), .int .i64 e1]), (w4.heap.size, #[.bool n, S (dgs L), .int .i64 e]), (w.heap.size + 1, #[.bool n1, .slice a1 len1 cap1, .int .i64 e1]), (w.heap.size, #[.bool n, .slice a len cap, .int .i64 e])] w8) := Lib.hid (HeldL.keep (HeldL.alloc H7.out (w7.heap.size) #[.bool r.neg, S r.l, .int .i64 r.e] 28 (by simp)) hb)
  clear H7
  clear hb
  have x0 : w8.cell? ⟨w4.heap.size, 0, none⟩ = some (.bool n) := (H8.out.f (List.Mem.tail _ (List.Mem.tail _ (List.Mem.tail _ (List.Mem.head _))))).cell 0
  have x1 : w8.cell? ⟨w4.heap.size, 1, none⟩ = some (S (dgs L)) := (H8.out.f (List.Mem.tail _ (List.Mem.tail _ (List.Mem.tail _ (List.Mem.head _))))).cell 1
  have x2 : w8.cell? ⟨w4.heap.size, 2, none⟩ = some (.int .i64 e) := (H8.out.f (List.Mem.tail _ (List.Mem.tail _ (List.Mem.tail _ (List.Mem.head _))))).cell 2
  have xl : w4.heap.size < w8.heap.size := (H8.out.f (List.Mem.tail _ (List.Mem.tail _ (List.Mem.tail _ (List.Mem.head _))))).lt
  have y0 : w8.cell? ⟨w5.heap.size, 0, none⟩ = some (.bool n1) := (H8.out.f (List.Mem.tail _ (List.Mem.tail _ (List.Mem.head _)))).cell 0
  have y1 : w8.cell? ⟨w5.heap.size, 1, none⟩ = some (S (dgs L1)) := (H8.out.f (List.Mem.tail _ (List.Mem.tail _ (List.Mem.head _)))).cell 1
  have y2 : w8.cell? ⟨w5.heap.size, 2, none⟩ = some (.int .i64 e1) := (H8.out.f (List.Mem.tail _ (List.Mem.tail _ (List.Mem.head _)))).cell 2
  have yl : w5.heap.size < w8.heap.size := (H8.out.f (List.Mem.tail _ (List.Mem.tail _ (List.Mem.head _)))).lt
  go_wp2_with fail
  with_reducible refine (step25 ⟨n, dgs L, e⟩ t P M _ LL (by omega) (by omega) HTT.out (HT.out.below (HeldL.alloc H8.out (w8.heap.size) #[.bool false, .string ⟨#[50, 53]⟩, .int .i64 P] 28 (by simp)).bel)).mono ?_
  rintro x w9 ⟨rfl, hb⟩
  clear x0 x1 x2 xl y0 y1 y2 yl
  have H9 : Hid (HeldL w [(w8.heap.size, #[.bool false, .string ⟨#[50, 53]⟩, .int .i64 P]), (w7.heap.size, #[.bool r.neg, S r.l, .int .i64 r.e]), (w6.heap.size, #[.bool r.neg, S r.l, .int .i64 r.e]), (w5.heap.size, #[.bool n1, S (dgs L1), .int .i64 e1]), (w4.heap.size, #[.bool n, S (dgs L), .int .i64 e]), (w.heap.size + 1, #[.bool n1, .slice a1 len1 cap1, .int .i64 e1]), (w.heap.size, #[.bool n, .slice a len cap, .int .i64 e])] w9) := Lib.hid (HeldL.keep (HeldL.alloc H8.out (w8.heap.size) #[.bool false, .string ⟨#[50, 53]⟩, .int .i64 P] 28 (by simp)) hb)
  clear H8
  clear hb
  have x0 : w9.cell? ⟨w4.heap.size, 0, none⟩ = some (.bool n) := (H9.out.f (List.Mem.tail _ (List.Mem.tail _ (List.Mem.tail _ (List.Mem.tail _ (List.Mem.head _)))))).cell 0
  have x1 : w9.cell? ⟨w4.heap.size, 1, none⟩ = some (S (dgs L)) := (H9.out.f (List.Mem.tail _ (List.Mem.tail _ (List.Mem.tail _ (List.Mem.tail _ (List.Mem.head _)))))).cell 1
  have x2 : w9.cell? ⟨w4.heap.size, 2, none⟩ = some (.int .i64 e) := (H9.out.f (List.Mem.tail _ (List.Mem.tail _ (List.Mem.tail _ (List.Mem.tail _ (List.Mem.head _)))))).cell 2
  have xl : w4.heap.size < w9.heap.size := (H9.out.f (List.Mem.tail _ (List.Mem.tail _ (List.Mem.tail _ (List.Mem.tail _ (List.Mem.head _)))))).lt
  have y0 : w9.cell? ⟨w5.heap.size, 0, none⟩ = some (.bool n1) := (H9.out.f (List.Mem.tail _ (List.Mem.tail _ (List.Mem.tail _ (List.Mem.head _))))).cell 0
  have y1 : w9.cell? ⟨w5.heap.size, 1, none⟩ = some (S (dgs L1)) := (H9.out.f (List.Mem.tail _ (List.Mem.tail _ (List.Mem.tail _ (List.Mem.head _))))).cell 1
  have y2 : w9.cell? ⟨w5.heap.size, 2, none⟩ = some (.int .i64 e1) := (H9.out.f (List.Mem.tail _ (List.Mem.tail _ (List.Mem.tail _ (List.Mem.head _))))).cell 2
  have yl : w5.heap.size < w9.heap.size := (H9.out.f (List.Mem.tail _ (List.Mem.tail _ (List.Mem.tail _ (List.Mem.head _))))).lt
  have by0 : w9.cell? ⟨w8.heap.size, 0, none⟩ = some (.bool false) := (H9.out.f (List.Mem.head _)).cell 0
  have by1 : w9.cell? ⟨w8.heap.size, 1, none⟩ = some (.string ⟨#[50, 53]⟩) := (H9.out.f (List.Mem.head _)).cell 1
  have by2 : w9.cell? ⟨w8.heap.size, 2, none⟩ = some (.int .i64 P) := (H9.out.f (List.Mem.head _)).cell 2
  have byl : w8.heap.size < w9.heap.size := (H9.out.f (List.Mem.head _)).lt
  go_wp2_with fail
  with_reducible refine (step25 ⟨n1, dgs L1, e1⟩ t P M _ LL1 (by omega) (by omega) HU.out (HT.out.below (HeldL.alloc H9.out (w9.heap.size) #[.bool t.neg, S t.l, .int .i64 t.e] 28 (by simp)).bel)).mono ?_
  rintro x w10 ⟨rfl, hb⟩
  clear x0 x1 x2 xl y0 y1 y2 yl by0 by1 by2 byl
  have H10 : Hid (HeldL w [(w9.heap.size, #[.bool t.neg, S t.l, .int .i64 t.e]), (w8.heap.size, #[.bool false, .string ⟨#[50, 53]⟩, .int .i64 P]), (w7.heap.size, #[.bool r.neg, S r.l, .int .i64 r.e]), (w6.heap.size, #[.bool r.neg, S r.l, .int .i64 r.e]), (w5.heap.size, #[.bool n1, S (dgs L1), .int .i64 e1]), (w4.heap.size, #[.bool n, S (dgs L), .int .i64 e]), (w.heap.size + 1, #[.bool n1, .slice a1 len1 cap1, .int .i64 e1]), (w.heap.size, #[.bool n, .slice a len cap, .int .i64 e])] w10) := Lib.hid (HeldL.keep (HeldL.alloc H9.out (w9.heap.size) #[.bool t.neg, S t.l, .int .i64 t.e] 28 (by simp)) hb)
  clear H9
  clear hb
  have x0 : w10.cell? ⟨w4.heap.size, 0, none⟩ = some (.bool n) := (H10.out.f (List.Mem.tail _ (List.Mem.tail _ (List.Mem.tail _ (List.Mem.tail _ (List.Mem.tail _ (List.Mem.head _))))))).cell 0
  have x1 : w10.cell? ⟨w4.heap.size, 1, none⟩ = some (S (dgs L)) := (H10.out.f (List.Mem.tail _ (List.Mem.tail _ (List.Mem.tail _ (List.Mem.tail _ (List.Mem.tail _ (List.Mem.head _))))))).cell 1
  have x2 : w10.cell? ⟨w4.heap.size, 2, none⟩ = some (.int .i64 e) := (H10.out.f (List.Mem.tail _ (List.Mem.tail _ (List.Mem.tail _ (List.Mem.tail _ (List.Mem.tail _ (List.Mem.head _))))))).cell 2
  have xl : w4.heap.size < w10.heap.size := (H10.out.f (List.Mem.tail _ (List.Mem.tail _ (List.Mem.tail _ (List.Mem.tail _ (List.Mem.tail _ (List.Mem.head _))))))).lt
  have y0 : w10.cell? ⟨w5.heap.size, 0, none⟩ = some (.bool n1) := (H10.out.f (List.Mem.tail _ (List.Mem.tail _ (List.Mem.tail _ (List.Mem.tail _ (List.Mem.head _)))))).cell 0
  have y1 : w10.cell? ⟨w5.heap.size, 1, none⟩ = some (S (dgs L1)) := (H10.out.f (List.Mem.tail _ (List.Mem.tail _ (List.Mem.tail _ (List.Mem.tail _ (List.Mem.head _)))))).cell 1
  have y2 : w10.cell? ⟨w5.heap.size, 2, none⟩ = some (.int .i64 e1) := (H10.out.f (List.Mem.tail _ (List.Mem.tail _ (List.Mem.tail _ (List.Mem.tail _ (List.Mem.head _)))))).cell 2
  have yl : w5.heap.size < w10.heap.size := (H10.out.f (List.Mem.tail _ (List.Mem.tail _ (List.Mem.tail _ (List.Mem.tail _ (List.Mem.head _)))))).lt
  go_wp2_with fail
  with_reducible refine (cmp_T ⟨n, dgs L, e⟩ ⟨n1, dgs L1, e1⟩ 0 _ LL LL1 HC.out).mono ?_
  rintro x w11 ⟨rfl, hb⟩
  clear x0 x1 x2 xl y0 y1 y2 yl
  have H11 : Hid (HeldL w [(w10.heap.size, #[.bool t.neg, S t.l, .int .i64 t.e]), (w9.heap.size, #[.bool t.neg, S t.l, .int .i64 t.e]), (w8.heap.size, #[.bool false, .string ⟨#[50, 53]⟩, .int .i64 P]), (w7.heap.size, #[.bool r.neg, S r.l, .int .i64 r.e]), (w6.heap.size, #[.bool r.neg, S r.l, .int .i64 r.e]), (w5.heap.size, #[.bool n1, S (dgs L1), .int .i64 e1]), (w4.heap.size, #[.bool n, S (dgs L), .int .i64 e]), (w.heap.size + 1, #[.bool n1, .slice a1 len1 cap1, .int .i64 e1]), (w.heap.size, #[.bool n, .slice a len cap, .int .i64 e])] w11) := Lib.hid (HeldL.keep (HeldL.alloc H10.out (w10.heap.size) #[.bool t.neg, S t.l, .int .i64 t.e] 28 (by simp)) hb)
  clear H10
  clear hb
  have rr0 : w11.cell? ⟨w6.heap.size, 0, none⟩ = some (.bool r.neg) := (H11.out.f (List.Mem.tail _ (List.Mem.tail _ (List.Mem.tail _ (List.Mem.tail _ (List.Mem.head _)))))).cell 0
  have rr1 : w11.cell? ⟨w6.heap.size, 1, none⟩ = some (S r.l) := (H11.out.f (List.Mem.tail _ (List.Mem.tail _ (List.Mem.tail _ (List.Mem.tail _ (List.Mem.head _)))))).cell 1
  have rr2 : w11.cell? ⟨w6.heap.size, 2, none⟩ = some (.int .i64 r.e) := (H11.out.f (List.Mem.tail _ (List.Mem.tail _ (List.Mem.tail _ (List.Mem.tail _ (List.Mem.head _)))))).cell 2
  have rrl : w6.heap.size < w11.heap.size := (H11.out.f (List.Mem.tail _ (List.Mem.tail _ (List.Mem.tail _ (List.Mem.tail _ (List.Mem.head _)))))).lt
  have ss0 : w11.cell? ⟨w7.heap.size, 0, none⟩ = some (.bool r.neg) := (H11.out.f (List.Mem.tail _ (List.Mem.tail _ (List.Mem.tail _ (List.Mem.head _))))).cell 0
  have ss1 : w11.cell? ⟨w7.heap.size, 1, none⟩ = some (S r.l) := (H11.out.f (List.Mem.tail _ (List.Mem.tail _ (List.Mem.tail _ (List.Mem.head _))))).cell 1
  have ss2 : w11.cell? ⟨w7.heap.size, 2, none⟩ = some (.int .i64 r.e) := (H11.out.f (List.Mem.tail _ (List.Mem.tail _ (List.Mem.tail _ (List.Mem.head _))))).cell 2
  have ssl : w7.heap.size < w11.heap.size := (H11.out.f (List.Mem.tail _ (List.Mem.tail _ (List.Mem.tail _ (List.Mem.head _))))).lt
  have tt0 : w11.cell? ⟨w9.heap.size, 0, none⟩ = some (.bool t.neg) := (H11.out.f (List.Mem.tail _ (List.Mem.head _))).cell 0
  have tt1 : w11.cell? ⟨w9.heap.size, 1, none⟩ = some (S t.l) := (H11.out.f (List.Mem.tail _ (List.Mem.head _))).cell 1
  have tt2 : w11.cell? ⟨w9.heap.size, 2, none⟩ = some (.int .i64 t.e) := (H11.out.f (List.Mem.tail _ (List.Mem.head _))).cell 2
  have ttl : w9.heap.size < w11.heap.size := (H11.out.f (List.Mem.tail _ (List.Mem.head _))).lt
  have uu0 : w11.cell? ⟨w10.heap.size, 0, none⟩ = some (.bool t.neg) := (H11.out.f (List.Mem.head _)).cell 0
  have uu1 : w11.cell? ⟨w10.heap.size, 1, none⟩ = some (S t.l) := (H11.out.f (List.Mem.head _)).cell 1
  have uu2 : w11.cell? ⟨w10.heap.size, 2, none⟩ = some (.int .i64 t.e) := (H11.out.f (List.Mem.head _)).cell 2
  have uul : w10.heap.size < w11.heap.size := (H11.out.f (List.Mem.head _)).lt
  have by0 : w11.cell? ⟨w8.heap.size, 0, none⟩ = some (.bool false) := (H11.out.f (List.Mem.tail _ (List.Mem.tail _ (List.Mem.head _)))).cell 0
  have by1 : w11.cell? ⟨w8.heap.size, 1, none⟩ = some (.string ⟨#[50, 53]⟩) := (H11.out.f (List.Mem.tail _ (List.Mem.tail _ (List.Mem.head _)))).cell 1
  have by2 : w11.cell? ⟨w8.heap.size, 2, none⟩ = some (.int .i64 P) := (H11.out.f (List.Mem.tail _ (List.Mem.tail _ (List.Mem.head _)))).cell 2
  have byl : w8.heap.size < w11.heap.size := (H11.out.f (List.Mem.tail _ (List.Mem.tail _ (List.Mem.head _)))).lt
  go_wp2_with fail
  have ALL1 : Hid (∀ w' : World, HeldL w [(w10.heap.size, #[.bool t.neg, S t.l, .int .i64 t.e]), (w9.heap.size, #[.bool t.neg, S t.l, .int .i64 t.e]), (w8.heap.size, #[.bool false, .string ⟨#[50, 53]⟩, .int .i64 P]), (w7.heap.size, #[.bool r.neg, S r.l, .int .i64 r.e]), (w6.heap.size, #[.bool r.neg, S r.l, .int .i64 r.e]), (w5.heap.size, #[.bool n1, S (dgs L1), .int .i64 e1]), (w4.heap.size, #[.bool n, S (dgs L), .int .i64 e]), (w.heap.size + 1, #[.bool n1, .slice a1 len1 cap1, .int .i64 e1]), (w.heap.size, #[.bool n, .slice a len cap, .int .i64 e])] w' → w'.cell? ⟨w6.heap.size, 0, none⟩ = some (.bool r.neg) ∧ w'.cell? ⟨w6.heap.size, 1, none⟩ = some (S r.l) ∧ w'.cell? ⟨w6.heap.size, 2, none⟩ = some (.int .i64 r.e) ∧ w'.cell? ⟨w9.heap.size, 0, none⟩ = some (.bool t.neg) ∧ w'.cell? ⟨w9.heap.size, 1, none⟩ = some (S t.l) ∧ w'.cell? ⟨w9.heap.size, 2, none⟩ = some (.int .i64 t.e) ∧ w'.cell? ⟨w8.heap.size, 0, none⟩ = some (.bool false) ∧ w'.cell? ⟨w8.heap.size, 1, none⟩ = some (.string ⟨#[50, 53]⟩) ∧ w'.cell? ⟨w8.heap.size, 2, none⟩ = some (.int .i64 P) ∧ HeldL w [(w10.heap.size, #[.bool t.neg, S t.l, .int .i64 t.e]), (w9.heap.size, #[.bool t.neg, S t.l, .int .i64 t.e]), (w8.heap.size, #[.bool false, .string ⟨#[50, 53]⟩, .int .i64 P]), (w7.heap.size, #[.bool r.neg, S r.l, .int .i64 r.e]), (w6.heap.size, #[.bool r.neg, S r.l, .int .i64 r.e]), (w5.heap.size, #[.bool n1, S (dgs L1), .int .i64 e1]), (w4.heap.size, #[.bool n, S (dgs L), .int .i64 e]), (w.heap.size + 1, #[.bool n1, .slice a1 len1 cap1, .int .i64 e1]), (w.heap.size, #[.bool n, .slice a len cap, .int .i64 e])] w') := Lib.hid (fun w' h => ⟨(h.f (List.Mem.tail _ (List.Mem.tail _ (List.Mem.tail _ (List.Mem.tail _ (List.Mem.head _)))))).cell 0, (h.f (List.Mem.tail _ (List.Mem.tail _ (List.Mem.tail _ (List.Mem.tail _ (List.Mem.head _)))))).cell 1, (h.f (List.Mem.tail _ (List.Mem.tail _ (List.Mem.tail _ (List.Mem.tail _ (List.Mem.head _)))))).cell 2, (h.f (List.Mem.tail _ (List.Mem.head _))).cell 0, (h.f (List.Mem.tail _ (List.Mem.head _))).cell 1, (h.f (List.Mem.tail _ (List.Mem.head _))).cell 2, (h.f (List.Mem.tail _ (List.Mem.tail _ (List.Mem.head _)))).cell 0, (h.f (List.Mem.tail _ (List.Mem.tail _ (List.Mem.head _)))).cell 1, (h.f (List.Mem.tail _ (List.Mem.tail _ (List.Mem.head _)))).cell 2, h⟩)
  have KEEP1 : Hid (∀ w' w'' : World, (w'.cell? ⟨w6.heap.size, 0, none⟩ = some (.bool r.neg) ∧ w'.cell? ⟨w6.heap.size, 1, none⟩ = some (S r.l) ∧ w'.cell? ⟨w6.heap.size, 2, none⟩ = some (.int .i64 r.e) ∧ w'.cell? ⟨w9.heap.size, 0, none⟩ = some (.bool t.neg) ∧ w'.cell? ⟨w9.heap.size, 1, none⟩ = some (S t.l) ∧ w'.cell? ⟨w9.heap.size, 2, none⟩ = some (.int .i64 t.e) ∧ w'.cell? ⟨w8.heap.size, 0, none⟩ = some (.bool false) ∧ w'.cell? ⟨w8.heap.size, 1, none⟩ = some (.string ⟨#[50, 53]⟩) ∧ w'.cell? ⟨w8.heap.size, 2, none⟩ = some (.int .i64 P) ∧ HeldL w [(w10.heap.size, #[.bool t.neg, S t.l, .int .i64 t.e]), (w9.heap.size, #[.bool t.neg, S t.l, .int .i64 t.e]), (w8.heap.size, #[.bool false, .string ⟨#[50, 53]⟩, .int .i64 P]), (w7.heap.size, #[.bool r.neg, S r.l, .int .i64 r.e]), (w6.heap.size, #[.bool r.neg, S r.l, .int .i64 r.e]), (w5.heap.size, #[.bool n1, S (dgs L1), .int .i64 e1]), (w4.heap.size, #[.bool n, S (dgs L), .int .i64 e]), (w.heap.size + 1, #[.bool n1, .slice a1 len1 cap1, .int .i64 e1]), (w.heap.size, #[.bool n, .slice a len cap, .int .i64 e])] w') → Below w'.heap.size w' w'' → (w''.cell? ⟨w6.heap.size, 0, none⟩ = some (.bool r.neg) ∧ w''.cell? ⟨w6.heap.size, 1, none⟩ = some (S r.l) ∧ w''.cell? ⟨w6.heap.size, 2, none⟩ = some (.int .i64 r.e) ∧ w''.cell? ⟨w9.heap.size, 0, none⟩ = some (.bool t.neg) ∧ w''.cell? ⟨w9.heap.size, 1, none⟩ = some (S t.l) ∧ w''.cell? ⟨w9.heap.size, 2, none⟩ = some (.int .i64 t.e) ∧ w''.cell? ⟨w8.heap.size, 0, none⟩ = some (.bool false) ∧ w''.cell? ⟨w8.heap.size, 1, none⟩ = some (.string ⟨#[50, 53]⟩) ∧ w''.cell? ⟨w8.heap.size, 2, none⟩ = some (.int .i64 P) ∧ HeldL w [(w10.heap.size, #[.bool t.neg, S t.l, .int .i64 t.e]), (w9.heap.size, #[.bool t.neg, S t.l, .int .i64 t.e]), (w8.heap.size, #[.bool false, .string ⟨#[50, 53]⟩, .int .i64 P]), (w7.heap.size, #[.bool r.neg, S r.l, .int .i64 r.e]), (w6.heap.size, #[.bool r.neg, S r.l, .int .i64 r.e]), (w5.heap.size, #[.bool n1, S (dgs L1), .int .i64 e1]), (w4.heap.size, #[.bool n, S (dgs L), .int .i64 e]), (w.heap.size + 1, #[.bool n1, .slice a1 len1 cap1, .int .i64 e1]), (w.heap.size, #[.bool n, .slice a len cap, .int .i64 e])] w'')) := Lib.hid (fun w' w'' h hb => ALL1.out _ (HeldL.keep (h.2.2.2.2.2.2.2.2.2) hb))
  have HS1 : Hid (HeldL w [(w10.heap.size, #[.bool t.neg, S t.l, .int .i64 t.e]), (w9.heap.size, #[.bool t.neg, S t.l, .int .i64 t.e]), (w8.heap.size, #[.bool false, .string ⟨#[50, 53]⟩, .int .i64 P]), (w7.heap.size, #[.bool r.neg, S r.l, .int .i64 r.e]), (w6.heap.size, #[.bool r.neg, S r.l, .int .i64 r.e]), (w5.heap.size, #[.bool n1, S (dgs L1), .int .i64 e1]), (w4.heap.size, #[.bool n, S (dgs L), .int .i64 e]), (w.heap.size + 1, #[.bool n1, .slice a1 len1 cap1, .int .i64 e1]), (w.heap.size, #[.bool n, .slice a len cap, .int .i64 e])] _) := Lib.hid H11.out
  have TAB1 : Hid (∀ w' : World, (w'.cell? ⟨w6.heap.size, 0, none⟩ = some (.bool r.neg) ∧ w'.cell? ⟨w6.heap.size, 1, none⟩ = some (S r.l) ∧ w'.cell? ⟨w6.heap.size, 2, none⟩ = some (.int .i64 r.e) ∧ w'.cell? ⟨w9.heap.size, 0, none⟩ = some (.bool t.neg) ∧ w'.cell? ⟨w9.heap.size, 1, none⟩ = some (S t.l) ∧ w'.cell? ⟨w9.heap.size, 2, none⟩ = some (.int .i64 t.e) ∧ w'.cell? ⟨w8.heap.size, 0, none⟩ = some (.bool false) ∧ w'.cell? ⟨w8.heap.size, 1, none⟩ = some (.string ⟨#[50, 53]⟩) ∧ w'.cell? ⟨w8.heap.size, 2, none⟩ = some (.int .i64 P) ∧ HeldL w [(w10.heap.size, #[.bool t.neg, S t.l, .int .i64 t.e]), (w9.heap.size, #[.bool t.neg, S t.l, .int .i64 t.e]), (w8.heap.size, #[.bool false, .string ⟨#[50, 53]⟩, .int .i64 P]), (w7.heap.size, #[.bool r.neg, S r.l, .int .i64 r.e]), (w6.heap.size, #[.bool r.neg, S r.l, .int .i64 r.e]), (w5.heap.size, #[.bool n1, S (dgs L1), .int .i64 e1]), (w4.heap.size, #[.bool n, S (dgs L), .int .i64 e]), (w.heap.size + 1, #[.bool n1, .slice a1 len1 cap1, .int .i64 e1]), (w.heap.size, #[.bool n, .slice a len cap, .int .i64 e])] w') → Tab w') := Lib.hid (fun w' h => HT.out.below (h.2.2.2.2.2.2.2.2.2).bel)
  go_region_held3 (fun w' => w'.cell? ⟨w6.heap.size, 0, none⟩ = some (.bool r.neg) ∧ w'.cell? ⟨w6.heap.size, 1, none⟩ = some (S r.l) ∧ w'.cell? ⟨w6.heap.size, 2, none⟩ = some (.int .i64 r.e) ∧ w'.cell? ⟨w9.heap.size, 0, none⟩ = some (.bool t.neg) ∧ w'.cell? ⟨w9.heap.size, 1, none⟩ = some (S t.l) ∧ w'.cell? ⟨w9.heap.size, 2, none⟩ = some (.int .i64 t.e) ∧ w'.cell? ⟨w8.heap.size, 0, none⟩ = some (.bool false) ∧ w'.cell? ⟨w8.heap.size, 1, none⟩ = some (.string ⟨#[50, 53]⟩) ∧ w'.cell? ⟨w8.heap.size, 2, none⟩ = some (.int .i64 P) ∧ HeldL w [(w10.heap.size, #[.bool t.neg, S t.l, .int .i64 t.e]), (w9.heap.size, #[.bool t.neg, S t.l, .int .i64 t.e]), (w8.heap.size, #[.bool false, .string ⟨#[50, 53]⟩, .int .i64 P]), (w7.heap.size, #[.bool r.neg, S r.l, .int .i64 r.e]), (w6.heap.size, #[.bool r.neg, S r.l, .int .i64 r.e]), (w5.heap.size, #[.bool n1, S (dgs L1), .int .i64 e1]), (w4.heap.size, #[.bool n, S (dgs L), .int .i64 e]), (w.heap.size + 1, #[.bool n1, .slice a1 len1 cap1, .int .i64 e1]), (w.heap.size, #[.bool n, .slice a len cap, .int .i64 e])] w')
    (first | exact ALL1.out _ (HeldL.drew HS1.out) | exact KEEP1.out _ _ (by assumption) hb | assumption)
    (first | (go_at_call 15; (with_reducible refine (at_T r P M r _ rl HRR.out (by first | exact HT.out.below HS1.out.bel.drew | exact TAB1.out _ (by assumption))).mono ?_); rintro x wA ⟨rfl, hb⟩) | (go_at_call 17; (with_reducible refine (step25 t t P M _ tl (by omega) (by omega) HTT2.out (by first | exact HT.out.below HS1.out.bel.drew | exact TAB1.out _ (by assumption))).mono ?_); rintro x wB ⟨rfl, hb⟩))
  have HH : HeldL w [(w10.heap.size, #[.bool t.neg, S t.l, .int .i64 t.e]), (w9.heap.size, #[.bool t.neg, S t.l, .int .i64 t.e]), (w8.heap.size, #[.bool false, .string ⟨#[50, 53]⟩, .int .i64 P]), (w7.heap.size, #[.bool r.neg, S r.l, .int .i64 r.e]), (w6.heap.size, #[.bool r.neg, S r.l, .int .i64 r.e]), (w5.heap.size, #[.bool n1, S (dgs L1), .int .i64 e1]), (w4.heap.size, #[.bool n, S (dgs L), .int .i64 e]), (w.heap.size + 1, #[.bool n1, .slice a1 len1 cap1, .int .i64 e1]), (w.heap.size, #[.bool n, .slice a len cap, .int .i64 e])] wB := (‹wB.cell? ⟨w6.heap.size, 0, none⟩ = some (.bool r.neg) ∧ wB.cell? ⟨w6.heap.size, 1, none⟩ = some (S r.l) ∧ wB.cell? ⟨w6.heap.size, 2, none⟩ = some (.int .i64 r.e) ∧ wB.cell? ⟨w9.heap.size, 0, none⟩ = some (.bool t.neg) ∧ wB.cell? ⟨w9.heap.size, 1, none⟩ = some (S t.l) ∧ wB.cell? ⟨w9.heap.size, 2, none⟩ = some (.int .i64 t.e) ∧ wB.cell? ⟨w8.heap.size, 0, none⟩ = some (.bool false) ∧ wB.cell? ⟨w8.heap.size, 1, none⟩ = some (.string ⟨#[50, 53]⟩) ∧ wB.cell? ⟨w8.heap.size, 2, none⟩ = some (.int .i64 P) ∧ HeldL w [(w10.heap.size, #[.bool t.neg, S t.l, .int .i64 t.e]), (w9.heap.size, #[.bool t.neg, S t.l, .int .i64 t.e]), (w8.heap.size, #[.bool false, .string ⟨#[50, 53]⟩, .int .i64 P]), (w7.heap.size, #[.bool r.neg, S r.l, .int .i64 r.e]), (w6.heap.size, #[.bool r.neg, S r.l, .int .i64 r.e]), (w5.heap.size, #[.bool n1, S (dgs L1), .int .i64 e1]), (w4.heap.size, #[.bool n, S (dgs L), .int .i64 e]), (w.heap.size + 1, #[.bool n1, .slice a1 len1 cap1, .int .i64 e1]), (w.heap.size, #[.bool n, .slice a len cap, .int .i64 e])] wB›).2.2.2.2.2.2.2.2.2
  clear rr0 rr1 rr2 rrl ss0 ss1 ss2 ssl tt0 tt1 tt2 ttl uu0 uu1 uu2 uul by0 by1 by2 byl
  have H12 : Hid (HeldL w [(w10.heap.size, #[.bool t.neg, S t.l, .int .i64 t.e]), (w9.heap.size, #[.bool t.neg, S t.l, .int .i64 t.e]), (w8.heap.size, #[.bool false, .string ⟨#[50, 53]⟩, .int .i64 P]), (w7.heap.size, #[.bool r.neg, S r.l, .int .i64 r.e]), (w6.heap.size, #[.bool r.neg, S r.l, .int .i64 r.e]), (w5.heap.size, #[.bool n1, S (dgs L1), .int .i64 e1]), (w4.heap.size, #[.bool n, S (dgs L), .int .i64 e]), (w.heap.size + 1, #[.bool n1, .slice a1 len1 cap1, .int .i64 e1]), (w.heap.size, #[.bool n, .slice a len cap, .int .i64 e])] wB) := Lib.hid HH
  clear HH ALL1 KEEP1 HS1 TAB1 H11
  have rr0 : wB.cell? ⟨w6.heap.size, 0, none⟩ = some (.bool r.neg) := (H12.out.f (List.Mem.tail _ (List.Mem.tail _ (List.Mem.tail _ (List.Mem.tail _ (List.Mem.head _)))))).cell 0
  have rr1 : wB.cell? ⟨w6.heap.size, 1, none⟩ = some (S r.l) := (H12.out.f (List.Mem.tail _ (List.Mem.tail _ (List.Mem.tail _ (List.Mem.tail _ (List.Mem.head _)))))).cell 1
  have rr2 : wB.cell? ⟨w6.heap.size, 2, none⟩ = some (.int .i64 r.e) := (H12.out.f (List.Mem.tail _ (List.Mem.tail _ (List.Mem.tail _ (List.Mem.tail _ (List.Mem.head _)))))).cell 2
  have rrl : w6.heap.size < wB.heap.size := (H12.out.f (List.Mem.tail _ (List.Mem.tail _ (List.Mem.tail _ (List.Mem.tail _ (List.Mem.head _)))))).lt
  have ss0 : wB.cell? ⟨w7.heap.size, 0, none⟩ = some (.bool r.neg) := (H12.out.f (List.Mem.tail _ (List.Mem.tail _ (List.Mem.tail _ (List.Mem.head _))))).cell 0
  have ss1 : wB.cell? ⟨w7.heap.size, 1, none⟩ = some (S r.l) := (H12.out.f (List.Mem.tail _ (List.Mem.tail _ (List.Mem.tail _ (List.Mem.head _))))).cell 1
  have ss2 : wB.cell? ⟨w7.heap.size, 2, none⟩ = some (.int .i64 r.e) := (H12.out.f (List.Mem.tail _ (List.Mem.tail _ (List.Mem.tail _ (List.Mem.head _))))).cell 2
  have ssl : w7.heap.size < wB.heap.size := (H12.out.f (List.Mem.tail _ (List.Mem.tail _ (List.Mem.tail _ (List.Mem.head _))))).lt
  have tt0 : wB.cell? ⟨w9.heap.size, 0, none⟩ = some (.bool t.neg) := (H12.out.f (List.Mem.tail _ (List.Mem.head _))).cell 0
  have tt1 : wB.cell? ⟨w9.heap.size, 1, none⟩ = some (S t.l) := (H12.out.f (List.Mem.tail _ (List.Mem.head _))).cell 1
  have tt2 : wB.cell? ⟨w9.heap.size, 2, none⟩ = some (.int .i64 t.e) := (H12.out.f (List.Mem.tail _ (List.Mem.head _))).cell 2
  have ttl : w9.heap.size < wB.heap.size := (H12.out.f (List.Mem.tail _ (List.Mem.head _))).lt
  have uu0 : wB.cell? ⟨w10.heap.size, 0, none⟩ = some (.bool t.neg) := (H12.out.f (List.Mem.head _)).cell 0
  have uu1 : wB.cell? ⟨w10.heap.size, 1, none⟩ = some (S t.l) := (H12.out.f (List.Mem.head _)).cell 1
  have uu2 : wB.cell? ⟨w10.heap.size, 2, none⟩ = some (.int .i64 t.e) := (H12.out.f (List.Mem.head _)).cell 2
  have uul : w10.heap.size < wB.heap.size := (H12.out.f (List.Mem.head _)).lt
  go_wp2
  go_ret
  exact ⟨rfl, H12.out.bel⟩

set_option maxRecDepth 100000 in
set_option maxHeartbeats 6400000 in
theorem again_ne (n : Bool) (a : Option Addr) (len cap : Nat) (L : List UInt8) (e : Int) (n1 : Bool) (a1 : Option Addr) (len1 cap1 : Nat) (L1 : List UInt8) (e1 : Int) (pl mo : Int) (w : World) (hin : InB w a len cap L) (hin1 : InB w a1 len1 cap1 L1) (htab : Tab w) (h1 : len ≤ 40) (h2 : -40 ≤ e) (h3 : e ≤ 40) (k1 : len1 ≤ 40) (k2 : -40 ≤ e1) (k3 : e1 ≤ 40)
    (P M : Int) (hP : wrap64 (pl.tmod 60 - wrap64 ((pl.tmod 60).tdiv 2)) = P) (p1 : -30 ≤ P) (p2 : P ≤ 30) (hM : ∀ w : World, Calls Tryd.prog 19 #[.int .i64 mo] w fun x w' => x = .returned (.int .i64 M) ∧ w = w')
    (r s t u : Tri) (hr : mulT (made n (dgs L) e) 1 (hld P) M = r) (hs : mulT (made n1 (dgs L1) e1) 1 (hld P) M = s) (ht : mulT (made n (dgs L) e) 25 P M = t) (hu : mulT (made n1 (dgs L1) e1) 25 P M = u)
    (hrr : mulT (made r.neg r.l r.e) 1 (hld P) M = r) (htt : mulT (made t.neg t.l t.e) 25 P M = t) (rl : r.l.length ≤ 100000) (sl : s.l.length ≤ 100000) (tl : t.l.length ≤ 100000) (ul : u.l.length ≤ 100000) (c c2 c3 : Int) (hc : CmpIs ⟨n, dgs L, e⟩ ⟨n1, dgs L1, e1⟩ c) (c0 : ¬ c = 0) (cb1 : -1 ≤ c) (cb2 : c ≤ 1) (hc2 : CmpIs r s c2) (hc3 : CmpIs t u c3) (d1 : (0 : Int) ≤ c2 * c) (d2 : (0 : Int) ≤ c3 * c) (e2 : -1 ≤ c2 * c ∧ c2 * c ≤ 1) (e3 : -1 ≤ c3 * c ∧ c3 * c ≤ 1) :
    Calls Tryd.prog 4 #[RV n a len cap e, RV n1 a1 len1 cap1 e1, .int .i64 pl, .int .i64 mo] w fun x w' => x = .returned (.bool true) ∧ Below w.heap.size w w' := by
  obtain ⟨ea, eb⟩ := e2
  obtain ⟨ec, ed⟩ := e3
  have LL : (dgs L).length ≤ 100000 := by rw [dgs_length, hin.1]; omega
  have LL1 : (dgs L1).length ≤ 100000 := by rw [dgs_length, hin1.1]; omega
  have hcA := hin.2.1
  have hmA := hin.2.2.1
  have hcB := hin1.2.1
  have hmB := hin1.2.2.1
  have HP := Lib.hid hP
  have HR := Lib.hid hr
  have HS := Lib.hid hs
  have HTT := Lib.hid ht
  have HU := Lib.hid hu
  have HRR := Lib.hid hrr
  have HTT2 := Lib.hid htt
  have HT := Lib.hid htab
  have HIN := Lib.hid hin
  have HIN1 := Lib.hid hin1
  have HMO := Lib.hid hM
  have HC := Lib.hid hc
  have HC2 := Lib.hid hc2
  have HC3 := Lib.hid hc3
  clear hP hr hs ht hu hrr htt htab hin hin1 hM hc hc2 hc3
  go_enter Tryd.func4, Tryd.ntmps4
  go_wp2_with fail
  with_reducible refine (head3 _ (HT.out.below (HeldL.alloc (HeldL.alloc (HeldL.refl w) (w.heap.size) #[.bool n, .slice a len cap, .int .i64 e] 24 (by simp)) (w.heap.size + 1) #[.bool n1, .slice a1 len1 cap1, .int .i64 e1] 24 (by simp)).bel)).mono ?_
  rintro x w1 ⟨rfl, hb⟩
  have H1 : Hid (HeldL w [(w.heap.size + 1, #[.bool n1, .slice a1 len1 cap1, .int .i64 e1]), (w.heap.size, #[.bool n, .slice a len cap, .int .i64 e])] w1) := Lib.hid (HeldL.keep (HeldL.alloc (HeldL.alloc (HeldL.refl w) (w.heap.size) #[.bool n, .slice a len cap, .int .i64 e] 24 (by simp)) (w.heap.size + 1) #[.bool n1, .slice a1 len1 cap1, .int .i64 e1] 24 (by simp)) hb)
  clear hb
  have r0 : w1.cell? ⟨w.heap.size, 0, none⟩ = some (.bool n) := (H1.out.f (List.Mem.tail _ (List.Mem.head _))).cell 0
  have r1 : w1.cell? ⟨w.heap.size, 1, none⟩ = some (.slice a len cap) := (H1.out.f (List.Mem.tail _ (List.Mem.head _))).cell 1
  have r2 : w1.cell? ⟨w.heap.size, 2, none⟩ = some (.int .i64 e) := (H1.out.f (List.Mem.tail _ (List.Mem.head _))).cell 2
  have rl : w.heap.size < w1.heap.size := (H1.out.f (List.Mem.tail _ (List.Mem.head _))).lt
  have q0 : w1.cell? ⟨w.heap.size + 1, 0, none⟩ = some (.bool n1) := (H1.out.f (List.Mem.head _)).cell 0
  have q1 : w1.cell? ⟨w.heap.size + 1, 1, none⟩ = some (.slice a1 len1 cap1) := (H1.out.f (List.Mem.head _)).cell 1
  have q2 : w1.cell? ⟨w.heap.size + 1, 2, none⟩ = some (.int .i64 e1) := (H1.out.f (List.Mem.head _)).cell 2
  have ql : w.heap.size + 1 < w1.heap.size := (H1.out.f (List.Mem.head _)).lt
  go_wp2_with fail
  with_reducible refine (few_yes n a len cap e 40 _ hcA hmA (by decide) (by decide) (by omega) h2 h3).mono ?_
  rintro x w2 ⟨rfl, hb⟩
  clear r0 r1 r2 rl q0 q1 q2 ql
  have H2 : Hid (HeldL w [(w.heap.size + 1, #[.bool n1, .slice a1 len1 cap1, .int .i64 e1]), (w.heap.size, #[.bool n, .slice a len cap, .int .i64 e])] w2) := Lib.hid (HeldL.keep H1.out hb)
  clear H1
  clear hb
  have r0 : w2.cell? ⟨w.heap.size, 0, none⟩ = some (.bool n) := (H2.out.f (List.Mem.tail _ (List.Mem.head _))).cell 0
  have r1 : w2.cell? ⟨w.heap.size, 1, none⟩ = some (.slice a len cap) := (H2.out.f (List.Mem.tail _ (List.Mem.head _))).cell 1
  have r2 : w2.cell? ⟨w.heap.size, 2, none⟩ = some (.int .i64 e) := (H2.out.f (List.Mem.tail _ (List.Mem.head _))).cell 2
  have rl : w.heap.size < w2.heap.size := (H2.out.f (List.Mem.tail _ (List.Mem.head _))).lt
  have q0 : w2.cell? ⟨w.heap.size + 1, 0, none⟩ = some (.bool n1) := (H2.out.f (List.Mem.head _)).cell 0
  have q1 : w2.cell? ⟨w.heap.size + 1, 1, none⟩ = some (.slice a1 len1 cap1) := (H2.out.f (List.Mem.head _)).cell 1
  have q2 : w2.cell? ⟨w.heap.size + 1, 2, none⟩ = some (.int .i64 e1) := (H2.out.f (List.Mem.head _)).cell 2
  have ql : w.heap.size + 1 < w2.heap.size := (H2.out.f (List.Mem.head _)).lt
  go_wp2_with fail
  with_reducible refine (few_yes n1 a1 len1 cap1 e1 40 _ hcB hmB (by decide) (by decide) (by omega) k2 k3).mono ?_
  rintro x w3 ⟨rfl, hb⟩
  clear r0 r1 r2 rl q0 q1 q2 ql
  have H3 : Hid (HeldL w [(w.heap.size + 1, #[.bool n1, .slice a1 len1 cap1, .int .i64 e1]), (w.heap.size, #[.bool n, .slice a len cap, .int .i64 e])] w3) := Lib.hid (HeldL.keep H2.out hb)
  clear H2
  clear hb
  have r0 : w3.cell? ⟨w.heap.size, 0, none⟩ = some (.bool n) := (H3.out.f (List.Mem.tail _ (List.Mem.head _))).cell 0
  have r1 : w3.cell? ⟨w.heap.size, 1, none⟩ = some (.slice a len cap) := (H3.out.f (List.Mem.tail _ (List.Mem.head _))).cell 1
  have r2 : w3.cell? ⟨w.heap.size, 2, none⟩ = some (.int .i64 e) := (H3.out.f (List.Mem.tail _ (List.Mem.head _))).cell 2
  have rl : w.heap.size < w3.heap.size := (H3.out.f (List.Mem.tail _ (List.Mem.head _))).lt
  have q0 : w3.cell? ⟨w.heap.size + 1, 0, none⟩ = some (.bool n1) := (H3.out.f (List.Mem.head _)).cell 0
  have q1 : w3.cell? ⟨w.heap.size + 1, 1, none⟩ = some (.slice a1 len1 cap1) := (H3.out.f (List.Mem.head _)).cell 1
  have q2 : w3.cell? ⟨w.heap.size + 1, 2, none⟩ = some (.int .i64 e1) := (H3.out.f (List.Mem.head _)).cell 2
  have ql : w.heap.size + 1 < w3.heap.size := (H3.out.f (List.Mem.head _)).lt
  go_wp2_with fail
  rw [HP.out]
  with_reducible refine (HMO.out _).mono ?_
  rintro x wz ⟨rfl, rfl⟩
  go_wp2_with fail
  with_reducible refine (make_as n a len cap L e _ (HIN.out.below H3.out.bel) (by omega)).mono ?_
  rintro x w4 ⟨rfl, hb⟩
  clear r0 r1 r2 rl q0 q1 q2 ql
  have H4 : Hid (HeldL w [(w.heap.size + 1, #[.bool n1, .slice a1 len1 cap1, .int .i64 e1]), (w.heap.size, #[.bool n, .slice a len cap, .int .i64 e])] w4) := Lib.hid (HeldL.keep H3.out hb)
  clear H3
  clear hb
  have q0 : w4.cell? ⟨w.heap.size + 1, 0, none⟩ = some (.bool n1) := (H4.out.f (List.Mem.head _)).cell 0
  have q1 : w4.cell? ⟨w.heap.size + 1, 1, none⟩ = some (.slice a1 len1 cap1) := (H4.out.f (List.Mem.head _)).cell 1
  have q2 : w4.cell? ⟨w.heap.size + 1, 2, none⟩ = some (.int .i64 e1) := (H4.out.f (List.Mem.head _)).cell 2
  have ql : w.heap.size + 1 < w4.heap.size := (H4.out.f (List.Mem.head _)).lt
  go_wp2_with fail
  with_reducible refine (make_as n1 a1 len1 cap1 L1 e1 _ (HIN1.out.below (HeldL.alloc H4.out (w4.heap.size) #[.bool n, S (dgs L), .int .i64 e] 28 (by simp)).bel) (by omega)).mono ?_
  rintro x w5 ⟨rfl, hb⟩
  clear q0 q1 q2 ql
  have H5 : Hid (HeldL w [(w4.heap.size, #[.bool n, S (dgs L), .int .i64 e]), (w.heap.size + 1, #[.bool n1, .slice a1 len1 cap1, .int .i64 e1]), (w.heap.size, #[.bool n, .slice a len cap, .int .i64 e])] w5) := Lib.hid (HeldL.keep (HeldL.alloc H4.out (w4.heap.size) #[.bool n, S (dgs L), .int .i64 e] 28 (by simp)) hb)
  clear H4
  clear hb
  have x0 : w5.cell? ⟨w4.heap.size, 0, none⟩ = some (.bool n) := (H5.out.f (List.Mem.head _)).cell 0
  have x1 : w5.cell? ⟨w4.heap.size, 1, none⟩ = some (S (dgs L)) := (H5.out.f (List.Mem.head _)).cell 1
  have x2 : w5.cell? ⟨w4.heap.size, 2, none⟩ = some (.int .i64 e) := (H5.out.f (List.Mem.head _)).cell 2
  have xl : w4.heap.size < w5.heap.size := (H5.out.f (List.Mem.head _)).lt
  go_wp2_with fail
  with_reducible refine (at_T ⟨n, dgs L, e⟩ P M r _ LL HR.out (HT.out.below (HeldL.alloc H5.out (w5.heap.size) #[.bool n1, S (dgs L1), .int .i64 e1] 28 (by simp)).bel)).mono ?_
  rintro x w6 ⟨rfl, hb⟩
  clear x0 x1 x2 xl
  have H6 : Hid (HeldL w [(w5.heap.size, #[.bool n1, S (dgs L1), .int .i64 e1]), (w4.heap.size, #[.bool n, S (dgs L), .int .i64 e]), (w.heap.size + 1, #[.bool n1, .slice a1 len1 cap1, .int .i64 e1]), (w.heap.size, #[.bool n, .slice a len cap, .int .i64 e])] w6) := Lib.hid (HeldL.keep (HeldL.alloc H5.out (w5.heap.size) #[.bool n1, S (dgs L1), .int .i64 e1] 28 (by simp)) hb)
  clear H5
  clear hb
  have x0 : w6.cell? ⟨w4.heap.size, 0, none⟩ = some (.bool n) := (H6.out.f (List.Mem.tail _ (List.Mem.head _))).cell 0
  have x1 : w6.cell? ⟨w4.heap.size, 1, none⟩ = some (S (dgs L)) := (H6.out.f (List.Mem.tail _ (List.Mem.head _))).cell 1
  have x2 : w6.cell? ⟨w4.heap.size, 2, none⟩ = some (.int .i64 e) := (H6.out.f (List.Mem.tail _ (List.Mem.head _))).cell 2
  have xl : w4.heap.size < w6.heap.size := (H6.out.f (List.Mem.tail _ (List.Mem.head _))).lt
  have y0 : w6.cell? ⟨w5.heap.size, 0, none⟩ = some (.bool n1) := (H6.out.f (List.Mem.head _)).cell 0
  have y1 : w6.cell? ⟨w5.heap.size, 1, none⟩ = some (S (dgs L1)) := (H6.out.f (List.Mem.head _)).cell 1
  have y2 : w6.cell? ⟨w5.heap.size, 2, none⟩ = some (.int .i64 e1) := (H6.out.f (List.Mem.head _)).cell 2
  have yl : w5.heap.size < w6.heap.size := (H6.out.f (List.Mem.head _)).lt
  go_wp2_with fail
  with_reducible refine (at_T ⟨n1, dgs L1, e1⟩ P M s _ LL1 HS.out (HT.out.below (HeldL.alloc H6.out (w6.heap.size) #[.bool r.neg, S r.l, .int .i64 r.e] 28 (by simp)).bel)).mono ?_
  rintro x w7 ⟨rfl, hb⟩
  clear x0 x1 x2 xl y0 y1 y2 yl
  have H7 : Hid (HeldL w [(w6.heap.size, #[.bool r.neg, S r.l, .int .i64 r.e]), (w5.heap.size, #[.bool n1, S (dgs L1), .int .i64 e1]), (w4.heap.size, #[.bool n, S (dgs L), .int .i64 e]), (w.heap.size + 1, #[.bool n1, .slice a1 len1 cap1, .int .i64 e1]), (w.heap.size, #[.bool n, .slice a len cap, .int .i64 e])] w7) := Lib.hid (HeldL.keep (HeldL.alloc H6.out (w6.heap.size) #[.bool r.neg, S r.l, .int .i64 r.e] 28 (by simp)) hb)
  clear H6
  clear hb
  have x0 : w7.cell? ⟨w4.heap.size, 0, none⟩ = some (.bool n) := (H7.out.f (List.Mem.tail _ (List.Mem.tail _ (List.Mem.head _)))).cell 0
  have x1 : w7.cell? ⟨w4.heap.size, 1, none⟩ = some (S (dgs L)) := (H7.out.f (List.Mem.tail _ (List.Mem.tail _ (List.Mem.head _)))).cell 1
  have x2 : w7.cell? ⟨w4.heap.size, 2, none⟩ = some (.int .i64 e) := (H7.out.f (List.Mem.tail _ (List.Mem.tail _ (List.Mem.head _)))).cell 2
  have xl : w4.heap.size < w7.heap.size := (H7.out.f (List.Mem.tail _ (List.Mem.tail _ (List.Mem.head _)))).lt
  have y0 : w7.cell? ⟨w5.heap.size, 0, none⟩ = some (.bool n1) := (H7.out.f (List.Mem.tail _ (List.Mem.head _))).cell 0
  have y1 : w7.cell? ⟨w5.heap.size, 1, none⟩ = some (S (dgs L1)) := (H7.out.f (List.Mem.tail _ (List.Mem.head _))).cell 1
  have y2 : w7.cell? ⟨w5.heap.size, 2, none⟩ = some (.int .i64 e1) := (H7.out.f (List.Mem.tail _ (List.Mem.head _))).cell 2
  have yl : w5.heap.size < w7.heap.size := (H7.out.f (List.Mem.tail _ (List.Mem.head _))).lt
  go_wp2_with fail
  with_reducible refine (made_as false ⟨#[50, 53]⟩ P _ (by decide) ⟨false, [50, 53], P⟩ (made_25 (by omega) (by omega))).mono ?_
  rintro x w8 ⟨rfl, hb⟩
  clear x0 x1 x2 xl y0 y1 y2 yl
  have H8 : Hid (HeldL w [(w7.heap.size, #[.bool s.neg, S s.l, .int .i64 s.e]), (w6.heap.size, #[.bool r.neg, S r.l, .int .i64 r.e]), (w5.heap.size, #[.bool n1, S (dgs L1), .int .i64 e1]), (w4.heap.size, #[.bool n, S (dgs L), .int .i64 e]), (w.heap.size + 1, #[.bool n1, .slice a1 len1 cap1, .int .i64 e1]), (w.heap.size, #[.bool n, .slice a len cap, .int .i64 e])] w8) := Lib.hid (HeldL.keep (HeldL.alloc H7.out (w7.heap.size) #[.bool s.neg, S s.l, .int .i64 s.e] 28 (by simp)) hb)
  clear H7
  clear hb
  have x0 : w8.cell? ⟨w4.heap.size, 0, none⟩ = some (.bool n) := (H8.out.f (List.Mem.tail _ (List.Mem.tail _ (List.Mem.tail _ (List.Mem.head _))))).cell 0
  have x1 : w8.cell? ⟨w4.heap.size, 1, none⟩ = some (S (dgs L)) := (H8.out.f (List.Mem.tail _ (List.Mem.tail _ (List.Mem.tail _ (List.Mem.head _))))).cell 1
  have x2 : w8.cell? ⟨w4.heap.size, 2, none⟩ = some (.int .i64 e) := (H8.out.f (List.Mem.tail _ (List.Mem.tail _ (List.Mem.tail _ (List.Mem.head _))))).cell 2
  have xl : w4.heap.size < w8.heap.size := (H8.out.f (List.Mem.tail _ (List.Mem.tail _ (List.Mem.tail _ (List.Mem.head _))))).lt
  have y0 : w8.cell? ⟨w5.heap.size, 0, none⟩ = some (.bool n1) := (H8.out.f (List.Mem.tail _ (List.Mem.tail _ (List.Mem.head _)))).cell 0
  have y1 : w8.cell? ⟨w5.heap.size, 1, none⟩ = some (S (dgs L1)) := (H8.out.f (List.Mem.tail _ (List.Mem.tail _ (List.Mem.head _)))).cell 1
  have y2 : w8.cell? ⟨w5.heap.size, 2, none⟩ = some (.int .i64 e1) := (H8.out.f (List.Mem.tail _ (List.Mem.tail _ (List.Mem.head _)))).cell 2
  have yl : w5.heap.size < w8.heap.size := (H8.out.f (List.Mem.tail _ (List.Mem.tail _ (List.Mem.head _)))).lt
  go_wp2_with fail
  with_reducible refine (step25 ⟨n, dgs L, e⟩ t P M _ LL (by omega) (by omega) HTT.out (HT.out.below (HeldL.alloc H8.out (w8.heap.size) #[.bool false, .string ⟨#[50, 53]⟩, .int .i64 P] 28 (by simp)).bel)).mono ?_
  rintro x w9 ⟨rfl, hb⟩
  clear x0 x1 x2 xl y0 y1 y2 yl
  have H9 : Hid (HeldL w [(w8.heap.size, #[.bool false, .string ⟨#[50, 53]⟩, .int .i64 P]), (w7.heap.size, #[.bool s.neg, S s.l, .int .i64 s.e]), (w6.heap.size, #[.bool r.neg, S r.l, .int .i64 r.e]), (w5.heap.size, #[.bool n1, S (dgs L1), .int .i64 e1]), (w4.heap.size, #[.bool n, S (dgs L), .int .i64 e]), (w.heap.size + 1, #[.bool n1, .slice a1 len1 cap1, .int .i64 e1]), (w.heap.size, #[.bool n, .slice a len cap, .int .i64 e])] w9) := Lib.hid (HeldL.keep (HeldL.alloc H8.out (w8.heap.size) #[.bool false, .string ⟨#[50, 53]⟩, .int .i64 P] 28 (by simp)) hb)
  clear H8
  clear hb
  have x0 : w9.cell? ⟨w4.heap.size, 0, none⟩ = some (.bool n) := (H9.out.f (List.Mem.tail _ (List.Mem.tail _ (List.Mem.tail _ (List.Mem.tail _ (List.Mem.head _)))))).cell 0
  have x1 : w9.cell? ⟨w4.heap.size, 1, none⟩ = some (S (dgs L)) := (H9.out.f (List.Mem.tail _ (List.Mem.tail _ (List.Mem.tail _ (List.Mem.tail _ (List.Mem.head _)))))).cell 1
  have x2 : w9.cell? ⟨w4.heap.size, 2, none⟩ = some (.int .i64 e) := (H9.out.f (List.Mem.tail _ (List.Mem.tail _ (List.Mem.tail _ (List.Mem.tail _ (List.Mem.head _)))))).cell 2
  have xl : w4.heap.size < w9.heap.size := (H9.out.f (List.Mem.tail _ (List.Mem.tail _ (List.Mem.tail _ (List.Mem.tail _ (List.Mem.head _)))))).lt
  have y0 : w9.cell? ⟨w5.heap.size, 0, none⟩ = some (.bool n1) := (H9.out.f (List.Mem.tail _ (List.Mem.tail _ (List.Mem.tail _ (List.Mem.head _))))).cell 0
  have y1 : w9.cell? ⟨w5.heap.size, 1, none⟩ = some (S (dgs L1)) := (H9.out.f (List.Mem.tail _ (List.Mem.tail _ (List.Mem.tail _ (List.Mem.head _))))).cell 1
  have y2 : w9.cell? ⟨w5.heap.size, 2, none⟩ = some (.int .i64 e1) := (H9.out.f (List.Mem.tail _ (List.Mem.tail _ (List.Mem.tail _ (List.Mem.head _))))).cell 2
  have yl : w5.heap.size < w9.heap.size := (H9.out.f (List.Mem.tail _ (List.Mem.tail _ (List.Mem.tail _ (List.Mem.head _))))).lt
  have by0 : w9.cell? ⟨w8.heap.size, 0, none⟩ = some (.bool false) := (H9.out.f (List.Mem.head _)).cell 0
  have by1 : w9.cell? ⟨w8.heap.size, 1, none⟩ = some (.string ⟨#[50, 53]⟩) := (H9.out.f (List.Mem.head _)).cell 1
  have by2 : w9.cell? ⟨w8.heap.size, 2, none⟩ = some (.int .i64 P) := (H9.out.f (List.Mem.head _)).cell 2
  have byl : w8.heap.size < w9.heap.size := (H9.out.f (List.Mem.head _)).lt
  go_wp2_with fail
  with_reducible refine (step25 ⟨n1, dgs L1, e1⟩ u P M _ LL1 (by omega) (by omega) HU.out (HT.out.below (HeldL.alloc H9.out (w9.heap.size) #[.bool t.neg, S t.l, .int .i64 t.e] 28 (by simp)).bel)).mono ?_
  rintro x w10 ⟨rfl, hb⟩
  clear x0 x1 x2 xl y0 y1 y2 yl by0 by1 by2 byl
  have H10 : Hid (HeldL w [(w9.heap.size, #[.bool t.neg, S t.l, .int .i64 t.e]), (w8.heap.size, #[.bool false, .string ⟨#[50, 53]⟩, .int .i64 P]), (w7.heap.size, #[.bool s.neg, S s.l, .int .i64 s.e]), (w6.heap.size, #[.bool r.neg, S r.l, .int .i64 r.e]), (w5.heap.size, #[.bool n1, S (dgs L1), .int .i64 e1]), (w4.heap.size, #[.bool n, S (dgs L), .int .i64 e]), (w.heap.size + 1, #[.bool n1, .slice a1 len1 cap1, .int .i64 e1]), (w.heap.size, #[.bool n, .slice a len cap, .int .i64 e])] w10) := Lib.hid (HeldL.keep (HeldL.alloc H9.out (w9.heap.size) #[.bool t.neg, S t.l, .int .i64 t.e] 28 (by simp)) hb)
  clear H9
  clear hb
  have x0 : w10.cell? ⟨w4.heap.size, 0, none⟩ = some (.bool n) := (H10.out.f (List.Mem.tail _ (List.Mem.tail _ (List.Mem.tail _ (List.Mem.tail _ (List.Mem.tail _ (List.Mem.head _))))))).cell 0
  have x1 : w10.cell? ⟨w4.heap.size, 1, none⟩ = some (S (dgs L)) := (H10.out.f (List.Mem.tail _ (List.Mem.tail _ (List.Mem.tail _ (List.Mem.tail _ (List.Mem.tail _ (List.Mem.head _))))))).cell 1
  have x2 : w10.cell? ⟨w4.heap.size, 2, none⟩ = some (.int .i64 e) := (H10.out.f (List.Mem.tail _ (List.Mem.tail _ (List.Mem.tail _ (List.Mem.tail _ (List.Mem.tail _ (List.Mem.head _))))))).cell 2
  have xl : w4.heap.size < w10.heap.size := (H10.out.f (List.Mem.tail _ (List.Mem.tail _ (List.Mem.tail _ (List.Mem.tail _ (List.Mem.tail _ (List.Mem.head _))))))).lt
  have y0 : w10.cell? ⟨w5.heap.size, 0, none⟩ = some (.bool n1) := (H10.out.f (List.Mem.tail _ (List.Mem.tail _ (List.Mem.tail _ (List.Mem.tail _ (List.Mem.head _)))))).cell 0
  have y1 : w10.cell? ⟨w5.heap.size, 1, none⟩ = some (S (dgs L1)) := (H10.out.f (List.Mem.tail _ (List.Mem.tail _ (List.Mem.tail _ (List.Mem.tail _ (List.Mem.head _)))))).cell 1
  have y2 : w10.cell? ⟨w5.heap.size, 2, none⟩ = some (.int .i64 e1) := (H10.out.f (List.Mem.tail _ (List.Mem.tail _ (List.Mem.tail _ (List.Mem.tail _ (List.Mem.head _)))))).cell 2
  have yl : w5.heap.size < w10.heap.size := (H10.out.f (List.Mem.tail _ (List.Mem.tail _ (List.Mem.tail _ (List.Mem.tail _ (List.Mem.head _)))))).lt
  go_wp2_with fail
  with_reducible refine (cmp_T ⟨n, dgs L, e⟩ ⟨n1, dgs L1, e1⟩ c _ LL LL1 HC.out).mono ?_
  rintro x w11 ⟨rfl, hb⟩
  clear x0 x1 x2 xl y0 y1 y2 yl
  have H11 : Hid (HeldL w [(w10.heap.size, #[.bool u.neg, S u.l, .int .i64 u.e]), (w9.heap.size, #[.bool t.neg, S t.l, .int .i64 t.e]), (w8.heap.size, #[.bool false, .string ⟨#[50, 53]⟩, .int .i64 P]), (w7.heap.size, #[.bool s.neg, S s.l, .int .i64 s.e]), (w6.heap.size, #[.bool r.neg, S r.l, .int .i64 r.e]), (w5.heap.size, #[.bool n1, S (dgs L1), .int .i64 e1]), (w4.heap.size, #[.bool n, S (dgs L), .int .i64 e]), (w.heap.size + 1, #[.bool n1, .slice a1 len1 cap1, .int .i64 e1]), (w.heap.size, #[.bool n, .slice a len cap, .int .i64 e])] w11) := Lib.hid (HeldL.keep (HeldL.alloc H10.out (w10.heap.size) #[.bool u.neg, S u.l, .int .i64 u.e] 28 (by simp)) hb)
  clear H10
  clear hb
  have rr0 : w11.cell? ⟨w6.heap.size, 0, none⟩ = some (.bool r.neg) := (H11.out.f (List.Mem.tail _ (List.Mem.tail _ (List.Mem.tail _ (List.Mem.tail _ (List.Mem.head _)))))).cell 0
  have rr1 : w11.cell? ⟨w6.heap.size, 1, none⟩ = some (S r.l) := (H11.out.f (List.Mem.tail _ (List.Mem.tail _ (List.Mem.tail _ (List.Mem.tail _ (List.Mem.head _)))))).cell 1
  have rr2 : w11.cell? ⟨w6.heap.size, 2, none⟩ = some (.int .i64 r.e) := (H11.out.f (List.Mem.tail _ (List.Mem.tail _ (List.Mem.tail _ (List.Mem.tail _ (List.Mem.head _)))))).cell 2
  have rrl : w6.heap.size < w11.heap.size := (H11.out.f (List.Mem.tail _ (List.Mem.tail _ (List.Mem.tail _ (List.Mem.tail _ (List.Mem.head _)))))).lt
  have ss0 : w11.cell? ⟨w7.heap.size, 0, none⟩ = some (.bool s.neg) := (H11.out.f (List.Mem.tail _ (List.Mem.tail _ (List.Mem.tail _ (List.Mem.head _))))).cell 0
  have ss1 : w11.cell? ⟨w7.heap.size, 1, none⟩ = some (S s.l) := (H11.out.f (List.Mem.tail _ (List.Mem.tail _ (List.Mem.tail _ (List.Mem.head _))))).cell 1
  have ss2 : w11.cell? ⟨w7.heap.size, 2, none⟩ = some (.int .i64 s.e) := (H11.out.f (List.Mem.tail _ (List.Mem.tail _ (List.Mem.tail _ (List.Mem.head _))))).cell 2
  have ssl : w7.heap.size < w11.heap.size := (H11.out.f (List.Mem.tail _ (List.Mem.tail _ (List.Mem.tail _ (List.Mem.head _))))).lt
  have tt0 : w11.cell? ⟨w9.heap.size, 0, none⟩ = some (.bool t.neg) := (H11.out.f (List.Mem.tail _ (List.Mem.head _))).cell 0
  have tt1 : w11.cell? ⟨w9.heap.size, 1, none⟩ = some (S t.l) := (H11.out.f (List.Mem.tail _ (List.Mem.head _))).cell 1
  have tt2 : w11.cell? ⟨w9.heap.size, 2, none⟩ = some (.int .i64 t.e) := (H11.out.f (List.Mem.tail _ (List.Mem.head _))).cell 2
  have ttl : w9.heap.size < w11.heap.size := (H11.out.f (List.Mem.tail _ (List.Mem.head _))).lt
  have uu0 : w11.cell? ⟨w10.heap.size, 0, none⟩ = some (.bool u.neg) := (H11.out.f (List.Mem.head _)).cell 0
  have uu1 : w11.cell? ⟨w10.heap.size, 1, none⟩ = some (S u.l) := (H11.out.f (List.Mem.head _)).cell 1
  have uu2 : w11.cell? ⟨w10.heap.size, 2, none⟩ = some (.int .i64 u.e) := (H11.out.f (List.Mem.head _)).cell 2
  have uul : w10.heap.size < w11.heap.size := (H11.out.f (List.Mem.head _)).lt
  have by0 : w11.cell? ⟨w8.heap.size, 0, none⟩ = some (.bool false) := (H11.out.f (List.Mem.tail _ (List.Mem.tail _ (List.Mem.head _)))).cell 0
  have by1 : w11.cell? ⟨w8.heap.size, 1, none⟩ = some (.string ⟨#[50, 53]⟩) := (H11.out.f (List.Mem.tail _ (List.Mem.tail _ (List.Mem.head _)))).cell 1
  have by2 : w11.cell? ⟨w8.heap.size, 2, none⟩ = some (.int .i64 P) := (H11.out.f (List.Mem.tail _ (List.Mem.tail _ (List.Mem.head _)))).cell 2
  have byl : w8.heap.size < w11.heap.size := (H11.out.f (List.Mem.tail _ (List.Mem.tail _ (List.Mem.head _)))).lt
  go_wp2_with fail
  have ALL1 : Hid (∀ w' : World, HeldL w [(w10.heap.size, #[.bool u.neg, S u.l, .int .i64 u.e]), (w9.heap.size, #[.bool t.neg, S t.l, .int .i64 t.e]), (w8.heap.size, #[.bool false, .string ⟨#[50, 53]⟩, .int .i64 P]), (w7.heap.size, #[.bool s.neg, S s.l, .int .i64 s.e]), (w6.heap.size, #[.bool r.neg, S r.l, .int .i64 r.e]), (w5.heap.size, #[.bool n1, S (dgs L1), .int .i64 e1]), (w4.heap.size, #[.bool n, S (dgs L), .int .i64 e]), (w.heap.size + 1, #[.bool n1, .slice a1 len1 cap1, .int .i64 e1]), (w.heap.size, #[.bool n, .slice a len cap, .int .i64 e])] w' → w'.cell? ⟨w6.heap.size, 0, none⟩ = some (.bool r.neg) ∧ w'.cell? ⟨w6.heap.size, 1, none⟩ = some (S r.l) ∧ w'.cell? ⟨w6.heap.size, 2, none⟩ = some (.int .i64 r.e) ∧ w'.cell? ⟨w9.heap.size, 0, none⟩ = some (.bool t.neg) ∧ w'.cell? ⟨w9.heap.size, 1, none⟩ = some (S t.l) ∧ w'.cell? ⟨w9.heap.size, 2, none⟩ = some (.int .i64 t.e) ∧ w'.cell? ⟨w8.heap.size, 0, none⟩ = some (.bool false) ∧ w'.cell? ⟨w8.heap.size, 1, none⟩ = some (.string ⟨#[50, 53]⟩) ∧ w'.cell? ⟨w8.heap.size, 2, none⟩ = some (.int .i64 P) ∧ HeldL w [(w10.heap.size, #[.bool u.neg, S u.l, .int .i64 u.e]), (w9.heap.size, #[.bool t.neg, S t.l, .int .i64 t.e]), (w8.heap.size, #[.bool false, .string ⟨#[50, 53]⟩, .int .i64 P]), (w7.heap.size, #[.bool s.neg, S s.l, .int .i64 s.e]), (w6.heap.size, #[.bool r.neg, S r.l, .int .i64 r.e]), (w5.heap.size, #[.bool n1, S (dgs L1), .int .i64 e1]), (w4.heap.size, #[.bool n, S (dgs L), .int .i64 e]), (w.heap.size + 1, #[.bool n1, .slice a1 len1 cap1, .int .i64 e1]), (w.heap.size, #[.bool n, .slice a len cap, .int .i64 e])] w') := Lib.hid (fun w' h => ⟨(h.f (List.Mem.tail _ (List.Mem.tail _ (List.Mem.tail _ (List.Mem.tail _ (List.Mem.head _)))))).cell 0, (h.f (List.Mem.tail _ (List.Mem.tail _ (List.Mem.tail _ (List.Mem.tail _ (List.Mem.head _)))))).cell 1, (h.f (List.Mem.tail _ (List.Mem.tail _ (List.Mem.tail _ (List.Mem.tail _ (List.Mem.head _)))))).cell 2, (h.f (List.Mem.tail _ (List.Mem.head _))).cell 0, (h.f (List.Mem.tail _ (List.Mem.head _))).cell 1, (h.f (List.Mem.tail _ (List.Mem.head _))).cell 2, (h.f (List.Mem.tail _ (List.Mem.tail _ (List.Mem.head _)))).cell 0, (h.f (List.Mem.tail _ (List.Mem.tail _ (List.Mem.head _)))).cell 1, (h.f (List.Mem.tail _ (List.Mem.tail _ (List.Mem.head _)))).cell 2, h⟩)
  have KEEP1 : Hid (∀ w' w'' : World, (w'.cell? ⟨w6.heap.size, 0, none⟩ = some (.bool r.neg) ∧ w'.cell? ⟨w6.heap.size, 1, none⟩ = some (S r.l) ∧ w'.cell? ⟨w6.heap.size, 2, none⟩ = some (.int .i64 r.e) ∧ w'.cell? ⟨w9.heap.size, 0, none⟩ = some (.bool t.neg) ∧ w'.cell? ⟨w9.heap.size, 1, none⟩ = some (S t.l) ∧ w'.cell? ⟨w9.heap.size, 2, none⟩ = some (.int .i64 t.e) ∧ w'.cell? ⟨w8.heap.size, 0, none⟩ = some (.bool false) ∧ w'.cell? ⟨w8.heap.size, 1, none⟩ = some (.string ⟨#[50, 53]⟩) ∧ w'.cell? ⟨w8.heap.size, 2, none⟩ = some (.int .i64 P) ∧ HeldL w [(w10.heap.size, #[.bool u.neg, S u.l, .int .i64 u.e]), (w9.heap.size, #[.bool t.neg, S t.l, .int .i64 t.e]), (w8.heap.size, #[.bool false, .string ⟨#[50, 53]⟩, .int .i64 P]), (w7.heap.size, #[.bool s.neg, S s.l, .int .i64 s.e]), (w6.heap.size, #[.bool r.neg, S r.l, .int .i64 r.e]), (w5.heap.size, #[.bool n1, S (dgs L1), .int .i64 e1]), (w4.heap.size, #[.bool n, S (dgs L), .int .i64 e]), (w.heap.size + 1, #[.bool n1, .slice a1 len1 cap1, .int .i64 e1]), (w.heap.size, #[.bool n, .slice a len cap, .int .i64 e])] w') → Below w'.heap.size w' w'' → (w''.cell? ⟨w6.heap.size, 0, none⟩ = some (.bool r.neg) ∧ w''.cell? ⟨w6.heap.size, 1, none⟩ = some (S r.l) ∧ w''.cell? ⟨w6.heap.size, 2, none⟩ = some (.int .i64 r.e) ∧ w''.cell? ⟨w9.heap.size, 0, none⟩ = some (.bool t.neg) ∧ w''.cell? ⟨w9.heap.size, 1, none⟩ = some (S t.l) ∧ w''.cell? ⟨w9.heap.size, 2, none⟩ = some (.int .i64 t.e) ∧ w''.cell? ⟨w8.heap.size, 0, none⟩ = some (.bool false) ∧ w''.cell? ⟨w8.heap.size, 1, none⟩ = some (.string ⟨#[50, 53]⟩) ∧ w''.cell? ⟨w8.heap.size, 2, none⟩ = some (.int .i64 P) ∧ HeldL w [(w10.heap.size, #[.bool u.neg, S u.l, .int .i64 u.e]), (w9.heap.size, #[.bool t.neg, S t.l, .int .i64 t.e]), (w8.heap.size, #[.bool false, .string ⟨#[50, 53]⟩, .int .i64 P]), (w7.heap.size, #[.bool s.neg, S s.l, .int .i64 s.e]), (w6.heap.size, #[.bool r.neg, S r.l, .int .i64 r.e]), (w5.heap.size, #[.bool n1, S (dgs L1), .int .i64 e1]), (w4.heap.size, #[.bool n, S (dgs L), .int .i64 e]), (w.heap.size + 1, #[.bool n1, .slice a1 len1 cap1, .int .i64 e1]), (w.heap.size, #[.bool n, .slice a len cap, .int .i64 e])] w'')) := Lib.hid (fun w' w'' h hb => ALL1.out _ (HeldL.keep (h.2.2.2.2.2.2.2.2.2) hb))
  have HS1 : Hid (HeldL w [(w10.heap.size, #[.bool u.neg, S u.l, .int .i64 u.e]), (w9.heap.size, #[.bool t.neg, S t.l, .int .i64 t.e]), (w8.heap.size, #[.bool false, .string ⟨#[50, 53]⟩, .int .i64 P]), (w7.heap.size, #[.bool s.neg, S s.l, .int .i64 s.e]), (w6.heap.size, #[.bool r.neg, S r.l, .int .i64 r.e]), (w5.heap.size, #[.bool n1, S (dgs L1), .int .i64 e1]), (w4.heap.size, #[.bool n, S (dgs L), .int .i64 e]), (w.heap.size + 1, #[.bool n1, .slice a1 len1 cap1, .int .i64 e1]), (w.heap.size, #[.bool n, .slice a len cap, .int .i64 e])] _) := Lib.hid H11.out
  have TAB1 : Hid (∀ w' : World, (w'.cell? ⟨w6.heap.size, 0, none⟩ = some (.bool r.neg) ∧ w'.cell? ⟨w6.heap.size, 1, none⟩ = some (S r.l) ∧ w'.cell? ⟨w6.heap.size, 2, none⟩ = some (.int .i64 r.e) ∧ w'.cell? ⟨w9.heap.size, 0, none⟩ = some (.bool t.neg) ∧ w'.cell? ⟨w9.heap.size, 1, none⟩ = some (S t.l) ∧ w'.cell? ⟨w9.heap.size, 2, none⟩ = some (.int .i64 t.e) ∧ w'.cell? ⟨w8.heap.size, 0, none⟩ = some (.bool false) ∧ w'.cell? ⟨w8.heap.size, 1, none⟩ = some (.string ⟨#[50, 53]⟩) ∧ w'.cell? ⟨w8.heap.size, 2, none⟩ = some (.int .i64 P) ∧ HeldL w [(w10.heap.size, #[.bool u.neg, S u.l, .int .i64 u.e]), (w9.heap.size, #[.bool t.neg, S t.l, .int .i64 t.e]), (w8.heap.size, #[.bool false, .string ⟨#[50, 53]⟩, .int .i64 P]), (w7.heap.size, #[.bool s.neg, S s.l, .int .i64 s.e]), (w6.heap.size, #[.bool r.neg, S r.l, .int .i64 r.e]), (w5.heap.size, #[.bool n1, S (dgs L1), .int .i64 e1]), (w4.heap.size, #[.bool n, S (dgs L), .int .i64 e]), (w.heap.size + 1, #[.bool n1, .slice a1 len1 cap1, .int .i64 e1]), (w.heap.size, #[.bool n, .slice a len cap, .int .i64 e])] w') → Tab w') := Lib.hid (fun w' h => HT.out.below (h.2.2.2.2.2.2.2.2.2).bel)
  go_region_held3 (fun w' => w'.cell? ⟨w6.heap.size, 0, none⟩ = some (.bool r.neg) ∧ w'.cell? ⟨w6.heap.size, 1, none⟩ = some (S r.l) ∧ w'.cell? ⟨w6.heap.size, 2, none⟩ = some (.int .i64 r.e) ∧ w'.cell? ⟨w9.heap.size, 0, none⟩ = some (.bool t.neg) ∧ w'.cell? ⟨w9.heap.size, 1, none⟩ = some (S t.l) ∧ w'.cell? ⟨w9.heap.size, 2, none⟩ = some (.int .i64 t.e) ∧ w'.cell? ⟨w8.heap.size, 0, none⟩ = some (.bool false) ∧ w'.cell? ⟨w8.heap.size, 1, none⟩ = some (.string ⟨#[50, 53]⟩) ∧ w'.cell? ⟨w8.heap.size, 2, none⟩ = some (.int .i64 P) ∧ HeldL w [(w10.heap.size, #[.bool u.neg, S u.l, .int .i64 u.e]), (w9.heap.size, #[.bool t.neg, S t.l, .int .i64 t.e]), (w8.heap.size, #[.bool false, .string ⟨#[50, 53]⟩, .int .i64 P]), (w7.heap.size, #[.bool s.neg, S s.l, .int .i64 s.e]), (w6.heap.size, #[.bool r.neg, S r.l, .int .i64 r.e]), (w5.heap.size, #[.bool n1, S (dgs L1), .int .i64 e1]), (w4.heap.size, #[.bool n, S (dgs L), .int .i64 e]), (w.heap.size + 1, #[.bool n1, .slice a1 len1 cap1, .int .i64 e1]), (w.heap.size, #[.bool n, .slice a len cap, .int .i64 e])] w')
    (first | exact ALL1.out _ (HeldL.drew HS1.out) | exact KEEP1.out _ _ (by assumption) hb | assumption)
    (first | (go_at_call 15; (with_reducible refine (at_T r P M r _ rl HRR.out (by first | exact HT.out.below HS1.out.bel.drew | exact TAB1.out _ (by assumption))).mono ?_); rintro x wA ⟨rfl, hb⟩) | (go_at_call 17; (with_reducible refine (step25 t t P M _ tl (by omega) (by omega) HTT2.out (by first | exact HT.out.below HS1.out.bel.drew | exact TAB1.out _ (by assumption))).mono ?_); rintro x wB ⟨rfl, hb⟩))
  have HH : HeldL w [(w10.heap.size, #[.bool u.neg, S u.l, .int .i64 u.e]), (w9.heap.size, #[.bool t.neg, S t.l, .int .i64 t.e]), (w8.heap.size, #[.bool false, .string ⟨#[50, 53]⟩, .int .i64 P]), (w7.heap.size, #[.bool s.neg, S s.l, .int .i64 s.e]), (w6.heap.size, #[.bool r.neg, S r.l, .int .i64 r.e]), (w5.heap.size, #[.bool n1, S (dgs L1), .int .i64 e1]), (w4.heap.size, #[.bool n, S (dgs L), .int .i64 e]), (w.heap.size + 1, #[.bool n1, .slice a1 len1 cap1, .int .i64 e1]), (w.heap.size, #[.bool n, .slice a len cap, .int .i64 e])] wB := (‹wB.cell? ⟨w6.heap.size, 0, none⟩ = some (.bool r.neg) ∧ wB.cell? ⟨w6.heap.size, 1, none⟩ = some (S r.l) ∧ wB.cell? ⟨w6.heap.size, 2, none⟩ = some (.int .i64 r.e) ∧ wB.cell? ⟨w9.heap.size, 0, none⟩ = some (.bool t.neg) ∧ wB.cell? ⟨w9.heap.size, 1, none⟩ = some (S t.l) ∧ wB.cell? ⟨w9.heap.size, 2, none⟩ = some (.int .i64 t.e) ∧ wB.cell? ⟨w8.heap.size, 0, none⟩ = some (.bool false) ∧ wB.cell? ⟨w8.heap.size, 1, none⟩ = some (.string ⟨#[50, 53]⟩) ∧ wB.cell? ⟨w8.heap.size, 2, none⟩ = some (.int .i64 P) ∧ HeldL w [(w10.heap.size, #[.bool u.neg, S u.l, .int .i64 u.e]), (w9.heap.size, #[.bool t.neg, S t.l, .int .i64 t.e]), (w8.heap.size, #[.bool false, .string ⟨#[50, 53]⟩, .int .i64 P]), (w7.heap.size, #[.bool s.neg, S s.l, .int .i64 s.e]), (w6.heap.size, #[.bool r.neg, S r.l, .int .i64 r.e]), (w5.heap.size, #[.bool n1, S (dgs L1), .int .i64 e1]), (w4.heap.size, #[.bool n, S (dgs L), .int .i64 e]), (w.heap.size + 1, #[.bool n1, .slice a1 len1 cap1, .int .i64 e1]), (w.heap.size, #[.bool n, .slice a len cap, .int .i64 e])] wB›).2.2.2.2.2.2.2.2.2
  clear rr0 rr1 rr2 rrl ss0 ss1 ss2 ssl tt0 tt1 tt2 ttl uu0 uu1 uu2 uul by0 by1 by2 byl
  have H12 : Hid (HeldL w [(w10.heap.size, #[.bool u.neg, S u.l, .int .i64 u.e]), (w9.heap.size, #[.bool t.neg, S t.l, .int .i64 t.e]), (w8.heap.size, #[.bool false, .string ⟨#[50, 53]⟩, .int .i64 P]), (w7.heap.size, #[.bool s.neg, S s.l, .int .i64 s.e]), (w6.heap.size, #[.bool r.neg, S r.l, .int .i64 r.e]), (w5.heap.size, #[.bool n1, S (dgs L1), .int .i64 e1]), (w4.heap.size, #[.bool n, S (dgs L), .int .i64 e]), (w.heap.size + 1, #[.bool n1, .slice a1 len1 cap1, .int .i64 e1]), (w.heap.size, #[.bool n, .slice a len cap, .int .i64 e])] wB) := Lib.hid HH
  clear HH ALL1 KEEP1 HS1 TAB1 H11
  have rr0 : wB.cell? ⟨w6.heap.size, 0, none⟩ = some (.bool r.neg) := (H12.out.f (List.Mem.tail _ (List.Mem.tail _ (List.Mem.tail _ (List.Mem.tail _ (List.Mem.head _)))))).cell 0
  have rr1 : wB.cell? ⟨w6.heap.size, 1, none⟩ = some (S r.l) := (H12.out.f (List.Mem.tail _ (List.Mem.tail _ (List.Mem.tail _ (List.Mem.tail _ (List.Mem.head _)))))).cell 1
  have rr2 : wB.cell? ⟨w6.heap.size, 2, none⟩ = some (.int .i64 r.e) := (H12.out.f (List.Mem.tail _ (List.Mem.tail _ (List.Mem.tail _ (List.Mem.tail _ (List.Mem.head _)))))).cell 2
  have rrl : w6.heap.size < wB.heap.size := (H12.out.f (List.Mem.tail _ (List.Mem.tail _ (List.Mem.tail _ (List.Mem.tail _ (List.Mem.head _)))))).lt
  have ss0 : wB.cell? ⟨w7.heap.size, 0, none⟩ = some (.bool s.neg) := (H12.out.f (List.Mem.tail _ (List.Mem.tail _ (List.Mem.tail _ (List.Mem.head _))))).cell 0
  have ss1 : wB.cell? ⟨w7.heap.size, 1, none⟩ = some (S s.l) := (H12.out.f (List.Mem.tail _ (List.Mem.tail _ (List.Mem.tail _ (List.Mem.head _))))).cell 1
  have ss2 : wB.cell? ⟨w7.heap.size, 2, none⟩ = some (.int .i64 s.e) := (H12.out.f (List.Mem.tail _ (List.Mem.tail _ (List.Mem.tail _ (List.Mem.head _))))).cell 2
  have ssl : w7.heap.size < wB.heap.size := (H12.out.f (List.Mem.tail _ (List.Mem.tail _ (List.Mem.tail _ (List.Mem.head _))))).lt
  have tt0 : wB.cell? ⟨w9.heap.size, 0, none⟩ = some (.bool t.neg) := (H12.out.f (List.Mem.tail _ (List.Mem.head _))).cell 0
  have tt1 : wB.cell? ⟨w9.heap.size, 1, none⟩ = some (S t.l) := (H12.out.f (List.Mem.tail _ (List.Mem.head _))).cell 1
  have tt2 : wB.cell? ⟨w9.heap.size, 2, none⟩ = some (.int .i64 t.e) := (H12.out.f (List.Mem.tail _ (List.Mem.head _))).cell 2
  have ttl : w9.heap.size < wB.heap.size := (H12.out.f (List.Mem.tail _ (List.Mem.head _))).lt
  have uu0 : wB.cell? ⟨w10.heap.size, 0, none⟩ = some (.bool u.neg) := (H12.out.f (List.Mem.head _)).cell 0
  have uu1 : wB.cell? ⟨w10.heap.size, 1, none⟩ = some (S u.l) := (H12.out.f (List.Mem.head _)).cell 1
  have uu2 : wB.cell? ⟨w10.heap.size, 2, none⟩ = some (.int .i64 u.e) := (H12.out.f (List.Mem.head _)).cell 2
  have uul : w10.heap.size < wB.heap.size := (H12.out.f (List.Mem.head _)).lt
  go_wp2_with fail
  with_reducible refine (cmp_T r s c2 _ rl sl HC2.out).mono ?_
  rintro x w13 ⟨rfl, hb⟩
  clear rr0 rr1 rr2 rrl ss0 ss1 ss2 ssl tt0 tt1 tt2 ttl uu0 uu1 uu2 uul
  have H13 : Hid (HeldL w [(w10.heap.size, #[.bool u.neg, S u.l, .int .i64 u.e]), (w9.heap.size, #[.bool t.neg, S t.l, .int .i64 t.e]), (w8.heap.size, #[.bool false, .string ⟨#[50, 53]⟩, .int .i64 P]), (w7.heap.size, #[.bool s.neg, S s.l, .int .i64 s.e]), (w6.heap.size, #[.bool r.neg, S r.l, .int .i64 r.e]), (w5.heap.size, #[.bool n1, S (dgs L1), .int .i64 e1]), (w4.heap.size, #[.bool n, S (dgs L), .int .i64 e]), (w.heap.size + 1, #[.bool n1, .slice a1 len1 cap1, .int .i64 e1]), (w.heap.size, #[.bool n, .slice a len cap, .int .i64 e])] w13) := Lib.hid (HeldL.keep H12.out hb)
  clear H12
  clear hb
  have tt0 : w13.cell? ⟨w9.heap.size, 0, none⟩ = some (.bool t.neg) := (H13.out.f (List.Mem.tail _ (List.Mem.head _))).cell 0
  have tt1 : w13.cell? ⟨w9.heap.size, 1, none⟩ = some (S t.l) := (H13.out.f (List.Mem.tail _ (List.Mem.head _))).cell 1
  have tt2 : w13.cell? ⟨w9.heap.size, 2, none⟩ = some (.int .i64 t.e) := (H13.out.f (List.Mem.tail _ (List.Mem.head _))).cell 2
  have ttl : w9.heap.size < w13.heap.size := (H13.out.f (List.Mem.tail _ (List.Mem.head _))).lt
  have uu0 : w13.cell? ⟨w10.heap.size, 0, none⟩ = some (.bool u.neg) := (H13.out.f (List.Mem.head _)).cell 0
  have uu1 : w13.cell? ⟨w10.heap.size, 1, none⟩ = some (S u.l) := (H13.out.f (List.Mem.head _)).cell 1
  have uu2 : w13.cell? ⟨w10.heap.size, 2, none⟩ = some (.int .i64 u.e) := (H13.out.f (List.Mem.head _)).cell 2
  have uul : w10.heap.size < w13.heap.size := (H13.out.f (List.Mem.head _)).lt
  go_wp2_with fail
  with_reducible refine (cmp_T t u c3 _ tl ul HC3.out).mono ?_
  rintro x w14 ⟨rfl, hb⟩
  clear tt0 tt1 tt2 ttl uu0 uu1 uu2 uul
  have H14 : Hid (HeldL w [(w10.heap.size, #[.bool u.neg, S u.l, .int .i64 u.e]), (w9.heap.size, #[.bool t.neg, S t.l, .int .i64 t.e]), (w8.heap.size, #[.bool false, .string ⟨#[50, 53]⟩, .int .i64 P]), (w7.heap.size, #[.bool s.neg, S s.l, .int .i64 s.e]), (w6.heap.size, #[.bool r.neg, S r.l, .int .i64 r.e]), (w5.heap.size, #[.bool n1, S (dgs L1), .int .i64 e1]), (w4.heap.size, #[.bool n, S (dgs L), .int .i64 e]), (w.heap.size + 1, #[.bool n1, .slice a1 len1 cap1, .int .i64 e1]), (w.heap.size, #[.bool n, .slice a len cap, .int .i64 e])] w14) := Lib.hid (HeldL.keep H13.out hb)
  clear H13
  clear hb
  go_wp2
  go_ret
  exact ⟨rfl, H14.out.bel⟩

set_option maxRecDepth 100000 in
set_option maxHeartbeats 1600000 in
theorem again_no1 (n0 : Bool) (a0 : Option Addr) (len0 cap0 : Nat) (e0 : Int) (n1 : Bool) (a1 : Option Addr) (len1 cap1 : Nat) (e1 : Int) (pl mo : Int) (w : World) (hc0 : len0 ≤ cap0) (hm0 : cap0 ≤ maxLen) (htab : Tab w) (h : ¬ ((len0 : Int) ≤ 40 ∧ -40 ≤ e0 ∧ e0 ≤ 40)) :
    Calls Tryd.prog 4 #[RV n0 a0 len0 cap0 e0, RV n1 a1 len1 cap1 e1, .int .i64 pl, .int .i64 mo] w fun x w' => x = .returned (.bool true) ∧ Below w.heap.size w w' := by
  have HT := Lib.hid htab
  have H := Lib.hid h
  clear htab h
  go_enter Tryd.func4, Tryd.ntmps4
  go_wp2_with fail
  with_reducible refine (head3 _ (HT.out.below (HeldL.alloc (HeldL.alloc (HeldL.refl w) (w.heap.size) #[.bool n0, .slice a0 len0 cap0, .int .i64 e0] 24 (by simp)) (w.heap.size + 1) #[.bool n1, .slice a1 len1 cap1, .int .i64 e1] 24 (by simp)).bel)).mono ?_
  rintro x w1 ⟨rfl, hb⟩
  have H1 : Hid (HeldL w [(w.heap.size + 1, #[.bool n1, .slice a1 len1 cap1, .int .i64 e1]), (w.heap.size, #[.bool n0, .slice a0 len0 cap0, .int .i64 e0])] w1) := Lib.hid (HeldL.keep (HeldL.alloc (HeldL.alloc (HeldL.refl w) (w.heap.size) #[.bool n0, .slice a0 len0 cap0, .int .i64 e0] 24 (by simp)) (w.heap.size + 1) #[.bool n1, .slice a1 len1 cap1, .int .i64 e1] 24 (by simp)) hb)
  clear hb
  have r0 : w1.cell? ⟨w.heap.size, 0, none⟩ = some (.bool n0) := (H1.out.f (List.Mem.tail _ (List.Mem.head _))).cell 0
  have r1 : w1.cell? ⟨w.heap.size, 1, none⟩ = some (.slice a0 len0 cap0) := (H1.out.f (List.Mem.tail _ (List.Mem.head _))).cell 1
  have r2 : w1.cell? ⟨w.heap.size, 2, none⟩ = some (.int .i64 e0) := (H1.out.f (List.Mem.tail _ (List.Mem.head _))).cell 2
  have rl : w.heap.size < w1.heap.size := (H1.out.f (List.Mem.tail _ (List.Mem.head _))).lt
  go_wp2_with fail
  with_reducible refine (few_no n0 a0 len0 cap0 e0 40 _ hc0 hm0 (by decide) (by decide) H.out).mono ?_
  rintro x w2 ⟨rfl, hb⟩
  clear r0 r1 r2 rl
  have H2 : Hid (HeldL w [(w.heap.size + 1, #[.bool n1, .slice a1 len1 cap1, .int .i64 e1]), (w.heap.size, #[.bool n0, .slice a0 len0 cap0, .int .i64 e0])] w2) := Lib.hid (HeldL.keep H1.out hb)
  clear H1
  clear hb
  go_wp2
  go_ret
  exact ⟨rfl, H2.out.bel⟩
set_option maxRecDepth 100000 in
set_option maxHeartbeats 1600000 in
theorem again_no2 (n0 : Bool) (a0 : Option Addr) (len0 cap0 : Nat) (e0 : Int) (n1 : Bool) (a1 : Option Addr) (len1 cap1 : Nat) (e1 : Int) (pl mo : Int) (w : World) (hc0 : len0 ≤ cap0) (hm0 : cap0 ≤ maxLen) (hc1 : len1 ≤ cap1) (hm1 : cap1 ≤ maxLen) (htab : Tab w) (k1 : (len0 : Int) ≤ 40) (k2 : -40 ≤ e0) (k3 : e0 ≤ 40) (h : ¬ ((len1 : Int) ≤ 40 ∧ -40 ≤ e1 ∧ e1 ≤ 40)) :
    Calls Tryd.prog 4 #[RV n0 a0 len0 cap0 e0, RV n1 a1 len1 cap1 e1, .int .i64 pl, .int .i64 mo] w fun x w' => x = .returned (.bool true) ∧ Below w.heap.size w w' := by
  have HT := Lib.hid htab
  have H := Lib.hid h
  clear htab h
  go_enter Tryd.func4, Tryd.ntmps4
  go_wp2_with fail
  with_reducible refine (head3 _ (HT.out.below (HeldL.alloc (HeldL.alloc (HeldL.refl w) (w.heap.size) #[.bool n0, .slice a0 len0 cap0, .int .i64 e0] 24 (by simp)) (w.heap.size + 1) #[.bool n1, .slice a1 len1 cap1, .int .i64 e1] 24 (by simp)).bel)).mono ?_
  rintro x w1 ⟨rfl, hb⟩
  have H1 : Hid (HeldL w [(w.heap.size + 1, #[.bool n1, .slice a1 len1 cap1, .int .i64 e1]), (w.heap.size, #[.bool n0, .slice a0 len0 cap0, .int .i64 e0])] w1) := Lib.hid (HeldL.keep (HeldL.alloc (HeldL.alloc (HeldL.refl w) (w.heap.size) #[.bool n0, .slice a0 len0 cap0, .int .i64 e0] 24 (by simp)) (w.heap.size + 1) #[.bool n1, .slice a1 len1 cap1, .int .i64 e1] 24 (by simp)) hb)
  clear hb
  have r0 : w1.cell? ⟨w.heap.size, 0, none⟩ = some (.bool n0) := (H1.out.f (List.Mem.tail _ (List.Mem.head _))).cell 0
  have r1 : w1.cell? ⟨w.heap.size, 1, none⟩ = some (.slice a0 len0 cap0) := (H1.out.f (List.Mem.tail _ (List.Mem.head _))).cell 1
  have r2 : w1.cell? ⟨w.heap.size, 2, none⟩ = some (.int .i64 e0) := (H1.out.f (List.Mem.tail _ (List.Mem.head _))).cell 2
  have rl : w.heap.size < w1.heap.size := (H1.out.f (List.Mem.tail _ (List.Mem.head _))).lt
  have q0 : w1.cell? ⟨w.heap.size + 1, 0, none⟩ = some (.bool n1) := (H1.out.f (List.Mem.head _)).cell 0
  have q1 : w1.cell? ⟨w.heap.size + 1, 1, none⟩ = some (.slice a1 len1 cap1) := (H1.out.f (List.Mem.head _)).cell 1
  have q2 : w1.cell? ⟨w.heap.size + 1, 2, none⟩ = some (.int .i64 e1) := (H1.out.f (List.Mem.head _)).cell 2
  have ql : w.heap.size + 1 < w1.heap.size := (H1.out.f (List.Mem.head _)).lt
  go_wp2_with fail
  with_reducible refine (few_yes n0 a0 len0 cap0 e0 40 _ hc0 hm0 (by decide) (by decide) k1 k2 k3).mono ?_
  rintro x w2 ⟨rfl, hb⟩
  clear r0 r1 r2 rl q0 q1 q2 ql
  have H2 : Hid (HeldL w [(w.heap.size + 1, #[.bool n1, .slice a1 len1 cap1, .int .i64 e1]), (w.heap.size, #[.bool n0, .slice a0 len0 cap0, .int .i64 e0])] w2) := Lib.hid (HeldL.keep H1.out hb)
  clear H1
  clear hb
  have r0 : w2.cell? ⟨w.heap.size, 0, none⟩ = some (.bool n0) := (H2.out.f (List.Mem.tail _ (List.Mem.head _))).cell 0
  have r1 : w2.cell? ⟨w.heap.size, 1, none⟩ = some (.slice a0 len0 cap0) := (H2.out.f (List.Mem.tail _ (List.Mem.head _))).cell 1
  have r2 : w2.cell? ⟨w.heap.size, 2, none⟩ = some (.int .i64 e0) := (H2.out.f (List.Mem.tail _ (List.Mem.head _))).cell 2
  have rl : w.heap.size < w2.heap.size := (H2.out.f (List.Mem.tail _ (List.Mem.head _))).lt
  have q0 : w2.cell? ⟨w.heap.size + 1, 0, none⟩ = some (.bool n1) := (H2.out.f (List.Mem.head _)).cell 0
  have q1 : w2.cell? ⟨w.heap.size + 1, 1, none⟩ = some (.slice a1 len1 cap1) := (H2.out.f (List.Mem.head _)).cell 1
  have q2 : w2.cell? ⟨w.heap.size + 1, 2, none⟩ = some (.int .i64 e1) := (H2.out.f (List.Mem.head _)).cell 2
  have ql : w.heap.size + 1 < w2.heap.size := (H2.out.f (List.Mem.head _)).lt
  go_wp2_with fail
  with_reducible refine (few_no n1 a1 len1 cap1 e1 40 _ hc1 hm1 (by decide) (by decide) H.out).mono ?_
  rintro x w3 ⟨rfl, hb⟩
  clear r0 r1 r2 rl q0 q1 q2 ql
  have H3 : Hid (HeldL w [(w.heap.size + 1, #[.bool n1, .slice a1 len1 cap1, .int .i64 e1]), (w.heap.size, #[.bool n0, .slice a0 len0 cap0, .int .i64 e0])] w3) := Lib.hid (HeldL.keep H2.out hb)
  clear H2
  clear hb
  go_wp2
  go_ret
  exact ⟨rfl, H3.out.bel⟩
end Go.Proofs.YtfbfjkacaadbpaaDoor
