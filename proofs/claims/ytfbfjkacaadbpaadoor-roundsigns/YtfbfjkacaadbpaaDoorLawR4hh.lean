/- The walk of the law RoundSigns. -/
import Derived.Test.YtfbfjkacaadbpaaDoorRndP
namespace Go.Proofs.YtfbfjkacaadbpaaDoor
open Go.RowKit Florin
set_option linter.unusedVariables false
set_option linter.unusedSimpArgs false
attribute [local go_sem ↓] Go.wp_at_zero Go.wp_at_succ eq_V ne_V

set_option maxRecDepth 100000 in
set_option maxHeartbeats 6400000 in
theorem signs_hh (n : Bool) (a : Option Addr) (len cap : Nat) (L : List UInt8) (e : Int) (pl mo : Int) (w : World) (hin : InB w a len cap L) (htab : Tab w) (h1 : len ≤ 40) (h2 : -40 ≤ e) (h3 : e ≤ 40)
    (P M : Int) (hP : wrap64 (pl.tmod 60 - wrap64 ((pl.tmod 60).tdiv 2)) = P) (m0 : 0 ≤ M) (m6 : M ≤ 6) (hM : ∀ w : World, Calls Tryd.prog 19 #[.int .i64 mo] w fun x w' => x = .returned (.int .i64 M) ∧ w = w')
    (r df d t u lo hi y s : Tri) (hr : mulT (made n (dgs L) e) 1 (hld P) M = r) (hdf : SubIs ⟨n, dgs L, e⟩ r df) (hd : made false df.l df.e = d) (hu : made false [49] P = u) (c1 c2 : Int) (hc2 : CmpIs d u c2) (c2n : c2 < 0)
    (hlo : mulT (made n (dgs L) e) 1 (hld P) 6 = lo) (hhi : mulT (made n (dgs L) e) 1 (hld P) 5 = hi) (hy : made (!n) (dgs L) e = y) (hs : mulT (made y.neg y.l y.e) 1 (hld P) (turn M) = s) (hs2 : made (!r.neg) r.l r.e = s) (c3 c4 : Int) (hc3 : CmpIs lo ⟨n, dgs L, e⟩ c3) (c3n : c3 ≤ 0) (hc4 : CmpIs ⟨n, dgs L, e⟩ hi c4) (c4n : c4 ≤ 0)
    (rl : r.l.length ≤ 100000) (dfl : df.l.length ≤ 100000) (ddl : d.l.length ≤ 100000) (ul : u.l.length ≤ 100000) (lol : lo.l.length ≤ 100000) (hil : hi.l.length ≤ 100000) (yl : y.l.length ≤ 100000) (m2 : M ≤ 2) (htw : AddIs d d t) (tl : t.l.length ≤ 100000) (hc1 : CmpIs t u c1) (c1n : c1 ≤ 0) (elo : r ≠ lo) (ehi : r = hi) :
    Calls Tryd.prog 5 #[RV n a len cap e, .int .i64 pl, .int .i64 mo] w fun x w' => x = .returned (.bool true) ∧ Below w.heap.size w w' := by
  have LL : (dgs L).length ≤ 100000 := by rw [dgs_length, hin.1]; omega
  have hcA := hin.2.1
  have hmA := hin.2.2.1
  have HP := Lib.hid hP
  have HMO := Lib.hid hM
  have HR := Lib.hid hr
  have HDF := Lib.hid hdf
  have HD := Lib.hid hd
  have HU := Lib.hid hu
  have HC2 := Lib.hid hc2
  have HLO := Lib.hid hlo
  have HHI := Lib.hid hhi
  have HY := Lib.hid hy
  have HSA := Lib.hid hs
  have HSB := Lib.hid hs2
  have HC3 := Lib.hid hc3
  have HC4 := Lib.hid hc4
  have HT := Lib.hid htab
  have HIN := Lib.hid hin
  have HTW := Lib.hid htw
  have HC1 := Lib.hid hc1
  clear hP hM hr hdf hd hu hc2 hlo hhi hy hs hs2 hc3 hc4 htab hin htw hc1
  have cb2 : decide (0 ≤ c2) = false := by simp; omega
  have cb3 : decide (c3 ≤ 0) = true := by simp; omega
  have cb4 : decide (c4 ≤ 0) = true := by simp; omega
  have mb : decide (M ≤ 2) = true := by simp; omega
  have cb1 : decide (0 < c1) = false := by simp; omega
  have eb : decide (r = lo) = false := by simp [elo]
  have eb2 : decide (r = hi) = true := by simp [ehi]
  clear ehi
  clear elo
  go_enter Tryd.func5, Tryd.ntmps5
  go_wp2_with fail
  with_reducible refine (head3 _ (HT.out.below (HeldL.alloc (HeldL.refl w) (w.heap.size) #[.bool n, .slice a len cap, .int .i64 e] 24 (by simp)).bel)).mono ?_
  rintro x w1 ⟨rfl, hb⟩
  have H1 : Hid (HeldL w [(w.heap.size, #[.bool n, .slice a len cap, .int .i64 e])] w1) := Lib.hid (HeldL.keep (HeldL.alloc (HeldL.refl w) (w.heap.size) #[.bool n, .slice a len cap, .int .i64 e] 24 (by simp)) hb)
  clear hb
  have q0 : w1.cell? ⟨w.heap.size, 0, none⟩ = some (.bool n) := (H1.out.f (List.Mem.head _)).cell 0
  have q1 : w1.cell? ⟨w.heap.size, 1, none⟩ = some (.slice a len cap) := (H1.out.f (List.Mem.head _)).cell 1
  have q2 : w1.cell? ⟨w.heap.size, 2, none⟩ = some (.int .i64 e) := (H1.out.f (List.Mem.head _)).cell 2
  have ql : w.heap.size < w1.heap.size := (H1.out.f (List.Mem.head _)).lt
  go_wp2_with fail
  with_reducible refine (few_yes n a len cap e 40 _ hcA hmA (by decide) (by decide) (by omega) h2 h3).mono ?_
  rintro x w2 ⟨rfl, hb⟩
  clear q0 q1 q2 ql
  have H2 : Hid (HeldL w [(w.heap.size, #[.bool n, .slice a len cap, .int .i64 e])] w2) := Lib.hid (HeldL.keep H1.out hb)
  clear H1
  clear hb
  have q0 : w2.cell? ⟨w.heap.size, 0, none⟩ = some (.bool n) := (H2.out.f (List.Mem.head _)).cell 0
  have q1 : w2.cell? ⟨w.heap.size, 1, none⟩ = some (.slice a len cap) := (H2.out.f (List.Mem.head _)).cell 1
  have q2 : w2.cell? ⟨w.heap.size, 2, none⟩ = some (.int .i64 e) := (H2.out.f (List.Mem.head _)).cell 2
  have ql : w.heap.size < w2.heap.size := (H2.out.f (List.Mem.head _)).lt
  go_wp2_with fail
  rw [HP.out]
  with_reducible refine (HMO.out _).mono ?_
  rintro x wz ⟨rfl, rfl⟩
  go_wp2_with fail
  with_reducible refine (make_as n a len cap L e _ (HIN.out.below H2.out.bel) (by omega)).mono ?_
  rintro x w3 ⟨rfl, hb⟩
  clear q0 q1 q2 ql
  have H3 : Hid (HeldL w [(w.heap.size, #[.bool n, .slice a len cap, .int .i64 e])] w3) := Lib.hid (HeldL.keep H2.out hb)
  clear H2
  clear hb
  go_wp2_with fail
  with_reducible refine (at_T ⟨n, dgs L, e⟩ P M r _ LL HR.out (HT.out.below (HeldL.alloc H3.out (w3.heap.size) #[.bool n, S (dgs L), .int .i64 e] 28 (by simp)).bel)).mono ?_
  rintro x w4 ⟨rfl, hb⟩
  have H4 : Hid (HeldL w [(w3.heap.size, #[.bool n, S (dgs L), .int .i64 e]), (w.heap.size, #[.bool n, .slice a len cap, .int .i64 e])] w4) := Lib.hid (HeldL.keep (HeldL.alloc H3.out (w3.heap.size) #[.bool n, S (dgs L), .int .i64 e] 28 (by simp)) hb)
  clear H3
  clear hb
  have bx0 : w4.cell? ⟨w3.heap.size, 0, none⟩ = some (.bool n) := (H4.out.f (List.Mem.head _)).cell 0
  have bx1 : w4.cell? ⟨w3.heap.size, 1, none⟩ = some (S (dgs L)) := (H4.out.f (List.Mem.head _)).cell 1
  have bx2 : w4.cell? ⟨w3.heap.size, 2, none⟩ = some (.int .i64 e) := (H4.out.f (List.Mem.head _)).cell 2
  have bxl : w3.heap.size < w4.heap.size := (H4.out.f (List.Mem.head _)).lt
  go_wp2_with fail
  with_reducible refine (sub_T ⟨n, dgs L, e⟩ r df _ LL rl HDF.out).mono ?_
  rintro x w5 ⟨rfl, hb⟩
  clear bx0 bx1 bx2 bxl
  have H5 : Hid (HeldL w [(w4.heap.size, #[.bool r.neg, S r.l, .int .i64 r.e]), (w3.heap.size, #[.bool n, S (dgs L), .int .i64 e]), (w.heap.size, #[.bool n, .slice a len cap, .int .i64 e])] w5) := Lib.hid (HeldL.keep (HeldL.alloc H4.out (w4.heap.size) #[.bool r.neg, S r.l, .int .i64 r.e] 28 (by simp)) hb)
  clear H4
  clear hb
  go_wp2_with fail
  with_reducible refine (abs_T df d _ dfl HD.out).mono ?_
  rintro x w6 ⟨rfl, hb⟩
  have H6 : Hid (HeldL w [(w4.heap.size, #[.bool r.neg, S r.l, .int .i64 r.e]), (w3.heap.size, #[.bool n, S (dgs L), .int .i64 e]), (w.heap.size, #[.bool n, .slice a len cap, .int .i64 e])] w6) := Lib.hid (HeldL.keep H5.out hb)
  clear H5
  clear hb
  have bx0 : w6.cell? ⟨w3.heap.size, 0, none⟩ = some (.bool n) := (H6.out.f (List.Mem.tail _ (List.Mem.head _))).cell 0
  have bx1 : w6.cell? ⟨w3.heap.size, 1, none⟩ = some (S (dgs L)) := (H6.out.f (List.Mem.tail _ (List.Mem.head _))).cell 1
  have bx2 : w6.cell? ⟨w3.heap.size, 2, none⟩ = some (.int .i64 e) := (H6.out.f (List.Mem.tail _ (List.Mem.head _))).cell 2
  have bxl : w3.heap.size < w6.heap.size := (H6.out.f (List.Mem.tail _ (List.Mem.head _))).lt
  have br0 : w6.cell? ⟨w4.heap.size, 0, none⟩ = some (.bool r.neg) := (H6.out.f (List.Mem.head _)).cell 0
  have br1 : w6.cell? ⟨w4.heap.size, 1, none⟩ = some (S r.l) := (H6.out.f (List.Mem.head _)).cell 1
  have br2 : w6.cell? ⟨w4.heap.size, 2, none⟩ = some (.int .i64 r.e) := (H6.out.f (List.Mem.head _)).cell 2
  have brl : w4.heap.size < w6.heap.size := (H6.out.f (List.Mem.head _)).lt
  go_wp2_with fail
  have ALL1 : Hid (∀ w' : World, HeldL w [(w6.heap.size, #[.bool d.neg, S d.l, .int .i64 d.e]), (w4.heap.size, #[.bool r.neg, S r.l, .int .i64 r.e]), (w3.heap.size, #[.bool n, S (dgs L), .int .i64 e]), (w.heap.size, #[.bool n, .slice a len cap, .int .i64 e])] w' → w'.cell? ⟨w6.heap.size, 0, none⟩ = some (.bool d.neg) ∧ w'.cell? ⟨w6.heap.size, 1, none⟩ = some (S d.l) ∧ w'.cell? ⟨w6.heap.size, 2, none⟩ = some (.int .i64 d.e) ∧ HeldL w [(w6.heap.size, #[.bool d.neg, S d.l, .int .i64 d.e]), (w4.heap.size, #[.bool r.neg, S r.l, .int .i64 r.e]), (w3.heap.size, #[.bool n, S (dgs L), .int .i64 e]), (w.heap.size, #[.bool n, .slice a len cap, .int .i64 e])] w') := Lib.hid (fun w' h => ⟨(h.f (List.Mem.head _)).cell 0, (h.f (List.Mem.head _)).cell 1, (h.f (List.Mem.head _)).cell 2, h⟩)
  have KEEP1 : Hid (∀ w' w'' : World, (w'.cell? ⟨w6.heap.size, 0, none⟩ = some (.bool d.neg) ∧ w'.cell? ⟨w6.heap.size, 1, none⟩ = some (S d.l) ∧ w'.cell? ⟨w6.heap.size, 2, none⟩ = some (.int .i64 d.e) ∧ HeldL w [(w6.heap.size, #[.bool d.neg, S d.l, .int .i64 d.e]), (w4.heap.size, #[.bool r.neg, S r.l, .int .i64 r.e]), (w3.heap.size, #[.bool n, S (dgs L), .int .i64 e]), (w.heap.size, #[.bool n, .slice a len cap, .int .i64 e])] w') → Below w'.heap.size w' w'' → (w''.cell? ⟨w6.heap.size, 0, none⟩ = some (.bool d.neg) ∧ w''.cell? ⟨w6.heap.size, 1, none⟩ = some (S d.l) ∧ w''.cell? ⟨w6.heap.size, 2, none⟩ = some (.int .i64 d.e) ∧ HeldL w [(w6.heap.size, #[.bool d.neg, S d.l, .int .i64 d.e]), (w4.heap.size, #[.bool r.neg, S r.l, .int .i64 r.e]), (w3.heap.size, #[.bool n, S (dgs L), .int .i64 e]), (w.heap.size, #[.bool n, .slice a len cap, .int .i64 e])] w'')) := Lib.hid (fun w' w'' h hb => ALL1.out _ (HeldL.keep (h.2.2.2) hb))
  have HS1 : Hid (HeldL w [(w6.heap.size, #[.bool d.neg, S d.l, .int .i64 d.e]), (w4.heap.size, #[.bool r.neg, S r.l, .int .i64 r.e]), (w3.heap.size, #[.bool n, S (dgs L), .int .i64 e]), (w.heap.size, #[.bool n, .slice a len cap, .int .i64 e])] _) := Lib.hid (HeldL.alloc H6.out (w6.heap.size) #[.bool d.neg, S d.l, .int .i64 d.e] 28 (by simp))
  go_region_held3 (fun w' => w'.cell? ⟨w6.heap.size, 0, none⟩ = some (.bool d.neg) ∧ w'.cell? ⟨w6.heap.size, 1, none⟩ = some (S d.l) ∧ w'.cell? ⟨w6.heap.size, 2, none⟩ = some (.int .i64 d.e) ∧ HeldL w [(w6.heap.size, #[.bool d.neg, S d.l, .int .i64 d.e]), (w4.heap.size, #[.bool r.neg, S r.l, .int .i64 r.e]), (w3.heap.size, #[.bool n, S (dgs L), .int .i64 e]), (w.heap.size, #[.bool n, .slice a len cap, .int .i64 e])] w')
    (first | exact ALL1.out _ (HeldL.drew HS1.out) | exact KEEP1.out _ _ (by assumption) hb | assumption)
    (first | (go_at_call 23; (with_reducible refine (twice_as d t _ ddl HTW.out).mono ?_); rintro x wA ⟨rfl, hb⟩) | (go_at_call 24; (with_reducible refine (unit_as P _ u HU.out).mono ?_); rintro x wB ⟨rfl, hb⟩) | (go_at_call 20; (with_reducible refine (cmp_T t u c1 _ tl ul HC1.out).mono ?_); rintro x wC ⟨rfl, hb⟩) | (go_at_call 24; (with_reducible refine (unit_as P _ u HU.out).mono ?_); rintro x wD ⟨rfl, hb⟩) | (go_at_call 20; (with_reducible refine (cmp_T d u c2 _ ddl ul HC2.out).mono ?_); rintro x wE ⟨rfl, hb⟩))
  have HH : HeldL w [(w6.heap.size, #[.bool d.neg, S d.l, .int .i64 d.e]), (w4.heap.size, #[.bool r.neg, S r.l, .int .i64 r.e]), (w3.heap.size, #[.bool n, S (dgs L), .int .i64 e]), (w.heap.size, #[.bool n, .slice a len cap, .int .i64 e])] wE := (‹wE.cell? ⟨w6.heap.size, 0, none⟩ = some (.bool d.neg) ∧ wE.cell? ⟨w6.heap.size, 1, none⟩ = some (S d.l) ∧ wE.cell? ⟨w6.heap.size, 2, none⟩ = some (.int .i64 d.e) ∧ HeldL w [(w6.heap.size, #[.bool d.neg, S d.l, .int .i64 d.e]), (w4.heap.size, #[.bool r.neg, S r.l, .int .i64 r.e]), (w3.heap.size, #[.bool n, S (dgs L), .int .i64 e]), (w.heap.size, #[.bool n, .slice a len cap, .int .i64 e])] wE›).2.2.2
  clear bx0 bx1 bx2 bxl br0 br1 br2 brl
  have H7 : Hid (HeldL w [(w6.heap.size, #[.bool d.neg, S d.l, .int .i64 d.e]), (w4.heap.size, #[.bool r.neg, S r.l, .int .i64 r.e]), (w3.heap.size, #[.bool n, S (dgs L), .int .i64 e]), (w.heap.size, #[.bool n, .slice a len cap, .int .i64 e])] wE) := Lib.hid HH
  clear HH ALL1 KEEP1 HS1 H6
  have bx0 : wE.cell? ⟨w3.heap.size, 0, none⟩ = some (.bool n) := (H7.out.f (List.Mem.tail _ (List.Mem.tail _ (List.Mem.head _)))).cell 0
  have bx1 : wE.cell? ⟨w3.heap.size, 1, none⟩ = some (S (dgs L)) := (H7.out.f (List.Mem.tail _ (List.Mem.tail _ (List.Mem.head _)))).cell 1
  have bx2 : wE.cell? ⟨w3.heap.size, 2, none⟩ = some (.int .i64 e) := (H7.out.f (List.Mem.tail _ (List.Mem.tail _ (List.Mem.head _)))).cell 2
  have bxl : w3.heap.size < wE.heap.size := (H7.out.f (List.Mem.tail _ (List.Mem.tail _ (List.Mem.head _)))).lt
  go_wp2_with fail
  with_reducible refine (at_T ⟨n, dgs L, e⟩ P 6 lo _ LL HLO.out (HT.out.below H7.out.bel)).mono ?_
  rintro x w8 ⟨rfl, hb⟩
  clear bx0 bx1 bx2 bxl
  have H8 : Hid (HeldL w [(w6.heap.size, #[.bool d.neg, S d.l, .int .i64 d.e]), (w4.heap.size, #[.bool r.neg, S r.l, .int .i64 r.e]), (w3.heap.size, #[.bool n, S (dgs L), .int .i64 e]), (w.heap.size, #[.bool n, .slice a len cap, .int .i64 e])] w8) := Lib.hid (HeldL.keep H7.out hb)
  clear H7
  clear hb
  have bx0 : w8.cell? ⟨w3.heap.size, 0, none⟩ = some (.bool n) := (H8.out.f (List.Mem.tail _ (List.Mem.tail _ (List.Mem.head _)))).cell 0
  have bx1 : w8.cell? ⟨w3.heap.size, 1, none⟩ = some (S (dgs L)) := (H8.out.f (List.Mem.tail _ (List.Mem.tail _ (List.Mem.head _)))).cell 1
  have bx2 : w8.cell? ⟨w3.heap.size, 2, none⟩ = some (.int .i64 e) := (H8.out.f (List.Mem.tail _ (List.Mem.tail _ (List.Mem.head _)))).cell 2
  have bxl : w3.heap.size < w8.heap.size := (H8.out.f (List.Mem.tail _ (List.Mem.tail _ (List.Mem.head _)))).lt
  go_wp2_with fail
  with_reducible refine (at_T ⟨n, dgs L, e⟩ P 5 hi _ LL HHI.out (HT.out.below (HeldL.alloc H8.out (w8.heap.size) #[.bool lo.neg, S lo.l, .int .i64 lo.e] 28 (by simp)).bel)).mono ?_
  rintro x w9 ⟨rfl, hb⟩
  clear bx0 bx1 bx2 bxl
  have H9 : Hid (HeldL w [(w8.heap.size, #[.bool lo.neg, S lo.l, .int .i64 lo.e]), (w6.heap.size, #[.bool d.neg, S d.l, .int .i64 d.e]), (w4.heap.size, #[.bool r.neg, S r.l, .int .i64 r.e]), (w3.heap.size, #[.bool n, S (dgs L), .int .i64 e]), (w.heap.size, #[.bool n, .slice a len cap, .int .i64 e])] w9) := Lib.hid (HeldL.keep (HeldL.alloc H8.out (w8.heap.size) #[.bool lo.neg, S lo.l, .int .i64 lo.e] 28 (by simp)) hb)
  clear H8
  clear hb
  have bx0 : w9.cell? ⟨w3.heap.size, 0, none⟩ = some (.bool n) := (H9.out.f (List.Mem.tail _ (List.Mem.tail _ (List.Mem.tail _ (List.Mem.head _))))).cell 0
  have bx1 : w9.cell? ⟨w3.heap.size, 1, none⟩ = some (S (dgs L)) := (H9.out.f (List.Mem.tail _ (List.Mem.tail _ (List.Mem.tail _ (List.Mem.head _))))).cell 1
  have bx2 : w9.cell? ⟨w3.heap.size, 2, none⟩ = some (.int .i64 e) := (H9.out.f (List.Mem.tail _ (List.Mem.tail _ (List.Mem.tail _ (List.Mem.head _))))).cell 2
  have bxl : w3.heap.size < w9.heap.size := (H9.out.f (List.Mem.tail _ (List.Mem.tail _ (List.Mem.tail _ (List.Mem.head _))))).lt
  have br0 : w9.cell? ⟨w4.heap.size, 0, none⟩ = some (.bool r.neg) := (H9.out.f (List.Mem.tail _ (List.Mem.tail _ (List.Mem.head _)))).cell 0
  have br1 : w9.cell? ⟨w4.heap.size, 1, none⟩ = some (S r.l) := (H9.out.f (List.Mem.tail _ (List.Mem.tail _ (List.Mem.head _)))).cell 1
  have br2 : w9.cell? ⟨w4.heap.size, 2, none⟩ = some (.int .i64 r.e) := (H9.out.f (List.Mem.tail _ (List.Mem.tail _ (List.Mem.head _)))).cell 2
  have brl : w4.heap.size < w9.heap.size := (H9.out.f (List.Mem.tail _ (List.Mem.tail _ (List.Mem.head _)))).lt
  have bo0 : w9.cell? ⟨w8.heap.size, 0, none⟩ = some (.bool lo.neg) := (H9.out.f (List.Mem.head _)).cell 0
  have bo1 : w9.cell? ⟨w8.heap.size, 1, none⟩ = some (S lo.l) := (H9.out.f (List.Mem.head _)).cell 1
  have bo2 : w9.cell? ⟨w8.heap.size, 2, none⟩ = some (.int .i64 lo.e) := (H9.out.f (List.Mem.head _)).cell 2
  have bol : w8.heap.size < w9.heap.size := (H9.out.f (List.Mem.head _)).lt
  go_wp2_with fail
  have ALL2 : Hid (∀ w' : World, HeldL w [(w9.heap.size, #[.bool hi.neg, S hi.l, .int .i64 hi.e]), (w8.heap.size, #[.bool lo.neg, S lo.l, .int .i64 lo.e]), (w6.heap.size, #[.bool d.neg, S d.l, .int .i64 d.e]), (w4.heap.size, #[.bool r.neg, S r.l, .int .i64 r.e]), (w3.heap.size, #[.bool n, S (dgs L), .int .i64 e]), (w.heap.size, #[.bool n, .slice a len cap, .int .i64 e])] w' → w'.cell? ⟨w3.heap.size, 0, none⟩ = some (.bool n) ∧ w'.cell? ⟨w3.heap.size, 1, none⟩ = some (S (dgs L)) ∧ w'.cell? ⟨w3.heap.size, 2, none⟩ = some (.int .i64 e) ∧ w'.cell? ⟨w4.heap.size, 0, none⟩ = some (.bool r.neg) ∧ w'.cell? ⟨w4.heap.size, 1, none⟩ = some (S r.l) ∧ w'.cell? ⟨w4.heap.size, 2, none⟩ = some (.int .i64 r.e) ∧ w'.cell? ⟨w8.heap.size, 0, none⟩ = some (.bool lo.neg) ∧ w'.cell? ⟨w8.heap.size, 1, none⟩ = some (S lo.l) ∧ w'.cell? ⟨w8.heap.size, 2, none⟩ = some (.int .i64 lo.e) ∧ w'.cell? ⟨w9.heap.size, 0, none⟩ = some (.bool hi.neg) ∧ w'.cell? ⟨w9.heap.size, 1, none⟩ = some (S hi.l) ∧ w'.cell? ⟨w9.heap.size, 2, none⟩ = some (.int .i64 hi.e) ∧ HeldL w [(w9.heap.size, #[.bool hi.neg, S hi.l, .int .i64 hi.e]), (w8.heap.size, #[.bool lo.neg, S lo.l, .int .i64 lo.e]), (w6.heap.size, #[.bool d.neg, S d.l, .int .i64 d.e]), (w4.heap.size, #[.bool r.neg, S r.l, .int .i64 r.e]), (w3.heap.size, #[.bool n, S (dgs L), .int .i64 e]), (w.heap.size, #[.bool n, .slice a len cap, .int .i64 e])] w') := Lib.hid (fun w' h => ⟨(h.f (List.Mem.tail _ (List.Mem.tail _ (List.Mem.tail _ (List.Mem.tail _ (List.Mem.head _)))))).cell 0, (h.f (List.Mem.tail _ (List.Mem.tail _ (List.Mem.tail _ (List.Mem.tail _ (List.Mem.head _)))))).cell 1, (h.f (List.Mem.tail _ (List.Mem.tail _ (List.Mem.tail _ (List.Mem.tail _ (List.Mem.head _)))))).cell 2, (h.f (List.Mem.tail _ (List.Mem.tail _ (List.Mem.tail _ (List.Mem.head _))))).cell 0, (h.f (List.Mem.tail _ (List.Mem.tail _ (List.Mem.tail _ (List.Mem.head _))))).cell 1, (h.f (List.Mem.tail _ (List.Mem.tail _ (List.Mem.tail _ (List.Mem.head _))))).cell 2, (h.f (List.Mem.tail _ (List.Mem.head _))).cell 0, (h.f (List.Mem.tail _ (List.Mem.head _))).cell 1, (h.f (List.Mem.tail _ (List.Mem.head _))).cell 2, (h.f (List.Mem.head _)).cell 0, (h.f (List.Mem.head _)).cell 1, (h.f (List.Mem.head _)).cell 2, h⟩)
  have KEEP2 : Hid (∀ w' w'' : World, (w'.cell? ⟨w3.heap.size, 0, none⟩ = some (.bool n) ∧ w'.cell? ⟨w3.heap.size, 1, none⟩ = some (S (dgs L)) ∧ w'.cell? ⟨w3.heap.size, 2, none⟩ = some (.int .i64 e) ∧ w'.cell? ⟨w4.heap.size, 0, none⟩ = some (.bool r.neg) ∧ w'.cell? ⟨w4.heap.size, 1, none⟩ = some (S r.l) ∧ w'.cell? ⟨w4.heap.size, 2, none⟩ = some (.int .i64 r.e) ∧ w'.cell? ⟨w8.heap.size, 0, none⟩ = some (.bool lo.neg) ∧ w'.cell? ⟨w8.heap.size, 1, none⟩ = some (S lo.l) ∧ w'.cell? ⟨w8.heap.size, 2, none⟩ = some (.int .i64 lo.e) ∧ w'.cell? ⟨w9.heap.size, 0, none⟩ = some (.bool hi.neg) ∧ w'.cell? ⟨w9.heap.size, 1, none⟩ = some (S hi.l) ∧ w'.cell? ⟨w9.heap.size, 2, none⟩ = some (.int .i64 hi.e) ∧ HeldL w [(w9.heap.size, #[.bool hi.neg, S hi.l, .int .i64 hi.e]), (w8.heap.size, #[.bool lo.neg, S lo.l, .int .i64 lo.e]), (w6.heap.size, #[.bool d.neg, S d.l, .int .i64 d.e]), (w4.heap.size, #[.bool r.neg, S r.l, .int .i64 r.e]), (w3.heap.size, #[.bool n, S (dgs L), .int .i64 e]), (w.heap.size, #[.bool n, .slice a len cap, .int .i64 e])] w') → Below w'.heap.size w' w'' → (w''.cell? ⟨w3.heap.size, 0, none⟩ = some (.bool n) ∧ w''.cell? ⟨w3.heap.size, 1, none⟩ = some (S (dgs L)) ∧ w''.cell? ⟨w3.heap.size, 2, none⟩ = some (.int .i64 e) ∧ w''.cell? ⟨w4.heap.size, 0, none⟩ = some (.bool r.neg) ∧ w''.cell? ⟨w4.heap.size, 1, none⟩ = some (S r.l) ∧ w''.cell? ⟨w4.heap.size, 2, none⟩ = some (.int .i64 r.e) ∧ w''.cell? ⟨w8.heap.size, 0, none⟩ = some (.bool lo.neg) ∧ w''.cell? ⟨w8.heap.size, 1, none⟩ = some (S lo.l) ∧ w''.cell? ⟨w8.heap.size, 2, none⟩ = some (.int .i64 lo.e) ∧ w''.cell? ⟨w9.heap.size, 0, none⟩ = some (.bool hi.neg) ∧ w''.cell? ⟨w9.heap.size, 1, none⟩ = some (S hi.l) ∧ w''.cell? ⟨w9.heap.size, 2, none⟩ = some (.int .i64 hi.e) ∧ HeldL w [(w9.heap.size, #[.bool hi.neg, S hi.l, .int .i64 hi.e]), (w8.heap.size, #[.bool lo.neg, S lo.l, .int .i64 lo.e]), (w6.heap.size, #[.bool d.neg, S d.l, .int .i64 d.e]), (w4.heap.size, #[.bool r.neg, S r.l, .int .i64 r.e]), (w3.heap.size, #[.bool n, S (dgs L), .int .i64 e]), (w.heap.size, #[.bool n, .slice a len cap, .int .i64 e])] w'')) := Lib.hid (fun w' w'' h hb => ALL2.out _ (HeldL.keep (h.2.2.2.2.2.2.2.2.2.2.2.2) hb))
  have HS2 : Hid (HeldL w [(w9.heap.size, #[.bool hi.neg, S hi.l, .int .i64 hi.e]), (w8.heap.size, #[.bool lo.neg, S lo.l, .int .i64 lo.e]), (w6.heap.size, #[.bool d.neg, S d.l, .int .i64 d.e]), (w4.heap.size, #[.bool r.neg, S r.l, .int .i64 r.e]), (w3.heap.size, #[.bool n, S (dgs L), .int .i64 e]), (w.heap.size, #[.bool n, .slice a len cap, .int .i64 e])] _) := Lib.hid (HeldL.alloc H9.out (w9.heap.size) #[.bool hi.neg, S hi.l, .int .i64 hi.e] 28 (by simp))
  have TAB2 : Hid (∀ w' : World, (w'.cell? ⟨w3.heap.size, 0, none⟩ = some (.bool n) ∧ w'.cell? ⟨w3.heap.size, 1, none⟩ = some (S (dgs L)) ∧ w'.cell? ⟨w3.heap.size, 2, none⟩ = some (.int .i64 e) ∧ w'.cell? ⟨w4.heap.size, 0, none⟩ = some (.bool r.neg) ∧ w'.cell? ⟨w4.heap.size, 1, none⟩ = some (S r.l) ∧ w'.cell? ⟨w4.heap.size, 2, none⟩ = some (.int .i64 r.e) ∧ w'.cell? ⟨w8.heap.size, 0, none⟩ = some (.bool lo.neg) ∧ w'.cell? ⟨w8.heap.size, 1, none⟩ = some (S lo.l) ∧ w'.cell? ⟨w8.heap.size, 2, none⟩ = some (.int .i64 lo.e) ∧ w'.cell? ⟨w9.heap.size, 0, none⟩ = some (.bool hi.neg) ∧ w'.cell? ⟨w9.heap.size, 1, none⟩ = some (S hi.l) ∧ w'.cell? ⟨w9.heap.size, 2, none⟩ = some (.int .i64 hi.e) ∧ HeldL w [(w9.heap.size, #[.bool hi.neg, S hi.l, .int .i64 hi.e]), (w8.heap.size, #[.bool lo.neg, S lo.l, .int .i64 lo.e]), (w6.heap.size, #[.bool d.neg, S d.l, .int .i64 d.e]), (w4.heap.size, #[.bool r.neg, S r.l, .int .i64 r.e]), (w3.heap.size, #[.bool n, S (dgs L), .int .i64 e]), (w.heap.size, #[.bool n, .slice a len cap, .int .i64 e])] w') → Tab w') := Lib.hid (fun w' h => HT.out.below (h.2.2.2.2.2.2.2.2.2.2.2.2).bel)
  go_region_held3 (fun w' => w'.cell? ⟨w3.heap.size, 0, none⟩ = some (.bool n) ∧ w'.cell? ⟨w3.heap.size, 1, none⟩ = some (S (dgs L)) ∧ w'.cell? ⟨w3.heap.size, 2, none⟩ = some (.int .i64 e) ∧ w'.cell? ⟨w4.heap.size, 0, none⟩ = some (.bool r.neg) ∧ w'.cell? ⟨w4.heap.size, 1, none⟩ = some (S r.l) ∧ w'.cell? ⟨w4.heap.size, 2, none⟩ = some (.int .i64 r.e) ∧ w'.cell? ⟨w8.heap.size, 0, none⟩ = some (.bool lo.neg) ∧ w'.cell? ⟨w8.heap.size, 1, none⟩ = some (S lo.l) ∧ w'.cell? ⟨w8.heap.size, 2, none⟩ = some (.int .i64 lo.e) ∧ w'.cell? ⟨w9.heap.size, 0, none⟩ = some (.bool hi.neg) ∧ w'.cell? ⟨w9.heap.size, 1, none⟩ = some (S hi.l) ∧ w'.cell? ⟨w9.heap.size, 2, none⟩ = some (.int .i64 hi.e) ∧ HeldL w [(w9.heap.size, #[.bool hi.neg, S hi.l, .int .i64 hi.e]), (w8.heap.size, #[.bool lo.neg, S lo.l, .int .i64 lo.e]), (w6.heap.size, #[.bool d.neg, S d.l, .int .i64 d.e]), (w4.heap.size, #[.bool r.neg, S r.l, .int .i64 r.e]), (w3.heap.size, #[.bool n, S (dgs L), .int .i64 e]), (w.heap.size, #[.bool n, .slice a len cap, .int .i64 e])] w')
    (first | exact ALL2.out _ (HeldL.drew HS2.out) | exact KEEP2.out _ _ (by assumption) hb | assumption)
    (first | (go_at_call 18; (with_reducible refine (minus_T ⟨n, dgs L, e⟩ y _ LL HY.out).mono ?_); rintro x wF ⟨rfl, hb⟩) | (go_at_call 25; (with_reducible refine (turned_as M _ m0 m6).mono ?_); rintro x wz ⟨rfl, rfl⟩) | (go_at_call 15; (with_reducible refine (at_T y P (turn M) s _ yl HSA.out (by first | exact HT.out.below HS2.out.bel.drew | exact TAB2.out _ (by assumption))).mono ?_); rintro x wG ⟨rfl, hb⟩) | (go_at_call 18; (with_reducible refine (minus_T r s _ rl HSB.out).mono ?_); rintro x wH ⟨rfl, hb⟩) | (go_at_call 20; (with_reducible refine (cmp_T lo ⟨n, dgs L, e⟩ c3 _ lol LL HC3.out).mono ?_); rintro x wI ⟨rfl, hb⟩) | (go_at_call 20; (with_reducible refine (cmp_T ⟨n, dgs L, e⟩ hi c4 _ LL hil HC4.out).mono ?_); rintro x wJ ⟨rfl, hb⟩))
  have HH : HeldL w [(w9.heap.size, #[.bool hi.neg, S hi.l, .int .i64 hi.e]), (w8.heap.size, #[.bool lo.neg, S lo.l, .int .i64 lo.e]), (w6.heap.size, #[.bool d.neg, S d.l, .int .i64 d.e]), (w4.heap.size, #[.bool r.neg, S r.l, .int .i64 r.e]), (w3.heap.size, #[.bool n, S (dgs L), .int .i64 e]), (w.heap.size, #[.bool n, .slice a len cap, .int .i64 e])] wJ := (‹wJ.cell? ⟨w3.heap.size, 0, none⟩ = some (.bool n) ∧ wJ.cell? ⟨w3.heap.size, 1, none⟩ = some (S (dgs L)) ∧ wJ.cell? ⟨w3.heap.size, 2, none⟩ = some (.int .i64 e) ∧ wJ.cell? ⟨w4.heap.size, 0, none⟩ = some (.bool r.neg) ∧ wJ.cell? ⟨w4.heap.size, 1, none⟩ = some (S r.l) ∧ wJ.cell? ⟨w4.heap.size, 2, none⟩ = some (.int .i64 r.e) ∧ wJ.cell? ⟨w8.heap.size, 0, none⟩ = some (.bool lo.neg) ∧ wJ.cell? ⟨w8.heap.size, 1, none⟩ = some (S lo.l) ∧ wJ.cell? ⟨w8.heap.size, 2, none⟩ = some (.int .i64 lo.e) ∧ wJ.cell? ⟨w9.heap.size, 0, none⟩ = some (.bool hi.neg) ∧ wJ.cell? ⟨w9.heap.size, 1, none⟩ = some (S hi.l) ∧ wJ.cell? ⟨w9.heap.size, 2, none⟩ = some (.int .i64 hi.e) ∧ HeldL w [(w9.heap.size, #[.bool hi.neg, S hi.l, .int .i64 hi.e]), (w8.heap.size, #[.bool lo.neg, S lo.l, .int .i64 lo.e]), (w6.heap.size, #[.bool d.neg, S d.l, .int .i64 d.e]), (w4.heap.size, #[.bool r.neg, S r.l, .int .i64 r.e]), (w3.heap.size, #[.bool n, S (dgs L), .int .i64 e]), (w.heap.size, #[.bool n, .slice a len cap, .int .i64 e])] wJ›).2.2.2.2.2.2.2.2.2.2.2.2
  clear bx0 bx1 bx2 bxl br0 br1 br2 brl bo0 bo1 bo2 bol
  have H10 : Hid (HeldL w [(w9.heap.size, #[.bool hi.neg, S hi.l, .int .i64 hi.e]), (w8.heap.size, #[.bool lo.neg, S lo.l, .int .i64 lo.e]), (w6.heap.size, #[.bool d.neg, S d.l, .int .i64 d.e]), (w4.heap.size, #[.bool r.neg, S r.l, .int .i64 r.e]), (w3.heap.size, #[.bool n, S (dgs L), .int .i64 e]), (w.heap.size, #[.bool n, .slice a len cap, .int .i64 e])] wJ) := Lib.hid HH
  clear HH ALL2 KEEP2 HS2 TAB2 H9
  go_wp2
  go_ret
  exact ⟨rfl, H10.out.bel⟩

end Go.Proofs.YtfbfjkacaadbpaaDoor
