/- LawR4, LawR4hl, LawR4hh, LawR4nl, LawR4nh, LawR4w, in one text. -/
import Derived.Test.YtfbfjkacaadbpaaDoorRndP
namespace Go.Proofs.YtfbfjkacaadbpaaDoor
open Go.RowKit Florin
set_option linter.unusedVariables false
set_option linter.unusedSimpArgs false
attribute [local go_sem ↓] Go.wp_at_zero Go.wp_at_succ eq_V ne_V

set_option maxRecDepth 100000 in
set_option maxHeartbeats 1600000 in
theorem signs_no (n0 : Bool) (a0 : Option Addr) (len0 cap0 : Nat) (e0 : Int) (pl mo : Int) (w : World) (hc0 : len0 ≤ cap0) (hm0 : cap0 ≤ maxLen) (htab : Tab w) (h : ¬ ((len0 : Int) ≤ 40 ∧ -40 ≤ e0 ∧ e0 ≤ 40)) :
    Calls Tryd.prog 5 #[RV n0 a0 len0 cap0 e0, .int .i64 pl, .int .i64 mo] w fun x w' => x = .returned (.bool true) ∧ Below w.heap.size w w' := by
  have HT := Lib.hid htab
  have H := Lib.hid h
  clear htab h
  go_enter Tryd.func5, Tryd.ntmps5
  go_wp2_with fail
  with_reducible refine (head3 _ (HT.out.below (HeldL.alloc (HeldL.refl w) (w.heap.size) #[.bool n0, .slice a0 len0 cap0, .int .i64 e0] 24 (by simp)).bel)).mono ?_
  rintro x w1 ⟨rfl, hb⟩
  have H1 : Hid (HeldL w [(w.heap.size, #[.bool n0, .slice a0 len0 cap0, .int .i64 e0])] w1) := Lib.hid (HeldL.keep (HeldL.alloc (HeldL.refl w) (w.heap.size) #[.bool n0, .slice a0 len0 cap0, .int .i64 e0] 24 (by simp)) hb)
  clear hb
  have r0 : w1.cell? ⟨w.heap.size, 0, none⟩ = some (.bool n0) := (H1.out.f (List.Mem.head _)).cell 0
  have r1 : w1.cell? ⟨w.heap.size, 1, none⟩ = some (.slice a0 len0 cap0) := (H1.out.f (List.Mem.head _)).cell 1
  have r2 : w1.cell? ⟨w.heap.size, 2, none⟩ = some (.int .i64 e0) := (H1.out.f (List.Mem.head _)).cell 2
  have rl : w.heap.size < w1.heap.size := (H1.out.f (List.Mem.head _)).lt
  go_wp2_with fail
  with_reducible refine (few_no n0 a0 len0 cap0 e0 40 _ hc0 hm0 (by decide) (by decide) H.out).mono ?_
  rintro x w2 ⟨rfl, hb⟩
  clear r0 r1 r2 rl
  have H2 : Hid (HeldL w [(w.heap.size, #[.bool n0, .slice a0 len0 cap0, .int .i64 e0])] w2) := Lib.hid (HeldL.keep H1.out hb)
  clear H1
  clear hb
  go_wp2
  go_ret
  exact ⟨rfl, H2.out.bel⟩
end Go.Proofs.YtfbfjkacaadbpaaDoor

namespace Go.Proofs.YtfbfjkacaadbpaaDoor
open Go.RowKit Florin
set_option linter.unusedVariables false
set_option linter.unusedSimpArgs false
attribute [local go_sem ↓] Go.wp_at_zero Go.wp_at_succ eq_V ne_V

set_option maxRecDepth 100000 in
set_option maxHeartbeats 6400000 in
theorem signs_hl (n : Bool) (a : Option Addr) (len cap : Nat) (L : List UInt8) (e : Int) (pl mo : Int) (w : World) (hin : InB w a len cap L) (htab : Tab w) (h1 : len ≤ 40) (h2 : -40 ≤ e) (h3 : e ≤ 40)
    (P M : Int) (hP : wrap64 (pl.tmod 60 - wrap64 ((pl.tmod 60).tdiv 2)) = P) (m0 : 0 ≤ M) (m6 : M ≤ 6) (hM : ∀ w : World, Calls Tryd.prog 19 #[.int .i64 mo] w fun x w' => x = .returned (.int .i64 M) ∧ w = w')
    (r df d t u lo hi y s : Tri) (hr : mulT (made n (dgs L) e) 1 (hld P) M = r) (hdf : SubIs ⟨n, dgs L, e⟩ r df) (hd : made false df.l df.e = d) (hu : made false [49] P = u) (c1 c2 : Int) (hc2 : CmpIs d u c2) (c2n : c2 < 0)
    (hlo : mulT (made n (dgs L) e) 1 (hld P) 6 = lo) (hhi : mulT (made n (dgs L) e) 1 (hld P) 5 = hi) (hy : made (!n) (dgs L) e = y) (hs : mulT (made y.neg y.l y.e) 1 (hld P) (turn M) = s) (hs2 : made (!r.neg) r.l r.e = s) (c3 c4 : Int) (hc3 : CmpIs lo ⟨n, dgs L, e⟩ c3) (c3n : c3 ≤ 0) (hc4 : CmpIs ⟨n, dgs L, e⟩ hi c4) (c4n : c4 ≤ 0)
    (rl : r.l.length ≤ 100000) (dfl : df.l.length ≤ 100000) (ddl : d.l.length ≤ 100000) (ul : u.l.length ≤ 100000) (lol : lo.l.length ≤ 100000) (hil : hi.l.length ≤ 100000) (yl : y.l.length ≤ 100000) (m2 : M ≤ 2) (htw : AddIs d d t) (tl : t.l.length ≤ 100000) (hc1 : CmpIs t u c1) (c1n : c1 ≤ 0) (elo : r = lo) :
    Calls Tryd.prog 5 #[RV n a len cap e, .int .i64 pl, .int .i64 mo] w fun x w' => x = .returned (.bool true) ∧ Below w.heap.size w w' := by
  have LL : (dgs L).length ≤ 100000 := by rw [dgs_length, hin.1]; omega
  have hcA := hin.2.1
  have hmA := hin.2.2.1
  have HP := Lib.hid hP
  have HMO := Lib.hid hM
  have HR := Lib.hid hr
  have HDF := Lib.hid hdf
  have HD := Lib.hid hd
  have HU := Lib.hid hu
  have HC2 := Lib.hid hc2
  have HLO := Lib.hid hlo
  have HHI := Lib.hid hhi
  have HY := Lib.hid hy
  have HSA := Lib.hid hs
  have HSB := Lib.hid hs2
  have HC3 := Lib.hid hc3
  have HC4 := Lib.hid hc4
  have HT := Lib.hid htab
  have HIN := Lib.hid hin
  have HTW := Lib.hid htw
  have HC1 := Lib.hid hc1
  clear hP hM hr hdf hd hu hc2 hlo hhi hy hs hs2 hc3 hc4 htab hin htw hc1
  have cb2 : decide (0 ≤ c2) = false := by simp; omega
  have cb3 : decide (c3 ≤ 0) = true := by simp; omega
  have cb4 : decide (c4 ≤ 0) = true := by simp; omega
  have mb : decide (M ≤ 2) = true := by simp; omega
  have cb1 : decide (0 < c1) = false := by simp; omega
  have eb : decide (r = lo) = true := by simp [elo]
  clear elo
  go_enter Tryd.func5, Tryd.ntmps5
  go_wp2_with fail
  with_reducible refine (head3 _ (HT.out.below (HeldL.alloc (HeldL.refl w) (w.heap.size) #[.bool n, .slice a len cap, .int .i64 e] 24 (by simp)).bel)).mono ?_
  rintro x w1 ⟨rfl, hb⟩
  have H1 : Hid (HeldL w [(w.heap.size, #[.bool n, .slice a len cap, .int .i64 e])] w1) := Lib.hid (HeldL.keep (HeldL.alloc (HeldL.refl w) (w.heap.size) #[.bool n, .slice a len cap, .int .i64 e] 24 (by simp)) hb)
  clear hb
  have q0 : w1.cell? ⟨w.heap.size, 0, none⟩ = some (.bool n) := (H1.out.f (List.Mem.head _)).cell 0
  have q1 : w1.cell? ⟨w.heap.size, 1, none⟩ = some (.slice a len cap) := (H1.out.f (List.Mem.head _)).cell 1
  have q2 : w1.cell? ⟨w.heap.size, 2, none⟩ = some (.int .i64 e) := (H1.out.f (List.Mem.head _)).cell 2
  have ql : w.heap.size < w1.heap.size := (H1.out.f (List.Mem.head _)).lt
  go_wp2_with fail
  with_reducible refine (few_yes n a len cap e 40 _ hcA hmA (by decide) (by decide) (by omega) h2 h3).mono ?_
  rintro x w2 ⟨rfl, hb⟩
  clear q0 q1 q2 ql
  have H2 : Hid (HeldL w [(w.heap.size, #[.bool n, .slice a len cap, .int .i64 e])] w2) := Lib.hid (HeldL.keep H1.out hb)
  clear H1
  clear hb
  have q0 : w2.cell? ⟨w.heap.size, 0, none⟩ = some (.bool n) := (H2.out.f (List.Mem.head _)).cell 0
  have q1 : w2.cell? ⟨w.heap.size, 1, none⟩ = some (.slice a len cap) := (H2.out.f (List.Mem.head _)).cell 1
  have q2 : w2.cell? ⟨w.heap.size, 2, none⟩ = some (.int .i64 e) := (H2.out.f (List.Mem.head _)).cell 2
  have ql : w.heap.size < w2.heap.size := (H2.out.f (List.Mem.head _)).lt
  go_wp2_with fail
  rw [HP.out]
  with_reducible refine (HMO.out _).mono ?_
  rintro x wz ⟨rfl, rfl⟩
  go_wp2_with fail
  with_reducible refine (make_as n a len cap L e _ (HIN.out.below H2.out.bel) (by omega)).mono ?_
  rintro x w3 ⟨rfl, hb⟩
  clear q0 q1 q2 ql
  have H3 : Hid (HeldL w [(w.heap.size, #[.bool n, .slice a len cap, .int .i64 e])] w3) := Lib.hid (HeldL.keep H2.out hb)
  clear H2
  clear hb
  go_wp2_with fail
  with_reducible refine (at_T ⟨n, dgs L, e⟩ P M r _ LL HR.out (HT.out.below (HeldL.alloc H3.out (w3.heap.size) #[.bool n, S (dgs L), .int .i64 e] 28 (by simp)).bel)).mono ?_
  rintro x w4 ⟨rfl, hb⟩
  have H4 : Hid (HeldL w [(w3.heap.size, #[.bool n, S (dgs L), .int .i64 e]), (w.heap.size, #[.bool n, .slice a len cap, .int .i64 e])] w4) := Lib.hid (HeldL.keep (HeldL.alloc H3.out (w3.heap.size) #[.bool n, S (dgs L), .int .i64 e] 28 (by simp)) hb)
  clear H3
  clear hb
  have bx0 : w4.cell? ⟨w3.heap.size, 0, none⟩ = some (.bool n) := (H4.out.f (List.Mem.head _)).cell 0
  have bx1 : w4.cell? ⟨w3.heap.size, 1, none⟩ = some (S (dgs L)) := (H4.out.f (List.Mem.head _)).cell 1
  have bx2 : w4.cell? ⟨w3.heap.size, 2, none⟩ = some (.int .i64 e) := (H4.out.f (List.Mem.head _)).cell 2
  have bxl : w3.heap.size < w4.heap.size := (H4.out.f (List.Mem.head _)).lt
  go_wp2_with fail
  with_reducible refine (sub_T ⟨n, dgs L, e⟩ r df _ LL rl HDF.out).mono ?_
  rintro x w5 ⟨rfl, hb⟩
  clear bx0 bx1 bx2 bxl
  have H5 : Hid (HeldL w [(w4.heap.size, #[.bool r.neg, S r.l, .int .i64 r.e]), (w3.heap.size, #[.bool n, S (dgs L), .int .i64 e]), (w.heap.size, #[.bool n, .slice a len cap, .int .i64 e])] w5) := Lib.hid (HeldL.keep (HeldL.alloc H4.out (w4.heap.size) #[.bool r.neg, S r.l, .int .i64 r.e] 28 (by simp)) hb)
  clear H4
  clear hb
  go_wp2_with fail
  with_reducible refine (abs_T df d _ dfl HD.out).mono ?_
  rintro x w6 ⟨rfl, hb⟩
  have H6 : Hid (HeldL w [(w4.heap.size, #[.bool r.neg, S r.l, .int .i64 r.e]), (w3.heap.size, #[.bool n, S (dgs L), .int .i64 e]), (w.heap.size, #[.bool n, .slice a len cap, .int .i64 e])] w6) := Lib.hid (HeldL.keep H5.out hb)
  clear H5
  clear hb
  have bx0 : w6.cell? ⟨w3.heap.size, 0, none⟩ = some (.bool n) := (H6.out.f (List.Mem.tail _ (List.Mem.head _))).cell 0
  have bx1 : w6.cell? ⟨w3.heap.size, 1, none⟩ = some (S (dgs L)) := (H6.out.f (List.Mem.tail _ (List.Mem.head _))).cell 1
  have bx2 : w6.cell? ⟨w3.heap.size, 2, none⟩ = some (.int .i64 e) := (H6.out.f (List.Mem.tail _ (List.Mem.head _))).cell 2
  have bxl : w3.heap.size < w6.heap.size := (H6.out.f (List.Mem.tail _ (List.Mem.head _))).lt
  have br0 : w6.cell? ⟨w4.heap.size, 0, none⟩ = some (.bool r.neg) := (H6.out.f (List.Mem.head _)).cell 0
  have br1 : w6.cell? ⟨w4.heap.size, 1, none⟩ = some (S r.l) := (H6.out.f (List.Mem.head _)).cell 1
  have br2 : w6.cell? ⟨w4.heap.size, 2, none⟩ = some (.int .i64 r.e) := (H6.out.f (List.Mem.head _)).cell 2
  have brl : w4.heap.size < w6.heap.size := (H6.out.f (List.Mem.head _)).lt
  go_wp2_with fail
  have ALL1 : Hid (∀ w' : World, HeldL w [(w6.heap.size, #[.bool d.neg, S d.l, .int .i64 d.e]), (w4.heap.size, #[.bool r.neg, S r.l, .int .i64 r.e]), (w3.heap.size, #[.bool n, S (dgs L), .int .i64 e]), (w.heap.size, #[.bool n, .slice a len cap, .int .i64 e])] w' → w'.cell? ⟨w6.heap.size, 0, none⟩ = some (.bool d.neg) ∧ w'.cell? ⟨w6.heap.size, 1, none⟩ = some (S d.l) ∧ w'.cell? ⟨w6.heap.size, 2, none⟩ = some (.int .i64 d.e) ∧ HeldL w [(w6.heap.size, #[.bool d.neg, S d.l, .int .i64 d.e]), (w4.heap.size, #[.bool r.neg, S r.l, .int .i64 r.e]), (w3.heap.size, #[.bool n, S (dgs L), .int .i64 e]), (w.heap.size, #[.bool n, .slice a len cap, .int .i64 e])] w') := Lib.hid (fun w' h => ⟨(h.f (List.Mem.head _)).cell 0, (h.f (List.Mem.head _)).cell 1, (h.f (List.Mem.head _)).cell 2, h⟩)
  have KEEP1 : Hid (∀ w' w'' : World, (w'.cell? ⟨w6.heap.size, 0, none⟩ = some (.bool d.neg) ∧ w'.cell? ⟨w6.heap.size, 1, none⟩ = some (S d.l) ∧ w'.cell? ⟨w6.heap.size, 2, none⟩ = some (.int .i64 d.e) ∧ HeldL w [(w6.heap.size, #[.bool d.neg, S d.l, .int .i64 d.e]), (w4.heap.size, #[.bool r.neg, S r.l, .int .i64 r.e]), (w3.heap.size, #[.bool n, S (dgs L), .int .i64 e]), (w.heap.size, #[.bool n, .slice a len cap, .int .i64 e])] w') → Below w'.heap.size w' w'' → (w''.cell? ⟨w6.heap.size, 0, none⟩ = some (.bool d.neg) ∧ w''.cell? ⟨w6.heap.size, 1, none⟩ = some (S d.l) ∧ w''.cell? ⟨w6.heap.size, 2, none⟩ = some (.int .i64 d.e) ∧ HeldL w [(w6.heap.size, #[.bool d.neg, S d.l, .int .i64 d.e]), (w4.heap.size, #[.bool r.neg, S r.l, .int .i64 r.e]), (w3.heap.size, #[.bool n, S (dgs L), .int .i64 e]), (w.heap.size, #[.bool n, .slice a len cap, .int .i64 e])] w'')) := Lib.hid (fun w' w'' h hb => ALL1.out _ (HeldL.keep (h.2.2.2) hb))
  have HS1 : Hid (HeldL w [(w6.heap.size, #[.bool d.neg, S d.l, .int .i64 d.e]), (w4.heap.size, #[.bool r.neg, S r.l, .int .i64 r.e]), (w3.heap.size, #[.bool n, S (dgs L), .int .i64 e]), (w.heap.size, #[.bool n, .slice a len cap, .int .i64 e])] _) := Lib.hid (HeldL.alloc H6.out (w6.heap.size) #[.bool d.neg, S d.l, .int .i64 d.e] 28 (by simp))
  go_region_held3 (fun w' => w'.cell? ⟨w6.heap.size, 0, none⟩ = some (.bool d.neg) ∧ w'.cell? ⟨w6.heap.size, 1, none⟩ = some (S d.l) ∧ w'.cell? ⟨w6.heap.size, 2, none⟩ = some (.int .i64 d.e) ∧ HeldL w [(w6.heap.size, #[.bool d.neg, S d.l, .int .i64 d.e]), (w4.heap.size, #[.bool r.neg, S r.l, .int .i64 r.e]), (w3.heap.size, #[.bool n, S (dgs L), .int .i64 e]), (w.heap.size, #[.bool n, .slice a len cap, .int .i64 e])] w')
    (first | exact ALL1.out _ (HeldL.drew HS1.out) | exact KEEP1.out _ _ (by assumption) hb | assumption)
    (first | (go_at_call 23; (with_reducible refine (twice_as d t _ ddl HTW.out).mono ?_); rintro x wA ⟨rfl, hb⟩) | (go_at_call 24; (with_reducible refine (unit_as P _ u HU.out).mono ?_); rintro x wB ⟨rfl, hb⟩) | (go_at_call 20; (with_reducible refine (cmp_T t u c1 _ tl ul HC1.out).mono ?_); rintro x wC ⟨rfl, hb⟩) | (go_at_call 24; (with_reducible refine (unit_as P _ u HU.out).mono ?_); rintro x wD ⟨rfl, hb⟩) | (go_at_call 20; (with_reducible refine (cmp_T d u c2 _ ddl ul HC2.out).mono ?_); rintro x wE ⟨rfl, hb⟩))
  have HH : HeldL w [(w6.heap.size, #[.bool d.neg, S d.l, .int .i64 d.e]), (w4.heap.size, #[.bool r.neg, S r.l, .int .i64 r.e]), (w3.heap.size, #[.bool n, S (dgs L), .int .i64 e]), (w.heap.size, #[.bool n, .slice a len cap, .int .i64 e])] wE := (‹wE.cell? ⟨w6.heap.size, 0, none⟩ = some (.bool d.neg) ∧ wE.cell? ⟨w6.heap.size, 1, none⟩ = some (S d.l) ∧ wE.cell? ⟨w6.heap.size, 2, none⟩ = some (.int .i64 d.e) ∧ HeldL w [(w6.heap.size, #[.bool d.neg, S d.l, .int .i64 d.e]), (w4.heap.size, #[.bool r.neg, S r.l, .int .i64 r.e]), (w3.heap.size, #[.bool n, S (dgs L), .int .i64 e]), (w.heap.size, #[.bool n, .slice a len cap, .int .i64 e])] wE›).2.2.2
  clear bx0 bx1 bx2 bxl br0 br1 br2 brl
  have H7 : Hid (HeldL w [(w6.heap.size, #[.bool d.neg, S d.l, .int .i64 d.e]), (w4.heap.size, #[.bool r.neg, S r.l, .int .i64 r.e]), (w3.heap.size, #[.bool n, S (dgs L), .int .i64 e]), (w.heap.size, #[.bool n, .slice a len cap, .int .i64 e])] wE) := Lib.hid HH
  clear HH ALL1 KEEP1 HS1 H6
  have bx0 : wE.cell? ⟨w3.heap.size, 0, none⟩ = some (.bool n) := (H7.out.f (List.Mem.tail _ (List.Mem.tail _ (List.Mem.head _)))).cell 0
  have bx1 : wE.cell? ⟨w3.heap.size, 1, none⟩ = some (S (dgs L)) := (H7.out.f (List.Mem.tail _ (List.Mem.tail _ (List.Mem.head _)))).cell 1
  have bx2 : wE.cell? ⟨w3.heap.size, 2, none⟩ = some (.int .i64 e) := (H7.out.f (List.Mem.tail _ (List.Mem.tail _ (List.Mem.head _)))).cell 2
  have bxl : w3.heap.size < wE.heap.size := (H7.out.f (List.Mem.tail _ (List.Mem.tail _ (List.Mem.head _)))).lt
  go_wp2_with fail
  with_reducible refine (at_T ⟨n, dgs L, e⟩ P 6 lo _ LL HLO.out (HT.out.below H7.out.bel)).mono ?_
  rintro x w8 ⟨rfl, hb⟩
  clear bx0 bx1 bx2 bxl
  have H8 : Hid (HeldL w [(w6.heap.size, #[.bool d.neg, S d.l, .int .i64 d.e]), (w4.heap.size, #[.bool r.neg, S r.l, .int .i64 r.e]), (w3.heap.size, #[.bool n, S (dgs L), .int .i64 e]), (w.heap.size, #[.bool n, .slice a len cap, .int .i64 e])] w8) := Lib.hid (HeldL.keep H7.out hb)
  clear H7
  clear hb
  have bx0 : w8.cell? ⟨w3.heap.size, 0, none⟩ = some (.bool n) := (H8.out.f (List.Mem.tail _ (List.Mem.tail _ (List.Mem.head _)))).cell 0
  have bx1 : w8.cell? ⟨w3.heap.size, 1, none⟩ = some (S (dgs L)) := (H8.out.f (List.Mem.tail _ (List.Mem.tail _ (List.Mem.head _)))).cell 1
  have bx2 : w8.cell? ⟨w3.heap.size, 2, none⟩ = some (.int .i64 e) := (H8.out.f (List.Mem.tail _ (List.Mem.tail _ (List.Mem.head _)))).cell 2
  have bxl : w3.heap.size < w8.heap.size := (H8.out.f (List.Mem.tail _ (List.Mem.tail _ (List.Mem.head _)))).lt
  go_wp2_with fail
  with_reducible refine (at_T ⟨n, dgs L, e⟩ P 5 hi _ LL HHI.out (HT.out.below (HeldL.alloc H8.out (w8.heap.size) #[.bool lo.neg, S lo.l, .int .i64 lo.e] 28 (by simp)).bel)).mono ?_
  rintro x w9 ⟨rfl, hb⟩
  clear bx0 bx1 bx2 bxl
  have H9 : Hid (HeldL w [(w8.heap.size, #[.bool lo.neg, S lo.l, .int .i64 lo.e]), (w6.heap.size, #[.bool d.neg, S d.l, .int .i64 d.e]), (w4.heap.size, #[.bool r.neg, S r.l, .int .i64 r.e]), (w3.heap.size, #[.bool n, S (dgs L), .int .i64 e]), (w.heap.size, #[.bool n, .slice a len cap, .int .i64 e])] w9) := Lib.hid (HeldL.keep (HeldL.alloc H8.out (w8.heap.size) #[.bool lo.neg, S lo.l, .int .i64 lo.e] 28 (by simp)) hb)
  clear H8
  clear hb
  have bx0 : w9.cell? ⟨w3.heap.size, 0, none⟩ = some (.bool n) := (H9.out.f (List.Mem.tail _ (List.Mem.tail _ (List.Mem.tail _ (List.Mem.head _))))).cell 0
  have bx1 : w9.cell? ⟨w3.heap.size, 1, none⟩ = some (S (dgs L)) := (H9.out.f (List.Mem.tail _ (List.Mem.tail _ (List.Mem.tail _ (List.Mem.head _))))).cell 1
  have bx2 : w9.cell? ⟨w3.heap.size, 2, none⟩ = some (.int .i64 e) := (H9.out.f (List.Mem.tail _ (List.Mem.tail _ (List.Mem.tail _ (List.Mem.head _))))).cell 2
  have bxl : w3.heap.size < w9.heap.size := (H9.out.f (List.Mem.tail _ (List.Mem.tail _ (List.Mem.tail _ (List.Mem.head _))))).lt
  have br0 : w9.cell? ⟨w4.heap.size, 0, none⟩ = some (.bool r.neg) := (H9.out.f (List.Mem.tail _ (List.Mem.tail _ (List.Mem.head _)))).cell 0
  have br1 : w9.cell? ⟨w4.heap.size, 1, none⟩ = some (S r.l) := (H9.out.f (List.Mem.tail _ (List.Mem.tail _ (List.Mem.head _)))).cell 1
  have br2 : w9.cell? ⟨w4.heap.size, 2, none⟩ = some (.int .i64 r.e) := (H9.out.f (List.Mem.tail _ (List.Mem.tail _ (List.Mem.head _)))).cell 2
  have brl : w4.heap.size < w9.heap.size := (H9.out.f (List.Mem.tail _ (List.Mem.tail _ (List.Mem.head _)))).lt
  have bo0 : w9.cell? ⟨w8.heap.size, 0, none⟩ = some (.bool lo.neg) := (H9.out.f (List.Mem.head _)).cell 0
  have bo1 : w9.cell? ⟨w8.heap.size, 1, none⟩ = some (S lo.l) := (H9.out.f (List.Mem.head _)).cell 1
  have bo2 : w9.cell? ⟨w8.heap.size, 2, none⟩ = some (.int .i64 lo.e) := (H9.out.f (List.Mem.head _)).cell 2
  have bol : w8.heap.size < w9.heap.size := (H9.out.f (List.Mem.head _)).lt
  go_wp2_with fail
  have ALL2 : Hid (∀ w' : World, HeldL w [(w9.heap.size, #[.bool hi.neg, S hi.l, .int .i64 hi.e]), (w8.heap.size, #[.bool lo.neg, S lo.l, .int .i64 lo.e]), (w6.heap.size, #[.bool d.neg, S d.l, .int .i64 d.e]), (w4.heap.size, #[.bool r.neg, S r.l, .int .i64 r.e]), (w3.heap.size, #[.bool n, S (dgs L), .int .i64 e]), (w.heap.size, #[.bool n, .slice a len cap, .int .i64 e])] w' → w'.cell? ⟨w3.heap.size, 0, none⟩ = some (.bool n) ∧ w'.cell? ⟨w3.heap.size, 1, none⟩ = some (S (dgs L)) ∧ w'.cell? ⟨w3.heap.size, 2, none⟩ = some (.int .i64 e) ∧ w'.cell? ⟨w4.heap.size, 0, none⟩ = some (.bool r.neg) ∧ w'.cell? ⟨w4.heap.size, 1, none⟩ = some (S r.l) ∧ w'.cell? ⟨w4.heap.size, 2, none⟩ = some (.int .i64 r.e) ∧ w'.cell? ⟨w8.heap.size, 0, none⟩ = some (.bool lo.neg) ∧ w'.cell? ⟨w8.heap.size, 1, none⟩ = some (S lo.l) ∧ w'.cell? ⟨w8.heap.size, 2, none⟩ = some (.int .i64 lo.e) ∧ w'.cell? ⟨w9.heap.size, 0, none⟩ = some (.bool hi.neg) ∧ w'.cell? ⟨w9.heap.size, 1, none⟩ = some (S hi.l) ∧ w'.cell? ⟨w9.heap.size, 2, none⟩ = some (.int .i64 hi.e) ∧ HeldL w [(w9.heap.size, #[.bool hi.neg, S hi.l, .int .i64 hi.e]), (w8.heap.size, #[.bool lo.neg, S lo.l, .int .i64 lo.e]), (w6.heap.size, #[.bool d.neg, S d.l, .int .i64 d.e]), (w4.heap.size, #[.bool r.neg, S r.l, .int .i64 r.e]), (w3.heap.size, #[.bool n, S (dgs L), .int .i64 e]), (w.heap.size, #[.bool n, .slice a len cap, .int .i64 e])] w') := Lib.hid (fun w' h => ⟨(h.f (List.Mem.tail _ (List.Mem.tail _ (List.Mem.tail _ (List.Mem.tail _ (List.Mem.head _)))))).cell 0, (h.f (List.Mem.tail _ (List.Mem.tail _ (List.Mem.tail _ (List.Mem.tail _ (List.Mem.head _)))))).cell 1, (h.f (List.Mem.tail _ (List.Mem.tail _ (List.Mem.tail _ (List.Mem.tail _ (List.Mem.head _)))))).cell 2, (h.f (List.Mem.tail _ (List.Mem.tail _ (List.Mem.tail _ (List.Mem.head _))))).cell 0, (h.f (List.Mem.tail _ (List.Mem.tail _ (List.Mem.tail _ (List.Mem.head _))))).cell 1, (h.f (List.Mem.tail _ (List.Mem.tail _ (List.Mem.tail _ (List.Mem.head _))))).cell 2, (h.f (List.Mem.tail _ (List.Mem.head _))).cell 0, (h.f (List.Mem.tail _ (List.Mem.head _))).cell 1, (h.f (List.Mem.tail _ (List.Mem.head _))).cell 2, (h.f (List.Mem.head _)).cell 0, (h.f (List.Mem.head _)).cell 1, (h.f (List.Mem.head _)).cell 2, h⟩)
  have KEEP2 : Hid (∀ w' w'' : World, (w'.cell? ⟨w3.heap.size, 0, none⟩ = some (.bool n) ∧ w'.cell? ⟨w3.heap.size, 1, none⟩ = some (S (dgs L)) ∧ w'.cell? ⟨w3.heap.size, 2, none⟩ = some (.int .i64 e) ∧ w'.cell? ⟨w4.heap.size, 0, none⟩ = some (.bool r.neg) ∧ w'.cell? ⟨w4.heap.size, 1, none⟩ = some (S r.l) ∧ w'.cell? ⟨w4.heap.size, 2, none⟩ = some (.int .i64 r.e) ∧ w'.cell? ⟨w8.heap.size, 0, none⟩ = some (.bool lo.neg) ∧ w'.cell? ⟨w8.heap.size, 1, none⟩ = some (S lo.l) ∧ w'.cell? ⟨w8.heap.size, 2, none⟩ = some (.int .i64 lo.e) ∧ w'.cell? ⟨w9.heap.size, 0, none⟩ = some (.bool hi.neg) ∧ w'.cell? ⟨w9.heap.size, 1, none⟩ = some (S hi.l) ∧ w'.cell? ⟨w9.heap.size, 2, none⟩ = some (.int .i64 hi.e) ∧ HeldL w [(w9.heap.size, #[.bool hi.neg, S hi.l, .int .i64 hi.e]), (w8.heap.size, #[.bool lo.neg, S lo.l, .int .i64 lo.e]), (w6.heap.size, #[.bool d.neg, S d.l, .int .i64 d.e]), (w4.heap.size, #[.bool r.neg, S r.l, .int .i64 r.e]), (w3.heap.size, #[.bool n, S (dgs L), .int .i64 e]), (w.heap.size, #[.bool n, .slice a len cap, .int .i64 e])] w') → Below w'.heap.size w' w'' → (w''.cell? ⟨w3.heap.size, 0, none⟩ = some (.bool n) ∧ w''.cell? ⟨w3.heap.size, 1, none⟩ = some (S (dgs L)) ∧ w''.cell? ⟨w3.heap.size, 2, none⟩ = some (.int .i64 e) ∧ w''.cell? ⟨w4.heap.size, 0, none⟩ = some (.bool r.neg) ∧ w''.cell? ⟨w4.heap.size, 1, none⟩ = some (S r.l) ∧ w''.cell? ⟨w4.heap.size, 2, none⟩ = some (.int .i64 r.e) ∧ w''.cell? ⟨w8.heap.size, 0, none⟩ = some (.bool lo.neg) ∧ w''.cell? ⟨w8.heap.size, 1, none⟩ = some (S lo.l) ∧ w''.cell? ⟨w8.heap.size, 2, none⟩ = some (.int .i64 lo.e) ∧ w''.cell? ⟨w9.heap.size, 0, none⟩ = some (.bool hi.neg) ∧ w''.cell? ⟨w9.heap.size, 1, none⟩ = some (S hi.l) ∧ w''.cell? ⟨w9.heap.size, 2, none⟩ = some (.int .i64 hi.e) ∧ HeldL w [(w9.heap.size, #[.bool hi.neg, S hi.l, .int .i64 hi.e]), (w8.heap.size, #[.bool lo.neg, S lo.l, .int .i64 lo.e]), (w6.heap.size, #[.bool d.neg, S d.l, .int .i64 d.e]), (w4.heap.size, #[.bool r.neg, S r.l, .int .i64 r.e]), (w3.heap.size, #[.bool n, S (dgs L), .int .i64 e]), (w.heap.size, #[.bool n, .slice a len cap, .int .i64 e])] w'')) := Lib.hid (fun w' w'' h hb => ALL2.out _ (HeldL.keep (h.2.2.2.2.2.2.2.2.2.2.2.2) hb))
  have HS2 : Hid (HeldL w [(w9.heap.size, #[.bool hi.neg, S hi.l, .int .i64 hi.e]), (w8.heap.size, #[.bool lo.neg, S lo.l, .int .i64 lo.e]), (w6.heap.size, #[.bool d.neg, S d.l, .int .i64 d.e]), (w4.heap.size, #[.bool r.neg, S r.l, .int .i64 r.e]), (w3.heap.size, #[.bool n, S (dgs L), .int .i64 e]), (w.heap.size, #[.bool n, .slice a len cap, .int .i64 e])] _) := Lib.hid (HeldL.alloc H9.out (w9.heap.size) #[.bool hi.neg, S hi.l, .int .i64 hi.e] 28 (by simp))
  have TAB2 : Hid (∀ w' : World, (w'.cell? ⟨w3.heap.size, 0, none⟩ = some (.bool n) ∧ w'.cell? ⟨w3.heap.size, 1, none⟩ = some (S (dgs L)) ∧ w'.cell? ⟨w3.heap.size, 2, none⟩ = some (.int .i64 e) ∧ w'.cell? ⟨w4.heap.size, 0, none⟩ = some (.bool r.neg) ∧ w'.cell? ⟨w4.heap.size, 1, none⟩ = some (S r.l) ∧ w'.cell? ⟨w4.heap.size, 2, none⟩ = some (.int .i64 r.e) ∧ w'.cell? ⟨w8.heap.size, 0, none⟩ = some (.bool lo.neg) ∧ w'.cell? ⟨w8.heap.size, 1, none⟩ = some (S lo.l) ∧ w'.cell? ⟨w8.heap.size, 2, none⟩ = some (.int .i64 lo.e) ∧ w'.cell? ⟨w9.heap.size, 0, none⟩ = some (.bool hi.neg) ∧ w'.cell? ⟨w9.heap.size, 1, none⟩ = some (S hi.l) ∧ w'.cell? ⟨w9.heap.size, 2, none⟩ = some (.int .i64 hi.e) ∧ HeldL w [(w9.heap.size, #[.bool hi.neg, S hi.l, .int .i64 hi.e]), (w8.heap.size, #[.bool lo.neg, S lo.l, .int .i64 lo.e]), (w6.heap.size, #[.bool d.neg, S d.l, .int .i64 d.e]), (w4.heap.size, #[.bool r.neg, S r.l, .int .i64 r.e]), (w3.heap.size, #[.bool n, S (dgs L), .int .i64 e]), (w.heap.size, #[.bool n, .slice a len cap, .int .i64 e])] w') → Tab w') := Lib.hid (fun w' h => HT.out.below (h.2.2.2.2.2.2.2.2.2.2.2.2).bel)
  refine wp_region_held_drew (S := fun w' => w'.cell? ⟨w3.heap.size, 0, none⟩ = some (.bool n) ∧ w'.cell? ⟨w3.heap.size, 1, none⟩ = some (S (dgs L)) ∧ w'.cell? ⟨w3.heap.size, 2, none⟩ = some (.int .i64 e) ∧ w'.cell? ⟨w4.heap.size, 0, none⟩ = some (.bool r.neg) ∧ w'.cell? ⟨w4.heap.size, 1, none⟩ = some (S r.l) ∧ w'.cell? ⟨w4.heap.size, 2, none⟩ = some (.int .i64 r.e) ∧ w'.cell? ⟨w8.heap.size, 0, none⟩ = some (.bool lo.neg) ∧ w'.cell? ⟨w8.heap.size, 1, none⟩ = some (S lo.l) ∧ w'.cell? ⟨w8.heap.size, 2, none⟩ = some (.int .i64 lo.e) ∧ w'.cell? ⟨w9.heap.size, 0, none⟩ = some (.bool hi.neg) ∧ w'.cell? ⟨w9.heap.size, 1, none⟩ = some (S hi.l) ∧ w'.cell? ⟨w9.heap.size, 2, none⟩ = some (.int .i64 hi.e) ∧ HeldL w [(w9.heap.size, #[.bool hi.neg, S hi.l, .int .i64 hi.e]), (w8.heap.size, #[.bool lo.neg, S lo.l, .int .i64 lo.e]), (w6.heap.size, #[.bool d.neg, S d.l, .int .i64 d.e]), (w4.heap.size, #[.bool r.neg, S r.l, .int .i64 r.e]), (w3.heap.size, #[.bool n, S (dgs L), .int .i64 e]), (w.heap.size, #[.bool n, .slice a len cap, .int .i64 e])] w') (by kernel_rfl) (ALL2.out _ (HeldL.drew HS2.out)) (fun hHeld => ?_)
  refine wpAnyH_take (i := 0) (oi := { dst := some 59, op := Go.Op.load 28 (Go.Operand.tmp 8), type := 28, pos := "law.go:214", after := #[], guard := none }) (v := ?_) rfl (by kernel_rfl) (by kernel_rfl) (by kernel_rfl) (fun _ _ _ h => h) (Or.inl ⟨by rfl, ?_⟩) hHeld ?_
  case refine_2 => (intro w hSw; (try dsimp only at hSw); go_simp <;> with_reducible rfl)
  try simp only [Act.put, List.setIfInBounds_toArray, List.set_cons_zero, List.set_cons_succ]
  refine wpAnyH_take (i := 2) (oi := { dst := some 61, op := Go.Op.move (Go.Operand.tmp 1), type := 3, pos := "law.go:214", after := #[], guard := none }) (v := ?_) rfl (by kernel_rfl) (by kernel_rfl) (by kernel_rfl) (fun _ _ _ h => h) (Or.inl ⟨by rfl, ?_⟩) hHeld ?_
  case refine_2 => (intro w hSw; (try dsimp only at hSw); go_simp <;> with_reducible rfl)
  try simp only [Act.put, List.setIfInBounds_toArray, List.set_cons_zero, List.set_cons_succ]
  refine wpAnyH_take (i := 3) (oi := { dst := some 62, op := Go.Op.move (Go.Operand.tmp 7), type := 30, pos := "law.go:214", after := #[], guard := none }) (v := ?_) rfl (by kernel_rfl) (by kernel_rfl) (by kernel_rfl) (fun _ _ _ h => h) (Or.inl ⟨by rfl, ?_⟩) hHeld ?_
  case refine_2 => (intro w hSw; (try dsimp only at hSw); go_simp <;> with_reducible rfl)
  try simp only [Act.put, List.setIfInBounds_toArray, List.set_cons_zero, List.set_cons_succ]
  refine wpAnyH_take (i := 6) (oi := { dst := some 65, op := Go.Op.load 28 (Go.Operand.tmp 9), type := 28, pos := "law.go:214", after := #[], guard := none }) (v := ?_) rfl (by kernel_rfl) (by kernel_rfl) (by kernel_rfl) (fun _ _ _ h => h) (Or.inl ⟨by rfl, ?_⟩) hHeld ?_
  case refine_2 => (intro w hSw; (try dsimp only at hSw); go_simp <;> with_reducible rfl)
  try simp only [Act.put, List.setIfInBounds_toArray, List.set_cons_zero, List.set_cons_succ]
  refine wpAnyH_ready (rs := [1]) (by kernel_rfl) (by simp) ?_
  refine AllReadyH.cons (o := { dst := some 60, op := Go.Op.call { callee := Go.Callee.value (Go.Operand.func 18), args := #[Go.Operand.tmp 59], argTypes := #[28] }, type := 28, pos := "law.go:214", after := #[{ on := 0, ground := Go.Ground.data }], guard := none }) rfl (fun KK hK => ?_) AllReadyH.nil
  go_simp
  with_reducible refine (minus_T ⟨n, dgs L, e⟩ y _ LL HY.out).mono ?_
  rintro x wF ⟨rfl, hb⟩
  go_wp2_with fail
  refine hK.out _ _ (KEEP2.out _ _ hHeld hb) (fun hHeld2 => ?_)
  clear hK hHeld hb
  have hHeld := hHeld2
  clear hHeld2
  try simp only [Act.put, List.setIfInBounds_toArray, List.set_cons_zero, List.set_cons_succ]
  refine wpAnyH_ready (rs := [4]) (by kernel_rfl) (by simp) ?_
  refine AllReadyH.cons (o := { dst := some 63, op := Go.Op.call { callee := Go.Callee.value (Go.Operand.func 25), args := #[Go.Operand.tmp 62], argTypes := #[30] }, type := 30, pos := "law.go:214", after := #[{ on := 3, ground := Go.Ground.data }, { on := 1, ground := Go.Ground.chain }], guard := none }) rfl (fun KK hK => ?_) AllReadyH.nil
  go_simp
  with_reducible refine (turned_as M _ m0 m6).mono ?_
  rintro x wz ⟨rfl, rfl⟩
  go_wp2_with fail
  refine hK.out _ _ hHeld (fun _ => ?_)
  clear hK
  try simp only [Act.put, List.setIfInBounds_toArray, List.set_cons_zero, List.set_cons_succ]
  refine wpAnyH_ready (rs := [5]) (by kernel_rfl) (by simp) ?_
  refine AllReadyH.cons (o := { dst := some 64, op := Go.Op.call { callee := Go.Callee.value (Go.Operand.func 15), args := #[Go.Operand.tmp 60, Go.Operand.tmp 61, Go.Operand.tmp 63], argTypes := #[28, 3, 30] }, type := 28, pos := "law.go:214", after := #[{ on := 1, ground := Go.Ground.data }, { on := 2, ground := Go.Ground.data }, { on := 4, ground := Go.Ground.data }, { on := 4, ground := Go.Ground.chain }], guard := none }) rfl (fun KK hK => ?_) AllReadyH.nil
  go_simp
  with_reducible refine (at_T y P (turn M) s _ yl HSA.out (TAB2.out _ hHeld)).mono ?_
  rintro x wG ⟨rfl, hb⟩
  go_wp2_with fail
  refine hK.out _ _ (KEEP2.out _ _ hHeld hb) (fun hHeld2 => ?_)
  clear hK hHeld hb
  have hHeld := hHeld2
  clear hHeld2
  try simp only [Act.put, List.setIfInBounds_toArray, List.set_cons_zero, List.set_cons_succ]
  refine wpAnyH_ready (rs := [7]) (by kernel_rfl) (by simp) ?_
  refine AllReadyH.cons (o := { dst := some 66, op := Go.Op.call { callee := Go.Callee.value (Go.Operand.func 18), args := #[Go.Operand.tmp 65], argTypes := #[28] }, type := 28, pos := "law.go:214", after := #[{ on := 6, ground := Go.Ground.data }, { on := 5, ground := Go.Ground.chain }], guard := none }) rfl (fun KK hK => ?_) AllReadyH.nil
  go_simp
  with_reducible refine (minus_T r s _ rl HSB.out).mono ?_
  rintro x wH ⟨rfl, hb⟩
  go_wp2_with fail
  refine hK.out _ _ (KEEP2.out _ _ hHeld hb) (fun hHeld2 => ?_)
  clear hK hHeld hb
  have hHeld := hHeld2
  clear hHeld2
  try simp only [Act.put, List.setIfInBounds_toArray, List.set_cons_zero, List.set_cons_succ]
  refine wpAnyH_take (i := 8) (oi := { dst := some 67, op := Go.Op.binOp Go.BinOp.eql 28 (Go.Operand.tmp 64) (Go.Operand.tmp 66) 28, type := 4, pos := "law.go:214", after := #[{ on := 5, ground := Go.Ground.data }, { on := 7, ground := Go.Ground.data }], guard := none }) (v := ?_) rfl (by kernel_rfl) (by kernel_rfl) (by kernel_rfl) (fun _ _ _ h => h) (Or.inl ⟨by rfl, ?_⟩) hHeld ?_
  case refine_2 => (intro w hSw; (try dsimp only at hSw); go_simp <;> with_reducible rfl)
  try simp only [Act.put, List.setIfInBounds_toArray, List.set_cons_zero, List.set_cons_succ]
  refine wpAnyH_take (i := 9) (oi := { dst := some 68, op := Go.Op.move (Go.Operand.tmp 67), type := 4, pos := "law.go:214", after := #[{ on := 8, ground := Go.Ground.data }, { on := 7, ground := Go.Ground.chain }], guard := none }) (v := ?_) rfl (by kernel_rfl) (by kernel_rfl) (by kernel_rfl) (fun _ _ _ h => h) (Or.inl ⟨by rfl, ?_⟩) hHeld ?_
  case refine_2 => (intro w hSw; (try dsimp only at hSw); go_simp <;> with_reducible rfl)
  try simp only [Act.put, List.setIfInBounds_toArray, List.set_cons_zero, List.set_cons_succ]
  refine wpAnyH_take (i := 10) (oi := { dst := some 69, op := Go.Op.load 28 (Go.Operand.tmp 9), type := 28, pos := "law.go:214", after := #[{ on := 9, ground := Go.Ground.guard }], guard := some (9, true) }) (v := ?_) rfl (by kernel_rfl) (by kernel_rfl) (by kernel_rfl) (fun _ _ _ h => h) (Or.inl ⟨by rfl, ?_⟩) hHeld ?_
  case refine_2 => (intro w hSw; (try dsimp only at hSw); go_simp <;> with_reducible rfl)
  try simp only [Act.put, List.setIfInBounds_toArray, List.set_cons_zero, List.set_cons_succ]
  refine wpAnyH_take (i := 11) (oi := { dst := some 70, op := Go.Op.load 28 (Go.Operand.tmp 11), type := 28, pos := "law.go:214", after := #[{ on := 9, ground := Go.Ground.guard }], guard := some (9, true) }) (v := ?_) rfl (by kernel_rfl) (by kernel_rfl) (by kernel_rfl) (fun _ _ _ h => h) (Or.inl ⟨by rfl, ?_⟩) hHeld ?_
  case refine_2 => (intro w hSw; (try dsimp only at hSw); go_simp <;> with_reducible rfl)
  try simp only [Act.put, List.setIfInBounds_toArray, List.set_cons_zero, List.set_cons_succ]
  refine wpAnyH_take (i := 12) (oi := { dst := some 71, op := Go.Op.binOp Go.BinOp.eql 28 (Go.Operand.tmp 69) (Go.Operand.tmp 70) 28, type := 4, pos := "law.go:214", after := #[{ on := 10, ground := Go.Ground.data }, { on := 11, ground := Go.Ground.data }, { on := 9, ground := Go.Ground.guard }], guard := some (9, true) }) (v := ?_) rfl (by kernel_rfl) (by kernel_rfl) (by kernel_rfl) (fun _ _ _ h => h) (Or.inl ⟨by rfl, ?_⟩) hHeld ?_
  case refine_2 => (intro w hSw; (try dsimp only at hSw); go_simp <;> with_reducible rfl)
  try simp only [Act.put, List.setIfInBounds_toArray, List.set_cons_zero, List.set_cons_succ]
  refine wpAnyH_take (i := 13) (oi := { dst := some 72, op := Go.Op.move (Go.Operand.tmp 71), type := 4, pos := "law.go:214", after := #[{ on := 12, ground := Go.Ground.data }, { on := 9, ground := Go.Ground.chain }, { on := 9, ground := Go.Ground.guard }], guard := some (9, true) }) (v := ?_) rfl (by kernel_rfl) (by kernel_rfl) (by kernel_rfl) (fun _ _ _ h => h) (Or.inl ⟨by rfl, ?_⟩) hHeld ?_
  case refine_2 => (intro w hSw; (try dsimp only at hSw); go_simp <;> with_reducible rfl)
  try simp only [Act.put, List.setIfInBounds_toArray, List.set_cons_zero, List.set_cons_succ]
  refine wpAnyH_take (i := 14) (oi := { dst := some 73, op := Go.Op.load 28 (Go.Operand.tmp 9), type := 28, pos := "law.go:214", after := #[{ on := 13, ground := Go.Ground.guard }], guard := some (13, false) }) (v := undef) rfl (by kernel_rfl) (by kernel_rfl) (by kernel_rfl) (fun _ _ _ h => h) (Or.inr ⟨by rfl, rfl⟩) hHeld ?_
  try simp only [Act.put, List.setIfInBounds_toArray, List.set_cons_zero, List.set_cons_succ]
  refine wpAnyH_take (i := 15) (oi := { dst := some 74, op := Go.Op.load 28 (Go.Operand.tmp 12), type := 28, pos := "law.go:214", after := #[{ on := 13, ground := Go.Ground.guard }], guard := some (13, false) }) (v := undef) rfl (by kernel_rfl) (by kernel_rfl) (by kernel_rfl) (fun _ _ _ h => h) (Or.inr ⟨by rfl, rfl⟩) hHeld ?_
  try simp only [Act.put, List.setIfInBounds_toArray, List.set_cons_zero, List.set_cons_succ]
  refine wpAnyH_take (i := 16) (oi := { dst := some 75, op := Go.Op.binOp Go.BinOp.eql 28 (Go.Operand.tmp 73) (Go.Operand.tmp 74) 28, type := 4, pos := "law.go:214", after := #[{ on := 14, ground := Go.Ground.data }, { on := 15, ground := Go.Ground.data }, { on := 13, ground := Go.Ground.guard }], guard := some (13, false) }) (v := undef) rfl (by kernel_rfl) (by kernel_rfl) (by kernel_rfl) (fun _ _ _ h => h) (Or.inr ⟨by rfl, rfl⟩) hHeld ?_
  try simp only [Act.put, List.setIfInBounds_toArray, List.set_cons_zero, List.set_cons_succ]
  refine wpAnyH_take (i := 17) (oi := { dst := some 76, op := Go.Op.pick (Go.Operand.tmp 72) (Go.Operand.const (Go.Value.bool true)) (Go.Operand.tmp 75), type := 4, pos := "law.go:214", after := #[{ on := 13, ground := Go.Ground.data }, { on := 16, ground := Go.Ground.data }, { on := 9, ground := Go.Ground.guard }], guard := some (9, true) }) (v := ?_) rfl (by kernel_rfl) (by kernel_rfl) (by kernel_rfl) (fun _ _ _ h => h) (Or.inl ⟨by rfl, ?_⟩) hHeld ?_
  case refine_2 => (intro w hSw; (try dsimp only at hSw); go_simp <;> with_reducible rfl)
  try simp only [Act.put, List.setIfInBounds_toArray, List.set_cons_zero, List.set_cons_succ]
  refine wpAnyH_take (i := 18) (oi := { dst := some 77, op := Go.Op.pick (Go.Operand.tmp 68) (Go.Operand.tmp 76) (Go.Operand.const (Go.Value.bool false)), type := 4, pos := "law.go:214", after := #[{ on := 9, ground := Go.Ground.data }, { on := 17, ground := Go.Ground.data }], guard := none }) (v := ?_) rfl (by kernel_rfl) (by kernel_rfl) (by kernel_rfl) (fun _ _ _ h => h) (Or.inl ⟨by rfl, ?_⟩) hHeld ?_
  case refine_2 => (intro w hSw; (try dsimp only at hSw); go_simp <;> with_reducible rfl)
  try simp only [Act.put, List.setIfInBounds_toArray, List.set_cons_zero, List.set_cons_succ]
  refine wpAnyH_take (i := 19) (oi := { dst := some 78, op := Go.Op.move (Go.Operand.tmp 77), type := 4, pos := "law.go:214", after := #[{ on := 18, ground := Go.Ground.data }, { on := 13, ground := Go.Ground.chain }], guard := none }) (v := ?_) rfl (by kernel_rfl) (by kernel_rfl) (by kernel_rfl) (fun _ _ _ h => h) (Or.inl ⟨by rfl, ?_⟩) hHeld ?_
  case refine_2 => (intro w hSw; (try dsimp only at hSw); go_simp <;> with_reducible rfl)
  try simp only [Act.put, List.setIfInBounds_toArray, List.set_cons_zero, List.set_cons_succ]
  refine wpAnyH_take (i := 20) (oi := { dst := some 79, op := Go.Op.load 28 (Go.Operand.tmp 11), type := 28, pos := "law.go:214", after := #[{ on := 19, ground := Go.Ground.guard }], guard := some (19, true) }) (v := ?_) rfl (by kernel_rfl) (by kernel_rfl) (by kernel_rfl) (fun _ _ _ h => h) (Or.inl ⟨by rfl, ?_⟩) hHeld ?_
  case refine_2 => (intro w hSw; (try dsimp only at hSw); go_simp <;> with_reducible rfl)
  try simp only [Act.put, List.setIfInBounds_toArray, List.set_cons_zero, List.set_cons_succ]
  refine wpAnyH_take (i := 21) (oi := { dst := some 80, op := Go.Op.load 28 (Go.Operand.tmp 8), type := 28, pos := "law.go:214", after := #[{ on := 19, ground := Go.Ground.guard }], guard := some (19, true) }) (v := ?_) rfl (by kernel_rfl) (by kernel_rfl) (by kernel_rfl) (fun _ _ _ h => h) (Or.inl ⟨by rfl, ?_⟩) hHeld ?_
  case refine_2 => (intro w hSw; (try dsimp only at hSw); go_simp <;> with_reducible rfl)
  try simp only [Act.put, List.setIfInBounds_toArray, List.set_cons_zero, List.set_cons_succ]
  refine wpAnyH_ready (rs := [22]) (by kernel_rfl) (by simp) ?_
  refine AllReadyH.cons (o := { dst := some 81, op := Go.Op.call { callee := Go.Callee.value (Go.Operand.func 20), args := #[Go.Operand.tmp 79, Go.Operand.tmp 80], argTypes := #[28, 28] }, type := 3, pos := "law.go:214", after := #[{ on := 20, ground := Go.Ground.data }, { on := 21, ground := Go.Ground.data }, { on := 19, ground := Go.Ground.chain }, { on := 19, ground := Go.Ground.guard }], guard := some (19, true) }) rfl (fun KK hK => ?_) AllReadyH.nil
  go_simp
  with_reducible refine (cmp_T lo ⟨n, dgs L, e⟩ c3 _ lol LL HC3.out).mono ?_
  rintro x wI ⟨rfl, hb⟩
  go_wp2_with fail
  refine hK.out _ _ (KEEP2.out _ _ hHeld hb) (fun hHeld2 => ?_)
  clear hK hHeld hb
  have hHeld := hHeld2
  clear hHeld2
  try simp only [Act.put, List.setIfInBounds_toArray, List.set_cons_zero, List.set_cons_succ]
  refine wpAnyH_take (i := 23) (oi := { dst := some 82, op := Go.Op.binOp Go.BinOp.leq 3 (Go.Operand.tmp 81) (Go.Operand.const (Go.Value.int Go.IntKind.i64 0)) 3, type := 4, pos := "law.go:214", after := #[{ on := 22, ground := Go.Ground.data }, { on := 19, ground := Go.Ground.guard }], guard := some (19, true) }) (v := ?_) rfl (by kernel_rfl) (by kernel_rfl) (by kernel_rfl) (fun _ _ _ h => h) (Or.inl ⟨by rfl, ?_⟩) hHeld ?_
  case refine_2 => (intro w hSw; (try dsimp only at hSw); go_simp <;> with_reducible rfl)
  try simp only [Act.put, List.setIfInBounds_toArray, List.set_cons_zero, List.set_cons_succ]
  refine wpAnyH_take (i := 24) (oi := { dst := some 83, op := Go.Op.pick (Go.Operand.tmp 78) (Go.Operand.tmp 82) (Go.Operand.const (Go.Value.bool false)), type := 4, pos := "law.go:214", after := #[{ on := 19, ground := Go.Ground.data }, { on := 23, ground := Go.Ground.data }], guard := none }) (v := ?_) rfl (by kernel_rfl) (by kernel_rfl) (by kernel_rfl) (fun _ _ _ h => h) (Or.inl ⟨by rfl, ?_⟩) hHeld ?_
  case refine_2 => (intro w hSw; (try dsimp only at hSw); go_simp <;> with_reducible rfl)
  try simp only [Act.put, List.setIfInBounds_toArray, List.set_cons_zero, List.set_cons_succ]
  refine wpAnyH_take (i := 25) (oi := { dst := some 84, op := Go.Op.move (Go.Operand.tmp 83), type := 4, pos := "law.go:214", after := #[{ on := 24, ground := Go.Ground.data }, { on := 22, ground := Go.Ground.chain }], guard := none }) (v := ?_) rfl (by kernel_rfl) (by kernel_rfl) (by kernel_rfl) (fun _ _ _ h => h) (Or.inl ⟨by rfl, ?_⟩) hHeld ?_
  case refine_2 => (intro w hSw; (try dsimp only at hSw); go_simp <;> with_reducible rfl)
  try simp only [Act.put, List.setIfInBounds_toArray, List.set_cons_zero, List.set_cons_succ]
  refine wpAnyH_take (i := 26) (oi := { dst := some 85, op := Go.Op.load 28 (Go.Operand.tmp 8), type := 28, pos := "law.go:214", after := #[{ on := 25, ground := Go.Ground.guard }], guard := some (25, true) }) (v := ?_) rfl (by kernel_rfl) (by kernel_rfl) (by kernel_rfl) (fun _ _ _ h => h) (Or.inl ⟨by rfl, ?_⟩) hHeld ?_
  case refine_2 => (intro w hSw; (try dsimp only at hSw); go_simp <;> with_reducible rfl)
  try simp only [Act.put, List.setIfInBounds_toArray, List.set_cons_zero, List.set_cons_succ]
  refine wpAnyH_take (i := 27) (oi := { dst := some 86, op := Go.Op.load 28 (Go.Operand.tmp 12), type := 28, pos := "law.go:214", after := #[{ on := 25, ground := Go.Ground.guard }], guard := some (25, true) }) (v := ?_) rfl (by kernel_rfl) (by kernel_rfl) (by kernel_rfl) (fun _ _ _ h => h) (Or.inl ⟨by rfl, ?_⟩) hHeld ?_
  case refine_2 => (intro w hSw; (try dsimp only at hSw); go_simp <;> with_reducible rfl)
  try simp only [Act.put, List.setIfInBounds_toArray, List.set_cons_zero, List.set_cons_succ]
  refine wpAnyH_ready (rs := [28]) (by kernel_rfl) (by simp) ?_
  refine AllReadyH.cons (o := { dst := some 87, op := Go.Op.call { callee := Go.Callee.value (Go.Operand.func 20), args := #[Go.Operand.tmp 85, Go.Operand.tmp 86], argTypes := #[28, 28] }, type := 3, pos := "law.go:214", after := #[{ on := 26, ground := Go.Ground.data }, { on := 27, ground := Go.Ground.data }, { on := 25, ground := Go.Ground.chain }, { on := 25, ground := Go.Ground.guard }], guard := some (25, true) }) rfl (fun KK hK => ?_) AllReadyH.nil
  go_simp
  with_reducible refine (cmp_T ⟨n, dgs L, e⟩ hi c4 _ LL hil HC4.out).mono ?_
  rintro x wJ ⟨rfl, hb⟩
  go_wp2_with fail
  refine hK.out _ _ (KEEP2.out _ _ hHeld hb) (fun hHeld2 => ?_)
  clear hK hHeld hb
  have hHeld := hHeld2
  clear hHeld2
  try simp only [Act.put, List.setIfInBounds_toArray, List.set_cons_zero, List.set_cons_succ]
  refine wpAnyH_take (i := 29) (oi := { dst := some 88, op := Go.Op.binOp Go.BinOp.leq 3 (Go.Operand.tmp 87) (Go.Operand.const (Go.Value.int Go.IntKind.i64 0)) 3, type := 4, pos := "law.go:214", after := #[{ on := 28, ground := Go.Ground.data }, { on := 25, ground := Go.Ground.guard }], guard := some (25, true) }) (v := ?_) rfl (by kernel_rfl) (by kernel_rfl) (by kernel_rfl) (fun _ _ _ h => h) (Or.inl ⟨by rfl, ?_⟩) hHeld ?_
  case refine_2 => (intro w hSw; (try dsimp only at hSw); go_simp <;> with_reducible rfl)
  try simp only [Act.put, List.setIfInBounds_toArray, List.set_cons_zero, List.set_cons_succ]
  refine wpAnyH_take (i := 30) (oi := { dst := some 89, op := Go.Op.pick (Go.Operand.tmp 84) (Go.Operand.tmp 88) (Go.Operand.const (Go.Value.bool false)), type := 4, pos := "law.go:214", after := #[{ on := 25, ground := Go.Ground.data }, { on := 29, ground := Go.Ground.data }], guard := none }) (v := ?_) rfl (by kernel_rfl) (by kernel_rfl) (by kernel_rfl) (fun _ _ _ h => h) (Or.inl ⟨by rfl, ?_⟩) hHeld ?_
  case refine_2 => (intro w hSw; (try dsimp only at hSw); go_simp <;> with_reducible rfl)
  try simp only [Act.put, List.setIfInBounds_toArray, List.set_cons_zero, List.set_cons_succ]
  refine wpAnyH_take (i := 31) (oi := { dst := some 6, op := Go.Op.assign (Go.Operand.tmp 89), type := 4, pos := "law.go:214", after := #[{ on := 30, ground := Go.Ground.data }, { on := 28, ground := Go.Ground.chain }, { on := 0, ground := Go.Ground.phase }, { on := 1, ground := Go.Ground.phase }, { on := 2, ground := Go.Ground.phase }, { on := 3, ground := Go.Ground.phase }, { on := 4, ground := Go.Ground.phase }, { on := 5, ground := Go.Ground.phase }, { on := 6, ground := Go.Ground.phase }, { on := 7, ground := Go.Ground.phase }, { on := 8, ground := Go.Ground.phase }, { on := 9, ground := Go.Ground.phase }, { on := 10, ground := Go.Ground.phase }, { on := 11, ground := Go.Ground.phase }, { on := 12, ground := Go.Ground.phase }, { on := 13, ground := Go.Ground.phase }, { on := 14, ground := Go.Ground.phase }, { on := 15, ground := Go.Ground.phase }, { on := 16, ground := Go.Ground.phase }, { on := 17, ground := Go.Ground.phase }, { on := 18, ground := Go.Ground.phase }, { on := 19, ground := Go.Ground.phase }, { on := 20, ground := Go.Ground.phase }, { on := 21, ground := Go.Ground.phase }, { on := 22, ground := Go.Ground.phase }, { on := 23, ground := Go.Ground.phase }, { on := 24, ground := Go.Ground.phase }, { on := 25, ground := Go.Ground.phase }, { on := 26, ground := Go.Ground.phase }, { on := 27, ground := Go.Ground.phase }, { on := 28, ground := Go.Ground.phase }, { on := 29, ground := Go.Ground.phase }, { on := 30, ground := Go.Ground.phase }], guard := none }) (v := ?_) rfl (by kernel_rfl) (by kernel_rfl) (by kernel_rfl) (fun _ _ _ h => h) (Or.inl ⟨by rfl, ?_⟩) hHeld ?_
  case refine_2 => (intro w hSw; (try dsimp only at hSw); go_simp <;> with_reducible rfl)
  try simp only [Act.put, List.setIfInBounds_toArray, List.set_cons_zero, List.set_cons_succ]
  refine wpAnyH_done (by kernel_rfl) ?_ _
  clear bx0 bx1 bx2 bxl br0 br1 br2 brl bo0 bo1 bo2 bol
  have H10 : Hid (HeldL w [(w9.heap.size, #[.bool hi.neg, S hi.l, .int .i64 hi.e]), (w8.heap.size, #[.bool lo.neg, S lo.l, .int .i64 lo.e]), (w6.heap.size, #[.bool d.neg, S d.l, .int .i64 d.e]), (w4.heap.size, #[.bool r.neg, S r.l, .int .i64 r.e]), (w3.heap.size, #[.bool n, S (dgs L), .int .i64 e]), (w.heap.size, #[.bool n, .slice a len cap, .int .i64 e])] wJ) := Lib.hid (hHeld.2.2.2.2.2.2.2.2.2.2.2.2)
  clear hHeld ALL2 KEEP2 HS2 TAB2 H9
  go_wp2
  go_ret
  exact ⟨rfl, H10.out.bel⟩

end Go.Proofs.YtfbfjkacaadbpaaDoor

namespace Go.Proofs.YtfbfjkacaadbpaaDoor
open Go.RowKit Florin
set_option linter.unusedVariables false
set_option linter.unusedSimpArgs false
attribute [local go_sem ↓] Go.wp_at_zero Go.wp_at_succ eq_V ne_V

set_option maxRecDepth 100000 in
set_option maxHeartbeats 6400000 in
theorem signs_hh (n : Bool) (a : Option Addr) (len cap : Nat) (L : List UInt8) (e : Int) (pl mo : Int) (w : World) (hin : InB w a len cap L) (htab : Tab w) (h1 : len ≤ 40) (h2 : -40 ≤ e) (h3 : e ≤ 40)
    (P M : Int) (hP : wrap64 (pl.tmod 60 - wrap64 ((pl.tmod 60).tdiv 2)) = P) (m0 : 0 ≤ M) (m6 : M ≤ 6) (hM : ∀ w : World, Calls Tryd.prog 19 #[.int .i64 mo] w fun x w' => x = .returned (.int .i64 M) ∧ w = w')
    (r df d t u lo hi y s : Tri) (hr : mulT (made n (dgs L) e) 1 (hld P) M = r) (hdf : SubIs ⟨n, dgs L, e⟩ r df) (hd : made false df.l df.e = d) (hu : made false [49] P = u) (c1 c2 : Int) (hc2 : CmpIs d u c2) (c2n : c2 < 0)
    (hlo : mulT (made n (dgs L) e) 1 (hld P) 6 = lo) (hhi : mulT (made n (dgs L) e) 1 (hld P) 5 = hi) (hy : made (!n) (dgs L) e = y) (hs : mulT (made y.neg y.l y.e) 1 (hld P) (turn M) = s) (hs2 : made (!r.neg) r.l r.e = s) (c3 c4 : Int) (hc3 : CmpIs lo ⟨n, dgs L, e⟩ c3) (c3n : c3 ≤ 0) (hc4 : CmpIs ⟨n, dgs L, e⟩ hi c4) (c4n : c4 ≤ 0)
    (rl : r.l.length ≤ 100000) (dfl : df.l.length ≤ 100000) (ddl : d.l.length ≤ 100000) (ul : u.l.length ≤ 100000) (lol : lo.l.length ≤ 100000) (hil : hi.l.length ≤ 100000) (yl : y.l.length ≤ 100000) (m2 : M ≤ 2) (htw : AddIs d d t) (tl : t.l.length ≤ 100000) (hc1 : CmpIs t u c1) (c1n : c1 ≤ 0) (elo : r ≠ lo) (ehi : r = hi) :
    Calls Tryd.prog 5 #[RV n a len cap e, .int .i64 pl, .int .i64 mo] w fun x w' => x = .returned (.bool true) ∧ Below w.heap.size w w' := by
  have LL : (dgs L).length ≤ 100000 := by rw [dgs_length, hin.1]; omega
  have hcA := hin.2.1
  have hmA := hin.2.2.1
  have HP := Lib.hid hP
  have HMO := Lib.hid hM
  have HR := Lib.hid hr
  have HDF := Lib.hid hdf
  have HD := Lib.hid hd
  have HU := Lib.hid hu
  have HC2 := Lib.hid hc2
  have HLO := Lib.hid hlo
  have HHI := Lib.hid hhi
  have HY := Lib.hid hy
  have HSA := Lib.hid hs
  have HSB := Lib.hid hs2
  have HC3 := Lib.hid hc3
  have HC4 := Lib.hid hc4
  have HT := Lib.hid htab
  have HIN := Lib.hid hin
  have HTW := Lib.hid htw
  have HC1 := Lib.hid hc1
  clear hP hM hr hdf hd hu hc2 hlo hhi hy hs hs2 hc3 hc4 htab hin htw hc1
  have cb2 : decide (0 ≤ c2) = false := by simp; omega
  have cb3 : decide (c3 ≤ 0) = true := by simp; omega
  have cb4 : decide (c4 ≤ 0) = true := by simp; omega
  have mb : decide (M ≤ 2) = true := by simp; omega
  have cb1 : decide (0 < c1) = false := by simp; omega
  have eb : decide (r = lo) = false := by simp [elo]
  have eb2 : decide (r = hi) = true := by simp [ehi]
  clear ehi
  clear elo
  go_enter Tryd.func5, Tryd.ntmps5
  go_wp2_with fail
  with_reducible refine (head3 _ (HT.out.below (HeldL.alloc (HeldL.refl w) (w.heap.size) #[.bool n, .slice a len cap, .int .i64 e] 24 (by simp)).bel)).mono ?_
  rintro x w1 ⟨rfl, hb⟩
  have H1 : Hid (HeldL w [(w.heap.size, #[.bool n, .slice a len cap, .int .i64 e])] w1) := Lib.hid (HeldL.keep (HeldL.alloc (HeldL.refl w) (w.heap.size) #[.bool n, .slice a len cap, .int .i64 e] 24 (by simp)) hb)
  clear hb
  have q0 : w1.cell? ⟨w.heap.size, 0, none⟩ = some (.bool n) := (H1.out.f (List.Mem.head _)).cell 0
  have q1 : w1.cell? ⟨w.heap.size, 1, none⟩ = some (.slice a len cap) := (H1.out.f (List.Mem.head _)).cell 1
  have q2 : w1.cell? ⟨w.heap.size, 2, none⟩ = some (.int .i64 e) := (H1.out.f (List.Mem.head _)).cell 2
  have ql : w.heap.size < w1.heap.size := (H1.out.f (List.Mem.head _)).lt
  go_wp2_with fail
  with_reducible refine (few_yes n a len cap e 40 _ hcA hmA (by decide) (by decide) (by omega) h2 h3).mono ?_
  rintro x w2 ⟨rfl, hb⟩
  clear q0 q1 q2 ql
  have H2 : Hid (HeldL w [(w.heap.size, #[.bool n, .slice a len cap, .int .i64 e])] w2) := Lib.hid (HeldL.keep H1.out hb)
  clear H1
  clear hb
  have q0 : w2.cell? ⟨w.heap.size, 0, none⟩ = some (.bool n) := (H2.out.f (List.Mem.head _)).cell 0
  have q1 : w2.cell? ⟨w.heap.size, 1, none⟩ = some (.slice a len cap) := (H2.out.f (List.Mem.head _)).cell 1
  have q2 : w2.cell? ⟨w.heap.size, 2, none⟩ = some (.int .i64 e) := (H2.out.f (List.Mem.head _)).cell 2
  have ql : w.heap.size < w2.heap.size := (H2.out.f (List.Mem.head _)).lt
  go_wp2_with fail
  rw [HP.out]
  with_reducible refine (HMO.out _).mono ?_
  rintro x wz ⟨rfl, rfl⟩
  go_wp2_with fail
  with_reducible refine (make_as n a len cap L e _ (HIN.out.below H2.out.bel) (by omega)).mono ?_
  rintro x w3 ⟨rfl, hb⟩
  clear q0 q1 q2 ql
  have H3 : Hid (HeldL w [(w.heap.size, #[.bool n, .slice a len cap, .int .i64 e])] w3) := Lib.hid (HeldL.keep H2.out hb)
  clear H2
  clear hb
  go_wp2_with fail
  with_reducible refine (at_T ⟨n, dgs L, e⟩ P M r _ LL HR.out (HT.out.below (HeldL.alloc H3.out (w3.heap.size) #[.bool n, S (dgs L), .int .i64 e] 28 (by simp)).bel)).mono ?_
  rintro x w4 ⟨rfl, hb⟩
  have H4 : Hid (HeldL w [(w3.heap.size, #[.bool n, S (dgs L), .int .i64 e]), (w.heap.size, #[.bool n, .slice a len cap, .int .i64 e])] w4) := Lib.hid (HeldL.keep (HeldL.alloc H3.out (w3.heap.size) #[.bool n, S (dgs L), .int .i64 e] 28 (by simp)) hb)
  clear H3
  clear hb
  have bx0 : w4.cell? ⟨w3.heap.size, 0, none⟩ = some (.bool n) := (H4.out.f (List.Mem.head _)).cell 0
  have bx1 : w4.cell? ⟨w3.heap.size, 1, none⟩ = some (S (dgs L)) := (H4.out.f (List.Mem.head _)).cell 1
  have bx2 : w4.cell? ⟨w3.heap.size, 2, none⟩ = some (.int .i64 e) := (H4.out.f (List.Mem.head _)).cell 2
  have bxl : w3.heap.size < w4.heap.size := (H4.out.f (List.Mem.head _)).lt
  go_wp2_with fail
  with_reducible refine (sub_T ⟨n, dgs L, e⟩ r df _ LL rl HDF.out).mono ?_
  rintro x w5 ⟨rfl, hb⟩
  clear bx0 bx1 bx2 bxl
  have H5 : Hid (HeldL w [(w4.heap.size, #[.bool r.neg, S r.l, .int .i64 r.e]), (w3.heap.size, #[.bool n, S (dgs L), .int .i64 e]), (w.heap.size, #[.bool n, .slice a len cap, .int .i64 e])] w5) := Lib.hid (HeldL.keep (HeldL.alloc H4.out (w4.heap.size) #[.bool r.neg, S r.l, .int .i64 r.e] 28 (by simp)) hb)
  clear H4
  clear hb
  go_wp2_with fail
  with_reducible refine (abs_T df d _ dfl HD.out).mono ?_
  rintro x w6 ⟨rfl, hb⟩
  have H6 : Hid (HeldL w [(w4.heap.size, #[.bool r.neg, S r.l, .int .i64 r.e]), (w3.heap.size, #[.bool n, S (dgs L), .int .i64 e]), (w.heap.size, #[.bool n, .slice a len cap, .int .i64 e])] w6) := Lib.hid (HeldL.keep H5.out hb)
  clear H5
  clear hb
  have bx0 : w6.cell? ⟨w3.heap.size, 0, none⟩ = some (.bool n) := (H6.out.f (List.Mem.tail _ (List.Mem.head _))).cell 0
  have bx1 : w6.cell? ⟨w3.heap.size, 1, none⟩ = some (S (dgs L)) := (H6.out.f (List.Mem.tail _ (List.Mem.head _))).cell 1
  have bx2 : w6.cell? ⟨w3.heap.size, 2, none⟩ = some (.int .i64 e) := (H6.out.f (List.Mem.tail _ (List.Mem.head _))).cell 2
  have bxl : w3.heap.size < w6.heap.size := (H6.out.f (List.Mem.tail _ (List.Mem.head _))).lt
  have br0 : w6.cell? ⟨w4.heap.size, 0, none⟩ = some (.bool r.neg) := (H6.out.f (List.Mem.head _)).cell 0
  have br1 : w6.cell? ⟨w4.heap.size, 1, none⟩ = some (S r.l) := (H6.out.f (List.Mem.head _)).cell 1
  have br2 : w6.cell? ⟨w4.heap.size, 2, none⟩ = some (.int .i64 r.e) := (H6.out.f (List.Mem.head _)).cell 2
  have brl : w4.heap.size < w6.heap.size := (H6.out.f (List.Mem.head _)).lt
  go_wp2_with fail
  have ALL1 : Hid (∀ w' : World, HeldL w [(w6.heap.size, #[.bool d.neg, S d.l, .int .i64 d.e]), (w4.heap.size, #[.bool r.neg, S r.l, .int .i64 r.e]), (w3.heap.size, #[.bool n, S (dgs L), .int .i64 e]), (w.heap.size, #[.bool n, .slice a len cap, .int .i64 e])] w' → w'.cell? ⟨w6.heap.size, 0, none⟩ = some (.bool d.neg) ∧ w'.cell? ⟨w6.heap.size, 1, none⟩ = some (S d.l) ∧ w'.cell? ⟨w6.heap.size, 2, none⟩ = some (.int .i64 d.e) ∧ HeldL w [(w6.heap.size, #[.bool d.neg, S d.l, .int .i64 d.e]), (w4.heap.size, #[.bool r.neg, S r.l, .int .i64 r.e]), (w3.heap.size, #[.bool n, S (dgs L), .int .i64 e]), (w.heap.size, #[.bool n, .slice a len cap, .int .i64 e])] w') := Lib.hid (fun w' h => ⟨(h.f (List.Mem.head _)).cell 0, (h.f (List.Mem.head _)).cell 1, (h.f (List.Mem.head _)).cell 2, h⟩)
  have KEEP1 : Hid (∀ w' w'' : World, (w'.cell? ⟨w6.heap.size, 0, none⟩ = some (.bool d.neg) ∧ w'.cell? ⟨w6.heap.size, 1, none⟩ = some (S d.l) ∧ w'.cell? ⟨w6.heap.size, 2, none⟩ = some (.int .i64 d.e) ∧ HeldL w [(w6.heap.size, #[.bool d.neg, S d.l, .int .i64 d.e]), (w4.heap.size, #[.bool r.neg, S r.l, .int .i64 r.e]), (w3.heap.size, #[.bool n, S (dgs L), .int .i64 e]), (w.heap.size, #[.bool n, .slice a len cap, .int .i64 e])] w') → Below w'.heap.size w' w'' → (w''.cell? ⟨w6.heap.size, 0, none⟩ = some (.bool d.neg) ∧ w''.cell? ⟨w6.heap.size, 1, none⟩ = some (S d.l) ∧ w''.cell? ⟨w6.heap.size, 2, none⟩ = some (.int .i64 d.e) ∧ HeldL w [(w6.heap.size, #[.bool d.neg, S d.l, .int .i64 d.e]), (w4.heap.size, #[.bool r.neg, S r.l, .int .i64 r.e]), (w3.heap.size, #[.bool n, S (dgs L), .int .i64 e]), (w.heap.size, #[.bool n, .slice a len cap, .int .i64 e])] w'')) := Lib.hid (fun w' w'' h hb => ALL1.out _ (HeldL.keep (h.2.2.2) hb))
  have HS1 : Hid (HeldL w [(w6.heap.size, #[.bool d.neg, S d.l, .int .i64 d.e]), (w4.heap.size, #[.bool r.neg, S r.l, .int .i64 r.e]), (w3.heap.size, #[.bool n, S (dgs L), .int .i64 e]), (w.heap.size, #[.bool n, .slice a len cap, .int .i64 e])] _) := Lib.hid (HeldL.alloc H6.out (w6.heap.size) #[.bool d.neg, S d.l, .int .i64 d.e] 28 (by simp))
  go_region_held3 (fun w' => w'.cell? ⟨w6.heap.size, 0, none⟩ = some (.bool d.neg) ∧ w'.cell? ⟨w6.heap.size, 1, none⟩ = some (S d.l) ∧ w'.cell? ⟨w6.heap.size, 2, none⟩ = some (.int .i64 d.e) ∧ HeldL w [(w6.heap.size, #[.bool d.neg, S d.l, .int .i64 d.e]), (w4.heap.size, #[.bool r.neg, S r.l, .int .i64 r.e]), (w3.heap.size, #[.bool n, S (dgs L), .int .i64 e]), (w.heap.size, #[.bool n, .slice a len cap, .int .i64 e])] w')
    (first | exact ALL1.out _ (HeldL.drew HS1.out) | exact KEEP1.out _ _ (by assumption) hb | assumption)
    (first | (go_at_call 23; (with_reducible refine (twice_as d t _ ddl HTW.out).mono ?_); rintro x wA ⟨rfl, hb⟩) | (go_at_call 24; (with_reducible refine (unit_as P _ u HU.out).mono ?_); rintro x wB ⟨rfl, hb⟩) | (go_at_call 20; (with_reducible refine (cmp_T t u c1 _ tl ul HC1.out).mono ?_); rintro x wC ⟨rfl, hb⟩) | (go_at_call 24; (with_reducible refine (unit_as P _ u HU.out).mono ?_); rintro x wD ⟨rfl, hb⟩) | (go_at_call 20; (with_reducible refine (cmp_T d u c2 _ ddl ul HC2.out).mono ?_); rintro x wE ⟨rfl, hb⟩))
  have HH : HeldL w [(w6.heap.size, #[.bool d.neg, S d.l, .int .i64 d.e]), (w4.heap.size, #[.bool r.neg, S r.l, .int .i64 r.e]), (w3.heap.size, #[.bool n, S (dgs L), .int .i64 e]), (w.heap.size, #[.bool n, .slice a len cap, .int .i64 e])] wE := (‹wE.cell? ⟨w6.heap.size, 0, none⟩ = some (.bool d.neg) ∧ wE.cell? ⟨w6.heap.size, 1, none⟩ = some (S d.l) ∧ wE.cell? ⟨w6.heap.size, 2, none⟩ = some (.int .i64 d.e) ∧ HeldL w [(w6.heap.size, #[.bool d.neg, S d.l, .int .i64 d.e]), (w4.heap.size, #[.bool r.neg, S r.l, .int .i64 r.e]), (w3.heap.size, #[.bool n, S (dgs L), .int .i64 e]), (w.heap.size, #[.bool n, .slice a len cap, .int .i64 e])] wE›).2.2.2
  clear bx0 bx1 bx2 bxl br0 br1 br2 brl
  have H7 : Hid (HeldL w [(w6.heap.size, #[.bool d.neg, S d.l, .int .i64 d.e]), (w4.heap.size, #[.bool r.neg, S r.l, .int .i64 r.e]), (w3.heap.size, #[.bool n, S (dgs L), .int .i64 e]), (w.heap.size, #[.bool n, .slice a len cap, .int .i64 e])] wE) := Lib.hid HH
  clear HH ALL1 KEEP1 HS1 H6
  have bx0 : wE.cell? ⟨w3.heap.size, 0, none⟩ = some (.bool n) := (H7.out.f (List.Mem.tail _ (List.Mem.tail _ (List.Mem.head _)))).cell 0
  have bx1 : wE.cell? ⟨w3.heap.size, 1, none⟩ = some (S (dgs L)) := (H7.out.f (List.Mem.tail _ (List.Mem.tail _ (List.Mem.head _)))).cell 1
  have bx2 : wE.cell? ⟨w3.heap.size, 2, none⟩ = some (.int .i64 e) := (H7.out.f (List.Mem.tail _ (List.Mem.tail _ (List.Mem.head _)))).cell 2
  have bxl : w3.heap.size < wE.heap.size := (H7.out.f (List.Mem.tail _ (List.Mem.tail _ (List.Mem.head _)))).lt
  go_wp2_with fail
  with_reducible refine (at_T ⟨n, dgs L, e⟩ P 6 lo _ LL HLO.out (HT.out.below H7.out.bel)).mono ?_
  rintro x w8 ⟨rfl, hb⟩
  clear bx0 bx1 bx2 bxl
  have H8 : Hid (HeldL w [(w6.heap.size, #[.bool d.neg, S d.l, .int .i64 d.e]), (w4.heap.size, #[.bool r.neg, S r.l, .int .i64 r.e]), (w3.heap.size, #[.bool n, S (dgs L), .int .i64 e]), (w.heap.size, #[.bool n, .slice a len cap, .int .i64 e])] w8) := Lib.hid (HeldL.keep H7.out hb)
  clear H7
  clear hb
  have bx0 : w8.cell? ⟨w3.heap.size, 0, none⟩ = some (.bool n) := (H8.out.f (List.Mem.tail _ (List.Mem.tail _ (List.Mem.head _)))).cell 0
  have bx1 : w8.cell? ⟨w3.heap.size, 1, none⟩ = some (S (dgs L)) := (H8.out.f (List.Mem.tail _ (List.Mem.tail _ (List.Mem.head _)))).cell 1
  have bx2 : w8.cell? ⟨w3.heap.size, 2, none⟩ = some (.int .i64 e) := (H8.out.f (List.Mem.tail _ (List.Mem.tail _ (List.Mem.head _)))).cell 2
  have bxl : w3.heap.size < w8.heap.size := (H8.out.f (List.Mem.tail _ (List.Mem.tail _ (List.Mem.head _)))).lt
  go_wp2_with fail
  with_reducible refine (at_T ⟨n, dgs L, e⟩ P 5 hi _ LL HHI.out (HT.out.below (HeldL.alloc H8.out (w8.heap.size) #[.bool lo.neg, S lo.l, .int .i64 lo.e] 28 (by simp)).bel)).mono ?_
  rintro x w9 ⟨rfl, hb⟩
  clear bx0 bx1 bx2 bxl
  have H9 : Hid (HeldL w [(w8.heap.size, #[.bool lo.neg, S lo.l, .int .i64 lo.e]), (w6.heap.size, #[.bool d.neg, S d.l, .int .i64 d.e]), (w4.heap.size, #[.bool r.neg, S r.l, .int .i64 r.e]), (w3.heap.size, #[.bool n, S (dgs L), .int .i64 e]), (w.heap.size, #[.bool n, .slice a len cap, .int .i64 e])] w9) := Lib.hid (HeldL.keep (HeldL.alloc H8.out (w8.heap.size) #[.bool lo.neg, S lo.l, .int .i64 lo.e] 28 (by simp)) hb)
  clear H8
  clear hb
  have bx0 : w9.cell? ⟨w3.heap.size, 0, none⟩ = some (.bool n) := (H9.out.f (List.Mem.tail _ (List.Mem.tail _ (List.Mem.tail _ (List.Mem.head _))))).cell 0
  have bx1 : w9.cell? ⟨w3.heap.size, 1, none⟩ = some (S (dgs L)) := (H9.out.f (List.Mem.tail _ (List.Mem.tail _ (List.Mem.tail _ (List.Mem.head _))))).cell 1
  have bx2 : w9.cell? ⟨w3.heap.size, 2, none⟩ = some (.int .i64 e) := (H9.out.f (List.Mem.tail _ (List.Mem.tail _ (List.Mem.tail _ (List.Mem.head _))))).cell 2
  have bxl : w3.heap.size < w9.heap.size := (H9.out.f (List.Mem.tail _ (List.Mem.tail _ (List.Mem.tail _ (List.Mem.head _))))).lt
  have br0 : w9.cell? ⟨w4.heap.size, 0, none⟩ = some (.bool r.neg) := (H9.out.f (List.Mem.tail _ (List.Mem.tail _ (List.Mem.head _)))).cell 0
  have br1 : w9.cell? ⟨w4.heap.size, 1, none⟩ = some (S r.l) := (H9.out.f (List.Mem.tail _ (List.Mem.tail _ (List.Mem.head _)))).cell 1
  have br2 : w9.cell? ⟨w4.heap.size, 2, none⟩ = some (.int .i64 r.e) := (H9.out.f (List.Mem.tail _ (List.Mem.tail _ (List.Mem.head _)))).cell 2
  have brl : w4.heap.size < w9.heap.size := (H9.out.f (List.Mem.tail _ (List.Mem.tail _ (List.Mem.head _)))).lt
  have bo0 : w9.cell? ⟨w8.heap.size, 0, none⟩ = some (.bool lo.neg) := (H9.out.f (List.Mem.head _)).cell 0
  have bo1 : w9.cell? ⟨w8.heap.size, 1, none⟩ = some (S lo.l) := (H9.out.f (List.Mem.head _)).cell 1
  have bo2 : w9.cell? ⟨w8.heap.size, 2, none⟩ = some (.int .i64 lo.e) := (H9.out.f (List.Mem.head _)).cell 2
  have bol : w8.heap.size < w9.heap.size := (H9.out.f (List.Mem.head _)).lt
  go_wp2_with fail
  have ALL2 : Hid (∀ w' : World, HeldL w [(w9.heap.size, #[.bool hi.neg, S hi.l, .int .i64 hi.e]), (w8.heap.size, #[.bool lo.neg, S lo.l, .int .i64 lo.e]), (w6.heap.size, #[.bool d.neg, S d.l, .int .i64 d.e]), (w4.heap.size, #[.bool r.neg, S r.l, .int .i64 r.e]), (w3.heap.size, #[.bool n, S (dgs L), .int .i64 e]), (w.heap.size, #[.bool n, .slice a len cap, .int .i64 e])] w' → w'.cell? ⟨w3.heap.size, 0, none⟩ = some (.bool n) ∧ w'.cell? ⟨w3.heap.size, 1, none⟩ = some (S (dgs L)) ∧ w'.cell? ⟨w3.heap.size, 2, none⟩ = some (.int .i64 e) ∧ w'.cell? ⟨w4.heap.size, 0, none⟩ = some (.bool r.neg) ∧ w'.cell? ⟨w4.heap.size, 1, none⟩ = some (S r.l) ∧ w'.cell? ⟨w4.heap.size, 2, none⟩ = some (.int .i64 r.e) ∧ w'.cell? ⟨w8.heap.size, 0, none⟩ = some (.bool lo.neg) ∧ w'.cell? ⟨w8.heap.size, 1, none⟩ = some (S lo.l) ∧ w'.cell? ⟨w8.heap.size, 2, none⟩ = some (.int .i64 lo.e) ∧ w'.cell? ⟨w9.heap.size, 0, none⟩ = some (.bool hi.neg) ∧ w'.cell? ⟨w9.heap.size, 1, none⟩ = some (S hi.l) ∧ w'.cell? ⟨w9.heap.size, 2, none⟩ = some (.int .i64 hi.e) ∧ HeldL w [(w9.heap.size, #[.bool hi.neg, S hi.l, .int .i64 hi.e]), (w8.heap.size, #[.bool lo.neg, S lo.l, .int .i64 lo.e]), (w6.heap.size, #[.bool d.neg, S d.l, .int .i64 d.e]), (w4.heap.size, #[.bool r.neg, S r.l, .int .i64 r.e]), (w3.heap.size, #[.bool n, S (dgs L), .int .i64 e]), (w.heap.size, #[.bool n, .slice a len cap, .int .i64 e])] w') := Lib.hid (fun w' h => ⟨(h.f (List.Mem.tail _ (List.Mem.tail _ (List.Mem.tail _ (List.Mem.tail _ (List.Mem.head _)))))).cell 0, (h.f (List.Mem.tail _ (List.Mem.tail _ (List.Mem.tail _ (List.Mem.tail _ (List.Mem.head _)))))).cell 1, (h.f (List.Mem.tail _ (List.Mem.tail _ (List.Mem.tail _ (List.Mem.tail _ (List.Mem.head _)))))).cell 2, (h.f (List.Mem.tail _ (List.Mem.tail _ (List.Mem.tail _ (List.Mem.head _))))).cell 0, (h.f (List.Mem.tail _ (List.Mem.tail _ (List.Mem.tail _ (List.Mem.head _))))).cell 1, (h.f (List.Mem.tail _ (List.Mem.tail _ (List.Mem.tail _ (List.Mem.head _))))).cell 2, (h.f (List.Mem.tail _ (List.Mem.head _))).cell 0, (h.f (List.Mem.tail _ (List.Mem.head _))).cell 1, (h.f (List.Mem.tail _ (List.Mem.head _))).cell 2, (h.f (List.Mem.head _)).cell 0, (h.f (List.Mem.head _)).cell 1, (h.f (List.Mem.head _)).cell 2, h⟩)
  have KEEP2 : Hid (∀ w' w'' : World, (w'.cell? ⟨w3.heap.size, 0, none⟩ = some (.bool n) ∧ w'.cell? ⟨w3.heap.size, 1, none⟩ = some (S (dgs L)) ∧ w'.cell? ⟨w3.heap.size, 2, none⟩ = some (.int .i64 e) ∧ w'.cell? ⟨w4.heap.size, 0, none⟩ = some (.bool r.neg) ∧ w'.cell? ⟨w4.heap.size, 1, none⟩ = some (S r.l) ∧ w'.cell? ⟨w4.heap.size, 2, none⟩ = some (.int .i64 r.e) ∧ w'.cell? ⟨w8.heap.size, 0, none⟩ = some (.bool lo.neg) ∧ w'.cell? ⟨w8.heap.size, 1, none⟩ = some (S lo.l) ∧ w'.cell? ⟨w8.heap.size, 2, none⟩ = some (.int .i64 lo.e) ∧ w'.cell? ⟨w9.heap.size, 0, none⟩ = some (.bool hi.neg) ∧ w'.cell? ⟨w9.heap.size, 1, none⟩ = some (S hi.l) ∧ w'.cell? ⟨w9.heap.size, 2, none⟩ = some (.int .i64 hi.e) ∧ HeldL w [(w9.heap.size, #[.bool hi.neg, S hi.l, .int .i64 hi.e]), (w8.heap.size, #[.bool lo.neg, S lo.l, .int .i64 lo.e]), (w6.heap.size, #[.bool d.neg, S d.l, .int .i64 d.e]), (w4.heap.size, #[.bool r.neg, S r.l, .int .i64 r.e]), (w3.heap.size, #[.bool n, S (dgs L), .int .i64 e]), (w.heap.size, #[.bool n, .slice a len cap, .int .i64 e])] w') → Below w'.heap.size w' w'' → (w''.cell? ⟨w3.heap.size, 0, none⟩ = some (.bool n) ∧ w''.cell? ⟨w3.heap.size, 1, none⟩ = some (S (dgs L)) ∧ w''.cell? ⟨w3.heap.size, 2, none⟩ = some (.int .i64 e) ∧ w''.cell? ⟨w4.heap.size, 0, none⟩ = some (.bool r.neg) ∧ w''.cell? ⟨w4.heap.size, 1, none⟩ = some (S r.l) ∧ w''.cell? ⟨w4.heap.size, 2, none⟩ = some (.int .i64 r.e) ∧ w''.cell? ⟨w8.heap.size, 0, none⟩ = some (.bool lo.neg) ∧ w''.cell? ⟨w8.heap.size, 1, none⟩ = some (S lo.l) ∧ w''.cell? ⟨w8.heap.size, 2, none⟩ = some (.int .i64 lo.e) ∧ w''.cell? ⟨w9.heap.size, 0, none⟩ = some (.bool hi.neg) ∧ w''.cell? ⟨w9.heap.size, 1, none⟩ = some (S hi.l) ∧ w''.cell? ⟨w9.heap.size, 2, none⟩ = some (.int .i64 hi.e) ∧ HeldL w [(w9.heap.size, #[.bool hi.neg, S hi.l, .int .i64 hi.e]), (w8.heap.size, #[.bool lo.neg, S lo.l, .int .i64 lo.e]), (w6.heap.size, #[.bool d.neg, S d.l, .int .i64 d.e]), (w4.heap.size, #[.bool r.neg, S r.l, .int .i64 r.e]), (w3.heap.size, #[.bool n, S (dgs L), .int .i64 e]), (w.heap.size, #[.bool n, .slice a len cap, .int .i64 e])] w'')) := Lib.hid (fun w' w'' h hb => ALL2.out _ (HeldL.keep (h.2.2.2.2.2.2.2.2.2.2.2.2) hb))
  have HS2 : Hid (HeldL w [(w9.heap.size, #[.bool hi.neg, S hi.l, .int .i64 hi.e]), (w8.heap.size, #[.bool lo.neg, S lo.l, .int .i64 lo.e]), (w6.heap.size, #[.bool d.neg, S d.l, .int .i64 d.e]), (w4.heap.size, #[.bool r.neg, S r.l, .int .i64 r.e]), (w3.heap.size, #[.bool n, S (dgs L), .int .i64 e]), (w.heap.size, #[.bool n, .slice a len cap, .int .i64 e])] _) := Lib.hid (HeldL.alloc H9.out (w9.heap.size) #[.bool hi.neg, S hi.l, .int .i64 hi.e] 28 (by simp))
  have TAB2 : Hid (∀ w' : World, (w'.cell? ⟨w3.heap.size, 0, none⟩ = some (.bool n) ∧ w'.cell? ⟨w3.heap.size, 1, none⟩ = some (S (dgs L)) ∧ w'.cell? ⟨w3.heap.size, 2, none⟩ = some (.int .i64 e) ∧ w'.cell? ⟨w4.heap.size, 0, none⟩ = some (.bool r.neg) ∧ w'.cell? ⟨w4.heap.size, 1, none⟩ = some (S r.l) ∧ w'.cell? ⟨w4.heap.size, 2, none⟩ = some (.int .i64 r.e) ∧ w'.cell? ⟨w8.heap.size, 0, none⟩ = some (.bool lo.neg) ∧ w'.cell? ⟨w8.heap.size, 1, none⟩ = some (S lo.l) ∧ w'.cell? ⟨w8.heap.size, 2, none⟩ = some (.int .i64 lo.e) ∧ w'.cell? ⟨w9.heap.size, 0, none⟩ = some (.bool hi.neg) ∧ w'.cell? ⟨w9.heap.size, 1, none⟩ = some (S hi.l) ∧ w'.cell? ⟨w9.heap.size, 2, none⟩ = some (.int .i64 hi.e) ∧ HeldL w [(w9.heap.size, #[.bool hi.neg, S hi.l, .int .i64 hi.e]), (w8.heap.size, #[.bool lo.neg, S lo.l, .int .i64 lo.e]), (w6.heap.size, #[.bool d.neg, S d.l, .int .i64 d.e]), (w4.heap.size, #[.bool r.neg, S r.l, .int .i64 r.e]), (w3.heap.size, #[.bool n, S (dgs L), .int .i64 e]), (w.heap.size, #[.bool n, .slice a len cap, .int .i64 e])] w') → Tab w') := Lib.hid (fun w' h => HT.out.below (h.2.2.2.2.2.2.2.2.2.2.2.2).bel)
  go_region_held3 (fun w' => w'.cell? ⟨w3.heap.size, 0, none⟩ = some (.bool n) ∧ w'.cell? ⟨w3.heap.size, 1, none⟩ = some (S (dgs L)) ∧ w'.cell? ⟨w3.heap.size, 2, none⟩ = some (.int .i64 e) ∧ w'.cell? ⟨w4.heap.size, 0, none⟩ = some (.bool r.neg) ∧ w'.cell? ⟨w4.heap.size, 1, none⟩ = some (S r.l) ∧ w'.cell? ⟨w4.heap.size, 2, none⟩ = some (.int .i64 r.e) ∧ w'.cell? ⟨w8.heap.size, 0, none⟩ = some (.bool lo.neg) ∧ w'.cell? ⟨w8.heap.size, 1, none⟩ = some (S lo.l) ∧ w'.cell? ⟨w8.heap.size, 2, none⟩ = some (.int .i64 lo.e) ∧ w'.cell? ⟨w9.heap.size, 0, none⟩ = some (.bool hi.neg) ∧ w'.cell? ⟨w9.heap.size, 1, none⟩ = some (S hi.l) ∧ w'.cell? ⟨w9.heap.size, 2, none⟩ = some (.int .i64 hi.e) ∧ HeldL w [(w9.heap.size, #[.bool hi.neg, S hi.l, .int .i64 hi.e]), (w8.heap.size, #[.bool lo.neg, S lo.l, .int .i64 lo.e]), (w6.heap.size, #[.bool d.neg, S d.l, .int .i64 d.e]), (w4.heap.size, #[.bool r.neg, S r.l, .int .i64 r.e]), (w3.heap.size, #[.bool n, S (dgs L), .int .i64 e]), (w.heap.size, #[.bool n, .slice a len cap, .int .i64 e])] w')
    (first | exact ALL2.out _ (HeldL.drew HS2.out) | exact KEEP2.out _ _ (by assumption) hb | assumption)
    (first | (go_at_call 18; (with_reducible refine (minus_T ⟨n, dgs L, e⟩ y _ LL HY.out).mono ?_); rintro x wF ⟨rfl, hb⟩) | (go_at_call 25; (with_reducible refine (turned_as M _ m0 m6).mono ?_); rintro x wz ⟨rfl, rfl⟩) | (go_at_call 15; (with_reducible refine (at_T y P (turn M) s _ yl HSA.out (by first | exact HT.out.below HS2.out.bel.drew | exact TAB2.out _ (by assumption))).mono ?_); rintro x wG ⟨rfl, hb⟩) | (go_at_call 18; (with_reducible refine (minus_T r s _ rl HSB.out).mono ?_); rintro x wH ⟨rfl, hb⟩) | (go_at_call 20; (with_reducible refine (cmp_T lo ⟨n, dgs L, e⟩ c3 _ lol LL HC3.out).mono ?_); rintro x wI ⟨rfl, hb⟩) | (go_at_call 20; (with_reducible refine (cmp_T ⟨n, dgs L, e⟩ hi c4 _ LL hil HC4.out).mono ?_); rintro x wJ ⟨rfl, hb⟩))
  have HH : HeldL w [(w9.heap.size, #[.bool hi.neg, S hi.l, .int .i64 hi.e]), (w8.heap.size, #[.bool lo.neg, S lo.l, .int .i64 lo.e]), (w6.heap.size, #[.bool d.neg, S d.l, .int .i64 d.e]), (w4.heap.size, #[.bool r.neg, S r.l, .int .i64 r.e]), (w3.heap.size, #[.bool n, S (dgs L), .int .i64 e]), (w.heap.size, #[.bool n, .slice a len cap, .int .i64 e])] wJ := (‹wJ.cell? ⟨w3.heap.size, 0, none⟩ = some (.bool n) ∧ wJ.cell? ⟨w3.heap.size, 1, none⟩ = some (S (dgs L)) ∧ wJ.cell? ⟨w3.heap.size, 2, none⟩ = some (.int .i64 e) ∧ wJ.cell? ⟨w4.heap.size, 0, none⟩ = some (.bool r.neg) ∧ wJ.cell? ⟨w4.heap.size, 1, none⟩ = some (S r.l) ∧ wJ.cell? ⟨w4.heap.size, 2, none⟩ = some (.int .i64 r.e) ∧ wJ.cell? ⟨w8.heap.size, 0, none⟩ = some (.bool lo.neg) ∧ wJ.cell? ⟨w8.heap.size, 1, none⟩ = some (S lo.l) ∧ wJ.cell? ⟨w8.heap.size, 2, none⟩ = some (.int .i64 lo.e) ∧ wJ.cell? ⟨w9.heap.size, 0, none⟩ = some (.bool hi.neg) ∧ wJ.cell? ⟨w9.heap.size, 1, none⟩ = some (S hi.l) ∧ wJ.cell? ⟨w9.heap.size, 2, none⟩ = some (.int .i64 hi.e) ∧ HeldL w [(w9.heap.size, #[.bool hi.neg, S hi.l, .int .i64 hi.e]), (w8.heap.size, #[.bool lo.neg, S lo.l, .int .i64 lo.e]), (w6.heap.size, #[.bool d.neg, S d.l, .int .i64 d.e]), (w4.heap.size, #[.bool r.neg, S r.l, .int .i64 r.e]), (w3.heap.size, #[.bool n, S (dgs L), .int .i64 e]), (w.heap.size, #[.bool n, .slice a len cap, .int .i64 e])] wJ›).2.2.2.2.2.2.2.2.2.2.2.2
  clear bx0 bx1 bx2 bxl br0 br1 br2 brl bo0 bo1 bo2 bol
  have H10 : Hid (HeldL w [(w9.heap.size, #[.bool hi.neg, S hi.l, .int .i64 hi.e]), (w8.heap.size, #[.bool lo.neg, S lo.l, .int .i64 lo.e]), (w6.heap.size, #[.bool d.neg, S d.l, .int .i64 d.e]), (w4.heap.size, #[.bool r.neg, S r.l, .int .i64 r.e]), (w3.heap.size, #[.bool n, S (dgs L), .int .i64 e]), (w.heap.size, #[.bool n, .slice a len cap, .int .i64 e])] wJ) := Lib.hid HH
  clear HH ALL2 KEEP2 HS2 TAB2 H9
  go_wp2
  go_ret
  exact ⟨rfl, H10.out.bel⟩

end Go.Proofs.YtfbfjkacaadbpaaDoor

namespace Go.Proofs.YtfbfjkacaadbpaaDoor
open Go.RowKit Florin
set_option linter.unusedVariables false
set_option linter.unusedSimpArgs false
attribute [local go_sem ↓] Go.wp_at_zero Go.wp_at_succ eq_V ne_V

set_option maxRecDepth 100000 in
set_option maxHeartbeats 6400000 in
theorem signs_nl (n : Bool) (a : Option Addr) (len cap : Nat) (L : List UInt8) (e : Int) (pl mo : Int) (w : World) (hin : InB w a len cap L) (htab : Tab w) (h1 : len ≤ 40) (h2 : -40 ≤ e) (h3 : e ≤ 40)
    (P M : Int) (hP : wrap64 (pl.tmod 60 - wrap64 ((pl.tmod 60).tdiv 2)) = P) (m0 : 0 ≤ M) (m6 : M ≤ 6) (hM : ∀ w : World, Calls Tryd.prog 19 #[.int .i64 mo] w fun x w' => x = .returned (.int .i64 M) ∧ w = w')
    (r df d t u lo hi y s : Tri) (hr : mulT (made n (dgs L) e) 1 (hld P) M = r) (hdf : SubIs ⟨n, dgs L, e⟩ r df) (hd : made false df.l df.e = d) (hu : made false [49] P = u) (c1 c2 : Int) (hc2 : CmpIs d u c2) (c2n : c2 < 0)
    (hlo : mulT (made n (dgs L) e) 1 (hld P) 6 = lo) (hhi : mulT (made n (dgs L) e) 1 (hld P) 5 = hi) (hy : made (!n) (dgs L) e = y) (hs : mulT (made y.neg y.l y.e) 1 (hld P) (turn M) = s) (hs2 : made (!r.neg) r.l r.e = s) (c3 c4 : Int) (hc3 : CmpIs lo ⟨n, dgs L, e⟩ c3) (c3n : c3 ≤ 0) (hc4 : CmpIs ⟨n, dgs L, e⟩ hi c4) (c4n : c4 ≤ 0)
    (rl : r.l.length ≤ 100000) (dfl : df.l.length ≤ 100000) (ddl : d.l.length ≤ 100000) (ul : u.l.length ≤ 100000) (lol : lo.l.length ≤ 100000) (hil : hi.l.length ≤ 100000) (yl : y.l.length ≤ 100000) (m2 : 2 < M) (elo : r = lo) :
    Calls Tryd.prog 5 #[RV n a len cap e, .int .i64 pl, .int .i64 mo] w fun x w' => x = .returned (.bool true) ∧ Below w.heap.size w w' := by
  have LL : (dgs L).length ≤ 100000 := by rw [dgs_length, hin.1]; omega
  have hcA := hin.2.1
  have hmA := hin.2.2.1
  have HP := Lib.hid hP
  have HMO := Lib.hid hM
  have HR := Lib.hid hr
  have HDF := Lib.hid hdf
  have HD := Lib.hid hd
  have HU := Lib.hid hu
  have HC2 := Lib.hid hc2
  have HLO := Lib.hid hlo
  have HHI := Lib.hid hhi
  have HY := Lib.hid hy
  have HSA := Lib.hid hs
  have HSB := Lib.hid hs2
  have HC3 := Lib.hid hc3
  have HC4 := Lib.hid hc4
  have HT := Lib.hid htab
  have HIN := Lib.hid hin
  clear hP hM hr hdf hd hu hc2 hlo hhi hy hs hs2 hc3 hc4 htab hin
  have cb2 : decide (0 ≤ c2) = false := by simp; omega
  have cb3 : decide (c3 ≤ 0) = true := by simp; omega
  have cb4 : decide (c4 ≤ 0) = true := by simp; omega
  have mb : decide (M ≤ 2) = false := by simp; omega
  have eb : decide (r = lo) = true := by simp [elo]
  clear elo
  go_enter Tryd.func5, Tryd.ntmps5
  go_wp2_with fail
  with_reducible refine (head3 _ (HT.out.below (HeldL.alloc (HeldL.refl w) (w.heap.size) #[.bool n, .slice a len cap, .int .i64 e] 24 (by simp)).bel)).mono ?_
  rintro x w1 ⟨rfl, hb⟩
  have H1 : Hid (HeldL w [(w.heap.size, #[.bool n, .slice a len cap, .int .i64 e])] w1) := Lib.hid (HeldL.keep (HeldL.alloc (HeldL.refl w) (w.heap.size) #[.bool n, .slice a len cap, .int .i64 e] 24 (by simp)) hb)
  clear hb
  have q0 : w1.cell? ⟨w.heap.size, 0, none⟩ = some (.bool n) := (H1.out.f (List.Mem.head _)).cell 0
  have q1 : w1.cell? ⟨w.heap.size, 1, none⟩ = some (.slice a len cap) := (H1.out.f (List.Mem.head _)).cell 1
  have q2 : w1.cell? ⟨w.heap.size, 2, none⟩ = some (.int .i64 e) := (H1.out.f (List.Mem.head _)).cell 2
  have ql : w.heap.size < w1.heap.size := (H1.out.f (List.Mem.head _)).lt
  go_wp2_with fail
  with_reducible refine (few_yes n a len cap e 40 _ hcA hmA (by decide) (by decide) (by omega) h2 h3).mono ?_
  rintro x w2 ⟨rfl, hb⟩
  clear q0 q1 q2 ql
  have H2 : Hid (HeldL w [(w.heap.size, #[.bool n, .slice a len cap, .int .i64 e])] w2) := Lib.hid (HeldL.keep H1.out hb)
  clear H1
  clear hb
  have q0 : w2.cell? ⟨w.heap.size, 0, none⟩ = some (.bool n) := (H2.out.f (List.Mem.head _)).cell 0
  have q1 : w2.cell? ⟨w.heap.size, 1, none⟩ = some (.slice a len cap) := (H2.out.f (List.Mem.head _)).cell 1
  have q2 : w2.cell? ⟨w.heap.size, 2, none⟩ = some (.int .i64 e) := (H2.out.f (List.Mem.head _)).cell 2
  have ql : w.heap.size < w2.heap.size := (H2.out.f (List.Mem.head _)).lt
  go_wp2_with fail
  rw [HP.out]
  with_reducible refine (HMO.out _).mono ?_
  rintro x wz ⟨rfl, rfl⟩
  go_wp2_with fail
  with_reducible refine (make_as n a len cap L e _ (HIN.out.below H2.out.bel) (by omega)).mono ?_
  rintro x w3 ⟨rfl, hb⟩
  clear q0 q1 q2 ql
  have H3 : Hid (HeldL w [(w.heap.size, #[.bool n, .slice a len cap, .int .i64 e])] w3) := Lib.hid (HeldL.keep H2.out hb)
  clear H2
  clear hb
  go_wp2_with fail
  with_reducible refine (at_T ⟨n, dgs L, e⟩ P M r _ LL HR.out (HT.out.below (HeldL.alloc H3.out (w3.heap.size) #[.bool n, S (dgs L), .int .i64 e] 28 (by simp)).bel)).mono ?_
  rintro x w4 ⟨rfl, hb⟩
  have H4 : Hid (HeldL w [(w3.heap.size, #[.bool n, S (dgs L), .int .i64 e]), (w.heap.size, #[.bool n, .slice a len cap, .int .i64 e])] w4) := Lib.hid (HeldL.keep (HeldL.alloc H3.out (w3.heap.size) #[.bool n, S (dgs L), .int .i64 e] 28 (by simp)) hb)
  clear H3
  clear hb
  have bx0 : w4.cell? ⟨w3.heap.size, 0, none⟩ = some (.bool n) := (H4.out.f (List.Mem.head _)).cell 0
  have bx1 : w4.cell? ⟨w3.heap.size, 1, none⟩ = some (S (dgs L)) := (H4.out.f (List.Mem.head _)).cell 1
  have bx2 : w4.cell? ⟨w3.heap.size, 2, none⟩ = some (.int .i64 e) := (H4.out.f (List.Mem.head _)).cell 2
  have bxl : w3.heap.size < w4.heap.size := (H4.out.f (List.Mem.head _)).lt
  go_wp2_with fail
  with_reducible refine (sub_T ⟨n, dgs L, e⟩ r df _ LL rl HDF.out).mono ?_
  rintro x w5 ⟨rfl, hb⟩
  clear bx0 bx1 bx2 bxl
  have H5 : Hid (HeldL w [(w4.heap.size, #[.bool r.neg, S r.l, .int .i64 r.e]), (w3.heap.size, #[.bool n, S (dgs L), .int .i64 e]), (w.heap.size, #[.bool n, .slice a len cap, .int .i64 e])] w5) := Lib.hid (HeldL.keep (HeldL.alloc H4.out (w4.heap.size) #[.bool r.neg, S r.l, .int .i64 r.e] 28 (by simp)) hb)
  clear H4
  clear hb
  go_wp2_with fail
  with_reducible refine (abs_T df d _ dfl HD.out).mono ?_
  rintro x w6 ⟨rfl, hb⟩
  have H6 : Hid (HeldL w [(w4.heap.size, #[.bool r.neg, S r.l, .int .i64 r.e]), (w3.heap.size, #[.bool n, S (dgs L), .int .i64 e]), (w.heap.size, #[.bool n, .slice a len cap, .int .i64 e])] w6) := Lib.hid (HeldL.keep H5.out hb)
  clear H5
  clear hb
  have bx0 : w6.cell? ⟨w3.heap.size, 0, none⟩ = some (.bool n) := (H6.out.f (List.Mem.tail _ (List.Mem.head _))).cell 0
  have bx1 : w6.cell? ⟨w3.heap.size, 1, none⟩ = some (S (dgs L)) := (H6.out.f (List.Mem.tail _ (List.Mem.head _))).cell 1
  have bx2 : w6.cell? ⟨w3.heap.size, 2, none⟩ = some (.int .i64 e) := (H6.out.f (List.Mem.tail _ (List.Mem.head _))).cell 2
  have bxl : w3.heap.size < w6.heap.size := (H6.out.f (List.Mem.tail _ (List.Mem.head _))).lt
  have br0 : w6.cell? ⟨w4.heap.size, 0, none⟩ = some (.bool r.neg) := (H6.out.f (List.Mem.head _)).cell 0
  have br1 : w6.cell? ⟨w4.heap.size, 1, none⟩ = some (S r.l) := (H6.out.f (List.Mem.head _)).cell 1
  have br2 : w6.cell? ⟨w4.heap.size, 2, none⟩ = some (.int .i64 r.e) := (H6.out.f (List.Mem.head _)).cell 2
  have brl : w4.heap.size < w6.heap.size := (H6.out.f (List.Mem.head _)).lt
  go_wp2_with fail
  have ALL1 : Hid (∀ w' : World, HeldL w [(w6.heap.size, #[.bool d.neg, S d.l, .int .i64 d.e]), (w4.heap.size, #[.bool r.neg, S r.l, .int .i64 r.e]), (w3.heap.size, #[.bool n, S (dgs L), .int .i64 e]), (w.heap.size, #[.bool n, .slice a len cap, .int .i64 e])] w' → w'.cell? ⟨w6.heap.size, 0, none⟩ = some (.bool d.neg) ∧ w'.cell? ⟨w6.heap.size, 1, none⟩ = some (S d.l) ∧ w'.cell? ⟨w6.heap.size, 2, none⟩ = some (.int .i64 d.e) ∧ HeldL w [(w6.heap.size, #[.bool d.neg, S d.l, .int .i64 d.e]), (w4.heap.size, #[.bool r.neg, S r.l, .int .i64 r.e]), (w3.heap.size, #[.bool n, S (dgs L), .int .i64 e]), (w.heap.size, #[.bool n, .slice a len cap, .int .i64 e])] w') := Lib.hid (fun w' h => ⟨(h.f (List.Mem.head _)).cell 0, (h.f (List.Mem.head _)).cell 1, (h.f (List.Mem.head _)).cell 2, h⟩)
  have KEEP1 : Hid (∀ w' w'' : World, (w'.cell? ⟨w6.heap.size, 0, none⟩ = some (.bool d.neg) ∧ w'.cell? ⟨w6.heap.size, 1, none⟩ = some (S d.l) ∧ w'.cell? ⟨w6.heap.size, 2, none⟩ = some (.int .i64 d.e) ∧ HeldL w [(w6.heap.size, #[.bool d.neg, S d.l, .int .i64 d.e]), (w4.heap.size, #[.bool r.neg, S r.l, .int .i64 r.e]), (w3.heap.size, #[.bool n, S (dgs L), .int .i64 e]), (w.heap.size, #[.bool n, .slice a len cap, .int .i64 e])] w') → Below w'.heap.size w' w'' → (w''.cell? ⟨w6.heap.size, 0, none⟩ = some (.bool d.neg) ∧ w''.cell? ⟨w6.heap.size, 1, none⟩ = some (S d.l) ∧ w''.cell? ⟨w6.heap.size, 2, none⟩ = some (.int .i64 d.e) ∧ HeldL w [(w6.heap.size, #[.bool d.neg, S d.l, .int .i64 d.e]), (w4.heap.size, #[.bool r.neg, S r.l, .int .i64 r.e]), (w3.heap.size, #[.bool n, S (dgs L), .int .i64 e]), (w.heap.size, #[.bool n, .slice a len cap, .int .i64 e])] w'')) := Lib.hid (fun w' w'' h hb => ALL1.out _ (HeldL.keep (h.2.2.2) hb))
  have HS1 : Hid (HeldL w [(w6.heap.size, #[.bool d.neg, S d.l, .int .i64 d.e]), (w4.heap.size, #[.bool r.neg, S r.l, .int .i64 r.e]), (w3.heap.size, #[.bool n, S (dgs L), .int .i64 e]), (w.heap.size, #[.bool n, .slice a len cap, .int .i64 e])] _) := Lib.hid (HeldL.alloc H6.out (w6.heap.size) #[.bool d.neg, S d.l, .int .i64 d.e] 28 (by simp))
  have TAB1 : Hid (∀ w' : World, (w'.cell? ⟨w6.heap.size, 0, none⟩ = some (.bool d.neg) ∧ w'.cell? ⟨w6.heap.size, 1, none⟩ = some (S d.l) ∧ w'.cell? ⟨w6.heap.size, 2, none⟩ = some (.int .i64 d.e) ∧ HeldL w [(w6.heap.size, #[.bool d.neg, S d.l, .int .i64 d.e]), (w4.heap.size, #[.bool r.neg, S r.l, .int .i64 r.e]), (w3.heap.size, #[.bool n, S (dgs L), .int .i64 e]), (w.heap.size, #[.bool n, .slice a len cap, .int .i64 e])] w') → Tab w') := Lib.hid (fun w' h => HT.out.below (h.2.2.2).bel)
  refine wp_region_held_drew (S := fun w' => w'.cell? ⟨w6.heap.size, 0, none⟩ = some (.bool d.neg) ∧ w'.cell? ⟨w6.heap.size, 1, none⟩ = some (S d.l) ∧ w'.cell? ⟨w6.heap.size, 2, none⟩ = some (.int .i64 d.e) ∧ HeldL w [(w6.heap.size, #[.bool d.neg, S d.l, .int .i64 d.e]), (w4.heap.size, #[.bool r.neg, S r.l, .int .i64 r.e]), (w3.heap.size, #[.bool n, S (dgs L), .int .i64 e]), (w.heap.size, #[.bool n, .slice a len cap, .int .i64 e])] w') (by kernel_rfl) (ALL1.out _ (HeldL.drew HS1.out)) (fun hHeld => ?_)
  refine wpAnyH_take (i := 0) (oi := { dst := some 36, op := Go.Op.move (Go.Operand.tmp 7), type := 30, pos := "law.go:209", after := #[], guard := none }) (v := ?_) rfl (by kernel_rfl) (by kernel_rfl) (by kernel_rfl) (fun _ _ _ h => h) (Or.inl ⟨by rfl, ?_⟩) hHeld ?_
  case refine_2 => (intro w hSw; (try dsimp only at hSw); go_simp <;> with_reducible rfl)
  try simp only [Act.put, List.setIfInBounds_toArray, List.set_cons_zero, List.set_cons_succ]
  refine wpAnyH_take (i := 1) (oi := { dst := some 37, op := Go.Op.binOp Go.BinOp.leq 30 (Go.Operand.tmp 36) (Go.Operand.const (Go.Value.int Go.IntKind.i64 2)) 30, type := 4, pos := "law.go:209", after := #[{ on := 0, ground := Go.Ground.data }], guard := none }) (v := ?_) rfl (by kernel_rfl) (by kernel_rfl) (by kernel_rfl) (fun _ _ _ h => h) (Or.inl ⟨by rfl, ?_⟩) hHeld ?_
  case refine_2 => (intro w hSw; (try dsimp only at hSw); go_simp <;> with_reducible rfl)
  try simp only [Act.put, List.setIfInBounds_toArray, List.set_cons_zero, List.set_cons_succ]
  refine wpAnyH_take (i := 2) (oi := { dst := some 38, op := Go.Op.move (Go.Operand.tmp 37), type := 4, pos := "law.go:209", after := #[{ on := 1, ground := Go.Ground.data }], guard := none }) (v := ?_) rfl (by kernel_rfl) (by kernel_rfl) (by kernel_rfl) (fun _ _ _ h => h) (Or.inl ⟨by rfl, ?_⟩) hHeld ?_
  case refine_2 => (intro w hSw; (try dsimp only at hSw); go_simp <;> with_reducible rfl)
  try simp only [Act.put, List.setIfInBounds_toArray, List.set_cons_zero, List.set_cons_succ]
  refine wpAnyH_take (i := 3) (oi := { dst := some 39, op := Go.Op.load 28 (Go.Operand.tmp 10), type := 28, pos := "law.go:209", after := #[{ on := 2, ground := Go.Ground.guard }], guard := some (2, true) }) (v := undef) rfl (by kernel_rfl) (by kernel_rfl) (by kernel_rfl) (fun _ _ _ h => h) (Or.inr ⟨by rfl, rfl⟩) hHeld ?_
  try simp only [Act.put, List.setIfInBounds_toArray, List.set_cons_zero, List.set_cons_succ]
  refine wpAnyH_take (i := 4) (oi := { dst := some 40, op := Go.Op.call { callee := Go.Callee.value (Go.Operand.func 23), args := #[Go.Operand.tmp 39], argTypes := #[28] }, type := 28, pos := "law.go:209", after := #[{ on := 3, ground := Go.Ground.data }, { on := 2, ground := Go.Ground.chain }, { on := 2, ground := Go.Ground.guard }], guard := some (2, true) }) (v := undef) rfl (by kernel_rfl) (by kernel_rfl) (by kernel_rfl) (fun _ _ _ h => h) (Or.inr ⟨by rfl, rfl⟩) hHeld ?_
  try simp only [Act.put, List.setIfInBounds_toArray, List.set_cons_zero, List.set_cons_succ]
  refine wpAnyH_take (i := 5) (oi := { dst := some 41, op := Go.Op.move (Go.Operand.tmp 1), type := 3, pos := "law.go:209", after := #[{ on := 2, ground := Go.Ground.guard }], guard := some (2, true) }) (v := undef) rfl (by kernel_rfl) (by kernel_rfl) (by kernel_rfl) (fun _ _ _ h => h) (Or.inr ⟨by rfl, rfl⟩) hHeld ?_
  try simp only [Act.put, List.setIfInBounds_toArray, List.set_cons_zero, List.set_cons_succ]
  refine wpAnyH_take (i := 6) (oi := { dst := some 42, op := Go.Op.call { callee := Go.Callee.value (Go.Operand.func 24), args := #[Go.Operand.tmp 41], argTypes := #[3] }, type := 28, pos := "law.go:209", after := #[{ on := 5, ground := Go.Ground.data }, { on := 4, ground := Go.Ground.chain }, { on := 2, ground := Go.Ground.guard }], guard := some (2, true) }) (v := undef) rfl (by kernel_rfl) (by kernel_rfl) (by kernel_rfl) (fun _ _ _ h => h) (Or.inr ⟨by rfl, rfl⟩) hHeld ?_
  try simp only [Act.put, List.setIfInBounds_toArray, List.set_cons_zero, List.set_cons_succ]
  refine wpAnyH_take (i := 7) (oi := { dst := some 43, op := Go.Op.call { callee := Go.Callee.value (Go.Operand.func 20), args := #[Go.Operand.tmp 40, Go.Operand.tmp 42], argTypes := #[28, 28] }, type := 3, pos := "law.go:209", after := #[{ on := 4, ground := Go.Ground.data }, { on := 6, ground := Go.Ground.data }, { on := 6, ground := Go.Ground.chain }, { on := 2, ground := Go.Ground.guard }], guard := some (2, true) }) (v := undef) rfl (by kernel_rfl) (by kernel_rfl) (by kernel_rfl) (fun _ _ _ h => h) (Or.inr ⟨by rfl, rfl⟩) hHeld ?_
  try simp only [Act.put, List.setIfInBounds_toArray, List.set_cons_zero, List.set_cons_succ]
  refine wpAnyH_take (i := 8) (oi := { dst := some 44, op := Go.Op.binOp Go.BinOp.gtr 3 (Go.Operand.tmp 43) (Go.Operand.const (Go.Value.int Go.IntKind.i64 0)) 3, type := 4, pos := "law.go:209", after := #[{ on := 7, ground := Go.Ground.data }, { on := 2, ground := Go.Ground.guard }], guard := some (2, true) }) (v := undef) rfl (by kernel_rfl) (by kernel_rfl) (by kernel_rfl) (fun _ _ _ h => h) (Or.inr ⟨by rfl, rfl⟩) hHeld ?_
  try simp only [Act.put, List.setIfInBounds_toArray, List.set_cons_zero, List.set_cons_succ]
  refine wpAnyH_take (i := 9) (oi := { dst := some 45, op := Go.Op.pick (Go.Operand.tmp 38) (Go.Operand.tmp 44) (Go.Operand.const (Go.Value.bool false)), type := 4, pos := "law.go:209", after := #[{ on := 2, ground := Go.Ground.data }, { on := 8, ground := Go.Ground.data }], guard := none }) (v := ?_) rfl (by kernel_rfl) (by kernel_rfl) (by kernel_rfl) (fun _ _ _ h => h) (Or.inl ⟨by rfl, ?_⟩) hHeld ?_
  case refine_2 => (intro w hSw; (try dsimp only at hSw); go_simp <;> with_reducible rfl)
  try simp only [Act.put, List.setIfInBounds_toArray, List.set_cons_zero, List.set_cons_succ]
  refine wpAnyH_take (i := 10) (oi := { dst := some 46, op := Go.Op.move (Go.Operand.tmp 45), type := 4, pos := "law.go:209", after := #[{ on := 9, ground := Go.Ground.data }, { on := 7, ground := Go.Ground.chain }], guard := none }) (v := ?_) rfl (by kernel_rfl) (by kernel_rfl) (by kernel_rfl) (fun _ _ _ h => h) (Or.inl ⟨by rfl, ?_⟩) hHeld ?_
  case refine_2 => (intro w hSw; (try dsimp only at hSw); go_simp <;> with_reducible rfl)
  try simp only [Act.put, List.setIfInBounds_toArray, List.set_cons_zero, List.set_cons_succ]
  refine wpAnyH_take (i := 11) (oi := { dst := some 47, op := Go.Op.load 28 (Go.Operand.tmp 10), type := 28, pos := "law.go:209", after := #[{ on := 10, ground := Go.Ground.guard }], guard := some (10, false) }) (v := ?_) rfl (by kernel_rfl) (by kernel_rfl) (by kernel_rfl) (fun _ _ _ h => h) (Or.inl ⟨by rfl, ?_⟩) hHeld ?_
  case refine_2 => (intro w hSw; (try dsimp only at hSw); go_simp <;> with_reducible rfl)
  try simp only [Act.put, List.setIfInBounds_toArray, List.set_cons_zero, List.set_cons_succ]
  refine wpAnyH_take (i := 12) (oi := { dst := some 48, op := Go.Op.move (Go.Operand.tmp 1), type := 3, pos := "law.go:209", after := #[{ on := 10, ground := Go.Ground.guard }], guard := some (10, false) }) (v := ?_) rfl (by kernel_rfl) (by kernel_rfl) (by kernel_rfl) (fun _ _ _ h => h) (Or.inl ⟨by rfl, ?_⟩) hHeld ?_
  case refine_2 => (intro w hSw; (try dsimp only at hSw); go_simp <;> with_reducible rfl)
  try simp only [Act.put, List.setIfInBounds_toArray, List.set_cons_zero, List.set_cons_succ]
  refine wpAnyH_ready (rs := [13]) (by kernel_rfl) (by simp) ?_
  refine AllReadyH.cons (o := { dst := some 49, op := Go.Op.call { callee := Go.Callee.value (Go.Operand.func 24), args := #[Go.Operand.tmp 48], argTypes := #[3] }, type := 28, pos := "law.go:209", after := #[{ on := 12, ground := Go.Ground.data }, { on := 10, ground := Go.Ground.chain }, { on := 10, ground := Go.Ground.guard }], guard := some (10, false) }) rfl (fun KK hK => ?_) AllReadyH.nil
  go_simp
  with_reducible refine (unit_as P _ u HU.out).mono ?_
  rintro x wD ⟨rfl, hb⟩
  go_wp2_with fail
  refine hK.out _ _ (KEEP1.out _ _ hHeld hb) (fun hHeld2 => ?_)
  clear hK hHeld hb
  have hHeld := hHeld2
  clear hHeld2
  try simp only [Act.put, List.setIfInBounds_toArray, List.set_cons_zero, List.set_cons_succ]
  refine wpAnyH_ready (rs := [14]) (by kernel_rfl) (by simp) ?_
  refine AllReadyH.cons (o := { dst := some 50, op := Go.Op.call { callee := Go.Callee.value (Go.Operand.func 20), args := #[Go.Operand.tmp 47, Go.Operand.tmp 49], argTypes := #[28, 28] }, type := 3, pos := "law.go:209", after := #[{ on := 11, ground := Go.Ground.data }, { on := 13, ground := Go.Ground.data }, { on := 13, ground := Go.Ground.chain }, { on := 10, ground := Go.Ground.guard }], guard := some (10, false) }) rfl (fun KK hK => ?_) AllReadyH.nil
  go_simp
  with_reducible refine (cmp_T d u c2 _ ddl ul HC2.out).mono ?_
  rintro x wE ⟨rfl, hb⟩
  go_wp2_with fail
  refine hK.out _ _ (KEEP1.out _ _ hHeld hb) (fun hHeld2 => ?_)
  clear hK hHeld hb
  have hHeld := hHeld2
  clear hHeld2
  try simp only [Act.put, List.setIfInBounds_toArray, List.set_cons_zero, List.set_cons_succ]
  refine wpAnyH_take (i := 15) (oi := { dst := some 51, op := Go.Op.binOp Go.BinOp.geq 3 (Go.Operand.tmp 50) (Go.Operand.const (Go.Value.int Go.IntKind.i64 0)) 3, type := 4, pos := "law.go:209", after := #[{ on := 14, ground := Go.Ground.data }, { on := 10, ground := Go.Ground.guard }], guard := some (10, false) }) (v := ?_) rfl (by kernel_rfl) (by kernel_rfl) (by kernel_rfl) (fun _ _ _ h => h) (Or.inl ⟨by rfl, ?_⟩) hHeld ?_
  case refine_2 => (intro w hSw; (try dsimp only at hSw); go_simp <;> with_reducible rfl)
  try simp only [Act.put, List.setIfInBounds_toArray, List.set_cons_zero, List.set_cons_succ]
  refine wpAnyH_take (i := 16) (oi := { dst := some 52, op := Go.Op.pick (Go.Operand.tmp 46) (Go.Operand.const (Go.Value.bool true)) (Go.Operand.tmp 51), type := 4, pos := "law.go:209", after := #[{ on := 10, ground := Go.Ground.data }, { on := 15, ground := Go.Ground.data }], guard := none }) (v := ?_) rfl (by kernel_rfl) (by kernel_rfl) (by kernel_rfl) (fun _ _ _ h => h) (Or.inl ⟨by rfl, ?_⟩) hHeld ?_
  case refine_2 => (intro w hSw; (try dsimp only at hSw); go_simp <;> with_reducible rfl)
  try simp only [Act.put, List.setIfInBounds_toArray, List.set_cons_zero, List.set_cons_succ]
  refine wpAnyH_done (by kernel_rfl) ?_ _
  clear bx0 bx1 bx2 bxl br0 br1 br2 brl
  have H7 : Hid (HeldL w [(w6.heap.size, #[.bool d.neg, S d.l, .int .i64 d.e]), (w4.heap.size, #[.bool r.neg, S r.l, .int .i64 r.e]), (w3.heap.size, #[.bool n, S (dgs L), .int .i64 e]), (w.heap.size, #[.bool n, .slice a len cap, .int .i64 e])] wE) := Lib.hid (hHeld.2.2.2)
  clear hHeld ALL1 KEEP1 HS1 TAB1 H6
  have bx0 : wE.cell? ⟨w3.heap.size, 0, none⟩ = some (.bool n) := (H7.out.f (List.Mem.tail _ (List.Mem.tail _ (List.Mem.head _)))).cell 0
  have bx1 : wE.cell? ⟨w3.heap.size, 1, none⟩ = some (S (dgs L)) := (H7.out.f (List.Mem.tail _ (List.Mem.tail _ (List.Mem.head _)))).cell 1
  have bx2 : wE.cell? ⟨w3.heap.size, 2, none⟩ = some (.int .i64 e) := (H7.out.f (List.Mem.tail _ (List.Mem.tail _ (List.Mem.head _)))).cell 2
  have bxl : w3.heap.size < wE.heap.size := (H7.out.f (List.Mem.tail _ (List.Mem.tail _ (List.Mem.head _)))).lt
  go_wp2_with fail
  with_reducible refine (at_T ⟨n, dgs L, e⟩ P 6 lo _ LL HLO.out (HT.out.below H7.out.bel)).mono ?_
  rintro x w8 ⟨rfl, hb⟩
  clear bx0 bx1 bx2 bxl
  have H8 : Hid (HeldL w [(w6.heap.size, #[.bool d.neg, S d.l, .int .i64 d.e]), (w4.heap.size, #[.bool r.neg, S r.l, .int .i64 r.e]), (w3.heap.size, #[.bool n, S (dgs L), .int .i64 e]), (w.heap.size, #[.bool n, .slice a len cap, .int .i64 e])] w8) := Lib.hid (HeldL.keep H7.out hb)
  clear H7
  clear hb
  have bx0 : w8.cell? ⟨w3.heap.size, 0, none⟩ = some (.bool n) := (H8.out.f (List.Mem.tail _ (List.Mem.tail _ (List.Mem.head _)))).cell 0
  have bx1 : w8.cell? ⟨w3.heap.size, 1, none⟩ = some (S (dgs L)) := (H8.out.f (List.Mem.tail _ (List.Mem.tail _ (List.Mem.head _)))).cell 1
  have bx2 : w8.cell? ⟨w3.heap.size, 2, none⟩ = some (.int .i64 e) := (H8.out.f (List.Mem.tail _ (List.Mem.tail _ (List.Mem.head _)))).cell 2
  have bxl : w3.heap.size < w8.heap.size := (H8.out.f (List.Mem.tail _ (List.Mem.tail _ (List.Mem.head _)))).lt
  go_wp2_with fail
  with_reducible refine (at_T ⟨n, dgs L, e⟩ P 5 hi _ LL HHI.out (HT.out.below (HeldL.alloc H8.out (w8.heap.size) #[.bool lo.neg, S lo.l, .int .i64 lo.e] 28 (by simp)).bel)).mono ?_
  rintro x w9 ⟨rfl, hb⟩
  clear bx0 bx1 bx2 bxl
  have H9 : Hid (HeldL w [(w8.heap.size, #[.bool lo.neg, S lo.l, .int .i64 lo.e]), (w6.heap.size, #[.bool d.neg, S d.l, .int .i64 d.e]), (w4.heap.size, #[.bool r.neg, S r.l, .int .i64 r.e]), (w3.heap.size, #[.bool n, S (dgs L), .int .i64 e]), (w.heap.size, #[.bool n, .slice a len cap, .int .i64 e])] w9) := Lib.hid (HeldL.keep (HeldL.alloc H8.out (w8.heap.size) #[.bool lo.neg, S lo.l, .int .i64 lo.e] 28 (by simp)) hb)
  clear H8
  clear hb
  have bx0 : w9.cell? ⟨w3.heap.size, 0, none⟩ = some (.bool n) := (H9.out.f (List.Mem.tail _ (List.Mem.tail _ (List.Mem.tail _ (List.Mem.head _))))).cell 0
  have bx1 : w9.cell? ⟨w3.heap.size, 1, none⟩ = some (S (dgs L)) := (H9.out.f (List.Mem.tail _ (List.Mem.tail _ (List.Mem.tail _ (List.Mem.head _))))).cell 1
  have bx2 : w9.cell? ⟨w3.heap.size, 2, none⟩ = some (.int .i64 e) := (H9.out.f (List.Mem.tail _ (List.Mem.tail _ (List.Mem.tail _ (List.Mem.head _))))).cell 2
  have bxl : w3.heap.size < w9.heap.size := (H9.out.f (List.Mem.tail _ (List.Mem.tail _ (List.Mem.tail _ (List.Mem.head _))))).lt
  have br0 : w9.cell? ⟨w4.heap.size, 0, none⟩ = some (.bool r.neg) := (H9.out.f (List.Mem.tail _ (List.Mem.tail _ (List.Mem.head _)))).cell 0
  have br1 : w9.cell? ⟨w4.heap.size, 1, none⟩ = some (S r.l) := (H9.out.f (List.Mem.tail _ (List.Mem.tail _ (List.Mem.head _)))).cell 1
  have br2 : w9.cell? ⟨w4.heap.size, 2, none⟩ = some (.int .i64 r.e) := (H9.out.f (List.Mem.tail _ (List.Mem.tail _ (List.Mem.head _)))).cell 2
  have brl : w4.heap.size < w9.heap.size := (H9.out.f (List.Mem.tail _ (List.Mem.tail _ (List.Mem.head _)))).lt
  have bo0 : w9.cell? ⟨w8.heap.size, 0, none⟩ = some (.bool lo.neg) := (H9.out.f (List.Mem.head _)).cell 0
  have bo1 : w9.cell? ⟨w8.heap.size, 1, none⟩ = some (S lo.l) := (H9.out.f (List.Mem.head _)).cell 1
  have bo2 : w9.cell? ⟨w8.heap.size, 2, none⟩ = some (.int .i64 lo.e) := (H9.out.f (List.Mem.head _)).cell 2
  have bol : w8.heap.size < w9.heap.size := (H9.out.f (List.Mem.head _)).lt
  go_wp2_with fail
  have ALL2 : Hid (∀ w' : World, HeldL w [(w9.heap.size, #[.bool hi.neg, S hi.l, .int .i64 hi.e]), (w8.heap.size, #[.bool lo.neg, S lo.l, .int .i64 lo.e]), (w6.heap.size, #[.bool d.neg, S d.l, .int .i64 d.e]), (w4.heap.size, #[.bool r.neg, S r.l, .int .i64 r.e]), (w3.heap.size, #[.bool n, S (dgs L), .int .i64 e]), (w.heap.size, #[.bool n, .slice a len cap, .int .i64 e])] w' → w'.cell? ⟨w3.heap.size, 0, none⟩ = some (.bool n) ∧ w'.cell? ⟨w3.heap.size, 1, none⟩ = some (S (dgs L)) ∧ w'.cell? ⟨w3.heap.size, 2, none⟩ = some (.int .i64 e) ∧ w'.cell? ⟨w4.heap.size, 0, none⟩ = some (.bool r.neg) ∧ w'.cell? ⟨w4.heap.size, 1, none⟩ = some (S r.l) ∧ w'.cell? ⟨w4.heap.size, 2, none⟩ = some (.int .i64 r.e) ∧ w'.cell? ⟨w8.heap.size, 0, none⟩ = some (.bool lo.neg) ∧ w'.cell? ⟨w8.heap.size, 1, none⟩ = some (S lo.l) ∧ w'.cell? ⟨w8.heap.size, 2, none⟩ = some (.int .i64 lo.e) ∧ w'.cell? ⟨w9.heap.size, 0, none⟩ = some (.bool hi.neg) ∧ w'.cell? ⟨w9.heap.size, 1, none⟩ = some (S hi.l) ∧ w'.cell? ⟨w9.heap.size, 2, none⟩ = some (.int .i64 hi.e) ∧ HeldL w [(w9.heap.size, #[.bool hi.neg, S hi.l, .int .i64 hi.e]), (w8.heap.size, #[.bool lo.neg, S lo.l, .int .i64 lo.e]), (w6.heap.size, #[.bool d.neg, S d.l, .int .i64 d.e]), (w4.heap.size, #[.bool r.neg, S r.l, .int .i64 r.e]), (w3.heap.size, #[.bool n, S (dgs L), .int .i64 e]), (w.heap.size, #[.bool n, .slice a len cap, .int .i64 e])] w') := Lib.hid (fun w' h => ⟨(h.f (List.Mem.tail _ (List.Mem.tail _ (List.Mem.tail _ (List.Mem.tail _ (List.Mem.head _)))))).cell 0, (h.f (List.Mem.tail _ (List.Mem.tail _ (List.Mem.tail _ (List.Mem.tail _ (List.Mem.head _)))))).cell 1, (h.f (List.Mem.tail _ (List.Mem.tail _ (List.Mem.tail _ (List.Mem.tail _ (List.Mem.head _)))))).cell 2, (h.f (List.Mem.tail _ (List.Mem.tail _ (List.Mem.tail _ (List.Mem.head _))))).cell 0, (h.f (List.Mem.tail _ (List.Mem.tail _ (List.Mem.tail _ (List.Mem.head _))))).cell 1, (h.f (List.Mem.tail _ (List.Mem.tail _ (List.Mem.tail _ (List.Mem.head _))))).cell 2, (h.f (List.Mem.tail _ (List.Mem.head _))).cell 0, (h.f (List.Mem.tail _ (List.Mem.head _))).cell 1, (h.f (List.Mem.tail _ (List.Mem.head _))).cell 2, (h.f (List.Mem.head _)).cell 0, (h.f (List.Mem.head _)).cell 1, (h.f (List.Mem.head _)).cell 2, h⟩)
  have KEEP2 : Hid (∀ w' w'' : World, (w'.cell? ⟨w3.heap.size, 0, none⟩ = some (.bool n) ∧ w'.cell? ⟨w3.heap.size, 1, none⟩ = some (S (dgs L)) ∧ w'.cell? ⟨w3.heap.size, 2, none⟩ = some (.int .i64 e) ∧ w'.cell? ⟨w4.heap.size, 0, none⟩ = some (.bool r.neg) ∧ w'.cell? ⟨w4.heap.size, 1, none⟩ = some (S r.l) ∧ w'.cell? ⟨w4.heap.size, 2, none⟩ = some (.int .i64 r.e) ∧ w'.cell? ⟨w8.heap.size, 0, none⟩ = some (.bool lo.neg) ∧ w'.cell? ⟨w8.heap.size, 1, none⟩ = some (S lo.l) ∧ w'.cell? ⟨w8.heap.size, 2, none⟩ = some (.int .i64 lo.e) ∧ w'.cell? ⟨w9.heap.size, 0, none⟩ = some (.bool hi.neg) ∧ w'.cell? ⟨w9.heap.size, 1, none⟩ = some (S hi.l) ∧ w'.cell? ⟨w9.heap.size, 2, none⟩ = some (.int .i64 hi.e) ∧ HeldL w [(w9.heap.size, #[.bool hi.neg, S hi.l, .int .i64 hi.e]), (w8.heap.size, #[.bool lo.neg, S lo.l, .int .i64 lo.e]), (w6.heap.size, #[.bool d.neg, S d.l, .int .i64 d.e]), (w4.heap.size, #[.bool r.neg, S r.l, .int .i64 r.e]), (w3.heap.size, #[.bool n, S (dgs L), .int .i64 e]), (w.heap.size, #[.bool n, .slice a len cap, .int .i64 e])] w') → Below w'.heap.size w' w'' → (w''.cell? ⟨w3.heap.size, 0, none⟩ = some (.bool n) ∧ w''.cell? ⟨w3.heap.size, 1, none⟩ = some (S (dgs L)) ∧ w''.cell? ⟨w3.heap.size, 2, none⟩ = some (.int .i64 e) ∧ w''.cell? ⟨w4.heap.size, 0, none⟩ = some (.bool r.neg) ∧ w''.cell? ⟨w4.heap.size, 1, none⟩ = some (S r.l) ∧ w''.cell? ⟨w4.heap.size, 2, none⟩ = some (.int .i64 r.e) ∧ w''.cell? ⟨w8.heap.size, 0, none⟩ = some (.bool lo.neg) ∧ w''.cell? ⟨w8.heap.size, 1, none⟩ = some (S lo.l) ∧ w''.cell? ⟨w8.heap.size, 2, none⟩ = some (.int .i64 lo.e) ∧ w''.cell? ⟨w9.heap.size, 0, none⟩ = some (.bool hi.neg) ∧ w''.cell? ⟨w9.heap.size, 1, none⟩ = some (S hi.l) ∧ w''.cell? ⟨w9.heap.size, 2, none⟩ = some (.int .i64 hi.e) ∧ HeldL w [(w9.heap.size, #[.bool hi.neg, S hi.l, .int .i64 hi.e]), (w8.heap.size, #[.bool lo.neg, S lo.l, .int .i64 lo.e]), (w6.heap.size, #[.bool d.neg, S d.l, .int .i64 d.e]), (w4.heap.size, #[.bool r.neg, S r.l, .int .i64 r.e]), (w3.heap.size, #[.bool n, S (dgs L), .int .i64 e]), (w.heap.size, #[.bool n, .slice a len cap, .int .i64 e])] w'')) := Lib.hid (fun w' w'' h hb => ALL2.out _ (HeldL.keep (h.2.2.2.2.2.2.2.2.2.2.2.2) hb))
  have HS2 : Hid (HeldL w [(w9.heap.size, #[.bool hi.neg, S hi.l, .int .i64 hi.e]), (w8.heap.size, #[.bool lo.neg, S lo.l, .int .i64 lo.e]), (w6.heap.size, #[.bool d.neg, S d.l, .int .i64 d.e]), (w4.heap.size, #[.bool r.neg, S r.l, .int .i64 r.e]), (w3.heap.size, #[.bool n, S (dgs L), .int .i64 e]), (w.heap.size, #[.bool n, .slice a len cap, .int .i64 e])] _) := Lib.hid (HeldL.alloc H9.out (w9.heap.size) #[.bool hi.neg, S hi.l, .int .i64 hi.e] 28 (by simp))
  have TAB2 : Hid (∀ w' : World, (w'.cell? ⟨w3.heap.size, 0, none⟩ = some (.bool n) ∧ w'.cell? ⟨w3.heap.size, 1, none⟩ = some (S (dgs L)) ∧ w'.cell? ⟨w3.heap.size, 2, none⟩ = some (.int .i64 e) ∧ w'.cell? ⟨w4.heap.size, 0, none⟩ = some (.bool r.neg) ∧ w'.cell? ⟨w4.heap.size, 1, none⟩ = some (S r.l) ∧ w'.cell? ⟨w4.heap.size, 2, none⟩ = some (.int .i64 r.e) ∧ w'.cell? ⟨w8.heap.size, 0, none⟩ = some (.bool lo.neg) ∧ w'.cell? ⟨w8.heap.size, 1, none⟩ = some (S lo.l) ∧ w'.cell? ⟨w8.heap.size, 2, none⟩ = some (.int .i64 lo.e) ∧ w'.cell? ⟨w9.heap.size, 0, none⟩ = some (.bool hi.neg) ∧ w'.cell? ⟨w9.heap.size, 1, none⟩ = some (S hi.l) ∧ w'.cell? ⟨w9.heap.size, 2, none⟩ = some (.int .i64 hi.e) ∧ HeldL w [(w9.heap.size, #[.bool hi.neg, S hi.l, .int .i64 hi.e]), (w8.heap.size, #[.bool lo.neg, S lo.l, .int .i64 lo.e]), (w6.heap.size, #[.bool d.neg, S d.l, .int .i64 d.e]), (w4.heap.size, #[.bool r.neg, S r.l, .int .i64 r.e]), (w3.heap.size, #[.bool n, S (dgs L), .int .i64 e]), (w.heap.size, #[.bool n, .slice a len cap, .int .i64 e])] w') → Tab w') := Lib.hid (fun w' h => HT.out.below (h.2.2.2.2.2.2.2.2.2.2.2.2).bel)
  refine wp_region_held_drew (S := fun w' => w'.cell? ⟨w3.heap.size, 0, none⟩ = some (.bool n) ∧ w'.cell? ⟨w3.heap.size, 1, none⟩ = some (S (dgs L)) ∧ w'.cell? ⟨w3.heap.size, 2, none⟩ = some (.int .i64 e) ∧ w'.cell? ⟨w4.heap.size, 0, none⟩ = some (.bool r.neg) ∧ w'.cell? ⟨w4.heap.size, 1, none⟩ = some (S r.l) ∧ w'.cell? ⟨w4.heap.size, 2, none⟩ = some (.int .i64 r.e) ∧ w'.cell? ⟨w8.heap.size, 0, none⟩ = some (.bool lo.neg) ∧ w'.cell? ⟨w8.heap.size, 1, none⟩ = some (S lo.l) ∧ w'.cell? ⟨w8.heap.size, 2, none⟩ = some (.int .i64 lo.e) ∧ w'.cell? ⟨w9.heap.size, 0, none⟩ = some (.bool hi.neg) ∧ w'.cell? ⟨w9.heap.size, 1, none⟩ = some (S hi.l) ∧ w'.cell? ⟨w9.heap.size, 2, none⟩ = some (.int .i64 hi.e) ∧ HeldL w [(w9.heap.size, #[.bool hi.neg, S hi.l, .int .i64 hi.e]), (w8.heap.size, #[.bool lo.neg, S lo.l, .int .i64 lo.e]), (w6.heap.size, #[.bool d.neg, S d.l, .int .i64 d.e]), (w4.heap.size, #[.bool r.neg, S r.l, .int .i64 r.e]), (w3.heap.size, #[.bool n, S (dgs L), .int .i64 e]), (w.heap.size, #[.bool n, .slice a len cap, .int .i64 e])] w') (by kernel_rfl) (ALL2.out _ (HeldL.drew HS2.out)) (fun hHeld => ?_)
  refine wpAnyH_take (i := 0) (oi := { dst := some 59, op := Go.Op.load 28 (Go.Operand.tmp 8), type := 28, pos := "law.go:214", after := #[], guard := none }) (v := ?_) rfl (by kernel_rfl) (by kernel_rfl) (by kernel_rfl) (fun _ _ _ h => h) (Or.inl ⟨by rfl, ?_⟩) hHeld ?_
  case refine_2 => (intro w hSw; (try dsimp only at hSw); go_simp <;> with_reducible rfl)
  try simp only [Act.put, List.setIfInBounds_toArray, List.set_cons_zero, List.set_cons_succ]
  refine wpAnyH_take (i := 2) (oi := { dst := some 61, op := Go.Op.move (Go.Operand.tmp 1), type := 3, pos := "law.go:214", after := #[], guard := none }) (v := ?_) rfl (by kernel_rfl) (by kernel_rfl) (by kernel_rfl) (fun _ _ _ h => h) (Or.inl ⟨by rfl, ?_⟩) hHeld ?_
  case refine_2 => (intro w hSw; (try dsimp only at hSw); go_simp <;> with_reducible rfl)
  try simp only [Act.put, List.setIfInBounds_toArray, List.set_cons_zero, List.set_cons_succ]
  refine wpAnyH_take (i := 3) (oi := { dst := some 62, op := Go.Op.move (Go.Operand.tmp 7), type := 30, pos := "law.go:214", after := #[], guard := none }) (v := ?_) rfl (by kernel_rfl) (by kernel_rfl) (by kernel_rfl) (fun _ _ _ h => h) (Or.inl ⟨by rfl, ?_⟩) hHeld ?_
  case refine_2 => (intro w hSw; (try dsimp only at hSw); go_simp <;> with_reducible rfl)
  try simp only [Act.put, List.setIfInBounds_toArray, List.set_cons_zero, List.set_cons_succ]
  refine wpAnyH_take (i := 6) (oi := { dst := some 65, op := Go.Op.load 28 (Go.Operand.tmp 9), type := 28, pos := "law.go:214", after := #[], guard := none }) (v := ?_) rfl (by kernel_rfl) (by kernel_rfl) (by kernel_rfl) (fun _ _ _ h => h) (Or.inl ⟨by rfl, ?_⟩) hHeld ?_
  case refine_2 => (intro w hSw; (try dsimp only at hSw); go_simp <;> with_reducible rfl)
  try simp only [Act.put, List.setIfInBounds_toArray, List.set_cons_zero, List.set_cons_succ]
  refine wpAnyH_ready (rs := [1]) (by kernel_rfl) (by simp) ?_
  refine AllReadyH.cons (o := { dst := some 60, op := Go.Op.call { callee := Go.Callee.value (Go.Operand.func 18), args := #[Go.Operand.tmp 59], argTypes := #[28] }, type := 28, pos := "law.go:214", after := #[{ on := 0, ground := Go.Ground.data }], guard := none }) rfl (fun KK hK => ?_) AllReadyH.nil
  go_simp
  with_reducible refine (minus_T ⟨n, dgs L, e⟩ y _ LL HY.out).mono ?_
  rintro x wF ⟨rfl, hb⟩
  go_wp2_with fail
  refine hK.out _ _ (KEEP2.out _ _ hHeld hb) (fun hHeld2 => ?_)
  clear hK hHeld hb
  have hHeld := hHeld2
  clear hHeld2
  try simp only [Act.put, List.setIfInBounds_toArray, List.set_cons_zero, List.set_cons_succ]
  refine wpAnyH_ready (rs := [4]) (by kernel_rfl) (by simp) ?_
  refine AllReadyH.cons (o := { dst := some 63, op := Go.Op.call { callee := Go.Callee.value (Go.Operand.func 25), args := #[Go.Operand.tmp 62], argTypes := #[30] }, type := 30, pos := "law.go:214", after := #[{ on := 3, ground := Go.Ground.data }, { on := 1, ground := Go.Ground.chain }], guard := none }) rfl (fun KK hK => ?_) AllReadyH.nil
  go_simp
  with_reducible refine (turned_as M _ m0 m6).mono ?_
  rintro x wz ⟨rfl, rfl⟩
  go_wp2_with fail
  refine hK.out _ _ hHeld (fun _ => ?_)
  clear hK
  try simp only [Act.put, List.setIfInBounds_toArray, List.set_cons_zero, List.set_cons_succ]
  refine wpAnyH_ready (rs := [5]) (by kernel_rfl) (by simp) ?_
  refine AllReadyH.cons (o := { dst := some 64, op := Go.Op.call { callee := Go.Callee.value (Go.Operand.func 15), args := #[Go.Operand.tmp 60, Go.Operand.tmp 61, Go.Operand.tmp 63], argTypes := #[28, 3, 30] }, type := 28, pos := "law.go:214", after := #[{ on := 1, ground := Go.Ground.data }, { on := 2, ground := Go.Ground.data }, { on := 4, ground := Go.Ground.data }, { on := 4, ground := Go.Ground.chain }], guard := none }) rfl (fun KK hK => ?_) AllReadyH.nil
  go_simp
  with_reducible refine (at_T y P (turn M) s _ yl HSA.out (TAB2.out _ hHeld)).mono ?_
  rintro x wG ⟨rfl, hb⟩
  go_wp2_with fail
  refine hK.out _ _ (KEEP2.out _ _ hHeld hb) (fun hHeld2 => ?_)
  clear hK hHeld hb
  have hHeld := hHeld2
  clear hHeld2
  try simp only [Act.put, List.setIfInBounds_toArray, List.set_cons_zero, List.set_cons_succ]
  refine wpAnyH_ready (rs := [7]) (by kernel_rfl) (by simp) ?_
  refine AllReadyH.cons (o := { dst := some 66, op := Go.Op.call { callee := Go.Callee.value (Go.Operand.func 18), args := #[Go.Operand.tmp 65], argTypes := #[28] }, type := 28, pos := "law.go:214", after := #[{ on := 6, ground := Go.Ground.data }, { on := 5, ground := Go.Ground.chain }], guard := none }) rfl (fun KK hK => ?_) AllReadyH.nil
  go_simp
  with_reducible refine (minus_T r s _ rl HSB.out).mono ?_
  rintro x wH ⟨rfl, hb⟩
  go_wp2_with fail
  refine hK.out _ _ (KEEP2.out _ _ hHeld hb) (fun hHeld2 => ?_)
  clear hK hHeld hb
  have hHeld := hHeld2
  clear hHeld2
  try simp only [Act.put, List.setIfInBounds_toArray, List.set_cons_zero, List.set_cons_succ]
  refine wpAnyH_take (i := 8) (oi := { dst := some 67, op := Go.Op.binOp Go.BinOp.eql 28 (Go.Operand.tmp 64) (Go.Operand.tmp 66) 28, type := 4, pos := "law.go:214", after := #[{ on := 5, ground := Go.Ground.data }, { on := 7, ground := Go.Ground.data }], guard := none }) (v := ?_) rfl (by kernel_rfl) (by kernel_rfl) (by kernel_rfl) (fun _ _ _ h => h) (Or.inl ⟨by rfl, ?_⟩) hHeld ?_
  case refine_2 => (intro w hSw; (try dsimp only at hSw); go_simp <;> with_reducible rfl)
  try simp only [Act.put, List.setIfInBounds_toArray, List.set_cons_zero, List.set_cons_succ]
  refine wpAnyH_take (i := 9) (oi := { dst := some 68, op := Go.Op.move (Go.Operand.tmp 67), type := 4, pos := "law.go:214", after := #[{ on := 8, ground := Go.Ground.data }, { on := 7, ground := Go.Ground.chain }], guard := none }) (v := ?_) rfl (by kernel_rfl) (by kernel_rfl) (by kernel_rfl) (fun _ _ _ h => h) (Or.inl ⟨by rfl, ?_⟩) hHeld ?_
  case refine_2 => (intro w hSw; (try dsimp only at hSw); go_simp <;> with_reducible rfl)
  try simp only [Act.put, List.setIfInBounds_toArray, List.set_cons_zero, List.set_cons_succ]
  refine wpAnyH_take (i := 10) (oi := { dst := some 69, op := Go.Op.load 28 (Go.Operand.tmp 9), type := 28, pos := "law.go:214", after := #[{ on := 9, ground := Go.Ground.guard }], guard := some (9, true) }) (v := ?_) rfl (by kernel_rfl) (by kernel_rfl) (by kernel_rfl) (fun _ _ _ h => h) (Or.inl ⟨by rfl, ?_⟩) hHeld ?_
  case refine_2 => (intro w hSw; (try dsimp only at hSw); go_simp <;> with_reducible rfl)
  try simp only [Act.put, List.setIfInBounds_toArray, List.set_cons_zero, List.set_cons_succ]
  refine wpAnyH_take (i := 11) (oi := { dst := some 70, op := Go.Op.load 28 (Go.Operand.tmp 11), type := 28, pos := "law.go:214", after := #[{ on := 9, ground := Go.Ground.guard }], guard := some (9, true) }) (v := ?_) rfl (by kernel_rfl) (by kernel_rfl) (by kernel_rfl) (fun _ _ _ h => h) (Or.inl ⟨by rfl, ?_⟩) hHeld ?_
  case refine_2 => (intro w hSw; (try dsimp only at hSw); go_simp <;> with_reducible rfl)
  try simp only [Act.put, List.setIfInBounds_toArray, List.set_cons_zero, List.set_cons_succ]
  refine wpAnyH_take (i := 12) (oi := { dst := some 71, op := Go.Op.binOp Go.BinOp.eql 28 (Go.Operand.tmp 69) (Go.Operand.tmp 70) 28, type := 4, pos := "law.go:214", after := #[{ on := 10, ground := Go.Ground.data }, { on := 11, ground := Go.Ground.data }, { on := 9, ground := Go.Ground.guard }], guard := some (9, true) }) (v := ?_) rfl (by kernel_rfl) (by kernel_rfl) (by kernel_rfl) (fun _ _ _ h => h) (Or.inl ⟨by rfl, ?_⟩) hHeld ?_
  case refine_2 => (intro w hSw; (try dsimp only at hSw); go_simp <;> with_reducible rfl)
  try simp only [Act.put, List.setIfInBounds_toArray, List.set_cons_zero, List.set_cons_succ]
  refine wpAnyH_take (i := 13) (oi := { dst := some 72, op := Go.Op.move (Go.Operand.tmp 71), type := 4, pos := "law.go:214", after := #[{ on := 12, ground := Go.Ground.data }, { on := 9, ground := Go.Ground.chain }, { on := 9, ground := Go.Ground.guard }], guard := some (9, true) }) (v := ?_) rfl (by kernel_rfl) (by kernel_rfl) (by kernel_rfl) (fun _ _ _ h => h) (Or.inl ⟨by rfl, ?_⟩) hHeld ?_
  case refine_2 => (intro w hSw; (try dsimp only at hSw); go_simp <;> with_reducible rfl)
  try simp only [Act.put, List.setIfInBounds_toArray, List.set_cons_zero, List.set_cons_succ]
  refine wpAnyH_take (i := 14) (oi := { dst := some 73, op := Go.Op.load 28 (Go.Operand.tmp 9), type := 28, pos := "law.go:214", after := #[{ on := 13, ground := Go.Ground.guard }], guard := some (13, false) }) (v := undef) rfl (by kernel_rfl) (by kernel_rfl) (by kernel_rfl) (fun _ _ _ h => h) (Or.inr ⟨by rfl, rfl⟩) hHeld ?_
  try simp only [Act.put, List.setIfInBounds_toArray, List.set_cons_zero, List.set_cons_succ]
  refine wpAnyH_take (i := 15) (oi := { dst := some 74, op := Go.Op.load 28 (Go.Operand.tmp 12), type := 28, pos := "law.go:214", after := #[{ on := 13, ground := Go.Ground.guard }], guard := some (13, false) }) (v := undef) rfl (by kernel_rfl) (by kernel_rfl) (by kernel_rfl) (fun _ _ _ h => h) (Or.inr ⟨by rfl, rfl⟩) hHeld ?_
  try simp only [Act.put, List.setIfInBounds_toArray, List.set_cons_zero, List.set_cons_succ]
  refine wpAnyH_take (i := 16) (oi := { dst := some 75, op := Go.Op.binOp Go.BinOp.eql 28 (Go.Operand.tmp 73) (Go.Operand.tmp 74) 28, type := 4, pos := "law.go:214", after := #[{ on := 14, ground := Go.Ground.data }, { on := 15, ground := Go.Ground.data }, { on := 13, ground := Go.Ground.guard }], guard := some (13, false) }) (v := undef) rfl (by kernel_rfl) (by kernel_rfl) (by kernel_rfl) (fun _ _ _ h => h) (Or.inr ⟨by rfl, rfl⟩) hHeld ?_
  try simp only [Act.put, List.setIfInBounds_toArray, List.set_cons_zero, List.set_cons_succ]
  refine wpAnyH_take (i := 17) (oi := { dst := some 76, op := Go.Op.pick (Go.Operand.tmp 72) (Go.Operand.const (Go.Value.bool true)) (Go.Operand.tmp 75), type := 4, pos := "law.go:214", after := #[{ on := 13, ground := Go.Ground.data }, { on := 16, ground := Go.Ground.data }, { on := 9, ground := Go.Ground.guard }], guard := some (9, true) }) (v := ?_) rfl (by kernel_rfl) (by kernel_rfl) (by kernel_rfl) (fun _ _ _ h => h) (Or.inl ⟨by rfl, ?_⟩) hHeld ?_
  case refine_2 => (intro w hSw; (try dsimp only at hSw); go_simp <;> with_reducible rfl)
  try simp only [Act.put, List.setIfInBounds_toArray, List.set_cons_zero, List.set_cons_succ]
  refine wpAnyH_take (i := 18) (oi := { dst := some 77, op := Go.Op.pick (Go.Operand.tmp 68) (Go.Operand.tmp 76) (Go.Operand.const (Go.Value.bool false)), type := 4, pos := "law.go:214", after := #[{ on := 9, ground := Go.Ground.data }, { on := 17, ground := Go.Ground.data }], guard := none }) (v := ?_) rfl (by kernel_rfl) (by kernel_rfl) (by kernel_rfl) (fun _ _ _ h => h) (Or.inl ⟨by rfl, ?_⟩) hHeld ?_
  case refine_2 => (intro w hSw; (try dsimp only at hSw); go_simp <;> with_reducible rfl)
  try simp only [Act.put, List.setIfInBounds_toArray, List.set_cons_zero, List.set_cons_succ]
  refine wpAnyH_take (i := 19) (oi := { dst := some 78, op := Go.Op.move (Go.Operand.tmp 77), type := 4, pos := "law.go:214", after := #[{ on := 18, ground := Go.Ground.data }, { on := 13, ground := Go.Ground.chain }], guard := none }) (v := ?_) rfl (by kernel_rfl) (by kernel_rfl) (by kernel_rfl) (fun _ _ _ h => h) (Or.inl ⟨by rfl, ?_⟩) hHeld ?_
  case refine_2 => (intro w hSw; (try dsimp only at hSw); go_simp <;> with_reducible rfl)
  try simp only [Act.put, List.setIfInBounds_toArray, List.set_cons_zero, List.set_cons_succ]
  refine wpAnyH_take (i := 20) (oi := { dst := some 79, op := Go.Op.load 28 (Go.Operand.tmp 11), type := 28, pos := "law.go:214", after := #[{ on := 19, ground := Go.Ground.guard }], guard := some (19, true) }) (v := ?_) rfl (by kernel_rfl) (by kernel_rfl) (by kernel_rfl) (fun _ _ _ h => h) (Or.inl ⟨by rfl, ?_⟩) hHeld ?_
  case refine_2 => (intro w hSw; (try dsimp only at hSw); go_simp <;> with_reducible rfl)
  try simp only [Act.put, List.setIfInBounds_toArray, List.set_cons_zero, List.set_cons_succ]
  refine wpAnyH_take (i := 21) (oi := { dst := some 80, op := Go.Op.load 28 (Go.Operand.tmp 8), type := 28, pos := "law.go:214", after := #[{ on := 19, ground := Go.Ground.guard }], guard := some (19, true) }) (v := ?_) rfl (by kernel_rfl) (by kernel_rfl) (by kernel_rfl) (fun _ _ _ h => h) (Or.inl ⟨by rfl, ?_⟩) hHeld ?_
  case refine_2 => (intro w hSw; (try dsimp only at hSw); go_simp <;> with_reducible rfl)
  try simp only [Act.put, List.setIfInBounds_toArray, List.set_cons_zero, List.set_cons_succ]
  refine wpAnyH_ready (rs := [22]) (by kernel_rfl) (by simp) ?_
  refine AllReadyH.cons (o := { dst := some 81, op := Go.Op.call { callee := Go.Callee.value (Go.Operand.func 20), args := #[Go.Operand.tmp 79, Go.Operand.tmp 80], argTypes := #[28, 28] }, type := 3, pos := "law.go:214", after := #[{ on := 20, ground := Go.Ground.data }, { on := 21, ground := Go.Ground.data }, { on := 19, ground := Go.Ground.chain }, { on := 19, ground := Go.Ground.guard }], guard := some (19, true) }) rfl (fun KK hK => ?_) AllReadyH.nil
  go_simp
  with_reducible refine (cmp_T lo ⟨n, dgs L, e⟩ c3 _ lol LL HC3.out).mono ?_
  rintro x wI ⟨rfl, hb⟩
  go_wp2_with fail
  refine hK.out _ _ (KEEP2.out _ _ hHeld hb) (fun hHeld2 => ?_)
  clear hK hHeld hb
  have hHeld := hHeld2
  clear hHeld2
  try simp only [Act.put, List.setIfInBounds_toArray, List.set_cons_zero, List.set_cons_succ]
  refine wpAnyH_take (i := 23) (oi := { dst := some 82, op := Go.Op.binOp Go.BinOp.leq 3 (Go.Operand.tmp 81) (Go.Operand.const (Go.Value.int Go.IntKind.i64 0)) 3, type := 4, pos := "law.go:214", after := #[{ on := 22, ground := Go.Ground.data }, { on := 19, ground := Go.Ground.guard }], guard := some (19, true) }) (v := ?_) rfl (by kernel_rfl) (by kernel_rfl) (by kernel_rfl) (fun _ _ _ h => h) (Or.inl ⟨by rfl, ?_⟩) hHeld ?_
  case refine_2 => (intro w hSw; (try dsimp only at hSw); go_simp <;> with_reducible rfl)
  try simp only [Act.put, List.setIfInBounds_toArray, List.set_cons_zero, List.set_cons_succ]
  refine wpAnyH_take (i := 24) (oi := { dst := some 83, op := Go.Op.pick (Go.Operand.tmp 78) (Go.Operand.tmp 82) (Go.Operand.const (Go.Value.bool false)), type := 4, pos := "law.go:214", after := #[{ on := 19, ground := Go.Ground.data }, { on := 23, ground := Go.Ground.data }], guard := none }) (v := ?_) rfl (by kernel_rfl) (by kernel_rfl) (by kernel_rfl) (fun _ _ _ h => h) (Or.inl ⟨by rfl, ?_⟩) hHeld ?_
  case refine_2 => (intro w hSw; (try dsimp only at hSw); go_simp <;> with_reducible rfl)
  try simp only [Act.put, List.setIfInBounds_toArray, List.set_cons_zero, List.set_cons_succ]
  refine wpAnyH_take (i := 25) (oi := { dst := some 84, op := Go.Op.move (Go.Operand.tmp 83), type := 4, pos := "law.go:214", after := #[{ on := 24, ground := Go.Ground.data }, { on := 22, ground := Go.Ground.chain }], guard := none }) (v := ?_) rfl (by kernel_rfl) (by kernel_rfl) (by kernel_rfl) (fun _ _ _ h => h) (Or.inl ⟨by rfl, ?_⟩) hHeld ?_
  case refine_2 => (intro w hSw; (try dsimp only at hSw); go_simp <;> with_reducible rfl)
  try simp only [Act.put, List.setIfInBounds_toArray, List.set_cons_zero, List.set_cons_succ]
  refine wpAnyH_take (i := 26) (oi := { dst := some 85, op := Go.Op.load 28 (Go.Operand.tmp 8), type := 28, pos := "law.go:214", after := #[{ on := 25, ground := Go.Ground.guard }], guard := some (25, true) }) (v := ?_) rfl (by kernel_rfl) (by kernel_rfl) (by kernel_rfl) (fun _ _ _ h => h) (Or.inl ⟨by rfl, ?_⟩) hHeld ?_
  case refine_2 => (intro w hSw; (try dsimp only at hSw); go_simp <;> with_reducible rfl)
  try simp only [Act.put, List.setIfInBounds_toArray, List.set_cons_zero, List.set_cons_succ]
  refine wpAnyH_take (i := 27) (oi := { dst := some 86, op := Go.Op.load 28 (Go.Operand.tmp 12), type := 28, pos := "law.go:214", after := #[{ on := 25, ground := Go.Ground.guard }], guard := some (25, true) }) (v := ?_) rfl (by kernel_rfl) (by kernel_rfl) (by kernel_rfl) (fun _ _ _ h => h) (Or.inl ⟨by rfl, ?_⟩) hHeld ?_
  case refine_2 => (intro w hSw; (try dsimp only at hSw); go_simp <;> with_reducible rfl)
  try simp only [Act.put, List.setIfInBounds_toArray, List.set_cons_zero, List.set_cons_succ]
  refine wpAnyH_ready (rs := [28]) (by kernel_rfl) (by simp) ?_
  refine AllReadyH.cons (o := { dst := some 87, op := Go.Op.call { callee := Go.Callee.value (Go.Operand.func 20), args := #[Go.Operand.tmp 85, Go.Operand.tmp 86], argTypes := #[28, 28] }, type := 3, pos := "law.go:214", after := #[{ on := 26, ground := Go.Ground.data }, { on := 27, ground := Go.Ground.data }, { on := 25, ground := Go.Ground.chain }, { on := 25, ground := Go.Ground.guard }], guard := some (25, true) }) rfl (fun KK hK => ?_) AllReadyH.nil
  go_simp
  with_reducible refine (cmp_T ⟨n, dgs L, e⟩ hi c4 _ LL hil HC4.out).mono ?_
  rintro x wJ ⟨rfl, hb⟩
  go_wp2_with fail
  refine hK.out _ _ (KEEP2.out _ _ hHeld hb) (fun hHeld2 => ?_)
  clear hK hHeld hb
  have hHeld := hHeld2
  clear hHeld2
  try simp only [Act.put, List.setIfInBounds_toArray, List.set_cons_zero, List.set_cons_succ]
  refine wpAnyH_take (i := 29) (oi := { dst := some 88, op := Go.Op.binOp Go.BinOp.leq 3 (Go.Operand.tmp 87) (Go.Operand.const (Go.Value.int Go.IntKind.i64 0)) 3, type := 4, pos := "law.go:214", after := #[{ on := 28, ground := Go.Ground.data }, { on := 25, ground := Go.Ground.guard }], guard := some (25, true) }) (v := ?_) rfl (by kernel_rfl) (by kernel_rfl) (by kernel_rfl) (fun _ _ _ h => h) (Or.inl ⟨by rfl, ?_⟩) hHeld ?_
  case refine_2 => (intro w hSw; (try dsimp only at hSw); go_simp <;> with_reducible rfl)
  try simp only [Act.put, List.setIfInBounds_toArray, List.set_cons_zero, List.set_cons_succ]
  refine wpAnyH_take (i := 30) (oi := { dst := some 89, op := Go.Op.pick (Go.Operand.tmp 84) (Go.Operand.tmp 88) (Go.Operand.const (Go.Value.bool false)), type := 4, pos := "law.go:214", after := #[{ on := 25, ground := Go.Ground.data }, { on := 29, ground := Go.Ground.data }], guard := none }) (v := ?_) rfl (by kernel_rfl) (by kernel_rfl) (by kernel_rfl) (fun _ _ _ h => h) (Or.inl ⟨by rfl, ?_⟩) hHeld ?_
  case refine_2 => (intro w hSw; (try dsimp only at hSw); go_simp <;> with_reducible rfl)
  try simp only [Act.put, List.setIfInBounds_toArray, List.set_cons_zero, List.set_cons_succ]
  refine wpAnyH_take (i := 31) (oi := { dst := some 6, op := Go.Op.assign (Go.Operand.tmp 89), type := 4, pos := "law.go:214", after := #[{ on := 30, ground := Go.Ground.data }, { on := 28, ground := Go.Ground.chain }, { on := 0, ground := Go.Ground.phase }, { on := 1, ground := Go.Ground.phase }, { on := 2, ground := Go.Ground.phase }, { on := 3, ground := Go.Ground.phase }, { on := 4, ground := Go.Ground.phase }, { on := 5, ground := Go.Ground.phase }, { on := 6, ground := Go.Ground.phase }, { on := 7, ground := Go.Ground.phase }, { on := 8, ground := Go.Ground.phase }, { on := 9, ground := Go.Ground.phase }, { on := 10, ground := Go.Ground.phase }, { on := 11, ground := Go.Ground.phase }, { on := 12, ground := Go.Ground.phase }, { on := 13, ground := Go.Ground.phase }, { on := 14, ground := Go.Ground.phase }, { on := 15, ground := Go.Ground.phase }, { on := 16, ground := Go.Ground.phase }, { on := 17, ground := Go.Ground.phase }, { on := 18, ground := Go.Ground.phase }, { on := 19, ground := Go.Ground.phase }, { on := 20, ground := Go.Ground.phase }, { on := 21, ground := Go.Ground.phase }, { on := 22, ground := Go.Ground.phase }, { on := 23, ground := Go.Ground.phase }, { on := 24, ground := Go.Ground.phase }, { on := 25, ground := Go.Ground.phase }, { on := 26, ground := Go.Ground.phase }, { on := 27, ground := Go.Ground.phase }, { on := 28, ground := Go.Ground.phase }, { on := 29, ground := Go.Ground.phase }, { on := 30, ground := Go.Ground.phase }], guard := none }) (v := ?_) rfl (by kernel_rfl) (by kernel_rfl) (by kernel_rfl) (fun _ _ _ h => h) (Or.inl ⟨by rfl, ?_⟩) hHeld ?_
  case refine_2 => (intro w hSw; (try dsimp only at hSw); go_simp <;> with_reducible rfl)
  try simp only [Act.put, List.setIfInBounds_toArray, List.set_cons_zero, List.set_cons_succ]
  refine wpAnyH_done (by kernel_rfl) ?_ _
  clear bx0 bx1 bx2 bxl br0 br1 br2 brl bo0 bo1 bo2 bol
  have H10 : Hid (HeldL w [(w9.heap.size, #[.bool hi.neg, S hi.l, .int .i64 hi.e]), (w8.heap.size, #[.bool lo.neg, S lo.l, .int .i64 lo.e]), (w6.heap.size, #[.bool d.neg, S d.l, .int .i64 d.e]), (w4.heap.size, #[.bool r.neg, S r.l, .int .i64 r.e]), (w3.heap.size, #[.bool n, S (dgs L), .int .i64 e]), (w.heap.size, #[.bool n, .slice a len cap, .int .i64 e])] wJ) := Lib.hid (hHeld.2.2.2.2.2.2.2.2.2.2.2.2)
  clear hHeld ALL2 KEEP2 HS2 TAB2 H9
  go_wp2
  go_ret
  exact ⟨rfl, H10.out.bel⟩

end Go.Proofs.YtfbfjkacaadbpaaDoor

namespace Go.Proofs.YtfbfjkacaadbpaaDoor
open Go.RowKit Florin
set_option linter.unusedVariables false
set_option linter.unusedSimpArgs false
attribute [local go_sem ↓] Go.wp_at_zero Go.wp_at_succ eq_V ne_V

set_option maxRecDepth 100000 in
set_option maxHeartbeats 6400000 in
theorem signs_nh (n : Bool) (a : Option Addr) (len cap : Nat) (L : List UInt8) (e : Int) (pl mo : Int) (w : World) (hin : InB w a len cap L) (htab : Tab w) (h1 : len ≤ 40) (h2 : -40 ≤ e) (h3 : e ≤ 40)
    (P M : Int) (hP : wrap64 (pl.tmod 60 - wrap64 ((pl.tmod 60).tdiv 2)) = P) (m0 : 0 ≤ M) (m6 : M ≤ 6) (hM : ∀ w : World, Calls Tryd.prog 19 #[.int .i64 mo] w fun x w' => x = .returned (.int .i64 M) ∧ w = w')
    (r df d t u lo hi y s : Tri) (hr : mulT (made n (dgs L) e) 1 (hld P) M = r) (hdf : SubIs ⟨n, dgs L, e⟩ r df) (hd : made false df.l df.e = d) (hu : made false [49] P = u) (c1 c2 : Int) (hc2 : CmpIs d u c2) (c2n : c2 < 0)
    (hlo : mulT (made n (dgs L) e) 1 (hld P) 6 = lo) (hhi : mulT (made n (dgs L) e) 1 (hld P) 5 = hi) (hy : made (!n) (dgs L) e = y) (hs : mulT (made y.neg y.l y.e) 1 (hld P) (turn M) = s) (hs2 : made (!r.neg) r.l r.e = s) (c3 c4 : Int) (hc3 : CmpIs lo ⟨n, dgs L, e⟩ c3) (c3n : c3 ≤ 0) (hc4 : CmpIs ⟨n, dgs L, e⟩ hi c4) (c4n : c4 ≤ 0)
    (rl : r.l.length ≤ 100000) (dfl : df.l.length ≤ 100000) (ddl : d.l.length ≤ 100000) (ul : u.l.length ≤ 100000) (lol : lo.l.length ≤ 100000) (hil : hi.l.length ≤ 100000) (yl : y.l.length ≤ 100000) (m2 : 2 < M) (elo : r ≠ lo) (ehi : r = hi) :
    Calls Tryd.prog 5 #[RV n a len cap e, .int .i64 pl, .int .i64 mo] w fun x w' => x = .returned (.bool true) ∧ Below w.heap.size w w' := by
  have LL : (dgs L).length ≤ 100000 := by rw [dgs_length, hin.1]; omega
  have hcA := hin.2.1
  have hmA := hin.2.2.1
  have HP := Lib.hid hP
  have HMO := Lib.hid hM
  have HR := Lib.hid hr
  have HDF := Lib.hid hdf
  have HD := Lib.hid hd
  have HU := Lib.hid hu
  have HC2 := Lib.hid hc2
  have HLO := Lib.hid hlo
  have HHI := Lib.hid hhi
  have HY := Lib.hid hy
  have HSA := Lib.hid hs
  have HSB := Lib.hid hs2
  have HC3 := Lib.hid hc3
  have HC4 := Lib.hid hc4
  have HT := Lib.hid htab
  have HIN := Lib.hid hin
  clear hP hM hr hdf hd hu hc2 hlo hhi hy hs hs2 hc3 hc4 htab hin
  have cb2 : decide (0 ≤ c2) = false := by simp; omega
  have cb3 : decide (c3 ≤ 0) = true := by simp; omega
  have cb4 : decide (c4 ≤ 0) = true := by simp; omega
  have mb : decide (M ≤ 2) = false := by simp; omega
  have eb : decide (r = lo) = false := by simp [elo]
  have eb2 : decide (r = hi) = true := by simp [ehi]
  clear ehi
  clear elo
  go_enter Tryd.func5, Tryd.ntmps5
  go_wp2_with fail
  with_reducible refine (head3 _ (HT.out.below (HeldL.alloc (HeldL.refl w) (w.heap.size) #[.bool n, .slice a len cap, .int .i64 e] 24 (by simp)).bel)).mono ?_
  rintro x w1 ⟨rfl, hb⟩
  have H1 : Hid (HeldL w [(w.heap.size, #[.bool n, .slice a len cap, .int .i64 e])] w1) := Lib.hid (HeldL.keep (HeldL.alloc (HeldL.refl w) (w.heap.size) #[.bool n, .slice a len cap, .int .i64 e] 24 (by simp)) hb)
  clear hb
  have q0 : w1.cell? ⟨w.heap.size, 0, none⟩ = some (.bool n) := (H1.out.f (List.Mem.head _)).cell 0
  have q1 : w1.cell? ⟨w.heap.size, 1, none⟩ = some (.slice a len cap) := (H1.out.f (List.Mem.head _)).cell 1
  have q2 : w1.cell? ⟨w.heap.size, 2, none⟩ = some (.int .i64 e) := (H1.out.f (List.Mem.head _)).cell 2
  have ql : w.heap.size < w1.heap.size := (H1.out.f (List.Mem.head _)).lt
  go_wp2_with fail
  with_reducible refine (few_yes n a len cap e 40 _ hcA hmA (by decide) (by decide) (by omega) h2 h3).mono ?_
  rintro x w2 ⟨rfl, hb⟩
  clear q0 q1 q2 ql
  have H2 : Hid (HeldL w [(w.heap.size, #[.bool n, .slice a len cap, .int .i64 e])] w2) := Lib.hid (HeldL.keep H1.out hb)
  clear H1
  clear hb
  have q0 : w2.cell? ⟨w.heap.size, 0, none⟩ = some (.bool n) := (H2.out.f (List.Mem.head _)).cell 0
  have q1 : w2.cell? ⟨w.heap.size, 1, none⟩ = some (.slice a len cap) := (H2.out.f (List.Mem.head _)).cell 1
  have q2 : w2.cell? ⟨w.heap.size, 2, none⟩ = some (.int .i64 e) := (H2.out.f (List.Mem.head _)).cell 2
  have ql : w.heap.size < w2.heap.size := (H2.out.f (List.Mem.head _)).lt
  go_wp2_with fail
  rw [HP.out]
  with_reducible refine (HMO.out _).mono ?_
  rintro x wz ⟨rfl, rfl⟩
  go_wp2_with fail
  with_reducible refine (make_as n a len cap L e _ (HIN.out.below H2.out.bel) (by omega)).mono ?_
  rintro x w3 ⟨rfl, hb⟩
  clear q0 q1 q2 ql
  have H3 : Hid (HeldL w [(w.heap.size, #[.bool n, .slice a len cap, .int .i64 e])] w3) := Lib.hid (HeldL.keep H2.out hb)
  clear H2
  clear hb
  go_wp2_with fail
  with_reducible refine (at_T ⟨n, dgs L, e⟩ P M r _ LL HR.out (HT.out.below (HeldL.alloc H3.out (w3.heap.size) #[.bool n, S (dgs L), .int .i64 e] 28 (by simp)).bel)).mono ?_
  rintro x w4 ⟨rfl, hb⟩
  have H4 : Hid (HeldL w [(w3.heap.size, #[.bool n, S (dgs L), .int .i64 e]), (w.heap.size, #[.bool n, .slice a len cap, .int .i64 e])] w4) := Lib.hid (HeldL.keep (HeldL.alloc H3.out (w3.heap.size) #[.bool n, S (dgs L), .int .i64 e] 28 (by simp)) hb)
  clear H3
  clear hb
  have bx0 : w4.cell? ⟨w3.heap.size, 0, none⟩ = some (.bool n) := (H4.out.f (List.Mem.head _)).cell 0
  have bx1 : w4.cell? ⟨w3.heap.size, 1, none⟩ = some (S (dgs L)) := (H4.out.f (List.Mem.head _)).cell 1
  have bx2 : w4.cell? ⟨w3.heap.size, 2, none⟩ = some (.int .i64 e) := (H4.out.f (List.Mem.head _)).cell 2
  have bxl : w3.heap.size < w4.heap.size := (H4.out.f (List.Mem.head _)).lt
  go_wp2_with fail
  with_reducible refine (sub_T ⟨n, dgs L, e⟩ r df _ LL rl HDF.out).mono ?_
  rintro x w5 ⟨rfl, hb⟩
  clear bx0 bx1 bx2 bxl
  have H5 : Hid (HeldL w [(w4.heap.size, #[.bool r.neg, S r.l, .int .i64 r.e]), (w3.heap.size, #[.bool n, S (dgs L), .int .i64 e]), (w.heap.size, #[.bool n, .slice a len cap, .int .i64 e])] w5) := Lib.hid (HeldL.keep (HeldL.alloc H4.out (w4.heap.size) #[.bool r.neg, S r.l, .int .i64 r.e] 28 (by simp)) hb)
  clear H4
  clear hb
  go_wp2_with fail
  with_reducible refine (abs_T df d _ dfl HD.out).mono ?_
  rintro x w6 ⟨rfl, hb⟩
  have H6 : Hid (HeldL w [(w4.heap.size, #[.bool r.neg, S r.l, .int .i64 r.e]), (w3.heap.size, #[.bool n, S (dgs L), .int .i64 e]), (w.heap.size, #[.bool n, .slice a len cap, .int .i64 e])] w6) := Lib.hid (HeldL.keep H5.out hb)
  clear H5
  clear hb
  have bx0 : w6.cell? ⟨w3.heap.size, 0, none⟩ = some (.bool n) := (H6.out.f (List.Mem.tail _ (List.Mem.head _))).cell 0
  have bx1 : w6.cell? ⟨w3.heap.size, 1, none⟩ = some (S (dgs L)) := (H6.out.f (List.Mem.tail _ (List.Mem.head _))).cell 1
  have bx2 : w6.cell? ⟨w3.heap.size, 2, none⟩ = some (.int .i64 e) := (H6.out.f (List.Mem.tail _ (List.Mem.head _))).cell 2
  have bxl : w3.heap.size < w6.heap.size := (H6.out.f (List.Mem.tail _ (List.Mem.head _))).lt
  have br0 : w6.cell? ⟨w4.heap.size, 0, none⟩ = some (.bool r.neg) := (H6.out.f (List.Mem.head _)).cell 0
  have br1 : w6.cell? ⟨w4.heap.size, 1, none⟩ = some (S r.l) := (H6.out.f (List.Mem.head _)).cell 1
  have br2 : w6.cell? ⟨w4.heap.size, 2, none⟩ = some (.int .i64 r.e) := (H6.out.f (List.Mem.head _)).cell 2
  have brl : w4.heap.size < w6.heap.size := (H6.out.f (List.Mem.head _)).lt
  go_wp2_with fail
  have ALL1 : Hid (∀ w' : World, HeldL w [(w6.heap.size, #[.bool d.neg, S d.l, .int .i64 d.e]), (w4.heap.size, #[.bool r.neg, S r.l, .int .i64 r.e]), (w3.heap.size, #[.bool n, S (dgs L), .int .i64 e]), (w.heap.size, #[.bool n, .slice a len cap, .int .i64 e])] w' → w'.cell? ⟨w6.heap.size, 0, none⟩ = some (.bool d.neg) ∧ w'.cell? ⟨w6.heap.size, 1, none⟩ = some (S d.l) ∧ w'.cell? ⟨w6.heap.size, 2, none⟩ = some (.int .i64 d.e) ∧ HeldL w [(w6.heap.size, #[.bool d.neg, S d.l, .int .i64 d.e]), (w4.heap.size, #[.bool r.neg, S r.l, .int .i64 r.e]), (w3.heap.size, #[.bool n, S (dgs L), .int .i64 e]), (w.heap.size, #[.bool n, .slice a len cap, .int .i64 e])] w') := Lib.hid (fun w' h => ⟨(h.f (List.Mem.head _)).cell 0, (h.f (List.Mem.head _)).cell 1, (h.f (List.Mem.head _)).cell 2, h⟩)
  have KEEP1 : Hid (∀ w' w'' : World, (w'.cell? ⟨w6.heap.size, 0, none⟩ = some (.bool d.neg) ∧ w'.cell? ⟨w6.heap.size, 1, none⟩ = some (S d.l) ∧ w'.cell? ⟨w6.heap.size, 2, none⟩ = some (.int .i64 d.e) ∧ HeldL w [(w6.heap.size, #[.bool d.neg, S d.l, .int .i64 d.e]), (w4.heap.size, #[.bool r.neg, S r.l, .int .i64 r.e]), (w3.heap.size, #[.bool n, S (dgs L), .int .i64 e]), (w.heap.size, #[.bool n, .slice a len cap, .int .i64 e])] w') → Below w'.heap.size w' w'' → (w''.cell? ⟨w6.heap.size, 0, none⟩ = some (.bool d.neg) ∧ w''.cell? ⟨w6.heap.size, 1, none⟩ = some (S d.l) ∧ w''.cell? ⟨w6.heap.size, 2, none⟩ = some (.int .i64 d.e) ∧ HeldL w [(w6.heap.size, #[.bool d.neg, S d.l, .int .i64 d.e]), (w4.heap.size, #[.bool r.neg, S r.l, .int .i64 r.e]), (w3.heap.size, #[.bool n, S (dgs L), .int .i64 e]), (w.heap.size, #[.bool n, .slice a len cap, .int .i64 e])] w'')) := Lib.hid (fun w' w'' h hb => ALL1.out _ (HeldL.keep (h.2.2.2) hb))
  have HS1 : Hid (HeldL w [(w6.heap.size, #[.bool d.neg, S d.l, .int .i64 d.e]), (w4.heap.size, #[.bool r.neg, S r.l, .int .i64 r.e]), (w3.heap.size, #[.bool n, S (dgs L), .int .i64 e]), (w.heap.size, #[.bool n, .slice a len cap, .int .i64 e])] _) := Lib.hid (HeldL.alloc H6.out (w6.heap.size) #[.bool d.neg, S d.l, .int .i64 d.e] 28 (by simp))
  have TAB1 : Hid (∀ w' : World, (w'.cell? ⟨w6.heap.size, 0, none⟩ = some (.bool d.neg) ∧ w'.cell? ⟨w6.heap.size, 1, none⟩ = some (S d.l) ∧ w'.cell? ⟨w6.heap.size, 2, none⟩ = some (.int .i64 d.e) ∧ HeldL w [(w6.heap.size, #[.bool d.neg, S d.l, .int .i64 d.e]), (w4.heap.size, #[.bool r.neg, S r.l, .int .i64 r.e]), (w3.heap.size, #[.bool n, S (dgs L), .int .i64 e]), (w.heap.size, #[.bool n, .slice a len cap, .int .i64 e])] w') → Tab w') := Lib.hid (fun w' h => HT.out.below (h.2.2.2).bel)
  refine wp_region_held_drew (S := fun w' => w'.cell? ⟨w6.heap.size, 0, none⟩ = some (.bool d.neg) ∧ w'.cell? ⟨w6.heap.size, 1, none⟩ = some (S d.l) ∧ w'.cell? ⟨w6.heap.size, 2, none⟩ = some (.int .i64 d.e) ∧ HeldL w [(w6.heap.size, #[.bool d.neg, S d.l, .int .i64 d.e]), (w4.heap.size, #[.bool r.neg, S r.l, .int .i64 r.e]), (w3.heap.size, #[.bool n, S (dgs L), .int .i64 e]), (w.heap.size, #[.bool n, .slice a len cap, .int .i64 e])] w') (by kernel_rfl) (ALL1.out _ (HeldL.drew HS1.out)) (fun hHeld => ?_)
  refine wpAnyH_take (i := 0) (oi := { dst := some 36, op := Go.Op.move (Go.Operand.tmp 7), type := 30, pos := "law.go:209", after := #[], guard := none }) (v := ?_) rfl (by kernel_rfl) (by kernel_rfl) (by kernel_rfl) (fun _ _ _ h => h) (Or.inl ⟨by rfl, ?_⟩) hHeld ?_
  case refine_2 => (intro w hSw; (try dsimp only at hSw); go_simp <;> with_reducible rfl)
  try simp only [Act.put, List.setIfInBounds_toArray, List.set_cons_zero, List.set_cons_succ]
  refine wpAnyH_take (i := 1) (oi := { dst := some 37, op := Go.Op.binOp Go.BinOp.leq 30 (Go.Operand.tmp 36) (Go.Operand.const (Go.Value.int Go.IntKind.i64 2)) 30, type := 4, pos := "law.go:209", after := #[{ on := 0, ground := Go.Ground.data }], guard := none }) (v := ?_) rfl (by kernel_rfl) (by kernel_rfl) (by kernel_rfl) (fun _ _ _ h => h) (Or.inl ⟨by rfl, ?_⟩) hHeld ?_
  case refine_2 => (intro w hSw; (try dsimp only at hSw); go_simp <;> with_reducible rfl)
  try simp only [Act.put, List.setIfInBounds_toArray, List.set_cons_zero, List.set_cons_succ]
  refine wpAnyH_take (i := 2) (oi := { dst := some 38, op := Go.Op.move (Go.Operand.tmp 37), type := 4, pos := "law.go:209", after := #[{ on := 1, ground := Go.Ground.data }], guard := none }) (v := ?_) rfl (by kernel_rfl) (by kernel_rfl) (by kernel_rfl) (fun _ _ _ h => h) (Or.inl ⟨by rfl, ?_⟩) hHeld ?_
  case refine_2 => (intro w hSw; (try dsimp only at hSw); go_simp <;> with_reducible rfl)
  try simp only [Act.put, List.setIfInBounds_toArray, List.set_cons_zero, List.set_cons_succ]
  refine wpAnyH_take (i := 3) (oi := { dst := some 39, op := Go.Op.load 28 (Go.Operand.tmp 10), type := 28, pos := "law.go:209", after := #[{ on := 2, ground := Go.Ground.guard }], guard := some (2, true) }) (v := undef) rfl (by kernel_rfl) (by kernel_rfl) (by kernel_rfl) (fun _ _ _ h => h) (Or.inr ⟨by rfl, rfl⟩) hHeld ?_
  try simp only [Act.put, List.setIfInBounds_toArray, List.set_cons_zero, List.set_cons_succ]
  refine wpAnyH_take (i := 4) (oi := { dst := some 40, op := Go.Op.call { callee := Go.Callee.value (Go.Operand.func 23), args := #[Go.Operand.tmp 39], argTypes := #[28] }, type := 28, pos := "law.go:209", after := #[{ on := 3, ground := Go.Ground.data }, { on := 2, ground := Go.Ground.chain }, { on := 2, ground := Go.Ground.guard }], guard := some (2, true) }) (v := undef) rfl (by kernel_rfl) (by kernel_rfl) (by kernel_rfl) (fun _ _ _ h => h) (Or.inr ⟨by rfl, rfl⟩) hHeld ?_
  try simp only [Act.put, List.setIfInBounds_toArray, List.set_cons_zero, List.set_cons_succ]
  refine wpAnyH_take (i := 5) (oi := { dst := some 41, op := Go.Op.move (Go.Operand.tmp 1), type := 3, pos := "law.go:209", after := #[{ on := 2, ground := Go.Ground.guard }], guard := some (2, true) }) (v := undef) rfl (by kernel_rfl) (by kernel_rfl) (by kernel_rfl) (fun _ _ _ h => h) (Or.inr ⟨by rfl, rfl⟩) hHeld ?_
  try simp only [Act.put, List.setIfInBounds_toArray, List.set_cons_zero, List.set_cons_succ]
  refine wpAnyH_take (i := 6) (oi := { dst := some 42, op := Go.Op.call { callee := Go.Callee.value (Go.Operand.func 24), args := #[Go.Operand.tmp 41], argTypes := #[3] }, type := 28, pos := "law.go:209", after := #[{ on := 5, ground := Go.Ground.data }, { on := 4, ground := Go.Ground.chain }, { on := 2, ground := Go.Ground.guard }], guard := some (2, true) }) (v := undef) rfl (by kernel_rfl) (by kernel_rfl) (by kernel_rfl) (fun _ _ _ h => h) (Or.inr ⟨by rfl, rfl⟩) hHeld ?_
  try simp only [Act.put, List.setIfInBounds_toArray, List.set_cons_zero, List.set_cons_succ]
  refine wpAnyH_take (i := 7) (oi := { dst := some 43, op := Go.Op.call { callee := Go.Callee.value (Go.Operand.func 20), args := #[Go.Operand.tmp 40, Go.Operand.tmp 42], argTypes := #[28, 28] }, type := 3, pos := "law.go:209", after := #[{ on := 4, ground := Go.Ground.data }, { on := 6, ground := Go.Ground.data }, { on := 6, ground := Go.Ground.chain }, { on := 2, ground := Go.Ground.guard }], guard := some (2, true) }) (v := undef) rfl (by kernel_rfl) (by kernel_rfl) (by kernel_rfl) (fun _ _ _ h => h) (Or.inr ⟨by rfl, rfl⟩) hHeld ?_
  try simp only [Act.put, List.setIfInBounds_toArray, List.set_cons_zero, List.set_cons_succ]
  refine wpAnyH_take (i := 8) (oi := { dst := some 44, op := Go.Op.binOp Go.BinOp.gtr 3 (Go.Operand.tmp 43) (Go.Operand.const (Go.Value.int Go.IntKind.i64 0)) 3, type := 4, pos := "law.go:209", after := #[{ on := 7, ground := Go.Ground.data }, { on := 2, ground := Go.Ground.guard }], guard := some (2, true) }) (v := undef) rfl (by kernel_rfl) (by kernel_rfl) (by kernel_rfl) (fun _ _ _ h => h) (Or.inr ⟨by rfl, rfl⟩) hHeld ?_
  try simp only [Act.put, List.setIfInBounds_toArray, List.set_cons_zero, List.set_cons_succ]
  refine wpAnyH_take (i := 9) (oi := { dst := some 45, op := Go.Op.pick (Go.Operand.tmp 38) (Go.Operand.tmp 44) (Go.Operand.const (Go.Value.bool false)), type := 4, pos := "law.go:209", after := #[{ on := 2, ground := Go.Ground.data }, { on := 8, ground := Go.Ground.data }], guard := none }) (v := ?_) rfl (by kernel_rfl) (by kernel_rfl) (by kernel_rfl) (fun _ _ _ h => h) (Or.inl ⟨by rfl, ?_⟩) hHeld ?_
  case refine_2 => (intro w hSw; (try dsimp only at hSw); go_simp <;> with_reducible rfl)
  try simp only [Act.put, List.setIfInBounds_toArray, List.set_cons_zero, List.set_cons_succ]
  refine wpAnyH_take (i := 10) (oi := { dst := some 46, op := Go.Op.move (Go.Operand.tmp 45), type := 4, pos := "law.go:209", after := #[{ on := 9, ground := Go.Ground.data }, { on := 7, ground := Go.Ground.chain }], guard := none }) (v := ?_) rfl (by kernel_rfl) (by kernel_rfl) (by kernel_rfl) (fun _ _ _ h => h) (Or.inl ⟨by rfl, ?_⟩) hHeld ?_
  case refine_2 => (intro w hSw; (try dsimp only at hSw); go_simp <;> with_reducible rfl)
  try simp only [Act.put, List.setIfInBounds_toArray, List.set_cons_zero, List.set_cons_succ]
  refine wpAnyH_take (i := 11) (oi := { dst := some 47, op := Go.Op.load 28 (Go.Operand.tmp 10), type := 28, pos := "law.go:209", after := #[{ on := 10, ground := Go.Ground.guard }], guard := some (10, false) }) (v := ?_) rfl (by kernel_rfl) (by kernel_rfl) (by kernel_rfl) (fun _ _ _ h => h) (Or.inl ⟨by rfl, ?_⟩) hHeld ?_
  case refine_2 => (intro w hSw; (try dsimp only at hSw); go_simp <;> with_reducible rfl)
  try simp only [Act.put, List.setIfInBounds_toArray, List.set_cons_zero, List.set_cons_succ]
  refine wpAnyH_take (i := 12) (oi := { dst := some 48, op := Go.Op.move (Go.Operand.tmp 1), type := 3, pos := "law.go:209", after := #[{ on := 10, ground := Go.Ground.guard }], guard := some (10, false) }) (v := ?_) rfl (by kernel_rfl) (by kernel_rfl) (by kernel_rfl) (fun _ _ _ h => h) (Or.inl ⟨by rfl, ?_⟩) hHeld ?_
  case refine_2 => (intro w hSw; (try dsimp only at hSw); go_simp <;> with_reducible rfl)
  try simp only [Act.put, List.setIfInBounds_toArray, List.set_cons_zero, List.set_cons_succ]
  refine wpAnyH_ready (rs := [13]) (by kernel_rfl) (by simp) ?_
  refine AllReadyH.cons (o := { dst := some 49, op := Go.Op.call { callee := Go.Callee.value (Go.Operand.func 24), args := #[Go.Operand.tmp 48], argTypes := #[3] }, type := 28, pos := "law.go:209", after := #[{ on := 12, ground := Go.Ground.data }, { on := 10, ground := Go.Ground.chain }, { on := 10, ground := Go.Ground.guard }], guard := some (10, false) }) rfl (fun KK hK => ?_) AllReadyH.nil
  go_simp
  with_reducible refine (unit_as P _ u HU.out).mono ?_
  rintro x wD ⟨rfl, hb⟩
  go_wp2_with fail
  refine hK.out _ _ (KEEP1.out _ _ hHeld hb) (fun hHeld2 => ?_)
  clear hK hHeld hb
  have hHeld := hHeld2
  clear hHeld2
  try simp only [Act.put, List.setIfInBounds_toArray, List.set_cons_zero, List.set_cons_succ]
  refine wpAnyH_ready (rs := [14]) (by kernel_rfl) (by simp) ?_
  refine AllReadyH.cons (o := { dst := some 50, op := Go.Op.call { callee := Go.Callee.value (Go.Operand.func 20), args := #[Go.Operand.tmp 47, Go.Operand.tmp 49], argTypes := #[28, 28] }, type := 3, pos := "law.go:209", after := #[{ on := 11, ground := Go.Ground.data }, { on := 13, ground := Go.Ground.data }, { on := 13, ground := Go.Ground.chain }, { on := 10, ground := Go.Ground.guard }], guard := some (10, false) }) rfl (fun KK hK => ?_) AllReadyH.nil
  go_simp
  with_reducible refine (cmp_T d u c2 _ ddl ul HC2.out).mono ?_
  rintro x wE ⟨rfl, hb⟩
  go_wp2_with fail
  refine hK.out _ _ (KEEP1.out _ _ hHeld hb) (fun hHeld2 => ?_)
  clear hK hHeld hb
  have hHeld := hHeld2
  clear hHeld2
  try simp only [Act.put, List.setIfInBounds_toArray, List.set_cons_zero, List.set_cons_succ]
  refine wpAnyH_take (i := 15) (oi := { dst := some 51, op := Go.Op.binOp Go.BinOp.geq 3 (Go.Operand.tmp 50) (Go.Operand.const (Go.Value.int Go.IntKind.i64 0)) 3, type := 4, pos := "law.go:209", after := #[{ on := 14, ground := Go.Ground.data }, { on := 10, ground := Go.Ground.guard }], guard := some (10, false) }) (v := ?_) rfl (by kernel_rfl) (by kernel_rfl) (by kernel_rfl) (fun _ _ _ h => h) (Or.inl ⟨by rfl, ?_⟩) hHeld ?_
  case refine_2 => (intro w hSw; (try dsimp only at hSw); go_simp <;> with_reducible rfl)
  try simp only [Act.put, List.setIfInBounds_toArray, List.set_cons_zero, List.set_cons_succ]
  refine wpAnyH_take (i := 16) (oi := { dst := some 52, op := Go.Op.pick (Go.Operand.tmp 46) (Go.Operand.const (Go.Value.bool true)) (Go.Operand.tmp 51), type := 4, pos := "law.go:209", after := #[{ on := 10, ground := Go.Ground.data }, { on := 15, ground := Go.Ground.data }], guard := none }) (v := ?_) rfl (by kernel_rfl) (by kernel_rfl) (by kernel_rfl) (fun _ _ _ h => h) (Or.inl ⟨by rfl, ?_⟩) hHeld ?_
  case refine_2 => (intro w hSw; (try dsimp only at hSw); go_simp <;> with_reducible rfl)
  try simp only [Act.put, List.setIfInBounds_toArray, List.set_cons_zero, List.set_cons_succ]
  refine wpAnyH_done (by kernel_rfl) ?_ _
  clear bx0 bx1 bx2 bxl br0 br1 br2 brl
  have H7 : Hid (HeldL w [(w6.heap.size, #[.bool d.neg, S d.l, .int .i64 d.e]), (w4.heap.size, #[.bool r.neg, S r.l, .int .i64 r.e]), (w3.heap.size, #[.bool n, S (dgs L), .int .i64 e]), (w.heap.size, #[.bool n, .slice a len cap, .int .i64 e])] wE) := Lib.hid (hHeld.2.2.2)
  clear hHeld ALL1 KEEP1 HS1 TAB1 H6
  have bx0 : wE.cell? ⟨w3.heap.size, 0, none⟩ = some (.bool n) := (H7.out.f (List.Mem.tail _ (List.Mem.tail _ (List.Mem.head _)))).cell 0
  have bx1 : wE.cell? ⟨w3.heap.size, 1, none⟩ = some (S (dgs L)) := (H7.out.f (List.Mem.tail _ (List.Mem.tail _ (List.Mem.head _)))).cell 1
  have bx2 : wE.cell? ⟨w3.heap.size, 2, none⟩ = some (.int .i64 e) := (H7.out.f (List.Mem.tail _ (List.Mem.tail _ (List.Mem.head _)))).cell 2
  have bxl : w3.heap.size < wE.heap.size := (H7.out.f (List.Mem.tail _ (List.Mem.tail _ (List.Mem.head _)))).lt
  go_wp2_with fail
  with_reducible refine (at_T ⟨n, dgs L, e⟩ P 6 lo _ LL HLO.out (HT.out.below H7.out.bel)).mono ?_
  rintro x w8 ⟨rfl, hb⟩
  clear bx0 bx1 bx2 bxl
  have H8 : Hid (HeldL w [(w6.heap.size, #[.bool d.neg, S d.l, .int .i64 d.e]), (w4.heap.size, #[.bool r.neg, S r.l, .int .i64 r.e]), (w3.heap.size, #[.bool n, S (dgs L), .int .i64 e]), (w.heap.size, #[.bool n, .slice a len cap, .int .i64 e])] w8) := Lib.hid (HeldL.keep H7.out hb)
  clear H7
  clear hb
  have bx0 : w8.cell? ⟨w3.heap.size, 0, none⟩ = some (.bool n) := (H8.out.f (List.Mem.tail _ (List.Mem.tail _ (List.Mem.head _)))).cell 0
  have bx1 : w8.cell? ⟨w3.heap.size, 1, none⟩ = some (S (dgs L)) := (H8.out.f (List.Mem.tail _ (List.Mem.tail _ (List.Mem.head _)))).cell 1
  have bx2 : w8.cell? ⟨w3.heap.size, 2, none⟩ = some (.int .i64 e) := (H8.out.f (List.Mem.tail _ (List.Mem.tail _ (List.Mem.head _)))).cell 2
  have bxl : w3.heap.size < w8.heap.size := (H8.out.f (List.Mem.tail _ (List.Mem.tail _ (List.Mem.head _)))).lt
  go_wp2_with fail
  with_reducible refine (at_T ⟨n, dgs L, e⟩ P 5 hi _ LL HHI.out (HT.out.below (HeldL.alloc H8.out (w8.heap.size) #[.bool lo.neg, S lo.l, .int .i64 lo.e] 28 (by simp)).bel)).mono ?_
  rintro x w9 ⟨rfl, hb⟩
  clear bx0 bx1 bx2 bxl
  have H9 : Hid (HeldL w [(w8.heap.size, #[.bool lo.neg, S lo.l, .int .i64 lo.e]), (w6.heap.size, #[.bool d.neg, S d.l, .int .i64 d.e]), (w4.heap.size, #[.bool r.neg, S r.l, .int .i64 r.e]), (w3.heap.size, #[.bool n, S (dgs L), .int .i64 e]), (w.heap.size, #[.bool n, .slice a len cap, .int .i64 e])] w9) := Lib.hid (HeldL.keep (HeldL.alloc H8.out (w8.heap.size) #[.bool lo.neg, S lo.l, .int .i64 lo.e] 28 (by simp)) hb)
  clear H8
  clear hb
  have bx0 : w9.cell? ⟨w3.heap.size, 0, none⟩ = some (.bool n) := (H9.out.f (List.Mem.tail _ (List.Mem.tail _ (List.Mem.tail _ (List.Mem.head _))))).cell 0
  have bx1 : w9.cell? ⟨w3.heap.size, 1, none⟩ = some (S (dgs L)) := (H9.out.f (List.Mem.tail _ (List.Mem.tail _ (List.Mem.tail _ (List.Mem.head _))))).cell 1
  have bx2 : w9.cell? ⟨w3.heap.size, 2, none⟩ = some (.int .i64 e) := (H9.out.f (List.Mem.tail _ (List.Mem.tail _ (List.Mem.tail _ (List.Mem.head _))))).cell 2
  have bxl : w3.heap.size < w9.heap.size := (H9.out.f (List.Mem.tail _ (List.Mem.tail _ (List.Mem.tail _ (List.Mem.head _))))).lt
  have br0 : w9.cell? ⟨w4.heap.size, 0, none⟩ = some (.bool r.neg) := (H9.out.f (List.Mem.tail _ (List.Mem.tail _ (List.Mem.head _)))).cell 0
  have br1 : w9.cell? ⟨w4.heap.size, 1, none⟩ = some (S r.l) := (H9.out.f (List.Mem.tail _ (List.Mem.tail _ (List.Mem.head _)))).cell 1
  have br2 : w9.cell? ⟨w4.heap.size, 2, none⟩ = some (.int .i64 r.e) := (H9.out.f (List.Mem.tail _ (List.Mem.tail _ (List.Mem.head _)))).cell 2
  have brl : w4.heap.size < w9.heap.size := (H9.out.f (List.Mem.tail _ (List.Mem.tail _ (List.Mem.head _)))).lt
  have bo0 : w9.cell? ⟨w8.heap.size, 0, none⟩ = some (.bool lo.neg) := (H9.out.f (List.Mem.head _)).cell 0
  have bo1 : w9.cell? ⟨w8.heap.size, 1, none⟩ = some (S lo.l) := (H9.out.f (List.Mem.head _)).cell 1
  have bo2 : w9.cell? ⟨w8.heap.size, 2, none⟩ = some (.int .i64 lo.e) := (H9.out.f (List.Mem.head _)).cell 2
  have bol : w8.heap.size < w9.heap.size := (H9.out.f (List.Mem.head _)).lt
  go_wp2_with fail
  have ALL2 : Hid (∀ w' : World, HeldL w [(w9.heap.size, #[.bool hi.neg, S hi.l, .int .i64 hi.e]), (w8.heap.size, #[.bool lo.neg, S lo.l, .int .i64 lo.e]), (w6.heap.size, #[.bool d.neg, S d.l, .int .i64 d.e]), (w4.heap.size, #[.bool r.neg, S r.l, .int .i64 r.e]), (w3.heap.size, #[.bool n, S (dgs L), .int .i64 e]), (w.heap.size, #[.bool n, .slice a len cap, .int .i64 e])] w' → w'.cell? ⟨w3.heap.size, 0, none⟩ = some (.bool n) ∧ w'.cell? ⟨w3.heap.size, 1, none⟩ = some (S (dgs L)) ∧ w'.cell? ⟨w3.heap.size, 2, none⟩ = some (.int .i64 e) ∧ w'.cell? ⟨w4.heap.size, 0, none⟩ = some (.bool r.neg) ∧ w'.cell? ⟨w4.heap.size, 1, none⟩ = some (S r.l) ∧ w'.cell? ⟨w4.heap.size, 2, none⟩ = some (.int .i64 r.e) ∧ w'.cell? ⟨w8.heap.size, 0, none⟩ = some (.bool lo.neg) ∧ w'.cell? ⟨w8.heap.size, 1, none⟩ = some (S lo.l) ∧ w'.cell? ⟨w8.heap.size, 2, none⟩ = some (.int .i64 lo.e) ∧ w'.cell? ⟨w9.heap.size, 0, none⟩ = some (.bool hi.neg) ∧ w'.cell? ⟨w9.heap.size, 1, none⟩ = some (S hi.l) ∧ w'.cell? ⟨w9.heap.size, 2, none⟩ = some (.int .i64 hi.e) ∧ HeldL w [(w9.heap.size, #[.bool hi.neg, S hi.l, .int .i64 hi.e]), (w8.heap.size, #[.bool lo.neg, S lo.l, .int .i64 lo.e]), (w6.heap.size, #[.bool d.neg, S d.l, .int .i64 d.e]), (w4.heap.size, #[.bool r.neg, S r.l, .int .i64 r.e]), (w3.heap.size, #[.bool n, S (dgs L), .int .i64 e]), (w.heap.size, #[.bool n, .slice a len cap, .int .i64 e])] w') := Lib.hid (fun w' h => ⟨(h.f (List.Mem.tail _ (List.Mem.tail _ (List.Mem.tail _ (List.Mem.tail _ (List.Mem.head _)))))).cell 0, (h.f (List.Mem.tail _ (List.Mem.tail _ (List.Mem.tail _ (List.Mem.tail _ (List.Mem.head _)))))).cell 1, (h.f (List.Mem.tail _ (List.Mem.tail _ (List.Mem.tail _ (List.Mem.tail _ (List.Mem.head _)))))).cell 2, (h.f (List.Mem.tail _ (List.Mem.tail _ (List.Mem.tail _ (List.Mem.head _))))).cell 0, (h.f (List.Mem.tail _ (List.Mem.tail _ (List.Mem.tail _ (List.Mem.head _))))).cell 1, (h.f (List.Mem.tail _ (List.Mem.tail _ (List.Mem.tail _ (List.Mem.head _))))).cell 2, (h.f (List.Mem.tail _ (List.Mem.head _))).cell 0, (h.f (List.Mem.tail _ (List.Mem.head _))).cell 1, (h.f (List.Mem.tail _ (List.Mem.head _))).cell 2, (h.f (List.Mem.head _)).cell 0, (h.f (List.Mem.head _)).cell 1, (h.f (List.Mem.head _)).cell 2, h⟩)
  have KEEP2 : Hid (∀ w' w'' : World, (w'.cell? ⟨w3.heap.size, 0, none⟩ = some (.bool n) ∧ w'.cell? ⟨w3.heap.size, 1, none⟩ = some (S (dgs L)) ∧ w'.cell? ⟨w3.heap.size, 2, none⟩ = some (.int .i64 e) ∧ w'.cell? ⟨w4.heap.size, 0, none⟩ = some (.bool r.neg) ∧ w'.cell? ⟨w4.heap.size, 1, none⟩ = some (S r.l) ∧ w'.cell? ⟨w4.heap.size, 2, none⟩ = some (.int .i64 r.e) ∧ w'.cell? ⟨w8.heap.size, 0, none⟩ = some (.bool lo.neg) ∧ w'.cell? ⟨w8.heap.size, 1, none⟩ = some (S lo.l) ∧ w'.cell? ⟨w8.heap.size, 2, none⟩ = some (.int .i64 lo.e) ∧ w'.cell? ⟨w9.heap.size, 0, none⟩ = some (.bool hi.neg) ∧ w'.cell? ⟨w9.heap.size, 1, none⟩ = some (S hi.l) ∧ w'.cell? ⟨w9.heap.size, 2, none⟩ = some (.int .i64 hi.e) ∧ HeldL w [(w9.heap.size, #[.bool hi.neg, S hi.l, .int .i64 hi.e]), (w8.heap.size, #[.bool lo.neg, S lo.l, .int .i64 lo.e]), (w6.heap.size, #[.bool d.neg, S d.l, .int .i64 d.e]), (w4.heap.size, #[.bool r.neg, S r.l, .int .i64 r.e]), (w3.heap.size, #[.bool n, S (dgs L), .int .i64 e]), (w.heap.size, #[.bool n, .slice a len cap, .int .i64 e])] w') → Below w'.heap.size w' w'' → (w''.cell? ⟨w3.heap.size, 0, none⟩ = some (.bool n) ∧ w''.cell? ⟨w3.heap.size, 1, none⟩ = some (S (dgs L)) ∧ w''.cell? ⟨w3.heap.size, 2, none⟩ = some (.int .i64 e) ∧ w''.cell? ⟨w4.heap.size, 0, none⟩ = some (.bool r.neg) ∧ w''.cell? ⟨w4.heap.size, 1, none⟩ = some (S r.l) ∧ w''.cell? ⟨w4.heap.size, 2, none⟩ = some (.int .i64 r.e) ∧ w''.cell? ⟨w8.heap.size, 0, none⟩ = some (.bool lo.neg) ∧ w''.cell? ⟨w8.heap.size, 1, none⟩ = some (S lo.l) ∧ w''.cell? ⟨w8.heap.size, 2, none⟩ = some (.int .i64 lo.e) ∧ w''.cell? ⟨w9.heap.size, 0, none⟩ = some (.bool hi.neg) ∧ w''.cell? ⟨w9.heap.size, 1, none⟩ = some (S hi.l) ∧ w''.cell? ⟨w9.heap.size, 2, none⟩ = some (.int .i64 hi.e) ∧ HeldL w [(w9.heap.size, #[.bool hi.neg, S hi.l, .int .i64 hi.e]), (w8.heap.size, #[.bool lo.neg, S lo.l, .int .i64 lo.e]), (w6.heap.size, #[.bool d.neg, S d.l, .int .i64 d.e]), (w4.heap.size, #[.bool r.neg, S r.l, .int .i64 r.e]), (w3.heap.size, #[.bool n, S (dgs L), .int .i64 e]), (w.heap.size, #[.bool n, .slice a len cap, .int .i64 e])] w'')) := Lib.hid (fun w' w'' h hb => ALL2.out _ (HeldL.keep (h.2.2.2.2.2.2.2.2.2.2.2.2) hb))
  have HS2 : Hid (HeldL w [(w9.heap.size, #[.bool hi.neg, S hi.l, .int .i64 hi.e]), (w8.heap.size, #[.bool lo.neg, S lo.l, .int .i64 lo.e]), (w6.heap.size, #[.bool d.neg, S d.l, .int .i64 d.e]), (w4.heap.size, #[.bool r.neg, S r.l, .int .i64 r.e]), (w3.heap.size, #[.bool n, S (dgs L), .int .i64 e]), (w.heap.size, #[.bool n, .slice a len cap, .int .i64 e])] _) := Lib.hid (HeldL.alloc H9.out (w9.heap.size) #[.bool hi.neg, S hi.l, .int .i64 hi.e] 28 (by simp))
  have TAB2 : Hid (∀ w' : World, (w'.cell? ⟨w3.heap.size, 0, none⟩ = some (.bool n) ∧ w'.cell? ⟨w3.heap.size, 1, none⟩ = some (S (dgs L)) ∧ w'.cell? ⟨w3.heap.size, 2, none⟩ = some (.int .i64 e) ∧ w'.cell? ⟨w4.heap.size, 0, none⟩ = some (.bool r.neg) ∧ w'.cell? ⟨w4.heap.size, 1, none⟩ = some (S r.l) ∧ w'.cell? ⟨w4.heap.size, 2, none⟩ = some (.int .i64 r.e) ∧ w'.cell? ⟨w8.heap.size, 0, none⟩ = some (.bool lo.neg) ∧ w'.cell? ⟨w8.heap.size, 1, none⟩ = some (S lo.l) ∧ w'.cell? ⟨w8.heap.size, 2, none⟩ = some (.int .i64 lo.e) ∧ w'.cell? ⟨w9.heap.size, 0, none⟩ = some (.bool hi.neg) ∧ w'.cell? ⟨w9.heap.size, 1, none⟩ = some (S hi.l) ∧ w'.cell? ⟨w9.heap.size, 2, none⟩ = some (.int .i64 hi.e) ∧ HeldL w [(w9.heap.size, #[.bool hi.neg, S hi.l, .int .i64 hi.e]), (w8.heap.size, #[.bool lo.neg, S lo.l, .int .i64 lo.e]), (w6.heap.size, #[.bool d.neg, S d.l, .int .i64 d.e]), (w4.heap.size, #[.bool r.neg, S r.l, .int .i64 r.e]), (w3.heap.size, #[.bool n, S (dgs L), .int .i64 e]), (w.heap.size, #[.bool n, .slice a len cap, .int .i64 e])] w') → Tab w') := Lib.hid (fun w' h => HT.out.below (h.2.2.2.2.2.2.2.2.2.2.2.2).bel)
  go_region_held3 (fun w' => w'.cell? ⟨w3.heap.size, 0, none⟩ = some (.bool n) ∧ w'.cell? ⟨w3.heap.size, 1, none⟩ = some (S (dgs L)) ∧ w'.cell? ⟨w3.heap.size, 2, none⟩ = some (.int .i64 e) ∧ w'.cell? ⟨w4.heap.size, 0, none⟩ = some (.bool r.neg) ∧ w'.cell? ⟨w4.heap.size, 1, none⟩ = some (S r.l) ∧ w'.cell? ⟨w4.heap.size, 2, none⟩ = some (.int .i64 r.e) ∧ w'.cell? ⟨w8.heap.size, 0, none⟩ = some (.bool lo.neg) ∧ w'.cell? ⟨w8.heap.size, 1, none⟩ = some (S lo.l) ∧ w'.cell? ⟨w8.heap.size, 2, none⟩ = some (.int .i64 lo.e) ∧ w'.cell? ⟨w9.heap.size, 0, none⟩ = some (.bool hi.neg) ∧ w'.cell? ⟨w9.heap.size, 1, none⟩ = some (S hi.l) ∧ w'.cell? ⟨w9.heap.size, 2, none⟩ = some (.int .i64 hi.e) ∧ HeldL w [(w9.heap.size, #[.bool hi.neg, S hi.l, .int .i64 hi.e]), (w8.heap.size, #[.bool lo.neg, S lo.l, .int .i64 lo.e]), (w6.heap.size, #[.bool d.neg, S d.l, .int .i64 d.e]), (w4.heap.size, #[.bool r.neg, S r.l, .int .i64 r.e]), (w3.heap.size, #[.bool n, S (dgs L), .int .i64 e]), (w.heap.size, #[.bool n, .slice a len cap, .int .i64 e])] w')
    (first | exact ALL2.out _ (HeldL.drew HS2.out) | exact KEEP2.out _ _ (by assumption) hb | assumption)
    (first | (go_at_call 18; (with_reducible refine (minus_T ⟨n, dgs L, e⟩ y _ LL HY.out).mono ?_); rintro x wF ⟨rfl, hb⟩) | (go_at_call 25; (with_reducible refine (turned_as M _ m0 m6).mono ?_); rintro x wz ⟨rfl, rfl⟩) | (go_at_call 15; (with_reducible refine (at_T y P (turn M) s _ yl HSA.out (by first | exact HT.out.below HS2.out.bel.drew | exact TAB2.out _ (by assumption))).mono ?_); rintro x wG ⟨rfl, hb⟩) | (go_at_call 18; (with_reducible refine (minus_T r s _ rl HSB.out).mono ?_); rintro x wH ⟨rfl, hb⟩) | (go_at_call 20; (with_reducible refine (cmp_T lo ⟨n, dgs L, e⟩ c3 _ lol LL HC3.out).mono ?_); rintro x wI ⟨rfl, hb⟩) | (go_at_call 20; (with_reducible refine (cmp_T ⟨n, dgs L, e⟩ hi c4 _ LL hil HC4.out).mono ?_); rintro x wJ ⟨rfl, hb⟩))
  have HH : HeldL w [(w9.heap.size, #[.bool hi.neg, S hi.l, .int .i64 hi.e]), (w8.heap.size, #[.bool lo.neg, S lo.l, .int .i64 lo.e]), (w6.heap.size, #[.bool d.neg, S d.l, .int .i64 d.e]), (w4.heap.size, #[.bool r.neg, S r.l, .int .i64 r.e]), (w3.heap.size, #[.bool n, S (dgs L), .int .i64 e]), (w.heap.size, #[.bool n, .slice a len cap, .int .i64 e])] wJ := (‹wJ.cell? ⟨w3.heap.size, 0, none⟩ = some (.bool n) ∧ wJ.cell? ⟨w3.heap.size, 1, none⟩ = some (S (dgs L)) ∧ wJ.cell? ⟨w3.heap.size, 2, none⟩ = some (.int .i64 e) ∧ wJ.cell? ⟨w4.heap.size, 0, none⟩ = some (.bool r.neg) ∧ wJ.cell? ⟨w4.heap.size, 1, none⟩ = some (S r.l) ∧ wJ.cell? ⟨w4.heap.size, 2, none⟩ = some (.int .i64 r.e) ∧ wJ.cell? ⟨w8.heap.size, 0, none⟩ = some (.bool lo.neg) ∧ wJ.cell? ⟨w8.heap.size, 1, none⟩ = some (S lo.l) ∧ wJ.cell? ⟨w8.heap.size, 2, none⟩ = some (.int .i64 lo.e) ∧ wJ.cell? ⟨w9.heap.size, 0, none⟩ = some (.bool hi.neg) ∧ wJ.cell? ⟨w9.heap.size, 1, none⟩ = some (S hi.l) ∧ wJ.cell? ⟨w9.heap.size, 2, none⟩ = some (.int .i64 hi.e) ∧ HeldL w [(w9.heap.size, #[.bool hi.neg, S hi.l, .int .i64 hi.e]), (w8.heap.size, #[.bool lo.neg, S lo.l, .int .i64 lo.e]), (w6.heap.size, #[.bool d.neg, S d.l, .int .i64 d.e]), (w4.heap.size, #[.bool r.neg, S r.l, .int .i64 r.e]), (w3.heap.size, #[.bool n, S (dgs L), .int .i64 e]), (w.heap.size, #[.bool n, .slice a len cap, .int .i64 e])] wJ›).2.2.2.2.2.2.2.2.2.2.2.2
  clear bx0 bx1 bx2 bxl br0 br1 br2 brl bo0 bo1 bo2 bol
  have H10 : Hid (HeldL w [(w9.heap.size, #[.bool hi.neg, S hi.l, .int .i64 hi.e]), (w8.heap.size, #[.bool lo.neg, S lo.l, .int .i64 lo.e]), (w6.heap.size, #[.bool d.neg, S d.l, .int .i64 d.e]), (w4.heap.size, #[.bool r.neg, S r.l, .int .i64 r.e]), (w3.heap.size, #[.bool n, S (dgs L), .int .i64 e]), (w.heap.size, #[.bool n, .slice a len cap, .int .i64 e])] wJ) := Lib.hid HH
  clear HH ALL2 KEEP2 HS2 TAB2 H9
  go_wp2
  go_ret
  exact ⟨rfl, H10.out.bel⟩

end Go.Proofs.YtfbfjkacaadbpaaDoor

namespace Go.Proofs.YtfbfjkacaadbpaaDoor
open Go.RowKit Florin
set_option linter.unusedVariables false

theorem ci_neg_iff (x y : Int) : Lib.compareInt x y < 0 ↔ x < y := by rcases ci_cases x y with ⟨a, b⟩ | ⟨a, b⟩ | ⟨a, b⟩ <;> rw [b] <;> omega
theorem roundSigns_walk (n : Bool) (a : Option Addr) (len cap : Nat) (e : Int) (L : List UInt8) (pl mo : Int) (w : World) (hin : InB w a len cap L) (_ : (Lit.int .i64 pl).wf = true) (_ : (Lit.int .i64 mo).wf = true) (htab : Tab w) :
    Calls Tryd.prog 5 #[RV n a len cap e, .int .i64 pl, .int .i64 mo] w fun x w' => x = .returned (.bool true) ∧ Below w.heap.size w w' := by
  by_cases hf : (len : Int) ≤ 40 ∧ -40 ≤ e ∧ e ≤ 40
  · obtain ⟨h1, h2, h3⟩ := hf
    obtain ⟨X, x1, x2, x3⟩ := raw60 n L e (by rw [hin.1]; omega) (by omega) (by omega)
    have hp := place60 pl
    obtain ⟨P, hP⟩ : ∃ P, wrap64 (pl.tmod 60 - wrap64 ((pl.tmod 60).tdiv 2)) = P := ⟨_, rfl⟩
    rw [hP] at hp
    obtain ⟨M, m0, m6, hM⟩ := mode_as mo
    have hfx : Fit 60 X := fit60 (Nat.lt_trans x2 (by decide))
    have hd : made n (dgs L) e = nf 60 X := x1.made hfx
    have hy : made (!n) (dgs L) e = nf 60 (-X) := (dv_neg x1).made (fit_neg hfx)
    have up := un_pos P
    have uI : (0 : Int) < un P := by omega
    obtain ⟨u1, u2⟩ := unit60 (P := P) (by omega) (by omega)
    have t0 : 0 ≤ turn M := by unfold turn; split; omega; split <;> omega
    have t6 : turn M ≤ 6 := by unfold turn; split; omega; split <;> omega
    obtain ⟨a1, a2, a3, a4⟩ := at60 (X := X) (m := M) (P := P) 200 (by decide) x2 (by omega) (by omega) m0 m6
    obtain ⟨b1, b2, b3, b4⟩ := at60 (X := X) (m := 6) (P := P) 200 (by decide) x2 (by omega) (by omega) (by decide) (by decide)
    obtain ⟨c1, c2, c3, c4⟩ := at60 (X := X) (m := 5) (P := P) 200 (by decide) x2 (by omega) (by omega) (by decide) (by decide)
    obtain ⟨d1, d2, d3, d4⟩ := at60 (X := -X) (m := turn M) (P := P) 200 (by decide) (by rw [Int.natAbs_neg]; exact x2) (by omega) (by omega) t0 t6
    rw [rz_neg M (un P) X uI m0 m6] at d1 d2 d3
    have near := rz_near M (un P) X uI
    obtain ⟨lh1, lh2, lh3⟩ := rz_lo_hi M (un P) X uI
    have hhalf := rz_half M (un P) X uI m0
    generalize hR : rz M (un P) X = R at *
    generalize hLo : rz 6 (un P) X = lo at *
    generalize hHi : rz 5 (un P) X = hi at *
    have p201 : 10 ^ 200 + 10 ^ 201 < 10 ^ 210 := by decide
    have p240 : 10 ^ 210 + 10 ^ 210 < 10 ^ 240 := by decide
    have fd : Fit 60 (X - R) := fit60 (by omega)
    have fda : Fit 60 ((X - R).natAbs : Int) := fit_abs fd
    have fd2 : Fit 60 (((X - R).natAbs : Int) + ((X - R).natAbs : Int)) := fit60 (by omega)
    have hdd : made false (nf 60 (X - R)).l (nf 60 (X - R)).e = nf 60 ((X - R).natAbs : Int) := nf_abs (nf_dv fd) fd
    have hsub : SubIs ⟨n, dgs L, e⟩ (nf 60 R) (nf 60 (X - R)) := ⟨60, X, R, hfx, a3, fd, hd, nf_dv a3, rfl⟩
    have hadd : AddIs (nf 60 ((X - R).natAbs : Int)) (nf 60 ((X - R).natAbs : Int)) (nf 60 (((X - R).natAbs : Int) + ((X - R).natAbs : Int))) := ⟨60, _, _, fda, fda, fd2, nf_made fda, nf_made fda, rfl⟩
    have hc2 : CmpIs (nf 60 ((X - R).natAbs : Int)) (nf 60 (un P : Int)) (Lib.compareInt ((X - R).natAbs : Int) (un P)) := ⟨60, _, _, fda, u2, nf_made fda, nf_made u2, rfl⟩
    have hc1 : CmpIs (nf 60 (((X - R).natAbs : Int) + ((X - R).natAbs : Int))) (nf 60 (un P : Int)) (Lib.compareInt (((X - R).natAbs : Int) + ((X - R).natAbs : Int)) (un P)) := ⟨60, _, _, fd2, u2, nf_made fd2, nf_made u2, rfl⟩
    have hc3 : CmpIs (nf 60 lo) ⟨n, dgs L, e⟩ (Lib.compareInt lo X) := ⟨60, lo, X, b3, hfx, nf_made b3, hd, rfl⟩
    have hc4 : CmpIs ⟨n, dgs L, e⟩ (nf 60 hi) (Lib.compareInt X hi) := ⟨60, X, hi, hfx, c3, hd, nf_made c3, rfl⟩
    have n2 : Lib.compareInt ((X - R).natAbs : Int) (un P) < 0 := (ci_neg_iff _ _).2 (by omega)
    have n3 : Lib.compareInt lo X ≤ 0 := (ci_le _ _).2 lh1
    have n4 : Lib.compareInt X hi ≤ 0 := (ci_le _ _).2 lh2
    have e1 : mulT (made n (dgs L) e) 1 (hld P) M = nf 60 R := by rw [hd]; exact a1
    have e2 : mulT (made n (dgs L) e) 1 (hld P) 6 = nf 60 lo := by rw [hd]; exact b1
    have e3 : mulT (made n (dgs L) e) 1 (hld P) 5 = nf 60 hi := by rw [hd]; exact c1
    have e4 : mulT (made (nf 60 (-X)).neg (nf 60 (-X)).l (nf 60 (-X)).e) 1 (hld P) (turn M) = nf 60 (-R) := by rw [nf_made (fit_neg hfx)]; exact d1
    have e5 : made (!(nf 60 R).neg) (nf 60 R).l (nf 60 R).e = nf 60 (-R) := nf_minus a3
    have l1 : (nf 60 R).l.length ≤ 100000 := nf_len a2 (by decide)
    have l2 : (nf 60 (X - R)).l.length ≤ 100000 := nf_len (N := 210) (by omega) (by decide)
    have l3 : (nf 60 ((X - R).natAbs : Int)).l.length ≤ 100000 := nf_len (N := 210) (by omega) (by decide)
    have l4 : (nf 60 (un P : Int)).l.length ≤ 100000 := nf_len (N := 240) (by have := u2.hz; rw [Int.natAbs_natCast]; exact Nat.lt_of_le_of_lt (un_le (N := 210) (by omega)) ((Nat.pow_lt_pow_iff_right (by decide)).2 (by decide))) (by decide)
    have l5 : (nf 60 lo).l.length ≤ 100000 := nf_len b2 (by decide)
    have l6 : (nf 60 hi).l.length ≤ 100000 := nf_len c2 (by decide)
    have l7 : (nf 60 (-X)).l.length ≤ 100000 := nf_len (N := 200) (by rw [Int.natAbs_neg]; exact x2) (by decide)
    have l8 : (nf 60 (((X - R).natAbs : Int) + ((X - R).natAbs : Int))).l.length ≤ 100000 := nf_len (N := 240) (by omega) (by decide)
    by_cases m2 : M ≤ 2
    · have hb := hhalf m2
      have n1 : Lib.compareInt (((X - R).natAbs : Int) + ((X - R).natAbs : Int)) (un P) ≤ 0 := (ci_le _ _).2 (by omega)
      by_cases hl : nf 60 R = nf 60 lo
      · exact signs_hl n a len cap L e pl mo w hin htab (by omega) h2 h3 P M hP m0 m6 hM _ _ _ _ _ _ _ _ _ e1 hsub hdd u1 _ _ hc2 n2 e2 e3 hy e4 e5 _ _ hc3 n3 hc4 n4 l1 l2 l3 l4 l5 l6 l7 m2 hadd l8 hc1 n1 hl
      · have hh : nf 60 R = nf 60 hi := by rcases lh3 with h | h; exact absurd (by rw [h]) hl; rw [h]
        exact signs_hh n a len cap L e pl mo w hin htab (by omega) h2 h3 P M hP m0 m6 hM _ _ _ _ _ _ _ _ _ e1 hsub hdd u1 _ _ hc2 n2 e2 e3 hy e4 e5 _ _ hc3 n3 hc4 n4 l1 l2 l3 l4 l5 l6 l7 m2 hadd l8 hc1 n1 hl hh
    · by_cases hl : nf 60 R = nf 60 lo
      · exact signs_nl n a len cap L e pl mo w hin htab (by omega) h2 h3 P M hP m0 m6 hM _ _ _ zero _ _ _ _ _ e1 hsub hdd u1 0 _ hc2 n2 e2 e3 hy e4 e5 _ _ hc3 n3 hc4 n4 l1 l2 l3 l4 l5 l6 l7 (by omega) hl
      · have hh : nf 60 R = nf 60 hi := by rcases lh3 with h | h; exact absurd (by rw [h]) hl; rw [h]
        exact signs_nh n a len cap L e pl mo w hin htab (by omega) h2 h3 P M hP m0 m6 hM _ _ _ zero _ _ _ _ _ e1 hsub hdd u1 0 _ hc2 n2 e2 e3 hy e4 e5 _ _ hc3 n3 hc4 n4 l1 l2 l3 l4 l5 l6 l7 (by omega) hl hh
  · exact signs_no n a len cap e pl mo w hin.2.1 hin.2.2.1 htab hf
end Go.Proofs.YtfbfjkacaadbpaaDoor
