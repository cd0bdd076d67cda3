/- The walk of the law ClassLaws. -/
import Derived.Test.YtbfhkcljkblnmaaDoorCrZ
namespace Go.Proofs.YtbfhkcljkblnmaaDoor
open Go.RowKit Florin
set_option linter.unusedVariables false
set_option linter.unusedSimpArgs false
attribute [local go_sem ↓] Go.wp_at_zero Go.wp_at_succ
set_option maxRecDepth 100000 in
set_option maxHeartbeats 12800000 in
theorem classLaws_walk (l0 : List (Int × Int)) (v0 : Value) (l1 : List (Int × Int)) (v1 : Value) (l2 : List (Int × Int)) (v2 : Value) (w : World) (h0 : InC w v0 l0) (h1 : InC w v1 l1) (h2 : InC w v2 l2) (hTD : Tabs w ∧ Deb w) :
    Calls Tryd.prog 9 #[v0, v1, v2] w fun x w' => x = .returned (.bool true) ∧ Below w.heap.size w w' := by
  have HT := Lib.hid hTD.1
  have HD := Lib.hid hTD.2
  have HH : Hid (HeldI w [(v0, l0), (v1, l1), (v2, l2)] w) := Lib.hid ⟨(fun p hp => by
    rcases List.mem_cons.1 hp with rfl | hp
    · exact h0
    · rcases List.mem_cons.1 hp with rfl | hp
      · exact h1
      · rcases List.mem_cons.1 hp with rfl | hp
        · exact h2
        · cases hp), Below.refl _ _⟩
  obtain ⟨a0, p0, rfl, _⟩ := h0
  obtain ⟨a1, p1, rfl, _⟩ := h1
  obtain ⟨a2, p2, rfl, _⟩ := h2
  clear hTD
  cases hf : fewB [l0.length, l1.length, l2.length] with
  | false =>
    have HF := Lib.hid hf
    clear hf
    go_enter Tryd.func9, Tryd.ntmps9
    go_wp2_with fail
    with_reducible refine (head10 _ HT.out HD.out).mono ?_
    rintro x w1 ⟨rfl, hb⟩
    have B1 := Lib.hid hb
    clear hb
    have FC : Hid (∀ k (h : k < [l0.length, l1.length, l2.length].length), (w1.alloc (.cells #[.slice a0 l0.length p0, .slice a1 l1.length p1, .slice a2 l2.length p2] 22)).cell? ⟨w1.heap.size, k, none⟩ = some (.slice ([a0, a1, a2][k]'h) ([l0.length, l1.length, l2.length][k]'h) ([p0, p1, p2][k]'h))) := Lib.hid (fun k h => by
      rw [BoxT.cell (BoxT.new w1 _ _) k]
      match k, h with
      | 0, _ => rfl
      | 1, _ => rfl
      | 2, _ => rfl)
    go_wp2_with fail
    with_reducible refine (few_as _ w1.heap.size [a0, a1, a2] [l0.length, l1.length, l2.length] [p0, p1, p2] rfl rfl (by simp) FC.out false HF.out 3 rfl).mono ?_
    rintro x w2 ⟨rfl, rfl⟩
    go_wp2
    go_ret
    exact ⟨rfl, B1.out.alloc B1.out.size _⟩
  | true =>
    have hlen : l0.length ≤ 30 ∧ l1.length ≤ 30 ∧ l2.length ≤ 30 := by
      unfold fewB at hf
      simpa using hf
    have HF := Lib.hid hf
    clear hf
    go_enter Tryd.func9, Tryd.ntmps9
    go_wp2_with fail
    with_reducible refine (head10 _ HT.out HD.out).mono ?_
    rintro x w1 ⟨rfl, hb⟩
    have B1 := Lib.hid (HeldI.keep HH.out hb)
    clear hb HH
    have FC : Hid (∀ k (h : k < [l0.length, l1.length, l2.length].length), (w1.alloc (.cells #[.slice a0 l0.length p0, .slice a1 l1.length p1, .slice a2 l2.length p2] 22)).cell? ⟨w1.heap.size, k, none⟩ = some (.slice ([a0, a1, a2][k]'h) ([l0.length, l1.length, l2.length][k]'h) ([p0, p1, p2][k]'h))) := Lib.hid (fun k h => by
      rw [BoxT.cell (BoxT.new w1 _ _) k]
      match k, h with
      | 0, _ => rfl
      | 1, _ => rfl
      | 2, _ => rfl)
    go_wp2_with fail
    with_reducible refine (few_as _ w1.heap.size [a0, a1, a2] [l0.length, l1.length, l2.length] [p0, p1, p2] rfl rfl (by simp) FC.out true HF.out 3 rfl).mono ?_
    rintro x w2 ⟨rfl, rfl⟩
    have H0 := Lib.hid (HeldI.keep B1.out ((Below.refl w1.heap.size w1).alloc (Nat.le_refl _) (.cells #[.slice a0 l0.length p0, .slice a1 l1.length p1, .slice a2 l2.length p2] 22)))
    clear B1 FC HF
    go_wp2_with fail
    with_reducible refine (made_at _ (.slice a0 l0.length p0) l0 (HeldI.f H0.out (List.Mem.head _)) (by omega)).mono ?_
    rintro e q1 ⟨u1, c1, rfl, hs, hm, ho, hb⟩
    have S1 := Lib.hid hs
    have M1 := Lib.hid hm
    have K1 := Lib.hid (HeldI.add H0.out hb ho)
    clear hs hm ho hb H0
    go_wp2_with fail
    with_reducible refine (made_at _ (.slice a1 l1.length p1) l1 (HeldI.f K1.out (List.Mem.tail _ (List.Mem.tail _ (List.Mem.head _)))) (by omega)).mono ?_
    rintro e q2 ⟨u2, c2, rfl, hs, hm, ho, hb⟩
    have S2 := Lib.hid hs
    have M2 := Lib.hid hm
    have K2 := Lib.hid (HeldI.add K1.out hb ho)
    clear hs hm ho hb K1
    go_wp2_with fail
    with_reducible refine (made_at _ (.slice a2 l2.length p2) l2 (HeldI.f K2.out (List.Mem.tail _ (List.Mem.tail _ (List.Mem.tail _ (List.Mem.tail _ (List.Mem.head _)))))) (by omega)).mono ?_
    rintro e q3 ⟨u3, c3, rfl, hs, hm, ho, hb⟩
    have S3 := Lib.hid hs
    have M3 := Lib.hid hm
    have K3 := Lib.hid (HeldI.add K2.out hb ho)
    clear hs hm ho hb K2
    have K4 := Lib.hid (HeldI.cut K3.out (M := [(u3, c3), (u2, c2), (u1, c1)]) (fun p hp => by simp at hp ⊢; rcases hp with h | h | h <;> simp [h]))
    clear K3
    go_wp2_with fail
    with_reducible refine (or_at _ u1 u2 c1 c2 (HeldI.f K4.out (List.Mem.tail _ (List.Mem.tail _ (List.Mem.head _)))) (HeldI.f K4.out (List.Mem.tail _ (List.Mem.head _))) S1.out S2.out).mono ?_
    rintro e q5 ⟨u5, c5, rfl, hs, hm, ho, hb⟩
    have S5 := Lib.hid hs
    have M5 := Lib.hid hm
    have K5 := Lib.hid (HeldI.add K4.out hb ho)
    clear hs hm ho hb K4
    go_wp2_with fail
    with_reducible refine (not_at _ u5 c5 (HeldI.f K5.out (List.Mem.head _)) S5.out).mono ?_
    rintro e q6 ⟨u6, c6, rfl, hs, hm, ho, hb⟩
    have S6 := Lib.hid hs
    have M6 := Lib.hid hm
    have K6 := Lib.hid (HeldI.add K5.out hb ho)
    clear hs hm ho hb K5
    go_wp2_with fail
    with_reducible refine (not_at _ u1 c1 (HeldI.f K6.out (List.Mem.tail _ (List.Mem.tail _ (List.Mem.tail _ (List.Mem.tail _ (List.Mem.head _)))))) S1.out).mono ?_
    rintro e q7 ⟨u7, c7, rfl, hs, hm, ho, hb⟩
    have S7 := Lib.hid hs
    have M7 := Lib.hid hm
    have K7 := Lib.hid (HeldI.add K6.out hb ho)
    clear hs hm ho hb K6
    go_wp2_with fail
    with_reducible refine (not_at _ u2 c2 (HeldI.f K7.out (List.Mem.tail _ (List.Mem.tail _ (List.Mem.tail _ (List.Mem.tail _ (List.Mem.head _)))))) S2.out).mono ?_
    rintro e q8 ⟨u8, c8, rfl, hs, hm, ho, hb⟩
    have S8 := Lib.hid hs
    have M8 := Lib.hid hm
    have K8 := Lib.hid (HeldI.add K7.out hb ho)
    clear hs hm ho hb K7
    go_wp2_with fail
    with_reducible refine (and_at _ u7 u8 c7 c8 (HeldI.f K8.out (List.Mem.tail _ (List.Mem.head _))) (HeldI.f K8.out (List.Mem.head _)) S7.out S8.out).mono ?_
    rintro e q9 ⟨u9, c9, rfl, hs, hm, ho, hb⟩
    have S9 := Lib.hid hs
    have M9 := Lib.hid hm
    have K9 := Lib.hid (HeldI.add K8.out hb ho)
    clear hs hm ho hb K8
    have EQ10 : Hid (c6 = c9) := Lib.hid (ext_b S6.out S9.out (fun r => by
      have g0 := hself S1.out r
      have g1 := hself S2.out r
      have g2 := hself S3.out r
      revert g0 g1 g2
      simp only [M5.out r, M6.out r, M7.out r, M8.out r, M9.out r]
      generalize hasC c1 r = X0
      generalize hasC c2 r = X1
      generalize hasC c3 r = X2
      generalize topB r = t
      revert t X0 X1 X2
      decide))
    go_wp2_with fail
    with_reducible refine (same_as _ u6 u9 c6 c9 (HeldI.f K9.out (List.Mem.tail _ (List.Mem.tail _ (List.Mem.tail _ (List.Mem.head _))))) (HeldI.f K9.out (List.Mem.head _)) (settled_few S6.out) (settled_few S9.out) true (decide_eq_true EQ10.out)).mono ?_
    rintro e q10 ⟨rfl, hb⟩
    have K10 := Lib.hid (HeldI.keep K9.out hb)
    clear hb K9
    have K11 := Lib.hid (HeldI.cut K10.out (M := [(u3, c3), (u2, c2), (u1, c1)]) (fun p hp => List.Mem.tail _ (List.Mem.tail _ (List.Mem.tail _ (List.Mem.tail _ (List.Mem.tail _ (hp)))))))
    clear K10
    go_wp2_with fail
    with_reducible refine (and_at _ u1 u2 c1 c2 (HeldI.f K11.out (List.Mem.tail _ (List.Mem.tail _ (List.Mem.head _)))) (HeldI.f K11.out (List.Mem.tail _ (List.Mem.head _))) S1.out S2.out).mono ?_
    rintro e q12 ⟨u12, c12, rfl, hs, hm, ho, hb⟩
    have S12 := Lib.hid hs
    have M12 := Lib.hid hm
    have K12 := Lib.hid (HeldI.add K11.out hb ho)
    clear hs hm ho hb K11
    go_wp2_with fail
    with_reducible refine (not_at _ u12 c12 (HeldI.f K12.out (List.Mem.head _)) S12.out).mono ?_
    rintro e q13 ⟨u13, c13, rfl, hs, hm, ho, hb⟩
    have S13 := Lib.hid hs
    have M13 := Lib.hid hm
    have K13 := Lib.hid (HeldI.add K12.out hb ho)
    clear hs hm ho hb K12
    go_wp2_with fail
    with_reducible refine (not_at _ u1 c1 (HeldI.f K13.out (List.Mem.tail _ (List.Mem.tail _ (List.Mem.tail _ (List.Mem.tail _ (List.Mem.head _)))))) S1.out).mono ?_
    rintro e q14 ⟨u14, c14, rfl, hs, hm, ho, hb⟩
    have S14 := Lib.hid hs
    have M14 := Lib.hid hm
    have K14 := Lib.hid (HeldI.add K13.out hb ho)
    clear hs hm ho hb K13
    go_wp2_with fail
    with_reducible refine (not_at _ u2 c2 (HeldI.f K14.out (List.Mem.tail _ (List.Mem.tail _ (List.Mem.tail _ (List.Mem.tail _ (List.Mem.head _)))))) S2.out).mono ?_
    rintro e q15 ⟨u15, c15, rfl, hs, hm, ho, hb⟩
    have S15 := Lib.hid hs
    have M15 := Lib.hid hm
    have K15 := Lib.hid (HeldI.add K14.out hb ho)
    clear hs hm ho hb K14
    go_wp2_with fail
    with_reducible refine (or_at _ u14 u15 c14 c15 (HeldI.f K15.out (List.Mem.tail _ (List.Mem.head _))) (HeldI.f K15.out (List.Mem.head _)) S14.out S15.out).mono ?_
    rintro e q16 ⟨u16, c16, rfl, hs, hm, ho, hb⟩
    have S16 := Lib.hid hs
    have M16 := Lib.hid hm
    have K16 := Lib.hid (HeldI.add K15.out hb ho)
    clear hs hm ho hb K15
    have EQ17 : Hid (c13 = c16) := Lib.hid (ext_b S13.out S16.out (fun r => by
      have g0 := hself S1.out r
      have g1 := hself S2.out r
      have g2 := hself S3.out r
      revert g0 g1 g2
      simp only [M12.out r, M13.out r, M14.out r, M15.out r, M16.out r]
      generalize hasC c1 r = X0
      generalize hasC c2 r = X1
      generalize hasC c3 r = X2
      generalize topB r = t
      revert t X0 X1 X2
      decide))
    go_wp2_with fail
    with_reducible refine (same_as _ u13 u16 c13 c16 (HeldI.f K16.out (List.Mem.tail _ (List.Mem.tail _ (List.Mem.tail _ (List.Mem.head _))))) (HeldI.f K16.out (List.Mem.head _)) (settled_few S13.out) (settled_few S16.out) true (decide_eq_true EQ17.out)).mono ?_
    rintro e q17 ⟨rfl, hb⟩
    have K17 := Lib.hid (HeldI.keep K16.out hb)
    clear hb K16
    have K18 := Lib.hid (HeldI.cut K17.out (M := [(u3, c3), (u2, c2), (u1, c1)]) (fun p hp => List.Mem.tail _ (List.Mem.tail _ (List.Mem.tail _ (List.Mem.tail _ (List.Mem.tail _ (hp)))))))
    clear K17
    go_wp2_with fail
    with_reducible refine (or_at _ u1 u1 c1 c1 (HeldI.f K18.out (List.Mem.tail _ (List.Mem.tail _ (List.Mem.head _)))) (HeldI.f K18.out (List.Mem.tail _ (List.Mem.tail _ (List.Mem.head _)))) S1.out S1.out).mono ?_
    rintro e q19 ⟨u19, c19, rfl, hs, hm, ho, hb⟩
    have S19 := Lib.hid hs
    have M19 := Lib.hid hm
    have K19 := Lib.hid (HeldI.add K18.out hb ho)
    clear hs hm ho hb K18
    have EQ20 : Hid (c19 = c1) := Lib.hid (ext_b S19.out S1.out (fun r => by
      have g0 := hself S1.out r
      have g1 := hself S2.out r
      have g2 := hself S3.out r
      revert g0 g1 g2
      simp only [M19.out r]
      generalize hasC c1 r = X0
      generalize hasC c2 r = X1
      generalize hasC c3 r = X2
      generalize topB r = t
      revert t X0 X1 X2
      decide))
    go_wp2_with fail
    with_reducible refine (same_as _ u19 u1 c19 c1 (HeldI.f K19.out (List.Mem.head _)) (HeldI.f K19.out (List.Mem.tail _ (List.Mem.tail _ (List.Mem.tail _ (List.Mem.head _))))) (settled_few S19.out) (settled_few S1.out) true (decide_eq_true EQ20.out)).mono ?_
    rintro e q20 ⟨rfl, hb⟩
    have K20 := Lib.hid (HeldI.keep K19.out hb)
    clear hb K19
    have K21 := Lib.hid (HeldI.cut K20.out (M := [(u3, c3), (u2, c2), (u1, c1)]) (fun p hp => List.Mem.tail _ (hp)))
    clear K20
    go_wp2_with fail
    with_reducible refine (and_at _ u1 u1 c1 c1 (HeldI.f K21.out (List.Mem.tail _ (List.Mem.tail _ (List.Mem.head _)))) (HeldI.f K21.out (List.Mem.tail _ (List.Mem.tail _ (List.Mem.head _)))) S1.out S1.out).mono ?_
    rintro e q22 ⟨u22, c22, rfl, hs, hm, ho, hb⟩
    have S22 := Lib.hid hs
    have M22 := Lib.hid hm
    have K22 := Lib.hid (HeldI.add K21.out hb ho)
    clear hs hm ho hb K21
    have EQ23 : Hid (c22 = c1) := Lib.hid (ext_b S22.out S1.out (fun r => by
      have g0 := hself S1.out r
      have g1 := hself S2.out r
      have g2 := hself S3.out r
      revert g0 g1 g2
      simp only [M22.out r]
      generalize hasC c1 r = X0
      generalize hasC c2 r = X1
      generalize hasC c3 r = X2
      generalize topB r = t
      revert t X0 X1 X2
      decide))
    go_wp2_with fail
    with_reducible refine (same_as _ u22 u1 c22 c1 (HeldI.f K22.out (List.Mem.head _)) (HeldI.f K22.out (List.Mem.tail _ (List.Mem.tail _ (List.Mem.tail _ (List.Mem.head _))))) (settled_few S22.out) (settled_few S1.out) true (decide_eq_true EQ23.out)).mono ?_
    rintro e q23 ⟨rfl, hb⟩
    have K23 := Lib.hid (HeldI.keep K22.out hb)
    clear hb K22
    have K24 := Lib.hid (HeldI.cut K23.out (M := [(u3, c3), (u2, c2), (u1, c1)]) (fun p hp => List.Mem.tail _ (hp)))
    clear K23
    go_wp2_with fail
    with_reducible refine (or_at _ u2 u3 c2 c3 (HeldI.f K24.out (List.Mem.tail _ (List.Mem.head _))) (HeldI.f K24.out (List.Mem.head _)) S2.out S3.out).mono ?_
    rintro e q25 ⟨u25, c25, rfl, hs, hm, ho, hb⟩
    have S25 := Lib.hid hs
    have M25 := Lib.hid hm
    have K25 := Lib.hid (HeldI.add K24.out hb ho)
    clear hs hm ho hb K24
    go_wp2_with fail
    with_reducible refine (and_at _ u1 u25 c1 c25 (HeldI.f K25.out (List.Mem.tail _ (List.Mem.tail _ (List.Mem.tail _ (List.Mem.head _))))) (HeldI.f K25.out (List.Mem.head _)) S1.out S25.out).mono ?_
    rintro e q26 ⟨u26, c26, rfl, hs, hm, ho, hb⟩
    have S26 := Lib.hid hs
    have M26 := Lib.hid hm
    have K26 := Lib.hid (HeldI.add K25.out hb ho)
    clear hs hm ho hb K25
    go_wp2_with fail
    with_reducible refine (and_at _ u1 u2 c1 c2 (HeldI.f K26.out (List.Mem.tail _ (List.Mem.tail _ (List.Mem.tail _ (List.Mem.tail _ (List.Mem.head _)))))) (HeldI.f K26.out (List.Mem.tail _ (List.Mem.tail _ (List.Mem.tail _ (List.Mem.head _))))) S1.out S2.out).mono ?_
    rintro e q27 ⟨u27, c27, rfl, hs, hm, ho, hb⟩
    have S27 := Lib.hid hs
    have M27 := Lib.hid hm
    have K27 := Lib.hid (HeldI.add K26.out hb ho)
    clear hs hm ho hb K26
    go_wp2_with fail
    with_reducible refine (and_at _ u1 u3 c1 c3 (HeldI.f K27.out (List.Mem.tail _ (List.Mem.tail _ (List.Mem.tail _ (List.Mem.tail _ (List.Mem.tail _ (List.Mem.head _))))))) (HeldI.f K27.out (List.Mem.tail _ (List.Mem.tail _ (List.Mem.tail _ (List.Mem.head _))))) S1.out S3.out).mono ?_
    rintro e q28 ⟨u28, c28, rfl, hs, hm, ho, hb⟩
    have S28 := Lib.hid hs
    have M28 := Lib.hid hm
    have K28 := Lib.hid (HeldI.add K27.out hb ho)
    clear hs hm ho hb K27
    go_wp2_with fail
    with_reducible refine (or_at _ u27 u28 c27 c28 (HeldI.f K28.out (List.Mem.tail _ (List.Mem.head _))) (HeldI.f K28.out (List.Mem.head _)) S27.out S28.out).mono ?_
    rintro e q29 ⟨u29, c29, rfl, hs, hm, ho, hb⟩
    have S29 := Lib.hid hs
    have M29 := Lib.hid hm
    have K29 := Lib.hid (HeldI.add K28.out hb ho)
    clear hs hm ho hb K28
    have EQ30 : Hid (c26 = c29) := Lib.hid (ext_b S26.out S29.out (fun r => by
      have g0 := hself S1.out r
      have g1 := hself S2.out r
      have g2 := hself S3.out r
      revert g0 g1 g2
      simp only [M25.out r, M26.out r, M27.out r, M28.out r, M29.out r]
      generalize hasC c1 r = X0
      generalize hasC c2 r = X1
      generalize hasC c3 r = X2
      generalize topB r = t
      revert t X0 X1 X2
      decide))
    go_wp2_with fail
    with_reducible refine (same_as _ u26 u29 c26 c29 (HeldI.f K29.out (List.Mem.tail _ (List.Mem.tail _ (List.Mem.tail _ (List.Mem.head _))))) (HeldI.f K29.out (List.Mem.head _)) (settled_few S26.out) (settled_few S29.out) true (decide_eq_true EQ30.out)).mono ?_
    rintro e q30 ⟨rfl, hb⟩
    have K30 := Lib.hid (HeldI.keep K29.out hb)
    clear hb K29
    have K31 := Lib.hid (HeldI.cut K30.out (M := [(u3, c3), (u2, c2), (u1, c1)]) (fun p hp => List.Mem.tail _ (List.Mem.tail _ (List.Mem.tail _ (List.Mem.tail _ (List.Mem.tail _ (hp)))))))
    clear K30
    go_wp2_with fail
    with_reducible refine (and_at _ u2 u3 c2 c3 (HeldI.f K31.out (List.Mem.tail _ (List.Mem.head _))) (HeldI.f K31.out (List.Mem.head _)) S2.out S3.out).mono ?_
    rintro e q32 ⟨u32, c32, rfl, hs, hm, ho, hb⟩
    have S32 := Lib.hid hs
    have M32 := Lib.hid hm
    have K32 := Lib.hid (HeldI.add K31.out hb ho)
    clear hs hm ho hb K31
    go_wp2_with fail
    with_reducible refine (or_at _ u1 u32 c1 c32 (HeldI.f K32.out (List.Mem.tail _ (List.Mem.tail _ (List.Mem.tail _ (List.Mem.head _))))) (HeldI.f K32.out (List.Mem.head _)) S1.out S32.out).mono ?_
    rintro e q33 ⟨u33, c33, rfl, hs, hm, ho, hb⟩
    have S33 := Lib.hid hs
    have M33 := Lib.hid hm
    have K33 := Lib.hid (HeldI.add K32.out hb ho)
    clear hs hm ho hb K32
    go_wp2_with fail
    with_reducible refine (or_at _ u1 u2 c1 c2 (HeldI.f K33.out (List.Mem.tail _ (List.Mem.tail _ (List.Mem.tail _ (List.Mem.tail _ (List.Mem.head _)))))) (HeldI.f K33.out (List.Mem.tail _ (List.Mem.tail _ (List.Mem.tail _ (List.Mem.head _))))) S1.out S2.out).mono ?_
    rintro e q34 ⟨u34, c34, rfl, hs, hm, ho, hb⟩
    have S34 := Lib.hid hs
    have M34 := Lib.hid hm
    have K34 := Lib.hid (HeldI.add K33.out hb ho)
    clear hs hm ho hb K33
    go_wp2_with fail
    with_reducible refine (or_at _ u1 u3 c1 c3 (HeldI.f K34.out (List.Mem.tail _ (List.Mem.tail _ (List.Mem.tail _ (List.Mem.tail _ (List.Mem.tail _ (List.Mem.head _))))))) (HeldI.f K34.out (List.Mem.tail _ (List.Mem.tail _ (List.Mem.tail _ (List.Mem.head _))))) S1.out S3.out).mono ?_
    rintro e q35 ⟨u35, c35, rfl, hs, hm, ho, hb⟩
    have S35 := Lib.hid hs
    have M35 := Lib.hid hm
    have K35 := Lib.hid (HeldI.add K34.out hb ho)
    clear hs hm ho hb K34
    go_wp2_with fail
    with_reducible refine (and_at _ u34 u35 c34 c35 (HeldI.f K35.out (List.Mem.tail _ (List.Mem.head _))) (HeldI.f K35.out (List.Mem.head _)) S34.out S35.out).mono ?_
    rintro e q36 ⟨u36, c36, rfl, hs, hm, ho, hb⟩
    have S36 := Lib.hid hs
    have M36 := Lib.hid hm
    have K36 := Lib.hid (HeldI.add K35.out hb ho)
    clear hs hm ho hb K35
    have EQ37 : Hid (c33 = c36) := Lib.hid (ext_b S33.out S36.out (fun r => by
      have g0 := hself S1.out r
      have g1 := hself S2.out r
      have g2 := hself S3.out r
      revert g0 g1 g2
      simp only [M32.out r, M33.out r, M34.out r, M35.out r, M36.out r]
      generalize hasC c1 r = X0
      generalize hasC c2 r = X1
      generalize hasC c3 r = X2
      generalize topB r = t
      revert t X0 X1 X2
      decide))
    go_wp2_with fail
    with_reducible refine (same_as _ u33 u36 c33 c36 (HeldI.f K36.out (List.Mem.tail _ (List.Mem.tail _ (List.Mem.tail _ (List.Mem.head _))))) (HeldI.f K36.out (List.Mem.head _)) (settled_few S33.out) (settled_few S36.out) true (decide_eq_true EQ37.out)).mono ?_
    rintro e q37 ⟨rfl, hb⟩
    have K37 := Lib.hid (HeldI.keep K36.out hb)
    clear hb K36
    have K38 := Lib.hid (HeldI.cut K37.out (M := [(u3, c3), (u2, c2), (u1, c1)]) (fun p hp => List.Mem.tail _ (List.Mem.tail _ (List.Mem.tail _ (List.Mem.tail _ (List.Mem.tail _ (hp)))))))
    clear K37
    go_wp2_with fail
    with_reducible refine (or_at _ u1 u2 c1 c2 (HeldI.f K38.out (List.Mem.tail _ (List.Mem.tail _ (List.Mem.head _)))) (HeldI.f K38.out (List.Mem.tail _ (List.Mem.head _))) S1.out S2.out).mono ?_
    rintro e q39 ⟨u39, c39, rfl, hs, hm, ho, hb⟩
    have S39 := Lib.hid hs
    have M39 := Lib.hid hm
    have K39 := Lib.hid (HeldI.add K38.out hb ho)
    clear hs hm ho hb K38
    go_wp2_with fail
    with_reducible refine (or_at _ u39 u3 c39 c3 (HeldI.f K39.out (List.Mem.head _)) (HeldI.f K39.out (List.Mem.tail _ (List.Mem.head _))) S39.out S3.out).mono ?_
    rintro e q40 ⟨u40, c40, rfl, hs, hm, ho, hb⟩
    have S40 := Lib.hid hs
    have M40 := Lib.hid hm
    have K40 := Lib.hid (HeldI.add K39.out hb ho)
    clear hs hm ho hb K39
    go_wp2_with fail
    with_reducible refine (or_at _ u2 u3 c2 c3 (HeldI.f K40.out (List.Mem.tail _ (List.Mem.tail _ (List.Mem.tail _ (List.Mem.head _))))) (HeldI.f K40.out (List.Mem.tail _ (List.Mem.tail _ (List.Mem.head _)))) S2.out S3.out).mono ?_
    rintro e q41 ⟨u41, c41, rfl, hs, hm, ho, hb⟩
    have S41 := Lib.hid hs
    have M41 := Lib.hid hm
    have K41 := Lib.hid (HeldI.add K40.out hb ho)
    clear hs hm ho hb K40
    go_wp2_with fail
    with_reducible refine (or_at _ u1 u41 c1 c41 (HeldI.f K41.out (List.Mem.tail _ (List.Mem.tail _ (List.Mem.tail _ (List.Mem.tail _ (List.Mem.tail _ (List.Mem.head _))))))) (HeldI.f K41.out (List.Mem.head _)) S1.out S41.out).mono ?_
    rintro e q42 ⟨u42, c42, rfl, hs, hm, ho, hb⟩
    have S42 := Lib.hid hs
    have M42 := Lib.hid hm
    have K42 := Lib.hid (HeldI.add K41.out hb ho)
    clear hs hm ho hb K41
    have EQ43 : Hid (c40 = c42) := Lib.hid (ext_b S40.out S42.out (fun r => by
      have g0 := hself S1.out r
      have g1 := hself S2.out r
      have g2 := hself S3.out r
      revert g0 g1 g2
      simp only [M39.out r, M40.out r, M41.out r, M42.out r]
      generalize hasC c1 r = X0
      generalize hasC c2 r = X1
      generalize hasC c3 r = X2
      generalize topB r = t
      revert t X0 X1 X2
      decide))
    go_wp2_with fail
    with_reducible refine (same_as _ u40 u42 c40 c42 (HeldI.f K42.out (List.Mem.tail _ (List.Mem.tail _ (List.Mem.head _)))) (HeldI.f K42.out (List.Mem.head _)) (settled_few S40.out) (settled_few S42.out) true (decide_eq_true EQ43.out)).mono ?_
    rintro e q43 ⟨rfl, hb⟩
    have K43 := Lib.hid (HeldI.keep K42.out hb)
    clear hb K42
    have K44 := Lib.hid (HeldI.cut K43.out (M := [(u3, c3), (u2, c2), (u1, c1)]) (fun p hp => List.Mem.tail _ (List.Mem.tail _ (List.Mem.tail _ (List.Mem.tail _ (hp))))))
    clear K43
    go_wp2_with fail
    with_reducible refine (min_at _ u1 u2 c1 c2 (HeldI.f K44.out (List.Mem.tail _ (List.Mem.tail _ (List.Mem.head _)))) (HeldI.f K44.out (List.Mem.tail _ (List.Mem.head _))) S1.out S2.out).mono ?_
    rintro e q45 ⟨u45, c45, rfl, hs, hm, ho, hb⟩
    have S45 := Lib.hid hs
    have M45 := Lib.hid hm
    have K45 := Lib.hid (HeldI.add K44.out hb ho)
    clear hs hm ho hb K44
    go_wp2_with fail
    with_reducible refine (not_at _ u2 c2 (HeldI.f K45.out (List.Mem.tail _ (List.Mem.tail _ (List.Mem.head _)))) S2.out).mono ?_
    rintro e q46 ⟨u46, c46, rfl, hs, hm, ho, hb⟩
    have S46 := Lib.hid hs
    have M46 := Lib.hid hm
    have K46 := Lib.hid (HeldI.add K45.out hb ho)
    clear hs hm ho hb K45
    go_wp2_with fail
    with_reducible refine (and_at _ u1 u46 c1 c46 (HeldI.f K46.out (List.Mem.tail _ (List.Mem.tail _ (List.Mem.tail _ (List.Mem.tail _ (List.Mem.head _)))))) (HeldI.f K46.out (List.Mem.head _)) S1.out S46.out).mono ?_
    rintro e q47 ⟨u47, c47, rfl, hs, hm, ho, hb⟩
    have S47 := Lib.hid hs
    have M47 := Lib.hid hm
    have K47 := Lib.hid (HeldI.add K46.out hb ho)
    clear hs hm ho hb K46
    have EQ48 : Hid (c45 = c47) := Lib.hid (ext_b S45.out S47.out (fun r => by
      have g0 := hself S1.out r
      have g1 := hself S2.out r
      have g2 := hself S3.out r
      revert g0 g1 g2
      simp only [M45.out r, M46.out r, M47.out r]
      generalize hasC c1 r = X0
      generalize hasC c2 r = X1
      generalize hasC c3 r = X2
      generalize topB r = t
      revert t X0 X1 X2
      decide))
    go_wp2_with fail
    with_reducible refine (same_as _ u45 u47 c45 c47 (HeldI.f K47.out (List.Mem.tail _ (List.Mem.tail _ (List.Mem.head _)))) (HeldI.f K47.out (List.Mem.head _)) (settled_few S45.out) (settled_few S47.out) true (decide_eq_true EQ48.out)).mono ?_
    rintro e q48 ⟨rfl, hb⟩
    have K48 := Lib.hid (HeldI.keep K47.out hb)
    clear hb K47
    have K49 := Lib.hid (HeldI.cut K48.out (M := [(u3, c3), (u2, c2), (u1, c1)]) (fun p hp => List.Mem.tail _ (List.Mem.tail _ (List.Mem.tail _ (hp)))))
    clear K48
    go_wp2_with fail
    with_reducible refine (min_at _ u1 u2 c1 c2 (HeldI.f K49.out (List.Mem.tail _ (List.Mem.tail _ (List.Mem.head _)))) (HeldI.f K49.out (List.Mem.tail _ (List.Mem.head _))) S1.out S2.out).mono ?_
    rintro e q50 ⟨u50, c50, rfl, hs, hm, ho, hb⟩
    have S50 := Lib.hid hs
    have M50 := Lib.hid hm
    have K50 := Lib.hid (HeldI.add K49.out hb ho)
    clear hs hm ho hb K49
    go_wp2_with fail
    with_reducible refine (and_at _ u1 u2 c1 c2 (HeldI.f K50.out (List.Mem.tail _ (List.Mem.tail _ (List.Mem.tail _ (List.Mem.head _))))) (HeldI.f K50.out (List.Mem.tail _ (List.Mem.tail _ (List.Mem.head _)))) S1.out S2.out).mono ?_
    rintro e q51 ⟨u51, c51, rfl, hs, hm, ho, hb⟩
    have S51 := Lib.hid hs
    have M51 := Lib.hid hm
    have K51 := Lib.hid (HeldI.add K50.out hb ho)
    clear hs hm ho hb K50
    go_wp2_with fail
    with_reducible refine (or_at _ u50 u51 c50 c51 (HeldI.f K51.out (List.Mem.tail _ (List.Mem.head _))) (HeldI.f K51.out (List.Mem.head _)) S50.out S51.out).mono ?_
    rintro e q52 ⟨u52, c52, rfl, hs, hm, ho, hb⟩
    have S52 := Lib.hid hs
    have M52 := Lib.hid hm
    have K52 := Lib.hid (HeldI.add K51.out hb ho)
    clear hs hm ho hb K51
    have EQ53 : Hid (c52 = c1) := Lib.hid (ext_b S52.out S1.out (fun r => by
      have g0 := hself S1.out r
      have g1 := hself S2.out r
      have g2 := hself S3.out r
      revert g0 g1 g2
      simp only [M50.out r, M51.out r, M52.out r]
      generalize hasC c1 r = X0
      generalize hasC c2 r = X1
      generalize hasC c3 r = X2
      generalize topB r = t
      revert t X0 X1 X2
      decide))
    go_wp2_with fail
    with_reducible refine (same_as _ u52 u1 c52 c1 (HeldI.f K52.out (List.Mem.head _)) (HeldI.f K52.out (List.Mem.tail _ (List.Mem.tail _ (List.Mem.tail _ (List.Mem.tail _ (List.Mem.tail _ (List.Mem.head _))))))) (settled_few S52.out) (settled_few S1.out) true (decide_eq_true EQ53.out)).mono ?_
    rintro e q53 ⟨rfl, hb⟩
    have K53 := Lib.hid (HeldI.keep K52.out hb)
    clear hb K52
    have K54 := Lib.hid (HeldI.cut K53.out (M := [(u3, c3), (u2, c2), (u1, c1)]) (fun p hp => List.Mem.tail _ (List.Mem.tail _ (List.Mem.tail _ (hp)))))
    clear K53
    go_wp2
    go_ret
    exact ⟨rfl, K54.out.bel⟩
end Go.Proofs.YtbfhkcljkblnmaaDoor
