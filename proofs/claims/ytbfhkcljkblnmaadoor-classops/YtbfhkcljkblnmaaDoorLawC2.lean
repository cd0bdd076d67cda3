/- The walk of the law ClassOps. -/
import Derived.Test.YtbfhkcljkblnmaaDoorCrR
namespace Go.Proofs.YtbfhkcljkblnmaaDoor
open Go.RowKit Florin
set_option linter.unusedVariables false
set_option linter.unusedSimpArgs false
attribute [local go_sem ↓] Go.wp_at_zero Go.wp_at_succ
set_option maxRecDepth 100000 in
set_option maxHeartbeats 25600000 in
theorem classOps_walk (l0 : List (Int × Int)) (v0 : Value) (l1 : List (Int × Int)) (v1 : Value) (w : World) (h0 : InC w v0 l0) (h1 : InC w v1 l1) (hTD : Tabs w ∧ Deb w) :
    Calls Tryd.prog 4 #[v0, v1] w fun x w' => x = .returned (.bool true) ∧ Below w.heap.size w w' := by
  have HT := Lib.hid hTD.1
  have HD := Lib.hid hTD.2
  have HH : Hid (HeldI w [(v0, l0), (v1, l1)] w) := Lib.hid ⟨(fun p hp => by
    rcases List.mem_cons.1 hp with rfl | hp
    · exact h0
    · rcases List.mem_cons.1 hp with rfl | hp
      · exact h1
      · cases hp), Below.refl _ _⟩
  obtain ⟨a0, p0, rfl, _⟩ := h0
  obtain ⟨a1, p1, rfl, _⟩ := h1
  clear hTD
  cases hf : fewB [l0.length, l1.length] with
  | false =>
    have HF := Lib.hid hf
    clear hf
    go_enter Tryd.func4, Tryd.ntmps4
    go_wp2_with fail
    with_reducible refine (head10 _ HT.out HD.out).mono ?_
    rintro x w1 ⟨rfl, hb⟩
    have B1 := Lib.hid (HeldI.keep HH.out hb)
    clear hb HH
    have FC : Hid (∀ k (h : k < [l0.length, l1.length].length), (w1.alloc (.cells #[.slice a0 l0.length p0, .slice a1 l1.length p1] 22)).cell? ⟨w1.heap.size, k, none⟩ = some (.slice ([a0, a1][k]'h) ([l0.length, l1.length][k]'h) ([p0, p1][k]'h))) := Lib.hid (fun k h => by
      rw [BoxT.cell (BoxT.new w1 _ _) k]
      match k, h with
      | 0, _ => rfl
      | 1, _ => rfl)
    go_wp2_with fail
    with_reducible refine (few_as _ w1.heap.size [a0, a1] [l0.length, l1.length] [p0, p1] rfl rfl (by simp) FC.out false HF.out 2 rfl).mono ?_
    rintro x w2 ⟨rfl, rfl⟩
    go_wp2
    go_ret
    exact ⟨rfl, B1.out.bel.alloc B1.out.bel.size _⟩
  | true =>
    have hlen : l0.length ≤ 30 ∧ l1.length ≤ 30 := by
      unfold fewB at hf
      simpa using hf
    have HF := Lib.hid hf
    clear hf
    go_enter Tryd.func4, Tryd.ntmps4
    go_wp2_with fail
    with_reducible refine (head10 _ HT.out HD.out).mono ?_
    rintro x w1 ⟨rfl, hb⟩
    have B1 := Lib.hid (HeldI.keep HH.out hb)
    clear hb HH
    have FC : Hid (∀ k (h : k < [l0.length, l1.length].length), (w1.alloc (.cells #[.slice a0 l0.length p0, .slice a1 l1.length p1] 22)).cell? ⟨w1.heap.size, k, none⟩ = some (.slice ([a0, a1][k]'h) ([l0.length, l1.length][k]'h) ([p0, p1][k]'h))) := Lib.hid (fun k h => by
      rw [BoxT.cell (BoxT.new w1 _ _) k]
      match k, h with
      | 0, _ => rfl
      | 1, _ => rfl)
    go_wp2_with fail
    with_reducible refine (few_as _ w1.heap.size [a0, a1] [l0.length, l1.length] [p0, p1] rfl rfl (by simp) FC.out true HF.out 2 rfl).mono ?_
    rintro x w2 ⟨rfl, rfl⟩
    have H0 := Lib.hid (HeldI.keep B1.out ((Below.refl w1.heap.size w1).alloc (Nat.le_refl _) (.cells #[.slice a0 l0.length p0, .slice a1 l1.length p1] 22)))
    clear B1 FC HF
    go_wp2_with fail
    with_reducible refine (made_at _ (.slice a0 l0.length p0) l0 (HeldI.f H0.out (List.Mem.head _)) (by omega)).mono ?_
    rintro e q1 ⟨vv1, c1, rfl, hs, hm, ho, hb⟩
    have S1 := Lib.hid hs
    have M1 := Lib.hid hm
    have K1 := Lib.hid (HeldI.add H0.out hb ho)
    clear hs hm ho hb H0
    go_wp2_with fail
    with_reducible refine (made_at _ (.slice a1 l1.length p1) l1 (HeldI.f K1.out (List.Mem.tail _ (List.Mem.tail _ (List.Mem.head _)))) (by omega)).mono ?_
    rintro e q2 ⟨vv2, c2, rfl, hs, hm, ho, hb⟩
    have S2 := Lib.hid hs
    have M2 := Lib.hid hm
    have K2 := Lib.hid (HeldI.add K1.out hb ho)
    clear hs hm ho hb K1
    go_wp2_with fail
    with_reducible refine (or_at _ vv1 vv2 c1 c2 (HeldI.f K2.out (List.Mem.tail _ (List.Mem.head _))) (HeldI.f K2.out (List.Mem.head _)) S1.out S2.out).mono ?_
    rintro e q3 ⟨vv3, c3, rfl, hs, hm, ho, hb⟩
    have S3 := Lib.hid hs
    have M3 := Lib.hid hm
    have K3 := Lib.hid (HeldI.add K2.out hb ho)
    clear hs hm ho hb K2
    go_wp2_with fail
    with_reducible refine (and_at _ vv1 vv2 c1 c2 (HeldI.f K3.out (List.Mem.tail _ (List.Mem.tail _ (List.Mem.head _)))) (HeldI.f K3.out (List.Mem.tail _ (List.Mem.head _))) S1.out S2.out).mono ?_
    rintro e q4 ⟨vv4, c4, rfl, hs, hm, ho, hb⟩
    have S4 := Lib.hid hs
    have M4 := Lib.hid hm
    have K4 := Lib.hid (HeldI.add K3.out hb ho)
    clear hs hm ho hb K3
    go_wp2_with fail
    with_reducible refine (min_at _ vv1 vv2 c1 c2 (HeldI.f K4.out (List.Mem.tail _ (List.Mem.tail _ (List.Mem.tail _ (List.Mem.head _))))) (HeldI.f K4.out (List.Mem.tail _ (List.Mem.tail _ (List.Mem.head _)))) S1.out S2.out).mono ?_
    rintro e q5 ⟨vv5, c5, rfl, hs, hm, ho, hb⟩
    have S5 := Lib.hid hs
    have M5 := Lib.hid hm
    have K5 := Lib.hid (HeldI.add K4.out hb ho)
    clear hs hm ho hb K4
    go_wp2_with fail
    with_reducible refine (not_at _ vv1 c1 (HeldI.f K5.out (List.Mem.tail _ (List.Mem.tail _ (List.Mem.tail _ (List.Mem.tail _ (List.Mem.head _)))))) S1.out).mono ?_
    rintro e q6 ⟨vv6, c6, rfl, hs, hm, ho, hb⟩
    have S6 := Lib.hid hs
    have M6 := Lib.hid hm
    have K6 := Lib.hid (HeldI.add K5.out hb ho)
    clear hs hm ho hb K5
    go_wp2_with fail
    with_reducible refine (settled_as _ vv3 c3 (HeldI.f K6.out (List.Mem.tail _ (List.Mem.tail _ (List.Mem.tail _ (List.Mem.head _))))) S3.out).mono ?_
    rintro e q7 ⟨rfl, hb⟩
    have K7 := Lib.hid (HeldI.keep K6.out hb)
    clear hb K6
    go_wp2_with fail
    with_reducible refine (settled_as _ vv4 c4 (HeldI.f K7.out (List.Mem.tail _ (List.Mem.tail _ (List.Mem.head _)))) S4.out).mono ?_
    rintro e q8 ⟨rfl, hb⟩
    have K8 := Lib.hid (HeldI.keep K7.out hb)
    clear hb K7
    go_wp2_with fail
    with_reducible refine (settled_as _ vv5 c5 (HeldI.f K8.out (List.Mem.tail _ (List.Mem.head _))) S5.out).mono ?_
    rintro e q9 ⟨rfl, hb⟩
    have K9 := Lib.hid (HeldI.keep K8.out hb)
    clear hb K8
    go_wp2_with fail
    with_reducible refine (settled_as _ vv6 c6 (HeldI.f K9.out (List.Mem.head _)) S6.out).mono ?_
    rintro e q10 ⟨rfl, hb⟩
    have K10 := Lib.hid (HeldI.keep K9.out hb)
    clear hb K9
    go_wp2_with fail
    with_reducible refine (not_at _ vv6 c6 (HeldI.f K10.out (List.Mem.head _)) S6.out).mono ?_
    rintro e q11 ⟨vv11, c11, rfl, hs, hm, ho, hb⟩
    have S11 := Lib.hid hs
    have M11 := Lib.hid hm
    have K11 := Lib.hid (HeldI.add K10.out hb ho)
    clear hs hm ho hb K10
    have EQ12 : Hid (c11 = c1) := Lib.hid (ext_b S11.out S1.out (fun r => by
      have g0 := hself S1.out r
      have g1 := hself S2.out r
      revert g0 g1
      simp only [M3.out r, M4.out r, M5.out r, M6.out r, M11.out r]
      generalize hasC c1 r = X0
      generalize hasC c2 r = X1
      generalize topB r = t
      revert t X0 X1
      decide))
    go_wp2_with fail
    with_reducible refine (same_as _ vv11 vv1 c11 c1 (HeldI.f K11.out (List.Mem.head _)) (HeldI.f K11.out (List.Mem.tail _ (List.Mem.tail _ (List.Mem.tail _ (List.Mem.tail _ (List.Mem.tail _ (List.Mem.tail _ (List.Mem.head _)))))))) (settled_few S11.out) (settled_few S1.out) true (decide_eq_true EQ12.out)).mono ?_
    rintro e q12 ⟨rfl, hb⟩
    have K12 := Lib.hid (HeldI.keep K11.out hb)
    clear hb K11
    have K13 := Lib.hid (HeldI.cut K12.out (M := [(vv6, c6), (vv5, c5), (vv4, c4), (vv3, c3), (vv2, c2), (vv1, c1), ((.slice a0 l0.length p0), l0), ((.slice a1 l1.length p1), l1)]) (fun p hp => List.Mem.tail _ (hp)))
    clear K12
    go_wp2_with fail
    with_reducible refine (or_at _ vv2 vv1 c2 c1 (HeldI.f K13.out (List.Mem.tail _ (List.Mem.tail _ (List.Mem.tail _ (List.Mem.tail _ (List.Mem.head _)))))) (HeldI.f K13.out (List.Mem.tail _ (List.Mem.tail _ (List.Mem.tail _ (List.Mem.tail _ (List.Mem.tail _ (List.Mem.head _))))))) S2.out S1.out).mono ?_
    rintro e q14 ⟨vv14, c14, rfl, hs, hm, ho, hb⟩
    have S14 := Lib.hid hs
    have M14 := Lib.hid hm
    have K14 := Lib.hid (HeldI.add K13.out hb ho)
    clear hs hm ho hb K13
    have EQ15 : Hid (c3 = c14) := Lib.hid (ext_b S3.out S14.out (fun r => by
      have g0 := hself S1.out r
      have g1 := hself S2.out r
      revert g0 g1
      simp only [M3.out r, M4.out r, M5.out r, M6.out r, M14.out r]
      generalize hasC c1 r = X0
      generalize hasC c2 r = X1
      generalize topB r = t
      revert t X0 X1
      decide))
    go_wp2_with fail
    with_reducible refine (same_as _ vv3 vv14 c3 c14 (HeldI.f K14.out (List.Mem.tail _ (List.Mem.tail _ (List.Mem.tail _ (List.Mem.tail _ (List.Mem.head _)))))) (HeldI.f K14.out (List.Mem.head _)) (settled_few S3.out) (settled_few S14.out) true (decide_eq_true EQ15.out)).mono ?_
    rintro e q15 ⟨rfl, hb⟩
    have K15 := Lib.hid (HeldI.keep K14.out hb)
    clear hb K14
    have K16 := Lib.hid (HeldI.cut K15.out (M := [(vv6, c6), (vv5, c5), (vv4, c4), (vv3, c3), (vv2, c2), (vv1, c1), ((.slice a0 l0.length p0), l0), ((.slice a1 l1.length p1), l1)]) (fun p hp => List.Mem.tail _ (hp)))
    clear K15
    go_wp2_with fail
    with_reducible refine (and_at _ vv2 vv1 c2 c1 (HeldI.f K16.out (List.Mem.tail _ (List.Mem.tail _ (List.Mem.tail _ (List.Mem.tail _ (List.Mem.head _)))))) (HeldI.f K16.out (List.Mem.tail _ (List.Mem.tail _ (List.Mem.tail _ (List.Mem.tail _ (List.Mem.tail _ (List.Mem.head _))))))) S2.out S1.out).mono ?_
    rintro e q17 ⟨vv17, c17, rfl, hs, hm, ho, hb⟩
    have S17 := Lib.hid hs
    have M17 := Lib.hid hm
    have K17 := Lib.hid (HeldI.add K16.out hb ho)
    clear hs hm ho hb K16
    have EQ18 : Hid (c4 = c17) := Lib.hid (ext_b S4.out S17.out (fun r => by
      have g0 := hself S1.out r
      have g1 := hself S2.out r
      revert g0 g1
      simp only [M3.out r, M4.out r, M5.out r, M6.out r, M17.out r]
      generalize hasC c1 r = X0
      generalize hasC c2 r = X1
      generalize topB r = t
      revert t X0 X1
      decide))
    go_wp2_with fail
    with_reducible refine (same_as _ vv4 vv17 c4 c17 (HeldI.f K17.out (List.Mem.tail _ (List.Mem.tail _ (List.Mem.tail _ (List.Mem.head _))))) (HeldI.f K17.out (List.Mem.head _)) (settled_few S4.out) (settled_few S17.out) true (decide_eq_true EQ18.out)).mono ?_
    rintro e q18 ⟨rfl, hb⟩
    have K18 := Lib.hid (HeldI.keep K17.out hb)
    clear hb K17
    have K19 := Lib.hid (HeldI.cut K18.out (M := [(vv6, c6), (vv5, c5), (vv4, c4), (vv3, c3), (vv2, c2), (vv1, c1), ((.slice a0 l0.length p0), l0), ((.slice a1 l1.length p1), l1)]) (fun p hp => List.Mem.tail _ (hp)))
    clear K18
    have SAM : Hid (decide (c1 = c2) = sameB l0 l1 (bnd0 ++ bndA [(Value.slice a0 l0.length p0, l0), (Value.slice a1 l1.length p1, l1)])) := Lib.hid (by
      have h := same_iff S1.out S2.out (fun r => M1.out r) (fun r => M2.out r)
      have e : bndA [(Value.slice a0 l0.length p0, l0), (Value.slice a1 l1.length p1, l1)] = bndL l0 ++ bndL l1 := by simp [bndA]
      rw [e]
      exact h)
    go_wp2_with fail
    have KA := Lib.hid (HeldI.keep K19.out ((Below.refl q18.heap.size q18).alloc (Nat.le_refl _) (.cells #[.slice a0 l0.length p0, .slice a1 l1.length p1] 22)))
    have BH : Hid (∀ k (h : k < [(Value.slice a0 l0.length p0, l0), (Value.slice a1 l1.length p1, l1)].length), (q18.alloc (.cells #[.slice a0 l0.length p0, .slice a1 l1.length p1] 22)).cell? ⟨q18.heap.size, k, none⟩ = some ([(Value.slice a0 l0.length p0, l0), (Value.slice a1 l1.length p1, l1)][k]).1 ∧ InC (q18.alloc (.cells #[.slice a0 l0.length p0, .slice a1 l1.length p1] 22)) ([(Value.slice a0 l0.length p0, l0), (Value.slice a1 l1.length p1, l1)][k]).1 ([(Value.slice a0 l0.length p0, l0), (Value.slice a1 l1.length p1, l1)][k]).2) := Lib.hid (fun k h => by
      rw [BoxT.cell (BoxT.new q18 _ _) k]
      match k, h with
      | 0, _ => exact ⟨rfl, (HeldI.f KA.out (List.Mem.tail _ (List.Mem.tail _ (List.Mem.tail _ (List.Mem.tail _ (List.Mem.tail _ (List.Mem.tail _ (List.Mem.head _))))))))⟩
      | 1, _ => exact ⟨rfl, (HeldI.f KA.out (List.Mem.tail _ (List.Mem.tail _ (List.Mem.tail _ (List.Mem.tail _ (List.Mem.tail _ (List.Mem.tail _ (List.Mem.tail _ (List.Mem.head _)))))))))⟩)
    have B30 : Hid (∀ p ∈ [(Value.slice a0 l0.length p0, l0), (Value.slice a1 l1.length p1, l1)], p.2.length ≤ 30) := Lib.hid (by
      intro p hp
      rcases List.mem_cons.1 hp with rfl | hp
      · exact hlen.1
      · rcases List.mem_cons.1 hp with rfl | hp
        · exact hlen.2
        · cases hp)
    with_reducible refine (bounds_as _ _ [(Value.slice a0 l0.length p0, l0), (Value.slice a1 l1.length p1, l1)] 2 rfl (by simp) (by simp) BH.out B30.out).mono ?_
    rintro e qB ⟨vB, rfl, ho, hb⟩
    have hrl := bnd_len B30.out (by simp)
    have IB := Lib.hid ho.inI
    have KB := Lib.hid (HeldI.keep KA.out hb)
    obtain ⟨rs, hrs⟩ : ∃ rs, bnd0 ++ bndA [(Value.slice a0 l0.length p0, l0), (Value.slice a1 l1.length p1, l1)] = rs := ⟨_, rfl⟩
    rw [hrs] at hrl IB SAM ho
    obtain ⟨aB, cB, rfl, _, _⟩ := ho.shape
    clear hrs ho hb KA BH B30
    go_wp2_with fail
    go_loopw [11, 84] (fun sm i wr => ∃ k : Nat, k ≤ rs.length ∧ i = .int .i64 (k : Int) ∧ sm = .bool (sameB l0 l1 (rs.take k)) ∧ HeldI w [(vv6, c6), (vv5, c5), (vv4, c4), (vv3, c3), (vv2, c2), (vv1, c1), ((.slice a0 l0.length p0), l0), ((.slice a1 l1.length p1), l1)] wr ∧ InI wr (.slice aB rs.length cB) rs) (fun _ i _ => rs.length - (intOf i).toNat)
    case atStart => exact ⟨0, Nat.zero_le _, rfl, rfl, KB.out, IB.out⟩
    case round =>
      obtain ⟨k, hk, rfl, rfl, hh, hii⟩ := hrel
      have HL := Lib.hid hh
      have HI := Lib.hid hii
      clear hh hii KB IB
      obtain ⟨sb, hsb⟩ : ∃ s, sameB l0 l1 (rs.take k) = s := ⟨_, rfl⟩
      rw [hsb]
      have HSB := Lib.hid hsb
      clear hsb
      by_cases hlt : k < rs.length
      · have hki : (k : Int) < (rs.length : Int) := by omega
        obtain ⟨aX, cX, hvX, hcl⟩ := HI.out
        obtain ⟨rfl, _, rfl⟩ : aB = aX ∧ True ∧ cB = cX := by injection hvX with h1 h2 h3; exact ⟨h1, trivial, h3⟩
        obtain ⟨bb, rfl, hbbl, hcell⟩ := hcl (by omega)
        have c0 := hcell k hlt
        have HST := Lib.hid (sameB_take (a := l0) (b := l1) hlt)
        clear hcell hvX hcl
        generalize rs[k] = r at c0 HST
        obtain ⟨p, hp⟩ : ∃ p, inL l0 r = p := ⟨_, rfl⟩
        obtain ⟨q, hq⟩ : ∃ q, inL l1 r = q := ⟨_, rfl⟩
        obtain ⟨t, ht⟩ : ∃ t, topB r = t := ⟨_, rfl⟩
        rw [hp, hq, HSB.out] at HST
        have ex : hasC c1 r = p := by rw [M1.out r]; exact hp
        have ey : hasC c2 r = q := by rw [M2.out r]; exact hq
        have hpt : (p && !t) = false := by rw [← hp, ← ht, inL_top]; cases topB r <;> simp
        have hqt : (q && !t) = false := by rw [← hq, ← ht, inL_top]; cases topB r <;> simp
        have e1 : hasC c3 r = (t && (p || q)) := by rw [M3.out r, ex, ey, ht]
        have e2 : hasC c4 r = (t && (p && q)) := by rw [M4.out r, ex, ey, ht]
        have e3 : hasC c5 r = (t && (p && !q)) := by rw [M5.out r, ex, ey, ht]
        have e4 : hasC c6 r = (t && !p) := by rw [M6.out r, ex, ht]
        have HPp := Lib.hid hp
        have HQq := Lib.hid hq
        have E1 := Lib.hid e1
        have E2 := Lib.hid e2
        have E3 := Lib.hid e3
        have E4 := Lib.hid e4
        have HTt := Lib.hid ht
        clear hp hq ht ex ey e1 e2 e3 e4
        cases sb with
        | false =>
          cases t with
          | false =>
            obtain rfl : p = false := by cases p <;> simp_all
            obtain rfl : q = false := by cases q <;> simp_all
            clear hpt hqt
            by_cases hpos : (0 : Int) ≤ r
            · have hr0 : (0 : Int) ≤ r := hpos
              have hr1 : ¬ r ≤ (1114111 : Int) := by
                intro h
                have h2 := HTt.out
                unfold topB at h2
                simp [hpos, h] at h2
              go_wp2_with fail
              with_reducible refine (in_at _ (.slice a0 l0.length p0) l0 r (HeldI.f HL.out (List.Mem.tail _ (List.Mem.tail _ (List.Mem.tail _ (List.Mem.tail _ (List.Mem.tail _ (List.Mem.tail _ (List.Mem.head _)))))))) (by omega) false HPp.out).mono ?_
              rintro e q20 ⟨rfl, hb⟩
              have K20 := Lib.hid (HeldI.keep HL.out hb)
              have HI20 := Lib.hid (HI.out.below hb)
              clear hb HL
              go_wp2_with fail
              with_reducible refine (in_at _ (.slice a1 l1.length p1) l1 r (HeldI.f K20.out (List.Mem.tail _ (List.Mem.tail _ (List.Mem.tail _ (List.Mem.tail _ (List.Mem.tail _ (List.Mem.tail _ (List.Mem.tail _ (List.Mem.head _))))))))) (by omega) false HQq.out).mono ?_
              rintro e q21 ⟨rfl, hb⟩
              have K21 := Lib.hid (HeldI.keep K20.out hb)
              have HI21 := Lib.hid (HI20.out.below hb)
              clear hb K20
              have FE1 : Hid (hasC c3 r = false) := Lib.hid E1.out
              go_wp2_with fail
              with_reducible refine (has_at _ vv3 c3 r (HeldI.f K21.out (List.Mem.tail _ (List.Mem.tail _ (List.Mem.tail _ (List.Mem.head _))))) S3.out false FE1.out).mono ?_
              rintro e q22 ⟨rfl, hb⟩
              have K22 := Lib.hid (HeldI.keep K21.out hb)
              have HI22 := Lib.hid (HI21.out.below hb)
              clear hb K21
              have FE2 : Hid (hasC c4 r = false) := Lib.hid E2.out
              go_wp2_with fail
              with_reducible refine (has_at _ vv4 c4 r (HeldI.f K22.out (List.Mem.tail _ (List.Mem.tail _ (List.Mem.head _)))) S4.out false FE2.out).mono ?_
              rintro e q23 ⟨rfl, hb⟩
              have K23 := Lib.hid (HeldI.keep K22.out hb)
              have HI23 := Lib.hid (HI22.out.below hb)
              clear hb K22
              have FE3 : Hid (hasC c5 r = false) := Lib.hid E3.out
              go_wp2_with fail
              with_reducible refine (has_at _ vv5 c5 r (HeldI.f K23.out (List.Mem.tail _ (List.Mem.head _))) S5.out false FE3.out).mono ?_
              rintro e q24 ⟨rfl, hb⟩
              have K24 := Lib.hid (HeldI.keep K23.out hb)
              have HI24 := Lib.hid (HI23.out.below hb)
              clear hb K23
              have FE4 : Hid (hasC c6 r = false) := Lib.hid E4.out
              go_wp2_with fail
              with_reducible refine (has_at _ vv6 c6 r (HeldI.f K24.out (List.Mem.head _)) S6.out false FE4.out).mono ?_
              rintro e q25 ⟨rfl, hb⟩
              have K25 := Lib.hid (HeldI.keep K24.out hb)
              have HI25 := Lib.hid (HI24.out.below hb)
              clear hb K24
              go_wp2
              go_roundw
              case rel => exact ⟨k + 1, by omega, by go_num, by rw [HST.out]; first | rfl | simp, K25.out, HI25.out⟩
              case measure => simp [intOf]; omega
            · have hneg := hpos
              have hr0 : ¬ (0 : Int) ≤ r := hneg
              go_wp2_with fail
              with_reducible refine (in_at _ (.slice a0 l0.length p0) l0 r (HeldI.f HL.out (List.Mem.tail _ (List.Mem.tail _ (List.Mem.tail _ (List.Mem.tail _ (List.Mem.tail _ (List.Mem.tail _ (List.Mem.head _)))))))) (by omega) false HPp.out).mono ?_
              rintro e q26 ⟨rfl, hb⟩
              have K26 := Lib.hid (HeldI.keep HL.out hb)
              have HI26 := Lib.hid (HI.out.below hb)
              clear hb HL
              go_wp2_with fail
              with_reducible refine (in_at _ (.slice a1 l1.length p1) l1 r (HeldI.f K26.out (List.Mem.tail _ (List.Mem.tail _ (List.Mem.tail _ (List.Mem.tail _ (List.Mem.tail _ (List.Mem.tail _ (List.Mem.tail _ (List.Mem.head _))))))))) (by omega) false HQq.out).mono ?_
              rintro e q27 ⟨rfl, hb⟩
              have K27 := Lib.hid (HeldI.keep K26.out hb)
              have HI27 := Lib.hid (HI26.out.below hb)
              clear hb K26
              have FE1 : Hid (hasC c3 r = false) := Lib.hid E1.out
              go_wp2_with fail
              with_reducible refine (has_at _ vv3 c3 r (HeldI.f K27.out (List.Mem.tail _ (List.Mem.tail _ (List.Mem.tail _ (List.Mem.head _))))) S3.out false FE1.out).mono ?_
              rintro e q28 ⟨rfl, hb⟩
              have K28 := Lib.hid (HeldI.keep K27.out hb)
              have HI28 := Lib.hid (HI27.out.below hb)
              clear hb K27
              have FE2 : Hid (hasC c4 r = false) := Lib.hid E2.out
              go_wp2_with fail
              with_reducible refine (has_at _ vv4 c4 r (HeldI.f K28.out (List.Mem.tail _ (List.Mem.tail _ (List.Mem.head _)))) S4.out false FE2.out).mono ?_
              rintro e q29 ⟨rfl, hb⟩
              have K29 := Lib.hid (HeldI.keep K28.out hb)
              have HI29 := Lib.hid (HI28.out.below hb)
              clear hb K28
              have FE3 : Hid (hasC c5 r = false) := Lib.hid E3.out
              go_wp2_with fail
              with_reducible refine (has_at _ vv5 c5 r (HeldI.f K29.out (List.Mem.tail _ (List.Mem.head _))) S5.out false FE3.out).mono ?_
              rintro e q30 ⟨rfl, hb⟩
              have K30 := Lib.hid (HeldI.keep K29.out hb)
              have HI30 := Lib.hid (HI29.out.below hb)
              clear hb K29
              have FE4 : Hid (hasC c6 r = false) := Lib.hid E4.out
              go_wp2_with fail
              with_reducible refine (has_at _ vv6 c6 r (HeldI.f K30.out (List.Mem.head _)) S6.out false FE4.out).mono ?_
              rintro e q31 ⟨rfl, hb⟩
              have K31 := Lib.hid (HeldI.keep K30.out hb)
              have HI31 := Lib.hid (HI30.out.below hb)
              clear hb K30
              go_wp2
              go_roundw
              case rel => exact ⟨k + 1, by omega, by go_num, by rw [HST.out]; first | rfl | simp, K31.out, HI31.out⟩
              case measure => simp [intOf]; omega
          | true =>
            clear hpt hqt
            cases p with
            | false =>
              cases q with
              | false =>
                have hr := HTt.out
                unfold topB at hr
                simp at hr
                obtain ⟨hr0, hr1⟩ := hr
                go_wp2_with fail
                with_reducible refine (in_at _ (.slice a0 l0.length p0) l0 r (HeldI.f HL.out (List.Mem.tail _ (List.Mem.tail _ (List.Mem.tail _ (List.Mem.tail _ (List.Mem.tail _ (List.Mem.tail _ (List.Mem.head _)))))))) (by omega) false HPp.out).mono ?_
                rintro e q32 ⟨rfl, hb⟩
                have K32 := Lib.hid (HeldI.keep HL.out hb)
                have HI32 := Lib.hid (HI.out.below hb)
                clear hb HL
                go_wp2_with fail
                with_reducible refine (in_at _ (.slice a1 l1.length p1) l1 r (HeldI.f K32.out (List.Mem.tail _ (List.Mem.tail _ (List.Mem.tail _ (List.Mem.tail _ (List.Mem.tail _ (List.Mem.tail _ (List.Mem.tail _ (List.Mem.head _))))))))) (by omega) false HQq.out).mono ?_
                rintro e q33 ⟨rfl, hb⟩
                have K33 := Lib.hid (HeldI.keep K32.out hb)
                have HI33 := Lib.hid (HI32.out.below hb)
                clear hb K32
                have FE1 : Hid (hasC c3 r = false) := Lib.hid E1.out
                go_wp2_with fail
                with_reducible refine (has_at _ vv3 c3 r (HeldI.f K33.out (List.Mem.tail _ (List.Mem.tail _ (List.Mem.tail _ (List.Mem.head _))))) S3.out false FE1.out).mono ?_
                rintro e q34 ⟨rfl, hb⟩
                have K34 := Lib.hid (HeldI.keep K33.out hb)
                have HI34 := Lib.hid (HI33.out.below hb)
                clear hb K33
                have FE2 : Hid (hasC c4 r = false) := Lib.hid E2.out
                go_wp2_with fail
                with_reducible refine (has_at _ vv4 c4 r (HeldI.f K34.out (List.Mem.tail _ (List.Mem.tail _ (List.Mem.head _)))) S4.out false FE2.out).mono ?_
                rintro e q35 ⟨rfl, hb⟩
                have K35 := Lib.hid (HeldI.keep K34.out hb)
                have HI35 := Lib.hid (HI34.out.below hb)
                clear hb K34
                have FE3 : Hid (hasC c5 r = false) := Lib.hid E3.out
                go_wp2_with fail
                with_reducible refine (has_at _ vv5 c5 r (HeldI.f K35.out (List.Mem.tail _ (List.Mem.head _))) S5.out false FE3.out).mono ?_
                rintro e q36 ⟨rfl, hb⟩
                have K36 := Lib.hid (HeldI.keep K35.out hb)
                have HI36 := Lib.hid (HI35.out.below hb)
                clear hb K35
                have FE4 : Hid (hasC c6 r = true) := Lib.hid E4.out
                go_wp2_with fail
                with_reducible refine (has_at _ vv6 c6 r (HeldI.f K36.out (List.Mem.head _)) S6.out true FE4.out).mono ?_
                rintro e q37 ⟨rfl, hb⟩
                have K37 := Lib.hid (HeldI.keep K36.out hb)
                have HI37 := Lib.hid (HI36.out.below hb)
                clear hb K36
                go_wp2
                go_roundw
                case rel => exact ⟨k + 1, by omega, by go_num, by rw [HST.out]; first | rfl | simp, K37.out, HI37.out⟩
                case measure => simp [intOf]; omega
              | true =>
                have hr := HTt.out
                unfold topB at hr
                simp at hr
                obtain ⟨hr0, hr1⟩ := hr
                go_wp2_with fail
                with_reducible refine (in_at _ (.slice a0 l0.length p0) l0 r (HeldI.f HL.out (List.Mem.tail _ (List.Mem.tail _ (List.Mem.tail _ (List.Mem.tail _ (List.Mem.tail _ (List.Mem.tail _ (List.Mem.head _)))))))) (by omega) false HPp.out).mono ?_
                rintro e q38 ⟨rfl, hb⟩
                have K38 := Lib.hid (HeldI.keep HL.out hb)
                have HI38 := Lib.hid (HI.out.below hb)
                clear hb HL
                go_wp2_with fail
                with_reducible refine (in_at _ (.slice a1 l1.length p1) l1 r (HeldI.f K38.out (List.Mem.tail _ (List.Mem.tail _ (List.Mem.tail _ (List.Mem.tail _ (List.Mem.tail _ (List.Mem.tail _ (List.Mem.tail _ (List.Mem.head _))))))))) (by omega) true HQq.out).mono ?_
                rintro e q39 ⟨rfl, hb⟩
                have K39 := Lib.hid (HeldI.keep K38.out hb)
                have HI39 := Lib.hid (HI38.out.below hb)
                clear hb K38
                have FE1 : Hid (hasC c3 r = true) := Lib.hid E1.out
                go_wp2_with fail
                with_reducible refine (has_at _ vv3 c3 r (HeldI.f K39.out (List.Mem.tail _ (List.Mem.tail _ (List.Mem.tail _ (List.Mem.head _))))) S3.out true FE1.out).mono ?_
                rintro e q40 ⟨rfl, hb⟩
                have K40 := Lib.hid (HeldI.keep K39.out hb)
                have HI40 := Lib.hid (HI39.out.below hb)
                clear hb K39
                have FE2 : Hid (hasC c4 r = false) := Lib.hid E2.out
                go_wp2_with fail
                with_reducible refine (has_at _ vv4 c4 r (HeldI.f K40.out (List.Mem.tail _ (List.Mem.tail _ (List.Mem.head _)))) S4.out false FE2.out).mono ?_
                rintro e q41 ⟨rfl, hb⟩
                have K41 := Lib.hid (HeldI.keep K40.out hb)
                have HI41 := Lib.hid (HI40.out.below hb)
                clear hb K40
                have FE3 : Hid (hasC c5 r = false) := Lib.hid E3.out
                go_wp2_with fail
                with_reducible refine (has_at _ vv5 c5 r (HeldI.f K41.out (List.Mem.tail _ (List.Mem.head _))) S5.out false FE3.out).mono ?_
                rintro e q42 ⟨rfl, hb⟩
                have K42 := Lib.hid (HeldI.keep K41.out hb)
                have HI42 := Lib.hid (HI41.out.below hb)
                clear hb K41
                have FE4 : Hid (hasC c6 r = true) := Lib.hid E4.out
                go_wp2_with fail
                with_reducible refine (has_at _ vv6 c6 r (HeldI.f K42.out (List.Mem.head _)) S6.out true FE4.out).mono ?_
                rintro e q43 ⟨rfl, hb⟩
                have K43 := Lib.hid (HeldI.keep K42.out hb)
                have HI43 := Lib.hid (HI42.out.below hb)
                clear hb K42
                go_wp2
                go_roundw
                case rel => exact ⟨k + 1, by omega, by go_num, by rw [HST.out]; first | rfl | simp, K43.out, HI43.out⟩
                case measure => simp [intOf]; omega
            | true =>
              cases q with
              | false =>
                have hr := HTt.out
                unfold topB at hr
                simp at hr
                obtain ⟨hr0, hr1⟩ := hr
                go_wp2_with fail
                with_reducible refine (in_at _ (.slice a0 l0.length p0) l0 r (HeldI.f HL.out (List.Mem.tail _ (List.Mem.tail _ (List.Mem.tail _ (List.Mem.tail _ (List.Mem.tail _ (List.Mem.tail _ (List.Mem.head _)))))))) (by omega) true HPp.out).mono ?_
                rintro e q44 ⟨rfl, hb⟩
                have K44 := Lib.hid (HeldI.keep HL.out hb)
                have HI44 := Lib.hid (HI.out.below hb)
                clear hb HL
                go_wp2_with fail
                with_reducible refine (in_at _ (.slice a1 l1.length p1) l1 r (HeldI.f K44.out (List.Mem.tail _ (List.Mem.tail _ (List.Mem.tail _ (List.Mem.tail _ (List.Mem.tail _ (List.Mem.tail _ (List.Mem.tail _ (List.Mem.head _))))))))) (by omega) false HQq.out).mono ?_
                rintro e q45 ⟨rfl, hb⟩
                have K45 := Lib.hid (HeldI.keep K44.out hb)
                have HI45 := Lib.hid (HI44.out.below hb)
                clear hb K44
                have FE1 : Hid (hasC c3 r = true) := Lib.hid E1.out
                go_wp2_with fail
                with_reducible refine (has_at _ vv3 c3 r (HeldI.f K45.out (List.Mem.tail _ (List.Mem.tail _ (List.Mem.tail _ (List.Mem.head _))))) S3.out true FE1.out).mono ?_
                rintro e q46 ⟨rfl, hb⟩
                have K46 := Lib.hid (HeldI.keep K45.out hb)
                have HI46 := Lib.hid (HI45.out.below hb)
                clear hb K45
                have FE2 : Hid (hasC c4 r = false) := Lib.hid E2.out
                go_wp2_with fail
                with_reducible refine (has_at _ vv4 c4 r (HeldI.f K46.out (List.Mem.tail _ (List.Mem.tail _ (List.Mem.head _)))) S4.out false FE2.out).mono ?_
                rintro e q47 ⟨rfl, hb⟩
                have K47 := Lib.hid (HeldI.keep K46.out hb)
                have HI47 := Lib.hid (HI46.out.below hb)
                clear hb K46
                have FE3 : Hid (hasC c5 r = true) := Lib.hid E3.out
                go_wp2_with fail
                with_reducible refine (has_at _ vv5 c5 r (HeldI.f K47.out (List.Mem.tail _ (List.Mem.head _))) S5.out true FE3.out).mono ?_
                rintro e q48 ⟨rfl, hb⟩
                have K48 := Lib.hid (HeldI.keep K47.out hb)
                have HI48 := Lib.hid (HI47.out.below hb)
                clear hb K47
                have FE4 : Hid (hasC c6 r = false) := Lib.hid E4.out
                go_wp2_with fail
                with_reducible refine (has_at _ vv6 c6 r (HeldI.f K48.out (List.Mem.head _)) S6.out false FE4.out).mono ?_
                rintro e q49 ⟨rfl, hb⟩
                have K49 := Lib.hid (HeldI.keep K48.out hb)
                have HI49 := Lib.hid (HI48.out.below hb)
                clear hb K48
                go_wp2
                go_roundw
                case rel => exact ⟨k + 1, by omega, by go_num, by rw [HST.out]; first | rfl | simp, K49.out, HI49.out⟩
                case measure => simp [intOf]; omega
              | true =>
                have hr := HTt.out
                unfold topB at hr
                simp at hr
                obtain ⟨hr0, hr1⟩ := hr
                go_wp2_with fail
                with_reducible refine (in_at _ (.slice a0 l0.length p0) l0 r (HeldI.f HL.out (List.Mem.tail _ (List.Mem.tail _ (List.Mem.tail _ (List.Mem.tail _ (List.Mem.tail _ (List.Mem.tail _ (List.Mem.head _)))))))) (by omega) true HPp.out).mono ?_
                rintro e q50 ⟨rfl, hb⟩
                have K50 := Lib.hid (HeldI.keep HL.out hb)
                have HI50 := Lib.hid (HI.out.below hb)
                clear hb HL
                go_wp2_with fail
                with_reducible refine (in_at _ (.slice a1 l1.length p1) l1 r (HeldI.f K50.out (List.Mem.tail _ (List.Mem.tail _ (List.Mem.tail _ (List.Mem.tail _ (List.Mem.tail _ (List.Mem.tail _ (List.Mem.tail _ (List.Mem.head _))))))))) (by omega) true HQq.out).mono ?_
                rintro e q51 ⟨rfl, hb⟩
                have K51 := Lib.hid (HeldI.keep K50.out hb)
                have HI51 := Lib.hid (HI50.out.below hb)
                clear hb K50
                have FE1 : Hid (hasC c3 r = true) := Lib.hid E1.out
                go_wp2_with fail
                with_reducible refine (has_at _ vv3 c3 r (HeldI.f K51.out (List.Mem.tail _ (List.Mem.tail _ (List.Mem.tail _ (List.Mem.head _))))) S3.out true FE1.out).mono ?_
                rintro e q52 ⟨rfl, hb⟩
                have K52 := Lib.hid (HeldI.keep K51.out hb)
                have HI52 := Lib.hid (HI51.out.below hb)
                clear hb K51
                have FE2 : Hid (hasC c4 r = true) := Lib.hid E2.out
                go_wp2_with fail
                with_reducible refine (has_at _ vv4 c4 r (HeldI.f K52.out (List.Mem.tail _ (List.Mem.tail _ (List.Mem.head _)))) S4.out true FE2.out).mono ?_
                rintro e q53 ⟨rfl, hb⟩
                have K53 := Lib.hid (HeldI.keep K52.out hb)
                have HI53 := Lib.hid (HI52.out.below hb)
                clear hb K52
                have FE3 : Hid (hasC c5 r = false) := Lib.hid E3.out
                go_wp2_with fail
                with_reducible refine (has_at _ vv5 c5 r (HeldI.f K53.out (List.Mem.tail _ (List.Mem.head _))) S5.out false FE3.out).mono ?_
                rintro e q54 ⟨rfl, hb⟩
                have K54 := Lib.hid (HeldI.keep K53.out hb)
                have HI54 := Lib.hid (HI53.out.below hb)
                clear hb K53
                have FE4 : Hid (hasC c6 r = false) := Lib.hid E4.out
                go_wp2_with fail
                with_reducible refine (has_at _ vv6 c6 r (HeldI.f K54.out (List.Mem.head _)) S6.out false FE4.out).mono ?_
                rintro e q55 ⟨rfl, hb⟩
                have K55 := Lib.hid (HeldI.keep K54.out hb)
                have HI55 := Lib.hid (HI54.out.below hb)
                clear hb K54
                go_wp2
                go_roundw
                case rel => exact ⟨k + 1, by omega, by go_num, by rw [HST.out]; first | rfl | simp, K55.out, HI55.out⟩
                case measure => simp [intOf]; omega
        | true =>
          cases t with
          | false =>
            obtain rfl : p = false := by cases p <;> simp_all
            obtain rfl : q = false := by cases q <;> simp_all
            clear hpt hqt
            by_cases hpos : (0 : Int) ≤ r
            · have hr0 : (0 : Int) ≤ r := hpos
              have hr1 : ¬ r ≤ (1114111 : Int) := by
                intro h
                have h2 := HTt.out
                unfold topB at h2
                simp [hpos, h] at h2
              go_wp2_with fail
              with_reducible refine (in_at _ (.slice a0 l0.length p0) l0 r (HeldI.f HL.out (List.Mem.tail _ (List.Mem.tail _ (List.Mem.tail _ (List.Mem.tail _ (List.Mem.tail _ (List.Mem.tail _ (List.Mem.head _)))))))) (by omega) false HPp.out).mono ?_
              rintro e q56 ⟨rfl, hb⟩
              have K56 := Lib.hid (HeldI.keep HL.out hb)
              have HI56 := Lib.hid (HI.out.below hb)
              clear hb HL
              go_wp2_with fail
              with_reducible refine (in_at _ (.slice a1 l1.length p1) l1 r (HeldI.f K56.out (List.Mem.tail _ (List.Mem.tail _ (List.Mem.tail _ (List.Mem.tail _ (List.Mem.tail _ (List.Mem.tail _ (List.Mem.tail _ (List.Mem.head _))))))))) (by omega) false HQq.out).mono ?_
              rintro e q57 ⟨rfl, hb⟩
              have K57 := Lib.hid (HeldI.keep K56.out hb)
              have HI57 := Lib.hid (HI56.out.below hb)
              clear hb K56
              have FE1 : Hid (hasC c3 r = false) := Lib.hid E1.out
              go_wp2_with fail
              with_reducible refine (has_at _ vv3 c3 r (HeldI.f K57.out (List.Mem.tail _ (List.Mem.tail _ (List.Mem.tail _ (List.Mem.head _))))) S3.out false FE1.out).mono ?_
              rintro e q58 ⟨rfl, hb⟩
              have K58 := Lib.hid (HeldI.keep K57.out hb)
              have HI58 := Lib.hid (HI57.out.below hb)
              clear hb K57
              have FE2 : Hid (hasC c4 r = false) := Lib.hid E2.out
              go_wp2_with fail
              with_reducible refine (has_at _ vv4 c4 r (HeldI.f K58.out (List.Mem.tail _ (List.Mem.tail _ (List.Mem.head _)))) S4.out false FE2.out).mono ?_
              rintro e q59 ⟨rfl, hb⟩
              have K59 := Lib.hid (HeldI.keep K58.out hb)
              have HI59 := Lib.hid (HI58.out.below hb)
              clear hb K58
              have FE3 : Hid (hasC c5 r = false) := Lib.hid E3.out
              go_wp2_with fail
              with_reducible refine (has_at _ vv5 c5 r (HeldI.f K59.out (List.Mem.tail _ (List.Mem.head _))) S5.out false FE3.out).mono ?_
              rintro e q60 ⟨rfl, hb⟩
              have K60 := Lib.hid (HeldI.keep K59.out hb)
              have HI60 := Lib.hid (HI59.out.below hb)
              clear hb K59
              have FE4 : Hid (hasC c6 r = false) := Lib.hid E4.out
              go_wp2_with fail
              with_reducible refine (has_at _ vv6 c6 r (HeldI.f K60.out (List.Mem.head _)) S6.out false FE4.out).mono ?_
              rintro e q61 ⟨rfl, hb⟩
              have K61 := Lib.hid (HeldI.keep K60.out hb)
              have HI61 := Lib.hid (HI60.out.below hb)
              clear hb K60
              go_wp2
              go_roundw
              case rel => exact ⟨k + 1, by omega, by go_num, by rw [HST.out]; first | rfl | simp, K61.out, HI61.out⟩
              case measure => simp [intOf]; omega
            · have hneg := hpos
              have hr0 : ¬ (0 : Int) ≤ r := hneg
              go_wp2_with fail
              with_reducible refine (in_at _ (.slice a0 l0.length p0) l0 r (HeldI.f HL.out (List.Mem.tail _ (List.Mem.tail _ (List.Mem.tail _ (List.Mem.tail _ (List.Mem.tail _ (List.Mem.tail _ (List.Mem.head _)))))))) (by omega) false HPp.out).mono ?_
              rintro e q62 ⟨rfl, hb⟩
              have K62 := Lib.hid (HeldI.keep HL.out hb)
              have HI62 := Lib.hid (HI.out.below hb)
              clear hb HL
              go_wp2_with fail
              with_reducible refine (in_at _ (.slice a1 l1.length p1) l1 r (HeldI.f K62.out (List.Mem.tail _ (List.Mem.tail _ (List.Mem.tail _ (List.Mem.tail _ (List.Mem.tail _ (List.Mem.tail _ (List.Mem.tail _ (List.Mem.head _))))))))) (by omega) false HQq.out).mono ?_
              rintro e q63 ⟨rfl, hb⟩
              have K63 := Lib.hid (HeldI.keep K62.out hb)
              have HI63 := Lib.hid (HI62.out.below hb)
              clear hb K62
              have FE1 : Hid (hasC c3 r = false) := Lib.hid E1.out
              go_wp2_with fail
              with_reducible refine (has_at _ vv3 c3 r (HeldI.f K63.out (List.Mem.tail _ (List.Mem.tail _ (List.Mem.tail _ (List.Mem.head _))))) S3.out false FE1.out).mono ?_
              rintro e q64 ⟨rfl, hb⟩
              have K64 := Lib.hid (HeldI.keep K63.out hb)
              have HI64 := Lib.hid (HI63.out.below hb)
              clear hb K63
              have FE2 : Hid (hasC c4 r = false) := Lib.hid E2.out
              go_wp2_with fail
              with_reducible refine (has_at _ vv4 c4 r (HeldI.f K64.out (List.Mem.tail _ (List.Mem.tail _ (List.Mem.head _)))) S4.out false FE2.out).mono ?_
              rintro e q65 ⟨rfl, hb⟩
              have K65 := Lib.hid (HeldI.keep K64.out hb)
              have HI65 := Lib.hid (HI64.out.below hb)
              clear hb K64
              have FE3 : Hid (hasC c5 r = false) := Lib.hid E3.out
              go_wp2_with fail
              with_reducible refine (has_at _ vv5 c5 r (HeldI.f K65.out (List.Mem.tail _ (List.Mem.head _))) S5.out false FE3.out).mono ?_
              rintro e q66 ⟨rfl, hb⟩
              have K66 := Lib.hid (HeldI.keep K65.out hb)
              have HI66 := Lib.hid (HI65.out.below hb)
              clear hb K65
              have FE4 : Hid (hasC c6 r = false) := Lib.hid E4.out
              go_wp2_with fail
              with_reducible refine (has_at _ vv6 c6 r (HeldI.f K66.out (List.Mem.head _)) S6.out false FE4.out).mono ?_
              rintro e q67 ⟨rfl, hb⟩
              have K67 := Lib.hid (HeldI.keep K66.out hb)
              have HI67 := Lib.hid (HI66.out.below hb)
              clear hb K66
              go_wp2
              go_roundw
              case rel => exact ⟨k + 1, by omega, by go_num, by rw [HST.out]; first | rfl | simp, K67.out, HI67.out⟩
              case measure => simp [intOf]; omega
          | true =>
            clear hpt hqt
            cases p with
            | false =>
              cases q with
              | false =>
                have hr := HTt.out
                unfold topB at hr
                simp at hr
                obtain ⟨hr0, hr1⟩ := hr
                go_wp2_with fail
                with_reducible refine (in_at _ (.slice a0 l0.length p0) l0 r (HeldI.f HL.out (List.Mem.tail _ (List.Mem.tail _ (List.Mem.tail _ (List.Mem.tail _ (List.Mem.tail _ (List.Mem.tail _ (List.Mem.head _)))))))) (by omega) false HPp.out).mono ?_
                rintro e q68 ⟨rfl, hb⟩
                have K68 := Lib.hid (HeldI.keep HL.out hb)
                have HI68 := Lib.hid (HI.out.below hb)
                clear hb HL
                go_wp2_with fail
                with_reducible refine (in_at _ (.slice a1 l1.length p1) l1 r (HeldI.f K68.out (List.Mem.tail _ (List.Mem.tail _ (List.Mem.tail _ (List.Mem.tail _ (List.Mem.tail _ (List.Mem.tail _ (List.Mem.tail _ (List.Mem.head _))))))))) (by omega) false HQq.out).mono ?_
                rintro e q69 ⟨rfl, hb⟩
                have K69 := Lib.hid (HeldI.keep K68.out hb)
                have HI69 := Lib.hid (HI68.out.below hb)
                clear hb K68
                have FE1 : Hid (hasC c3 r = false) := Lib.hid E1.out
                go_wp2_with fail
                with_reducible refine (has_at _ vv3 c3 r (HeldI.f K69.out (List.Mem.tail _ (List.Mem.tail _ (List.Mem.tail _ (List.Mem.head _))))) S3.out false FE1.out).mono ?_
                rintro e q70 ⟨rfl, hb⟩
                have K70 := Lib.hid (HeldI.keep K69.out hb)
                have HI70 := Lib.hid (HI69.out.below hb)
                clear hb K69
                have FE2 : Hid (hasC c4 r = false) := Lib.hid E2.out
                go_wp2_with fail
                with_reducible refine (has_at _ vv4 c4 r (HeldI.f K70.out (List.Mem.tail _ (List.Mem.tail _ (List.Mem.head _)))) S4.out false FE2.out).mono ?_
                rintro e q71 ⟨rfl, hb⟩
                have K71 := Lib.hid (HeldI.keep K70.out hb)
                have HI71 := Lib.hid (HI70.out.below hb)
                clear hb K70
                have FE3 : Hid (hasC c5 r = false) := Lib.hid E3.out
                go_wp2_with fail
                with_reducible refine (has_at _ vv5 c5 r (HeldI.f K71.out (List.Mem.tail _ (List.Mem.head _))) S5.out false FE3.out).mono ?_
                rintro e q72 ⟨rfl, hb⟩
                have K72 := Lib.hid (HeldI.keep K71.out hb)
                have HI72 := Lib.hid (HI71.out.below hb)
                clear hb K71
                have FE4 : Hid (hasC c6 r = true) := Lib.hid E4.out
                go_wp2_with fail
                with_reducible refine (has_at _ vv6 c6 r (HeldI.f K72.out (List.Mem.head _)) S6.out true FE4.out).mono ?_
                rintro e q73 ⟨rfl, hb⟩
                have K73 := Lib.hid (HeldI.keep K72.out hb)
                have HI73 := Lib.hid (HI72.out.below hb)
                clear hb K72
                go_wp2
                go_roundw
                case rel => exact ⟨k + 1, by omega, by go_num, by rw [HST.out]; first | rfl | simp, K73.out, HI73.out⟩
                case measure => simp [intOf]; omega
              | true =>
                have hr := HTt.out
                unfold topB at hr
                simp at hr
                obtain ⟨hr0, hr1⟩ := hr
                go_wp2_with fail
                with_reducible refine (in_at _ (.slice a0 l0.length p0) l0 r (HeldI.f HL.out (List.Mem.tail _ (List.Mem.tail _ (List.Mem.tail _ (List.Mem.tail _ (List.Mem.tail _ (List.Mem.tail _ (List.Mem.head _)))))))) (by omega) false HPp.out).mono ?_
                rintro e q74 ⟨rfl, hb⟩
                have K74 := Lib.hid (HeldI.keep HL.out hb)
                have HI74 := Lib.hid (HI.out.below hb)
                clear hb HL
                go_wp2_with fail
                with_reducible refine (in_at _ (.slice a1 l1.length p1) l1 r (HeldI.f K74.out (List.Mem.tail _ (List.Mem.tail _ (List.Mem.tail _ (List.Mem.tail _ (List.Mem.tail _ (List.Mem.tail _ (List.Mem.tail _ (List.Mem.head _))))))))) (by omega) true HQq.out).mono ?_
                rintro e q75 ⟨rfl, hb⟩
                have K75 := Lib.hid (HeldI.keep K74.out hb)
                have HI75 := Lib.hid (HI74.out.below hb)
                clear hb K74
                have FE1 : Hid (hasC c3 r = true) := Lib.hid E1.out
                go_wp2_with fail
                with_reducible refine (has_at _ vv3 c3 r (HeldI.f K75.out (List.Mem.tail _ (List.Mem.tail _ (List.Mem.tail _ (List.Mem.head _))))) S3.out true FE1.out).mono ?_
                rintro e q76 ⟨rfl, hb⟩
                have K76 := Lib.hid (HeldI.keep K75.out hb)
                have HI76 := Lib.hid (HI75.out.below hb)
                clear hb K75
                have FE2 : Hid (hasC c4 r = false) := Lib.hid E2.out
                go_wp2_with fail
                with_reducible refine (has_at _ vv4 c4 r (HeldI.f K76.out (List.Mem.tail _ (List.Mem.tail _ (List.Mem.head _)))) S4.out false FE2.out).mono ?_
                rintro e q77 ⟨rfl, hb⟩
                have K77 := Lib.hid (HeldI.keep K76.out hb)
                have HI77 := Lib.hid (HI76.out.below hb)
                clear hb K76
                have FE3 : Hid (hasC c5 r = false) := Lib.hid E3.out
                go_wp2_with fail
                with_reducible refine (has_at _ vv5 c5 r (HeldI.f K77.out (List.Mem.tail _ (List.Mem.head _))) S5.out false FE3.out).mono ?_
                rintro e q78 ⟨rfl, hb⟩
                have K78 := Lib.hid (HeldI.keep K77.out hb)
                have HI78 := Lib.hid (HI77.out.below hb)
                clear hb K77
                have FE4 : Hid (hasC c6 r = true) := Lib.hid E4.out
                go_wp2_with fail
                with_reducible refine (has_at _ vv6 c6 r (HeldI.f K78.out (List.Mem.head _)) S6.out true FE4.out).mono ?_
                rintro e q79 ⟨rfl, hb⟩
                have K79 := Lib.hid (HeldI.keep K78.out hb)
                have HI79 := Lib.hid (HI78.out.below hb)
                clear hb K78
                go_wp2
                go_roundw
                case rel => exact ⟨k + 1, by omega, by go_num, by rw [HST.out]; first | rfl | simp, K79.out, HI79.out⟩
                case measure => simp [intOf]; omega
            | true =>
              cases q with
              | false =>
                have hr := HTt.out
                unfold topB at hr
                simp at hr
                obtain ⟨hr0, hr1⟩ := hr
                go_wp2_with fail
                with_reducible refine (in_at _ (.slice a0 l0.length p0) l0 r (HeldI.f HL.out (List.Mem.tail _ (List.Mem.tail _ (List.Mem.tail _ (List.Mem.tail _ (List.Mem.tail _ (List.Mem.tail _ (List.Mem.head _)))))))) (by omega) true HPp.out).mono ?_
                rintro e q80 ⟨rfl, hb⟩
                have K80 := Lib.hid (HeldI.keep HL.out hb)
                have HI80 := Lib.hid (HI.out.below hb)
                clear hb HL
                go_wp2_with fail
                with_reducible refine (in_at _ (.slice a1 l1.length p1) l1 r (HeldI.f K80.out (List.Mem.tail _ (List.Mem.tail _ (List.Mem.tail _ (List.Mem.tail _ (List.Mem.tail _ (List.Mem.tail _ (List.Mem.tail _ (List.Mem.head _))))))))) (by omega) false HQq.out).mono ?_
                rintro e q81 ⟨rfl, hb⟩
                have K81 := Lib.hid (HeldI.keep K80.out hb)
                have HI81 := Lib.hid (HI80.out.below hb)
                clear hb K80
                have FE1 : Hid (hasC c3 r = true) := Lib.hid E1.out
                go_wp2_with fail
                with_reducible refine (has_at _ vv3 c3 r (HeldI.f K81.out (List.Mem.tail _ (List.Mem.tail _ (List.Mem.tail _ (List.Mem.head _))))) S3.out true FE1.out).mono ?_
                rintro e q82 ⟨rfl, hb⟩
                have K82 := Lib.hid (HeldI.keep K81.out hb)
                have HI82 := Lib.hid (HI81.out.below hb)
                clear hb K81
                have FE2 : Hid (hasC c4 r = false) := Lib.hid E2.out
                go_wp2_with fail
                with_reducible refine (has_at _ vv4 c4 r (HeldI.f K82.out (List.Mem.tail _ (List.Mem.tail _ (List.Mem.head _)))) S4.out false FE2.out).mono ?_
                rintro e q83 ⟨rfl, hb⟩
                have K83 := Lib.hid (HeldI.keep K82.out hb)
                have HI83 := Lib.hid (HI82.out.below hb)
                clear hb K82
                have FE3 : Hid (hasC c5 r = true) := Lib.hid E3.out
                go_wp2_with fail
                with_reducible refine (has_at _ vv5 c5 r (HeldI.f K83.out (List.Mem.tail _ (List.Mem.head _))) S5.out true FE3.out).mono ?_
                rintro e q84 ⟨rfl, hb⟩
                have K84 := Lib.hid (HeldI.keep K83.out hb)
                have HI84 := Lib.hid (HI83.out.below hb)
                clear hb K83
                have FE4 : Hid (hasC c6 r = false) := Lib.hid E4.out
                go_wp2_with fail
                with_reducible refine (has_at _ vv6 c6 r (HeldI.f K84.out (List.Mem.head _)) S6.out false FE4.out).mono ?_
                rintro e q85 ⟨rfl, hb⟩
                have K85 := Lib.hid (HeldI.keep K84.out hb)
                have HI85 := Lib.hid (HI84.out.below hb)
                clear hb K84
                go_wp2
                go_roundw
                case rel => exact ⟨k + 1, by omega, by go_num, by rw [HST.out]; first | rfl | simp, K85.out, HI85.out⟩
                case measure => simp [intOf]; omega
              | true =>
                have hr := HTt.out
                unfold topB at hr
                simp at hr
                obtain ⟨hr0, hr1⟩ := hr
                go_wp2_with fail
                with_reducible refine (in_at _ (.slice a0 l0.length p0) l0 r (HeldI.f HL.out (List.Mem.tail _ (List.Mem.tail _ (List.Mem.tail _ (List.Mem.tail _ (List.Mem.tail _ (List.Mem.tail _ (List.Mem.head _)))))))) (by omega) true HPp.out).mono ?_
                rintro e q86 ⟨rfl, hb⟩
                have K86 := Lib.hid (HeldI.keep HL.out hb)
                have HI86 := Lib.hid (HI.out.below hb)
                clear hb HL
                go_wp2_with fail
                with_reducible refine (in_at _ (.slice a1 l1.length p1) l1 r (HeldI.f K86.out (List.Mem.tail _ (List.Mem.tail _ (List.Mem.tail _ (List.Mem.tail _ (List.Mem.tail _ (List.Mem.tail _ (List.Mem.tail _ (List.Mem.head _))))))))) (by omega) true HQq.out).mono ?_
                rintro e q87 ⟨rfl, hb⟩
                have K87 := Lib.hid (HeldI.keep K86.out hb)
                have HI87 := Lib.hid (HI86.out.below hb)
                clear hb K86
                have FE1 : Hid (hasC c3 r = true) := Lib.hid E1.out
                go_wp2_with fail
                with_reducible refine (has_at _ vv3 c3 r (HeldI.f K87.out (List.Mem.tail _ (List.Mem.tail _ (List.Mem.tail _ (List.Mem.head _))))) S3.out true FE1.out).mono ?_
                rintro e q88 ⟨rfl, hb⟩
                have K88 := Lib.hid (HeldI.keep K87.out hb)
                have HI88 := Lib.hid (HI87.out.below hb)
                clear hb K87
                have FE2 : Hid (hasC c4 r = true) := Lib.hid E2.out
                go_wp2_with fail
                with_reducible refine (has_at _ vv4 c4 r (HeldI.f K88.out (List.Mem.tail _ (List.Mem.tail _ (List.Mem.head _)))) S4.out true FE2.out).mono ?_
                rintro e q89 ⟨rfl, hb⟩
                have K89 := Lib.hid (HeldI.keep K88.out hb)
                have HI89 := Lib.hid (HI88.out.below hb)
                clear hb K88
                have FE3 : Hid (hasC c5 r = false) := Lib.hid E3.out
                go_wp2_with fail
                with_reducible refine (has_at _ vv5 c5 r (HeldI.f K89.out (List.Mem.tail _ (List.Mem.head _))) S5.out false FE3.out).mono ?_
                rintro e q90 ⟨rfl, hb⟩
                have K90 := Lib.hid (HeldI.keep K89.out hb)
                have HI90 := Lib.hid (HI89.out.below hb)
                clear hb K89
                have FE4 : Hid (hasC c6 r = false) := Lib.hid E4.out
                go_wp2_with fail
                with_reducible refine (has_at _ vv6 c6 r (HeldI.f K90.out (List.Mem.head _)) S6.out false FE4.out).mono ?_
                rintro e q91 ⟨rfl, hb⟩
                have K91 := Lib.hid (HeldI.keep K90.out hb)
                have HI91 := Lib.hid (HI90.out.below hb)
                clear hb K90
                go_wp2
                go_roundw
                case rel => exact ⟨k + 1, by omega, by go_num, by rw [HST.out]; first | rfl | simp, K91.out, HI91.out⟩
                case measure => simp [intOf]; omega
      · have hkn : ¬ (k : Int) < (rs.length : Int) := by omega
        have hsm : decide (c1 = c2) = sb := by
          rw [SAM.out, ← HSB.out, List.take_of_length_le (by omega)]
        have HSM := Lib.hid hsm
        clear hsm
        go_wp2_with fail
        with_reducible refine (same_as _ vv1 vv2 c1 c2 (HeldI.f HL.out (List.Mem.tail _ (List.Mem.tail _ (List.Mem.tail _ (List.Mem.tail _ (List.Mem.tail _ (List.Mem.head _))))))) (HeldI.f HL.out (List.Mem.tail _ (List.Mem.tail _ (List.Mem.tail _ (List.Mem.tail _ (List.Mem.head _)))))) (settled_few S1.out) (settled_few S2.out) sb HSM.out).mono ?_
        rintro e q92 ⟨rfl, hb⟩
        have K92 := Lib.hid (HeldI.keep HL.out hb)
        clear hb HL
        go_wp2_with fail
        with_reducible refine (min_at _ vv1 vv1 c1 c1 (HeldI.f K92.out (List.Mem.tail _ (List.Mem.tail _ (List.Mem.tail _ (List.Mem.tail _ (List.Mem.tail _ (List.Mem.head _))))))) (HeldI.f K92.out (List.Mem.tail _ (List.Mem.tail _ (List.Mem.tail _ (List.Mem.tail _ (List.Mem.tail _ (List.Mem.head _))))))) S1.out S1.out).mono ?_
        rintro e q93 ⟨vv93, c93, rfl, hs, hm, ho, hb⟩
        have S93 := Lib.hid hs
        have M93 := Lib.hid hm
        have K93 := Lib.hid (HeldI.add K92.out hb ho)
        clear hs hm ho hb K92
        go_wp2_with fail
        with_reducible refine (made_at _ (.slice none 0 0) [] (nil_inC _) (by decide)).mono ?_
        rintro e q94 ⟨vv94, c94, rfl, hs, hm, ho, hb⟩
        have S94 := Lib.hid hs
        have M94 := Lib.hid hm
        have K94 := Lib.hid (HeldI.add K93.out hb ho)
        clear hs hm ho hb K93
        have EQ95 : Hid (c93 = c94) := Lib.hid (ext_b S93.out S94.out (fun r => by
          have g0 := hself S1.out r
          revert g0
          simp only [M93.out r, M94.out r, hnil r]
          generalize hasC c1 r = X0
          generalize topB r = t
          revert t X0
          decide))
        go_wp2_with fail
        with_reducible refine (same_as _ vv93 vv94 c93 c94 (HeldI.f K94.out (List.Mem.tail _ (List.Mem.head _))) (HeldI.f K94.out (List.Mem.head _)) (settled_few S93.out) (settled_few S94.out) true (decide_eq_true EQ95.out)).mono ?_
        rintro e q95 ⟨rfl, hb⟩
        have K95 := Lib.hid (HeldI.keep K94.out hb)
        clear hb K94
        go_wp2_with fail
        with_reducible refine (or_at _ vv1 vv6 c1 c6 (HeldI.f K95.out (List.Mem.tail _ (List.Mem.tail _ (List.Mem.tail _ (List.Mem.tail _ (List.Mem.tail _ (List.Mem.tail _ (List.Mem.tail _ (List.Mem.head _))))))))) (HeldI.f K95.out (List.Mem.tail _ (List.Mem.tail _ (List.Mem.head _)))) S1.out S6.out).mono ?_
        rintro e q96 ⟨vv96, c96, rfl, hs, hm, ho, hb⟩
        have S96 := Lib.hid hs
        have M96 := Lib.hid hm
        have K96 := Lib.hid (HeldI.add K95.out hb ho)
        clear hs hm ho hb K95
        have KL := Lib.hid (HeldI.keep K96.out ((Below.refl q96.heap.size q96).alloc (Nat.le_refl _) (.cells #[.int .i32 0, .int .i32 1114111] 28)))
        go_wp2_with fail
        with_reducible refine (made_at _ (.slice (some ⟨q96.heap.size, 0, none⟩) 1 1) [(0, 1114111)] (lit_inC q96 0 1114111) (by decide)).mono ?_
        rintro e q97 ⟨vv97, c97, rfl, hs, hm, ho, hb⟩
        have S97 := Lib.hid hs
        have M97 := Lib.hid hm
        have K97 := Lib.hid (HeldI.add KL.out hb ho)
        clear hs hm ho hb KL
        have EQ98 : Hid (c96 = c97) := Lib.hid (ext_b S96.out S97.out (fun r => by
          have g0 := hself S1.out r
          revert g0
          simp only [M96.out r, M97.out r, M6.out r, hall r]
          generalize hasC c1 r = X0
          generalize topB r = t
          revert t X0
          decide))
        go_wp2_with fail
        with_reducible refine (same_as _ vv96 vv97 c96 c97 (HeldI.f K97.out (List.Mem.tail _ (List.Mem.head _))) (HeldI.f K97.out (List.Mem.head _)) (settled_few S96.out) (settled_few S97.out) true (decide_eq_true EQ98.out)).mono ?_
        rintro e q98 ⟨rfl, hb⟩
        have K98 := Lib.hid (HeldI.keep K97.out hb)
        clear hb K97
        cases sb <;> (go_wp2; go_ret; exact ⟨rfl, K98.out.bel⟩)
end Go.Proofs.YtbfhkcljkblnmaaDoor
