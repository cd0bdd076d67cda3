/- The reader of patterns: a number. -/
import Derived.Test.YtmmllhdphlnpjaaDoorPtG
namespace Go.Proofs.YtmmllhdphlnpjaaDoor
open Go.RowKit Florin
set_option linter.unusedVariables false
set_option linter.unusedSimpArgs false
attribute [local go_sem ↓] Go.wp_at_zero Go.wp_at_succ
set_option maxRecDepth 100000 in
set_option maxHeartbeats 3200000 in
theorem number_as (b : Nat) (T : ByteArray) (p : Nat) (l : List UInt8) (w : World) (h : Rd w b T p) (ha : At T p l) (hT : T.size ≤ 1000) (R : PR NumT) (hR : numP l = R) :
    Calls Tryd.prog 31 #[.pointer (some ⟨b, 0, none⟩)] w (PTold b T w NV R) := by
  have HA := Lib.hid ha
  have bl := h.lt
  have X0 : Hid (BoxT (w.alloc (.cells Z0 TP)) w.heap.size (NC 0 0 0 0 0 0) TP) := Lib.hid (BoxT.new w Z0 TP)
  have R0 := Lib.hid (Rd.alloc h (.cells Z0 TP))
  have G0 := Lib.hid (grown_alloc (World.grownBy.refl w (some b)) (.cells Z0 TP))
  obtain ⟨R1, hR1⟩ : ∃ R1, plcP l = R1 := ⟨_, rfl⟩
  have HR1 := Lib.hid hR1
  have HQ := Lib.hid hR
  clear h ha hR hR1
  go_enter Tryd.func31, Tryd.ntmps31
  go_wp2_with fail
  with_reducible refine (places_as b T p l _ R0.out HA.out hT R1 HR1.out).mono ?_
  intro e w1 ht
  cases R1 with
  | bad r =>
    obtain ⟨q, rfl, hat, hg⟩ := ht
    have HQE : Hid (.bad r = R) := Lib.hid (by rw [← HQ.out]; unfold numP; rw [HR1.out])
    have G1 := Lib.hid (grown_trans G0.out hg)
    clear hg
    go_wp2
    rw [← HQE.out]
    exact ⟨rfl, q, rfl, hat, G1.out⟩
  | ok x r =>
    obtain ⟨v, q, rfl, hv, hat, hr, hg⟩ := ht
    obtain rfl : v = .agg (NC x.hash x.int x.minF x.maxF x.grp x.more) := hv
    obtain ⟨h, m, a0, f0, g, o⟩ := x
    dsimp only at hat ⊢
    have HQ1 : Hid ((if [46].isPrefixOf r then (if cntP [48] (r.drop 1) + cntP [35] ((r.drop 1).drop (cntP [48] (r.drop 1))) = 0 then .bad (((r.drop 1).drop (cntP [48] (r.drop 1))).drop (cntP [35] ((r.drop 1).drop (cntP [48] (r.drop 1))))) else .ok ⟨h, m, cntP [48] (r.drop 1), cntP [48] (r.drop 1) + cntP [35] ((r.drop 1).drop (cntP [48] (r.drop 1))), g, o⟩ (((r.drop 1).drop (cntP [48] (r.drop 1))).drop (cntP [35] ((r.drop 1).drop (cntP [48] (r.drop 1)))))) else .ok ⟨h, m, a0, f0, g, o⟩ r) = R) := Lib.hid (by rw [← HQ.out]; unfold numP; rw [HR1.out])
    have hs1 := hg.size
    simp only [World.size_alloc] at hs1
    have X1 := Lib.hid ((X0.out.grown hg (fun e => by have := Option.some.inj e; omega)).alloc (.cells (NC h m a0 f0 g o) TP))
    have C1 := Lib.hid (BoxT.new w1 (NC h m a0 f0 g o) TP)
    have RR1 := Lib.hid (Rd.alloc hr (.cells (NC h m a0 f0 g o) TP))
    have G1 := Lib.hid (grown_alloc (grown_trans G0.out hg) (.cells (NC h m a0 f0 g o) TP))
    have AQ := Lib.hid hat
    have hbw1 : b < w1.heap.size := hr.lt
    have hn1 : w.heap.size < w1.heap.size := by omega
    have hlT : r.length ≤ 1000 := by have := hat.len; omega
    clear hat hr hg X0 R0 G0 HQ
    go_wp2_with fail
    generalize w1.alloc (.cells (NC h m a0 f0 g o) TP) = W1 at *
    cases hp : [46].isPrefixOf r with
    | false =>
      have HP := Lib.hid hp
      have HQE : Hid (.ok ⟨h, m, a0, f0, g, o⟩ r = R) := Lib.hid (by rw [← HQ1.out, if_neg (by rw [hp]; decide)])
      clear hp
      with_reducible refine (takes_false [46] b T q r _ RR1.out AQ.out (by omega) HP.out).mono ?_
      rintro e w2 ⟨rfl, hr, hg⟩
      have RQ := Lib.hid hr
      have HC := Lib.hid (C1.out.grown hg (fun e => by have := Option.some.inj e; omega))
      have HX := Lib.hid (X1.out.grown hg (fun e => by have := Option.some.inj e; omega))
      have GQ := Lib.hid (grown_trans G1.out hg)
      clear hr hg RR1 C1 X1 G1
      have c0 := HC.out.cell 0
      have c1 := HC.out.cell 1
      have c2 := HC.out.cell 2
      have c3 := HC.out.cell 3
      have c4 := HC.out.cell 4
      have c5 := HC.out.cell 5
      have c6 := HC.out.cell 6
      have c7 := HC.out.cell 7
      have c8 := HC.out.cell 8
      have c9 := HC.out.cell 9
      have c10 := HC.out.cell 10
      have clc := HC.out.lt
      simp at c0 c1 c2 c3 c4 c5 c6 c7 c8 c9 c10
      have x0 := HX.out.cell 0
      have x1 := HX.out.cell 1
      have x2 := HX.out.cell 2
      have x3 := HX.out.cell 3
      have x4 := HX.out.cell 4
      have x5 := HX.out.cell 5
      have x6 := HX.out.cell 6
      have x7 := HX.out.cell 7
      have x8 := HX.out.cell 8
      have x9 := HX.out.cell 9
      have x10 := HX.out.cell 10
      have zx0 := HX.out.frozen 0
      have zx1 := HX.out.frozen 1
      have zx2 := HX.out.frozen 2
      have zx3 := HX.out.frozen 3
      have zx4 := HX.out.frozen 4
      have zx5 := HX.out.frozen 5
      have zx6 := HX.out.frozen 6
      have zx7 := HX.out.frozen 7
      have zx8 := HX.out.frozen 8
      have zx9 := HX.out.frozen 9
      have zx10 := HX.out.frozen 10
      have clx := HX.out.lt
      simp at x0 x1 x2 x3 x4 x5 x6 x7 x8 x9 x10
      go_wp2
      have DX := BoxT.put11 (show BoxT _ _ #[_, _, _, _, _, _, _, _, _, _, _] TP from HX.out) (.slice none 0 0) (.slice none 0 0) (.slice none 0 0) (.slice none 0 0) (.bool false) (.int .i64 (h : Int)) (.int .i64 (m : Int)) (.int .i64 (a0 : Int)) (.int .i64 (f0 : Int)) (.int .i64 (g : Int)) (.int .i64 (o : Int))
      have r0 := DX.cell 0
      have r1 := DX.cell 1
      have r2 := DX.cell 2
      have r3 := DX.cell 3
      have r4 := DX.cell 4
      have r5 := DX.cell 5
      have r6 := DX.cell 6
      have r7 := DX.cell 7
      have r8 := DX.cell 8
      have r9 := DX.cell 9
      have r10 := DX.cell 10
      simp at r0 r1 r2 r3 r4 r5 r6 r7 r8 r9 r10
      refine bodyPost_ret (v := .agg #[.slice none 0 0, .slice none 0 0, .slice none 0 0, .slice none 0 0, .bool false, .int .i64 (h : Int), .int .i64 (m : Int), .int .i64 (a0 : Int), .int .i64 (f0 : Int), .int .i64 (g : Int), .int .i64 (o : Int)]) (by simp [results, Tryd.results31, go_sem, r0, r1, r2, r3, r4, r5, r6, r7, r8, r9, r10]) rfl ?_
      rw [← HQE.out]
      exact ⟨_, q, rfl, rfl, AQ.out, Rd.put11 (RQ.out) (show b ≠ w.heap.size by omega) _ _ _ _ _ _ _ _ _ _ _, grown_put11 (GQ.out) (show w.heap.size ≤ w.heap.size by omega) _ _ _ _ _ _ _ _ _ _ _⟩
    | true =>
      have HP := Lib.hid hp
      have hl1 := pre_len2 hp
      simp only [List.length_cons, List.length_nil] at hl1
      have A1 := Lib.hid (AQ.out.drop 1 hl1)
      obtain ⟨a, haa⟩ : ∃ a, cntP [48] (r.drop 1) = a := ⟨_, rfl⟩
      have hal := cnt_le (g := [48]) (by simp) _ (r.drop 1) (Nat.le_refl _)
      rw [haa, List.length_drop] at hal
      simp only [List.length_cons, List.length_nil] at hal
      obtain ⟨c, hcc⟩ : ∃ c, cntP [35] ((r.drop 1).drop a) = c := ⟨_, rfl⟩
      have hcl := cnt_le (g := [35]) (by simp) _ ((r.drop 1).drop a) (Nat.le_refl _)
      rw [hcc, List.length_drop, List.length_drop] at hcl
      simp only [List.length_cons, List.length_nil] at hcl
      have HQ2 : Hid ((if a + c = 0 then .bad (((r.drop 1).drop a).drop c) else .ok ⟨h, m, a, a + c, g, o⟩ (((r.drop 1).drop a).drop c)) = R) := Lib.hid (by rw [← HQ1.out, if_pos hp, haa, hcc])
      have HAa := Lib.hid haa
      have HCc := Lib.hid hcc
      clear hp haa hcc HQ1
      with_reducible refine (takes_true [46] b T q r _ RR1.out AQ.out (by omega) HP.out).mono ?_
      rintro e w2 ⟨rfl, hr, hg⟩
      have RQ := Lib.hid hr
      have HC := Lib.hid (C1.out.grown hg (fun e => by have := Option.some.inj e; omega))
      have HX := Lib.hid (X1.out.grown hg (fun e => by have := Option.some.inj e; omega))
      have GQ := Lib.hid (grown_trans G1.out hg)
      clear hr hg RR1 C1 X1 G1
      go_wp2_with fail
      with_reducible refine (count_as [48] (by simp) b T (q + 1) (r.drop 1) _ RQ.out A1.out (by omega) a HAa.out).mono ?_
      rintro e w3 ⟨rfl, hat, hr, hg⟩
      have A3 : Hid (At T (q + 1 + a) ((r.drop 1).drop a)) := Lib.hid (by simpa using hat)
      have R3 : Hid (Rd w3 b T (q + 1 + a)) := Lib.hid (by simpa using hr)
      have C3 := Lib.hid (HC.out.grown hg (fun e => by have := Option.some.inj e; omega))
      have X3 := Lib.hid (HX.out.grown hg (fun e => by have := Option.some.inj e; omega))
      have G3 := Lib.hid (grown_trans GQ.out hg)
      clear hat hr hg RQ HC HX GQ
      have c7 := C3.out.cell 7
      have zc7 := C3.out.frozen 7
      have cl3 := C3.out.lt
      simp at c7
      have C4 : Hid (BoxT (w3.setCell ⟨w1.heap.size, 7, none⟩ (.int .i64 (a : Int))) w1.heap.size (NC h m a f0 g o) TP) := Lib.hid (C3.out.set 7 (.int .i64 (a : Int)))
      have X4 := Lib.hid (X3.out.other (a := ⟨w1.heap.size, 7, none⟩) (show w.heap.size ≠ w1.heap.size by omega) (.int .i64 (a : Int)))
      have R4 := Lib.hid (R3.out.other (a := ⟨w1.heap.size, 7, none⟩) (show b ≠ w1.heap.size by omega) (.int .i64 (a : Int)))
      have G4 := Lib.hid (grown_set_new G3.out (show w.heap.size ≤ w1.heap.size by omega) 7 (.int .i64 (a : Int)))
      go_wp2_with fail
      generalize w3.setCell ⟨w1.heap.size, 7, none⟩ (.int .i64 (a : Int)) = W4 at C4 X4 R4 G4 ⊢
      have d7 := C4.out.cell 7
      have dl := C4.out.lt
      simp at d7
      clear c7 zc7 cl3 C3 X3 R3 G3
      go_region_with (go_at_call 41; (with_reducible refine (count_as [35] (by simp) b T (q + 1 + a) ((r.drop 1).drop a) _ R4.out.drew A3.out (by omega) c HCc.out).mono ?_); (rintro e w5 ⟨rfl, hat, hr, hg⟩; have C5 := Lib.hid (C4.out.drew.grown hg (fun e => by have := Option.some.inj e; omega)); have e7 := C5.out.cell 7; have e8 := C5.out.cell 8; have ze8 := C5.out.frozen 8; have el := C5.out.lt; simp at e7 e8))
      all_goals (
        have A5 : Hid (At T (q + 1 + a + c) (((r.drop 1).drop a).drop c)) := Lib.hid (by simpa using hat)
        have R5 : Hid (Rd w5 b T (q + 1 + a + c)) := Lib.hid (by simpa using hr)
        have X5 := Lib.hid (X4.out.drew.grown hg (fun e => by have := Option.some.inj e; omega))
        have G5 := Lib.hid (grown_trans (grown_drew G4.out) hg)
        clear hat hr hg e7 e8 ze8 d7 dl
        have C6 : Hid (BoxT (w5.setCell ⟨w1.heap.size, 8, none⟩ (.int .i64 ((a : Int) + (c : Int)))) w1.heap.size (NC h m a (a + c) g o) TP) := Lib.hid (C5.out.set 8 (.int .i64 ((a : Int) + (c : Int))))
        have X6 := Lib.hid (X5.out.other (a := ⟨w1.heap.size, 8, none⟩) (show w.heap.size ≠ w1.heap.size by omega) (.int .i64 ((a : Int) + (c : Int))))
        have R6 := Lib.hid (R5.out.other (a := ⟨w1.heap.size, 8, none⟩) (show b ≠ w1.heap.size by omega) (.int .i64 ((a : Int) + (c : Int))))
        have G6 := Lib.hid (grown_set_new G5.out (show w.heap.size ≤ w1.heap.size by omega) 8 (.int .i64 ((a : Int) + (c : Int))))
        have k8 := C6.out.cell 8
        have kl := C6.out.lt
        simp only [NC] at k8
        have c0 := C6.out.cell 0
        have c1 := C6.out.cell 1
        have c2 := C6.out.cell 2
        have c3 := C6.out.cell 3
        have c4 := C6.out.cell 4
        have c5 := C6.out.cell 5
        have c6 := C6.out.cell 6
        have c7 := C6.out.cell 7
        have c8 := C6.out.cell 8
        have c9 := C6.out.cell 9
        have c10 := C6.out.cell 10
        have clc := C6.out.lt
        simp at c0 c1 c2 c3 c4 c5 c6 c7 c8 c9 c10
        have x0 := X6.out.cell 0
        have x1 := X6.out.cell 1
        have x2 := X6.out.cell 2
        have x3 := X6.out.cell 3
        have x4 := X6.out.cell 4
        have x5 := X6.out.cell 5
        have x6 := X6.out.cell 6
        have x7 := X6.out.cell 7
        have x8 := X6.out.cell 8
        have x9 := X6.out.cell 9
        have x10 := X6.out.cell 10
        have zx0 := X6.out.frozen 0
        have zx1 := X6.out.frozen 1
        have zx2 := X6.out.frozen 2
        have zx3 := X6.out.frozen 3
        have zx4 := X6.out.frozen 4
        have zx5 := X6.out.frozen 5
        have zx6 := X6.out.frozen 6
        have zx7 := X6.out.frozen 7
        have zx8 := X6.out.frozen 8
        have zx9 := X6.out.frozen 9
        have zx10 := X6.out.frozen 10
        have clx := X6.out.lt
        simp at x0 x1 x2 x3 x4 x5 x6 x7 x8 x9 x10
        have hW6 : Hid (w5.heap.size = (w5.setCell ⟨w1.heap.size, 8, none⟩ (.int .i64 ((a : Int) + (c : Int)))).heap.size) := Lib.hid (by simp)
        by_cases h0 : a + c = 0
        · have h0i : (a : Int) + (c : Int) = 0 := by omega
          have h0b : ((a : Int) + (c : Int) == 0) = true := by rw [h0i]; rfl
          have HQE : Hid (.bad (((r.drop 1).drop a).drop c) = R) := Lib.hid (by rw [← HQ2.out, if_pos h0])
          clear h0 h0i
          go_wp2_with fail
          with_reducible refine (give_as b T (q + 1 + a + c) _ _ R6.out A5.out (by omega)).mono ?_
          rintro e w7 ⟨rfl, hg⟩
          have G7 := Lib.hid (grown_trans G6.out hg)
          clear hg
          go_wp2
          rw [← HQE.out]
          exact ⟨rfl, _, rfl, A5.out, G7.out⟩
        · have h0b : ((a : Int) + (c : Int) == 0) = false := by simp; omega
          have HQE : Hid (.ok ⟨h, m, a, a + c, g, o⟩ (((r.drop 1).drop a).drop c) = R) := Lib.hid (by rw [← HQ2.out, if_neg h0])
          clear h0
          go_wp2
          have DX := BoxT.put11 (show BoxT _ _ #[_, _, _, _, _, _, _, _, _, _, _] TP from X6.out) (.slice none 0 0) (.slice none 0 0) (.slice none 0 0) (.slice none 0 0) (.bool false) (.int .i64 (h : Int)) (.int .i64 (m : Int)) (.int .i64 (a : Int)) (.int .i64 ((a : Int) + (c : Int))) (.int .i64 (g : Int)) (.int .i64 (o : Int))
          have r0 := DX.cell 0
          have r1 := DX.cell 1
          have r2 := DX.cell 2
          have r3 := DX.cell 3
          have r4 := DX.cell 4
          have r5 := DX.cell 5
          have r6 := DX.cell 6
          have r7 := DX.cell 7
          have r8 := DX.cell 8
          have r9 := DX.cell 9
          have r10 := DX.cell 10
          simp at r0 r1 r2 r3 r4 r5 r6 r7 r8 r9 r10
          refine bodyPost_ret (v := .agg #[.slice none 0 0, .slice none 0 0, .slice none 0 0, .slice none 0 0, .bool false, .int .i64 (h : Int), .int .i64 (m : Int), .int .i64 (a : Int), .int .i64 ((a : Int) + (c : Int)), .int .i64 (g : Int), .int .i64 (o : Int)]) (by simp [results, Tryd.results31, go_sem, r0, r1, r2, r3, r4, r5, r6, r7, r8, r9, r10]) rfl ?_
          rw [← HQE.out]
          exact ⟨_, _, rfl, rfl, A5.out, Rd.put11 (R6.out) (show b ≠ w.heap.size by omega) _ _ _ _ _ _ _ _ _ _ _, grown_put11 (G6.out) (show w.heap.size ≤ w.heap.size by omega) _ _ _ _ _ _ _ _ _ _ _⟩)
end Go.Proofs.YtmmllhdphlnpjaaDoor
