/- The reader of patterns: a whole pattern. -/
import Derived.Test.YtmmllhdphlnpjaaDoorPtK
namespace Go.Proofs.YtmmllhdphlnpjaaDoor
open Go.RowKit Florin
set_option linter.unusedVariables false
set_option linter.unusedSimpArgs false
attribute [local go_sem ↓] Go.wp_at_zero Go.wp_at_succ
abbrev HL (x : NumT) (vp vs np ns : Value) (two : Bool) : Array Value := #[vp, vs, np, ns, .bool two, .int .i64 (x.hash : Int), .int .i64 (x.int : Int), .int .i64 (x.minF : Int), .int .i64 (x.maxF : Int), .int .i64 (x.grp : Int), .int .i64 (x.more : Int)]
def negPre (x : PatT) : List PcT := match x.neg with | some n => n.1 | none => []
def negSuf (x : PatT) : List PcT := match x.neg with | some n => n.2 | none => []
def PatV (w : World) (x : PatT) (v : Value) : Prop := ∃ vp vs np ns, v = .agg (HC x.pos.num vp vs np ns x.neg.isSome) ∧ PcL w vp x.pos.pre ∧ PcL w vs x.pos.suf ∧ PcL w np (negPre x) ∧ PcL w ns (negSuf x)
theorem res_pattern {w : World} {q : Nat} {X : Array Value} (h : BoxT w q X TP) (hi : (Tryd.prog.info? TP).map (·.size) = some X.size) (tm : Array Value) (h2 : tm[2]?.getD undef = .pointer (some ⟨q, 0, none⟩)) :
    (results Tryd.f16 tm).run Tryd.prog w = .ok (.agg X) w := by
  have hld := run_loadVar_box (P := Tryd.prog) h Tryd.underlying27 (by rfl) hi
  simp [results, Tryd.results16, h2, asAddr, hld]
theorem pfield (v0 v1 v2 v3 v4 v5 v6 v7 v8 v9 v10 : Value) (w : World) : Sem.run Tryd.prog (Instr.field 27 (.agg #[v0, v1, v2, v3, v4, v5, v6, v7, v8, v9, v10]) 0) w = .ok (.agg #[v0, v1]) w := by kernel_rfl
attribute [local go_sem ↓] pfield
theorem pat_bad1 {l r : List UInt8} (h : halfP l = .bad r) : patP l = .bad r := by unfold patP; rw [h]
theorem pat_one {l r : List UInt8} {y : HalfT} (h : halfP l = .ok y r) (hs : [59].isPrefixOf r = false) (hz : r.isEmpty = true) : patP l = .ok ⟨y, none⟩ r := by unfold patP; rw [h]; dsimp only; rw [if_neg (by rw [hs]; decide), if_pos hz]
theorem pat_bad2 {l r : List UInt8} {y : HalfT} (h : halfP l = .ok y r) (hs : [59].isPrefixOf r = false) (hz : r.isEmpty = false) : patP l = .bad r := by unfold patP; rw [h]; dsimp only; rw [if_neg (by rw [hs]; decide), if_neg (by rw [hz]; decide)]
theorem pat_bad3 {l r q : List UInt8} {y : HalfT} (h : halfP l = .ok y r) (hs : [59].isPrefixOf r = true) (h2 : halfP (r.drop 1) = .bad q) : patP l = .bad q := by unfold patP; rw [h]; dsimp only; rw [if_pos hs, h2]
theorem pat_two {l r q : List UInt8} {y z : HalfT} (h : halfP l = .ok y r) (hs : [59].isPrefixOf r = true) (h2 : halfP (r.drop 1) = .ok z q) (hz : q.isEmpty = true) : patP l = .ok ⟨y, some (z.pre, z.suf)⟩ q := by unfold patP; rw [h]; dsimp only; rw [if_pos hs, h2]; dsimp only; rw [if_pos hz]
theorem pat_bad4 {l r q : List UInt8} {y z : HalfT} (h : halfP l = .ok y r) (hs : [59].isPrefixOf r = true) (h2 : halfP (r.drop 1) = .ok z q) (hz : q.isEmpty = false) : patP l = .bad q := by unfold patP; rw [h]; dsimp only; rw [if_pos hs, h2]; dsimp only; rw [if_neg (by rw [hz]; decide)]
set_option maxRecDepth 100000 in
set_option maxHeartbeats 3200000 in
theorem pattern_as (b : Nat) (T : ByteArray) (p : Nat) (l : List UInt8) (w : World) (h : Rd w b T p) (ha : At T p l) (hT : T.size ≤ 1000) (hE : EnvP w) (R : PR PatT) (hR : patP l = R) :
    Calls Tryd.prog 16 #[.pointer (some ⟨b, 0, none⟩)] w (PTold b T w PatV R) := by
  have HA := Lib.hid ha
  have bl := h.lt
  have X0 := Lib.hid (BoxT.new w Z0 TP)
  have R0 := Lib.hid (Rd.alloc h (.cells Z0 TP))
  have E0 := Lib.hid (hE.alloc (.cells Z0 TP))
  have G0 := Lib.hid (grown_alloc (World.grownBy.refl w (some b)) (.cells Z0 TP))
  obtain ⟨R1, hR1⟩ : ∃ R1, halfP l = R1 := ⟨_, rfl⟩
  have HR1 := Lib.hid hR1
  have HQ := Lib.hid hR
  have HLo0 := Lib.hid hE.low
  clear h ha hR hR1 hE
  go_enter Tryd.func16, Tryd.ntmps16
  go_wp2_with fail
  with_reducible refine (half_as b T p l _ R0.out HA.out hT E0.out R1 HR1.out).mono ?_
  intro e w1 ht
  cases R1 with
  | bad r =>
    obtain ⟨q, rfl, hat, hg⟩ := ht
    have HQE : Hid (.bad r = R) := Lib.hid (by rw [← HQ.out, pat_bad1 HR1.out])
    have G1 := Lib.hid (grown_trans G0.out hg)
    clear hg
    go_wp2
    rw [← HQE.out]
    exact ⟨rfl, q, rfl, hat, G1.out⟩
  | ok y r =>
    obtain ⟨v1, q1, rfl, ⟨vp, vs, rfl, hvp, hvs⟩, hat, hr, hg⟩ := ht
    obtain ⟨a1, c1, rfl⟩ := PcL.slice hvp
    obtain ⟨a2, c2, rfl⟩ := PcL.slice hvs
    have X1 := Lib.hid ((X0.out.grown hg (fun e => by have := Option.some.inj e; omega)).alloc (.cells (HL y.num (.slice a1 y.pre.length c1) (.slice a2 y.suf.length c2) (.slice none 0 0) (.slice none 0 0) false) TP))
    have Y1 := Lib.hid (BoxT.new w1 (HL y.num (.slice a1 y.pre.length c1) (.slice a2 y.suf.length c2) (.slice none 0 0) (.slice none 0 0) false) TP)
    have L1 := Lib.hid (hvp.keep (KeepB.below (below_alloc w1 (.cells (HL y.num (.slice a1 y.pre.length c1) (.slice a2 y.suf.length c2) (.slice none 0 0) (.slice none 0 0) false) TP))))
    have M1 := Lib.hid (hvs.keep (KeepB.below (below_alloc w1 (.cells (HL y.num (.slice a1 y.pre.length c1) (.slice a2 y.suf.length c2) (.slice none 0 0) (.slice none 0 0) false) TP))))
    have E1 := Lib.hid ((E0.out.grown R0.out hg).alloc (.cells (HL y.num (.slice a1 y.pre.length c1) (.slice a2 y.suf.length c2) (.slice none 0 0) (.slice none 0 0) false) TP))
    have R1' := Lib.hid (Rd.alloc hr (.cells (HL y.num (.slice a1 y.pre.length c1) (.slice a2 y.suf.length c2) (.slice none 0 0) (.slice none 0 0) false) TP))
    have G1 := Lib.hid (grown_alloc (grown_trans G0.out hg) (.cells (HL y.num (.slice a1 y.pre.length c1) (.slice a2 y.suf.length c2) (.slice none 0 0) (.slice none 0 0) false) TP))
    have A1 := Lib.hid hat
    have hq1 : w.heap.size < w1.heap.size := by have h1 := X0.out.lt; have h2 := hg.size; omega
    have hbq : b < w1.heap.size := by omega
    have HLow : Hid ((0 < w1.heap.size ∧ 1 < w1.heap.size ∧ 3 < w1.heap.size) ∧ 2 < w1.heap.size) := Lib.hid (by have h := HLo0.out; omega)
    clear hvp hvs hat hr hg X0 R0 E0 G0
    simp only [HC]
    go_wp2_with fail
    generalize w1.alloc (.cells (HL y.num (.slice a1 y.pre.length c1) (.slice a2 y.suf.length c2) (.slice none 0 0) (.slice none 0 0) false) TP) = w2 at *
    cases hs : [59].isPrefixOf r with
    | false =>
      have HS := Lib.hid hs
      clear hs
      with_reducible refine (takes_false [59] b T q1 r _ R1'.out A1.out (by omega) HS.out).mono ?_
      rintro e w3 ⟨rfl, hr, hg⟩
      have YF := Lib.hid (Y1.out.grown hg (fun e => by have := Option.some.inj e; omega))
      have XF := Lib.hid (X1.out.grown hg (fun e => by have := Option.some.inj e; omega))
      have L3 := Lib.hid (L1.out.rd R1'.out hg)
      have M3 := Lib.hid (M1.out.rd R1'.out hg)
      have N3 := Lib.hid (PcL.nil w3)
      have RF := Lib.hid hr
      have GF := Lib.hid (grown_trans G1.out hg)
      have AF := A1
      clear hr hg X1 Y1 L1 M1 E1 R1' G1 A1
      cases hz : r.isEmpty with
      | true =>
        have HZ := Lib.hid hz
        have HQE : Hid (.ok ⟨y, none⟩ r = R) := Lib.hid (by rw [← HQ.out, pat_one HR1.out HS.out HZ.out])
        clear hz
        go_wp2_with fail
        with_reducible refine (ended_as b T q1 r _ RF.out AF.out true HZ.out).mono ?_
        rintro e w6 ⟨rfl, hr, hg⟩
        have Y6 := Lib.hid (YF.out.grown hg (fun e => by have := Option.some.inj e; omega))
        have X6 := Lib.hid (XF.out.grown hg (fun e => by have := Option.some.inj e; omega))
        have P0 := Lib.hid (L3.out.rd RF.out hg)
        have P1 := Lib.hid (M3.out.rd RF.out hg)
        have P2 := Lib.hid (N3.out.rd RF.out hg)
        have P3 := Lib.hid (N3.out.rd RF.out hg)
        have R6 := Lib.hid hr
        have G6 := Lib.hid (grown_trans GF.out hg)
        clear hr hg YF XF RF GF
        go_upto_region 7 with fail
        have HSZ : Hid (Z0.size = (HC y.num (.slice a1 y.pre.length c1) (.slice a2 y.suf.length c2) (.slice none 0 0) (.slice none 0 0) false).size) := Lib.hid rfl
        have HIN := Lib.hid (infoPX (X := HC y.num (.slice a1 y.pre.length c1) (.slice a2 y.suf.length c2) (.slice none 0 0) (.slice none 0 0) false) rfl)
        have HON := Lib.hid (hc_one y.num a1 a2 none none (y.pre.length) (y.suf.length) (0) (0) c1 c2 0 0 false)
        have YY : Hid (BoxT w6 w1.heap.size (HC y.num (.slice a1 y.pre.length c1) (.slice a2 y.suf.length c2) (.slice none 0 0) (.slice none 0 0) false) TP) := Y6
        obtain ⟨X, hX⟩ : ∃ X, X = HC y.num (.slice a1 y.pre.length c1) (.slice a2 y.suf.length c2) (.slice none 0 0) (.slice none 0 0) false := ⟨_, rfl⟩
        rw [← hX] at HSZ HIN HON YY
        have HXE := Lib.hid hX
        clear hX Y6
        go_wp2_with ((refine wpList_load_box (by rfl) TP (.tmp 3) (by rfl) w1.heap.size (by rfl) X TP _ YY.out Tryd.underlying27 (by rfl) HIN.out ?_); (refine wpList_store_box (by rfl) TP (.tmp 2) (.tmp 22) (by rfl) w.heap.size Z0 X TP (by rfl) (by rfl) X6.out HIN.out HSZ.out HON.out ?_); intro w9 hx9 hg9)
        refine bodyPost_ret (v := .agg X) ?_ rfl ?_
        · exact res_pattern hx9 HIN.out _ rfl
        · rw [← HQE.out]
          have k9 := KeepB.of (T := TPc) X6.out (by decide) hg9
          exact ⟨_, q1, rfl, ⟨_, _, _, _, by rw [HXE.out]; rfl, P0.out.keep k9, P1.out.keep k9, P2.out.keep k9, P3.out.keep k9⟩, AF.out, BoxT.grown R6.out hg9 (fun e => by have := Option.some.inj e; omega), grown_two2 G6.out hg9 (Nat.le_refl _)⟩
      | false =>
        have HZ := Lib.hid hz
        have HQE : Hid (.bad r = R) := Lib.hid (by rw [← HQ.out, pat_bad2 HR1.out HS.out HZ.out])
        clear hz
        go_wp2_with fail
        with_reducible refine (ended_as b T q1 r _ RF.out AF.out false HZ.out).mono ?_
        rintro e w6 ⟨rfl, hr, hg⟩
        have R6 := Lib.hid hr
        have G6 := Lib.hid (grown_trans GF.out hg)
        clear hr hg YF XF RF GF
        go_wp2_with fail
        with_reducible refine (give_as b T q1 r _ R6.out AF.out (by omega)).mono ?_
        rintro e w7 ⟨rfl, hg⟩
        have G7 := Lib.hid (grown_trans G6.out hg)
        clear hg
        go_wp2
        rw [← HQE.out]
        exact ⟨rfl, q1, rfl, AF.out, G7.out⟩
    | true =>
      have HS := Lib.hid hs
      have hl1 := pre_len2 hs
      simp only [List.length_cons, List.length_nil] at hl1
      have A2 : Hid (At T (q1 + 1) (r.drop 1)) := Lib.hid (A1.out.drop 1 hl1)
      clear hs
      with_reducible refine (takes_true [59] b T q1 r _ R1'.out A1.out (by omega) HS.out).mono ?_
      rintro e w3 ⟨rfl, hr, hg⟩
      have Y3 := Lib.hid (Y1.out.grown hg (fun e => by have := Option.some.inj e; omega))
      have X3 := Lib.hid (X1.out.grown hg (fun e => by have := Option.some.inj e; omega))
      have K3 := Lib.hid (KeepB.set1 (T := TPc) Y3.out (by decide) 4 (.bool true))
      have L3 := Lib.hid ((L1.out.rd R1'.out hg).keep K3.out)
      have M3 := Lib.hid ((M1.out.rd R1'.out hg).keep K3.out)
      have E3 := Lib.hid (E1.out.grown R1'.out hg)
      have G3 := Lib.hid (grown_set_new (grown_trans G1.out hg) (show w.heap.size ≤ w1.heap.size by omega) 4 (.bool true))
      have R3 : Hid (Rd (w3.setCell ⟨w1.heap.size, 4, none⟩ (.bool true)) b T (q1 + 1)) := Lib.hid (Rd.other hr (a := ⟨w1.heap.size, 4, none⟩) (show b ≠ w1.heap.size by omega) (.bool true))
      have Y4 : Hid (BoxT (w3.setCell ⟨w1.heap.size, 4, none⟩ (.bool true)) w1.heap.size (HL y.num (.slice a1 y.pre.length c1) (.slice a2 y.suf.length c2) (.slice none 0 0) (.slice none 0 0) true) TP) := Lib.hid (Y3.out.set 4 (.bool true))
      have X4 := Lib.hid (X3.out.other (a := ⟨w1.heap.size, 4, none⟩) (show w.heap.size ≠ w1.heap.size by omega) (.bool true))
      have B4 : Hid (Below w1.heap.size w3 (w3.setCell ⟨w1.heap.size, 4, none⟩ (.bool true))) := Lib.hid (Below.setCell (p := ⟨w1.heap.size, 4, none⟩) (Below.refl _ _) (Nat.le_refl w1.heap.size) _)
      have hlow : (0 < w1.heap.size ∧ 1 < w1.heap.size ∧ 3 < w1.heap.size) ∧ 2 < w1.heap.size := HLow.out
      have E4 := Lib.hid (E3.out.belowB B4.out hlow)
      have y4 := Y3.out.cell 4
      have z4 := Y3.out.frozen 4
      have yl := Y3.out.lt
      simp at y4
      clear hr hg X1 Y1 L1 M1 E1 R1' G1 A1 X3 K3 E3 B4
      go_wp2_with fail
      clear y4 z4 yl Y3
      generalize w3.setCell ⟨w1.heap.size, 4, none⟩ (.bool true) = w4 at *
      obtain ⟨R2, hR2⟩ : ∃ R2, halfP (r.drop 1) = R2 := ⟨_, rfl⟩
      have HR2 := Lib.hid hR2
      clear hR2
      with_reducible refine (half_as b T (q1 + 1) (r.drop 1) _ R3.out A2.out hT E4.out R2 HR2.out).mono ?_
      intro e w5 ht
      cases R2 with
      | bad r2 =>
        obtain ⟨q, rfl, hat, hg⟩ := ht
        have HQE : Hid (.bad r2 = R) := Lib.hid (by rw [← HQ.out, pat_bad3 HR1.out HS.out HR2.out])
        have G5 := Lib.hid (grown_trans G3.out hg)
        clear hg
        go_wp2
        rw [← HQE.out]
        exact ⟨rfl, q, rfl, hat, G5.out⟩
      | ok z r2 =>
        obtain ⟨v2, q2, rfl, ⟨vp2, vs2, rfl, hvp, hvs⟩, hat, hr, hg⟩ := ht
        obtain ⟨a3, c3, rfl⟩ := PcL.slice hvp
        obtain ⟨a4, c4, rfl⟩ := PcL.slice hvs
        have Y5 := Lib.hid (Y4.out.grown hg (fun e => by have := Option.some.inj e; omega))
        have X5 := Lib.hid (X4.out.grown hg (fun e => by have := Option.some.inj e; omega))
        have K5 := Lib.hid (KeepB.trans (KeepB.set1 (T := TPc) Y5.out (by decide) 2 (.slice a3 z.pre.length c3)) (KeepB.set1 (T := TPc) (Y5.out.set 2 (.slice a3 z.pre.length c3)) (by decide) 3 (.slice a4 z.suf.length c4)))
        have P5 := Lib.hid ((L3.out.rd R3.out hg).keep K5.out)
        have S5 := Lib.hid ((M3.out.rd R3.out hg).keep K5.out)
        have NP5 := Lib.hid (PcL.keep hvp K5.out)
        have NS5 := Lib.hid (PcL.keep hvs K5.out)
        have GF := Lib.hid (grown_set_new (grown_set_new (grown_trans G3.out hg) (show w.heap.size ≤ w1.heap.size by omega) 2 (.slice a3 z.pre.length c3)) (show w.heap.size ≤ w1.heap.size by omega) 3 (.slice a4 z.suf.length c4))
        have RF := Lib.hid ((Rd.other hr (a := ⟨w1.heap.size, 2, none⟩) (show b ≠ w1.heap.size by omega) (.slice a3 z.pre.length c3)).other (a := ⟨w1.heap.size, 3, none⟩) (show b ≠ w1.heap.size by omega) (.slice a4 z.suf.length c4))
        have YF : Hid (BoxT ((w5.setCell ⟨w1.heap.size, 2, none⟩ (.slice a3 z.pre.length c3)).setCell ⟨w1.heap.size, 3, none⟩ (.slice a4 z.suf.length c4)) w1.heap.size (HL y.num (.slice a1 y.pre.length c1) (.slice a2 y.suf.length c2) (.slice a3 z.pre.length c3) (.slice a4 z.suf.length c4) true) TP) := Lib.hid ((Y5.out.set 2 (.slice a3 z.pre.length c3)).set 3 (.slice a4 z.suf.length c4))
        have XF := Lib.hid ((X5.out.other (a := ⟨w1.heap.size, 2, none⟩) (show w.heap.size ≠ w1.heap.size by omega) (.slice a3 z.pre.length c3)).other (a := ⟨w1.heap.size, 3, none⟩) (show w.heap.size ≠ w1.heap.size by omega) (.slice a4 z.suf.length c4))
        have AF := Lib.hid hat
        have y2 := Y5.out.cell 2
        have y3 := Y5.out.cell 3
        have z2 := Y5.out.frozen 2
        have z3 := Y5.out.frozen 3
        have yl := Y5.out.lt
        simp at y2 y3
        clear hvp hvs hat hr hg Y4 X4 L3 M3 G3 R3 E4 X5 K5
        simp only [HC]
        go_wp2_with fail
        clear y2 y3 z2 z3 yl Y5
        generalize (w5.setCell ⟨w1.heap.size, 2, none⟩ (.slice a3 z.pre.length c3)).setCell ⟨w1.heap.size, 3, none⟩ (.slice a4 z.suf.length c4) = w7 at *
        cases hz : r2.isEmpty with
        | true =>
          have HZ := Lib.hid hz
          have HQE : Hid (.ok ⟨y, some (z.pre, z.suf)⟩ r2 = R) := Lib.hid (by rw [← HQ.out, pat_two HR1.out HS.out HR2.out HZ.out])
          clear hz
          with_reducible refine (ended_as b T q2 r2 _ RF.out AF.out true HZ.out).mono ?_
          rintro e w6 ⟨rfl, hr, hg⟩
          have Y6 := Lib.hid (YF.out.grown hg (fun e => by have := Option.some.inj e; omega))
          have X6 := Lib.hid (XF.out.grown hg (fun e => by have := Option.some.inj e; omega))
          have P0 := Lib.hid (P5.out.rd RF.out hg)
          have P1 := Lib.hid (S5.out.rd RF.out hg)
          have P2 := Lib.hid (NP5.out.rd RF.out hg)
          have P3 := Lib.hid (NS5.out.rd RF.out hg)
          have R6 := Lib.hid hr
          have G6 := Lib.hid (grown_trans GF.out hg)
          clear hr hg YF XF RF GF
          go_upto_region 7 with fail
          have HSZ : Hid (Z0.size = (HC y.num (.slice a1 y.pre.length c1) (.slice a2 y.suf.length c2) (.slice a3 z.pre.length c3) (.slice a4 z.suf.length c4) true).size) := Lib.hid rfl
          have HIN := Lib.hid (infoPX (X := HC y.num (.slice a1 y.pre.length c1) (.slice a2 y.suf.length c2) (.slice a3 z.pre.length c3) (.slice a4 z.suf.length c4) true) rfl)
          have HON := Lib.hid (hc_one y.num a1 a2 a3 a4 (y.pre.length) (y.suf.length) (z.pre.length) (z.suf.length) c1 c2 c3 c4 true)
          have YY : Hid (BoxT w6 w1.heap.size (HC y.num (.slice a1 y.pre.length c1) (.slice a2 y.suf.length c2) (.slice a3 z.pre.length c3) (.slice a4 z.suf.length c4) true) TP) := Y6
          obtain ⟨X, hX⟩ : ∃ X, X = HC y.num (.slice a1 y.pre.length c1) (.slice a2 y.suf.length c2) (.slice a3 z.pre.length c3) (.slice a4 z.suf.length c4) true := ⟨_, rfl⟩
          rw [← hX] at HSZ HIN HON YY
          have HXE := Lib.hid hX
          clear hX Y6
          go_wp2_with ((refine wpList_load_box (by rfl) TP (.tmp 3) (by rfl) w1.heap.size (by rfl) X TP _ YY.out Tryd.underlying27 (by rfl) HIN.out ?_); (refine wpList_store_box (by rfl) TP (.tmp 2) (.tmp 22) (by rfl) w.heap.size Z0 X TP (by rfl) (by rfl) X6.out HIN.out HSZ.out HON.out ?_); intro w9 hx9 hg9)
          refine bodyPost_ret (v := .agg X) ?_ rfl ?_
          · exact res_pattern hx9 HIN.out _ rfl
          · rw [← HQE.out]
            have k9 := KeepB.of (T := TPc) X6.out (by decide) hg9
            exact ⟨_, q2, rfl, ⟨_, _, _, _, by rw [HXE.out]; rfl, P0.out.keep k9, P1.out.keep k9, P2.out.keep k9, P3.out.keep k9⟩, AF.out, BoxT.grown R6.out hg9 (fun e => by have := Option.some.inj e; omega), grown_two2 G6.out hg9 (Nat.le_refl _)⟩
        | false =>
          have HZ := Lib.hid hz
          have HQE : Hid (.bad r2 = R) := Lib.hid (by rw [← HQ.out, pat_bad4 HR1.out HS.out HR2.out HZ.out])
          clear hz
          with_reducible refine (ended_as b T q2 r2 _ RF.out AF.out false HZ.out).mono ?_
          rintro e w6 ⟨rfl, hr, hg⟩
          have R6 := Lib.hid hr
          have G6 := Lib.hid (grown_trans GF.out hg)
          clear hr hg YF XF RF GF
          go_wp2_with fail
          with_reducible refine (give_as b T q2 r2 _ R6.out AF.out (by omega)).mono ?_
          rintro e w7 ⟨rfl, hg⟩
          have G7 := Lib.hid (grown_trans G6.out hg)
          clear hg
          go_wp2
          rw [← HQE.out]
          exact ⟨rfl, q2, rfl, AF.out, G7.out⟩
end Go.Proofs.YtmmllhdphlnpjaaDoor
