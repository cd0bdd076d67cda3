/- The reader of patterns: one half. -/
import Derived.Test.YtmmllhdphlnpjaaDoorPtJ
namespace Go.Proofs.YtmmllhdphlnpjaaDoor
open Go.RowKit Florin
set_option linter.unusedVariables false
set_option linter.unusedSimpArgs false
attribute [local go_sem ↓] Go.wp_at_zero Go.wp_at_succ
theorem infoP : (Tryd.prog.info? TP).map (·.size) = some 11 := by kernel_rfl
theorem infoPX {X : Array Value} (h : X.size = 11) : (Tryd.prog.info? TP).map (·.size) = some X.size := infoP.trans (by rw [h])
/-- A half's cells. -/
def HC (x : NumT) (vp vs np ns : Value) (two : Bool) : Array Value := #[vp, vs, np, ns, .bool two, .int .i64 (x.hash : Int), .int .i64 (x.int : Int), .int .i64 (x.minF : Int), .int .i64 (x.maxF : Int), .int .i64 (x.grp : Int), .int .i64 (x.more : Int)]
def HV (w : World) (x : HalfT) (v : Value) : Prop := ∃ vp vs, v = .agg (HC x.num vp vs (.slice none 0 0) (.slice none 0 0) false) ∧ PcL w vp x.pre ∧ PcL w vs x.suf
theorem hc_one (x : NumT) (a1 a2 a3 a4 : Option Addr) (n1 n2 n3 n4 c1 c2 c3 c4 : Nat) (two : Bool) : (HC x (.slice a1 n1 c1) (.slice a2 n2 c2) (.slice a3 n3 c3) (.slice a4 n4 c4) two).all (·.oneCell') = true := by simp [HC, Value.oneCell']
theorem KeepB.set1 {T U : TypeId} {w : World} {q : Nat} {ds : Array Value} (hx : BoxT w q ds U) (hn : T ≠ U) (i : Nat) (v : Value) : KeepB T w (w.setCell ⟨q, i, none⟩ v) := fun b cs g => g.other (a := ⟨q, i, none⟩) (g.apart hx hn) v
theorem PcL.keep {w w' : World} {v : Value} {l : List PcT} (h : PcL w v l) (hk : KeepB TPc w w') : PcL w' v l := LisT.keep h hk (fun _ _ h => h)
theorem PcL.nil (w : World) : PcL w (.slice none 0 0) [] := LisT.nil _ _ _ _
theorem PcL.slice {w : World} {v : Value} {l : List PcT} (h : PcL w v l) : ∃ a c, v = .slice a l.length c := by obtain ⟨a, c, e, _⟩ := h; exact ⟨a, c, e⟩
theorem grown_two2 {w w0 w2 : World} {b c : Nat} (h : w.grownBy w0 (some b)) (h2 : w0.grownBy w2 (some c)) (hc : w.heap.size ≤ c) : w.grownBy w2 (some b) :=
  ⟨h2.os.trans h.os, h2.tape.trans h.tape, h2.output.trans h.output, Nat.le_trans h.size h2.size, fun k hk hn => (h2.block k (Nat.lt_of_lt_of_le hk h.size) (fun e => by have := Option.some.inj e; omega)).trans (h.block k hk hn)⟩
theorem res_half {w : World} {q : Nat} {X : Array Value} (h : BoxT w q X TP) (hi : (Tryd.prog.info? TP).map (·.size) = some X.size) (tm : Array Value) (h2 : tm[2]?.getD undef = .pointer (some ⟨q, 0, none⟩)) :
    (results Tryd.f21 tm).run Tryd.prog w = .ok (.agg X) w := by
  have hld := run_loadVar_box (P := Tryd.prog) h Tryd.underlying27 (by rfl) hi
  simp [results, Tryd.results21, h2, asAddr, hld]
theorem half_bad1 {l r : List UInt8} (h : affQ [] l = .bad r) : halfP l = .bad r := by unfold halfP; rw [show affP (l.length + 1) [] l = .bad r from h]
theorem half_bad2 {l r r' : List UInt8} {a : List PcT} (h : affQ [] l = .ok a r) (h2 : numP r = .bad r') : halfP l = .bad r' := by unfold halfP; rw [show affP (l.length + 1) [] l = .ok a r from h]; dsimp only; rw [h2]
theorem half_bad3 {l r r' q : List UInt8} {a : List PcT} {n : NumT} (h : affQ [] l = .ok a r) (h2 : numP r = .ok n r') (h3 : affQ [] r' = .bad q) : halfP l = .bad q := by unfold halfP; rw [show affP (l.length + 1) [] l = .ok a r from h]; dsimp only; rw [h2]; dsimp only; rw [show affP (r'.length + 1) [] r' = .bad q from h3]
theorem half_ok {l r r' q : List UInt8} {a c : List PcT} {n : NumT} (h : affQ [] l = .ok a r) (h2 : numP r = .ok n r') (h3 : affQ [] r' = .ok c q) : halfP l = .ok ⟨a, c, n⟩ q := by unfold halfP; rw [show affP (l.length + 1) [] l = .ok a r from h]; dsimp only; rw [h2]; dsimp only; rw [show affP (r'.length + 1) [] r' = .ok c q from h3]
set_option maxRecDepth 100000 in
set_option maxHeartbeats 3200000 in
theorem half_as (b : Nat) (T : ByteArray) (p : Nat) (l : List UInt8) (w : World) (h : Rd w b T p) (ha : At T p l) (hT : T.size ≤ 1000) (hE : EnvP w) (R : PR HalfT) (hR : halfP l = R) :
    Calls Tryd.prog 21 #[.pointer (some ⟨b, 0, none⟩)] w (PTold b T w HV R) := by
  have HA := Lib.hid ha
  have bl := h.lt
  have X0 := Lib.hid (BoxT.new w Z0 TP)
  have R0 := Lib.hid (Rd.alloc h (.cells Z0 TP))
  have E0 := Lib.hid (hE.alloc (.cells Z0 TP))
  have G0 := Lib.hid (grown_alloc (World.grownBy.refl w (some b)) (.cells Z0 TP))
  obtain ⟨R1, hR1⟩ : ∃ R1, affQ [] l = R1 := ⟨_, rfl⟩
  have HR1 := Lib.hid hR1
  have HQ := Lib.hid hR
  clear h ha hR hR1 hE
  go_enter Tryd.func21, Tryd.ntmps21
  go_wp2_with fail
  with_reducible refine (raffix_as b T p l _ R0.out HA.out hT E0.out R1 HR1.out).mono ?_
  intro e w1 ht
  cases R1 with
  | bad r =>
    obtain ⟨q, rfl, hat, hg⟩ := ht
    have HQE : Hid (.bad r = R) := Lib.hid (by rw [← HQ.out, half_bad1 HR1.out])
    have G1 := Lib.hid (grown_trans G0.out hg)
    clear hg
    go_wp2
    rw [← HQE.out]
    exact ⟨rfl, q, rfl, hat, G1.out⟩
  | ok xs r =>
    obtain ⟨v1, q1, rfl, hv1, hat, hr, hg⟩ := ht
    obtain ⟨a1, c1, rfl⟩ := PcL.slice hv1
    have L1 : Hid (PcL w1 (.slice a1 xs.length c1) xs) := Lib.hid hv1
    have A1 := Lib.hid hat
    have E1 := Lib.hid (E0.out.grown R0.out hg)
    have R1' := Lib.hid hr
    have X1 := Lib.hid (X0.out.grown hg (fun e => by have := Option.some.inj e; omega))
    have G1 := Lib.hid (grown_trans G0.out hg)
    clear hv1 hat hr hg X0 R0 E0 G0
    obtain ⟨R2, hR2⟩ : ∃ R2, numP r = R2 := ⟨_, rfl⟩
    have HR2 := Lib.hid hR2
    clear hR2
    go_wp2_with fail
    with_reducible refine (number_as b T q1 r _ R1'.out A1.out hT R2 HR2.out).mono ?_
    intro e w2 ht
    cases R2 with
    | bad r2 =>
      obtain ⟨q, rfl, hat, hg⟩ := ht
      have HQE : Hid (.bad r2 = R) := Lib.hid (by rw [← HQ.out, half_bad2 HR1.out HR2.out])
      have G2 := Lib.hid (grown_trans G1.out hg)
      clear hg
      go_wp2
      rw [← HQE.out]
      exact ⟨rfl, q, rfl, hat, G2.out⟩
    | ok y r2 =>
      obtain ⟨v2, q2, rfl, hv2, hat, hr, hg⟩ := ht
      obtain rfl : v2 = .agg (NC y.hash y.int y.minF y.maxF y.grp y.more) := hv2
      have X2 := Lib.hid ((X1.out.grown hg (fun e => by have := Option.some.inj e; omega)).alloc (.cells (NC y.hash y.int y.minF y.maxF y.grp y.more) TP))
      have Y2 := Lib.hid (BoxT.new w2 (NC y.hash y.int y.minF y.maxF y.grp y.more) TP)
      have L2 := Lib.hid ((L1.out.rd R1'.out hg).keep (KeepB.below (below_alloc w2 (.cells (NC y.hash y.int y.minF y.maxF y.grp y.more) TP))))
      have E2 := Lib.hid ((E1.out.grown R1'.out hg).alloc (.cells (NC y.hash y.int y.minF y.maxF y.grp y.more) TP))
      have R2' := Lib.hid (Rd.alloc hr (.cells (NC y.hash y.int y.minF y.maxF y.grp y.more) TP))
      have G2 := Lib.hid (grown_alloc (grown_trans G1.out hg) (.cells (NC y.hash y.int y.minF y.maxF y.grp y.more) TP))
      have A2 := Lib.hid hat
      have hqs : w.heap.size < w2.heap.size := by have h1 := X1.out.lt; have h2 := hg.size; omega
      have hbq : b < w2.heap.size := by omega
      clear hat hr hg X1 L1 E1 R1' G1
      go_wp2_with fail
      generalize w2.alloc (.cells (NC y.hash y.int y.minF y.maxF y.grp y.more) TP) = w3 at *
      obtain ⟨R3, hR3⟩ : ∃ R3, affQ [] r2 = R3 := ⟨_, rfl⟩
      have HR3 := Lib.hid hR3
      clear hR3
      with_reducible refine (raffix_as b T q2 r2 _ R2'.out A2.out hT E2.out R3 HR3.out).mono ?_
      intro e w4 ht
      cases R3 with
      | bad r3 =>
        obtain ⟨q, rfl, hat, hg⟩ := ht
        have HQE : Hid (.bad r3 = R) := Lib.hid (by rw [← HQ.out, half_bad3 HR1.out HR2.out HR3.out])
        have G3 := Lib.hid (grown_trans G2.out hg)
        clear hg
        go_wp2
        rw [← HQE.out]
        exact ⟨rfl, q, rfl, hat, G3.out⟩
      | ok zs r3 =>
        obtain ⟨v3, q3, rfl, hv3, hat, hr, hg⟩ := ht
        obtain ⟨a3, c3, rfl⟩ := PcL.slice hv3
        have HQE : Hid (.ok ⟨xs, zs, y⟩ r3 = R) := Lib.hid (by rw [← HQ.out, half_ok HR1.out HR2.out HR3.out])
        have X4 := Lib.hid (X2.out.grown hg (fun e => by have := Option.some.inj e; omega))
        have Y4 := Lib.hid (Y2.out.grown hg (fun e => by have := Option.some.inj e; omega))
        have K0 := Lib.hid (KeepB.trans (KeepB.set1 (T := TPc) Y4.out (by decide) 0 (.slice a1 xs.length c1)) (KeepB.set1 (T := TPc) (Y4.out.set 0 (.slice a1 xs.length c1)) (by decide) 1 (.slice a3 zs.length c3)))
        have L4 := Lib.hid ((L2.out.rd R2'.out hg).keep K0.out)
        have M4 : Hid (PcL _ (.slice a3 zs.length c3) zs) := Lib.hid (PcL.keep hv3 K0.out)
        have Y5 : Hid (BoxT ((w4.setCell ⟨w2.heap.size, 0, none⟩ (.slice a1 xs.length c1)).setCell ⟨w2.heap.size, 1, none⟩ (.slice a3 zs.length c3)) w2.heap.size (HC y (.slice a1 xs.length c1) (.slice a3 zs.length c3) (.slice none 0 0) (.slice none 0 0) false) TP) := Lib.hid ((Y4.out.set 0 (.slice a1 xs.length c1)).set 1 (.slice a3 zs.length c3))
        have X5 := Lib.hid ((X4.out.other (a := ⟨w2.heap.size, 0, none⟩) (show w.heap.size ≠ w2.heap.size by omega) (.slice a1 xs.length c1)).other (a := ⟨w2.heap.size, 1, none⟩) (show w.heap.size ≠ w2.heap.size by omega) (.slice a3 zs.length c3))
        have R5 := Lib.hid ((Rd.other hr (a := ⟨w2.heap.size, 0, none⟩) (show b ≠ w2.heap.size by omega) (.slice a1 xs.length c1)).other (a := ⟨w2.heap.size, 1, none⟩) (show b ≠ w2.heap.size by omega) (.slice a3 zs.length c3))
        have G5 := Lib.hid (grown_set_new (grown_set_new (grown_trans G2.out hg) (show w.heap.size ≤ w2.heap.size by omega) 0 (.slice a1 xs.length c1)) (show w.heap.size ≤ w2.heap.size by omega) 1 (.slice a3 zs.length c3))
        have A5 := Lib.hid hat
        have y0 := Y4.out.cell 0
        have y1 := Y4.out.cell 1
        have z0 := Y4.out.frozen 0
        have z1 := Y4.out.frozen 1
        have yl := Y4.out.lt
        simp at y0 y1
        clear hat hr hg hv3 X2 Y2 L2 E2 R2' G2 K0 X4
        go_upto_region 4 with fail
        clear y0 y1 z0 z1 yl Y4
        generalize (w4.setCell ⟨w2.heap.size, 0, none⟩ (.slice a1 xs.length c1)).setCell ⟨w2.heap.size, 1, none⟩ (.slice a3 zs.length c3) = w5 at *
        have HSZ : Hid (Z0.size = (HC y (.slice a1 xs.length c1) (.slice a3 zs.length c3) (.slice none 0 0) (.slice none 0 0) false).size) := Lib.hid rfl
        have HIN := Lib.hid (infoPX (X := HC y (.slice a1 xs.length c1) (.slice a3 zs.length c3) (.slice none 0 0) (.slice none 0 0) false) rfl)
        have HON := Lib.hid (hc_one y a1 a3 none none xs.length zs.length 0 0 c1 c3 0 0 false)
        obtain ⟨X, hX⟩ : ∃ X, X = HC y (.slice a1 xs.length c1) (.slice a3 zs.length c3) (.slice none 0 0) (.slice none 0 0) false := ⟨_, rfl⟩
        rw [← hX] at HSZ HIN HON Y5
        have HXE := Lib.hid hX
        clear hX
        go_wp2_with ((refine wpList_load_box (by rfl) TP (.tmp 4) (by rfl) w2.heap.size (by rfl) X TP _ Y5.out Tryd.underlying27 (by rfl) HIN.out ?_); (refine wpList_store_box (by rfl) TP (.tmp 2) (.tmp 14) (by rfl) w.heap.size Z0 X TP (by rfl) (by rfl) X5.out HIN.out HSZ.out HON.out ?_); intro w9 hx9 hg9)
        refine bodyPost_ret (v := .agg X) ?_ rfl ?_
        · exact res_half hx9 HIN.out _ rfl
        · rw [← HQE.out]
          have k9 := KeepB.of (T := TPc) X5.out (by decide) hg9
          exact ⟨_, q3, rfl, ⟨_, _, by rw [HXE.out], L4.out.keep k9, M4.out.keep k9⟩, A5.out, BoxT.grown R5.out hg9 (fun e => by have := Option.some.inj e; omega), grown_two2 G5.out hg9 (Nat.le_refl _)⟩
end Go.Proofs.YtmmllhdphlnpjaaDoor
