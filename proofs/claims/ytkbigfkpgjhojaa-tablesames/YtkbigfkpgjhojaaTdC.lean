/- Tables compared: currencies. -/
import Derived.Test.YtkbigfkpgjhojaaTdB
namespace Go.Proofs.Ytkbigfkpgjhojaa
open Go.RowKit Florin
set_option linter.unusedVariables false
set_option linter.unusedSimpArgs false
attribute [local go_sem ↓] Go.wp_at_zero Go.wp_at_succ
deriving instance DecidableEq for CurM
set_option maxRecDepth 100000 in
set_option maxHeartbeats 12800000 in
theorem sameCur_as (xco xsy xna yco ysy yna : List UInt8) (xnm ynm : List TxM) (xd xi xcd xci yd yi ycd yci : Int) (u v : Value) (w : World) (hu : TxL w w.heap.size u xnm) (hv : TxL w w.heap.size v ynm) :
    Calls Try.prog 19 #[.agg #[S xco, S xsy, S xna, u, .int .i64 xd, .int .i64 xi, .int .i64 xcd, .int .i64 xci], .agg #[S yco, S ysy, S yna, v, .int .i64 yd, .int .i64 yi, .int .i64 ycd, .int .i64 yci]] w fun e w' => e = .returned (.bool (decide ((⟨xco, xsy, xna, xnm, xd, xi, xcd, xci⟩ : CurM) = (⟨yco, ysy, yna, ynm, yd, yi, ycd, yci⟩ : CurM)))) ∧ Below w.heap.size w w' := by
  have HB := Lib.hid (((Below.refl w.heap.size w).alloc (Nat.le_refl _) (.cells #[S xco, S xsy, S xna, u, .int .i64 xd, .int .i64 xi, .int .i64 xcd, .int .i64 xci] 35)).alloc (by simp) (.cells #[S yco, S ysy, S yna, v, .int .i64 yd, .int .i64 yi, .int .i64 ycd, .int .i64 yci] 35))
  have HX := Lib.hid ((BoxT.new w #[S xco, S xsy, S xna, u, .int .i64 xd, .int .i64 xi, .int .i64 xcd, .int .i64 xci] 35).alloc (.cells #[S yco, S ysy, S yna, v, .int .i64 yd, .int .i64 yi, .int .i64 ycd, .int .i64 yci] 35))
  have HY := Lib.hid (BoxT.new (w.alloc (.cells #[S xco, S xsy, S xna, u, .int .i64 xd, .int .i64 xi, .int .i64 xcd, .int .i64 xci] 35)) #[S yco, S ysy, S yna, v, .int .i64 yd, .int .i64 yi, .int .i64 ycd, .int .i64 yci] 35)
  rw [show (w.alloc (.cells #[S xco, S xsy, S xna, u, .int .i64 xd, .int .i64 xi, .int .i64 xcd, .int .i64 xci] 35)).heap.size = w.heap.size + 1 by simp] at HY
  have HU := Lib.hid (TxL.move hu (Nat.le_refl _) HB.out)
  have HV := Lib.hid (TxL.move hv (Nat.le_refl _) HB.out)
  obtain ⟨ua, uc, rfl, _, _, _⟩ := hu
  obtain ⟨va, vc, rfl, _, _, _⟩ := hv
  go_enter Try.func19, Try.ntmps19
  by_cases hco : xco = yco
  · subst hco
    by_cases hsy : xsy = ysy
    · subst hsy
      by_cases hna : xna = yna
      · subst hna
        go_wp2_with fail
        generalize (w.alloc (.cells #[S xco, S xsy, S xna, _, .int .i64 xd, .int .i64 xi, .int .i64 xcd, .int .i64 xci] 35)).alloc (.cells #[S xco, S xsy, S xna, _, .int .i64 yd, .int .i64 yi, .int .i64 ycd, .int .i64 yci] 35) = w0 at *
        with_reducible refine (eqTx_as xnm ynm _ _ w0 (InL.move HU.out (fun _ _ h => h) HB.out.size (Below.refl _ _)) (InL.move HV.out (fun _ _ h => h) HB.out.size (Below.refl _ _))).mono ?_
        rintro e w1 ⟨rfl, hb1⟩
        have HB1 := Lib.hid (HB.out.trans (hb1.mono HB.out.size))
        have qx4 : w1.cell? ⟨w.heap.size, 4, none⟩ = some (.int .i64 xd) := (HX.out.below hb1).cell 4
        have qy4 : w1.cell? ⟨w.heap.size + 1, 4, none⟩ = some (.int .i64 yd) := (HY.out.below hb1).cell 4
        have qx5 : w1.cell? ⟨w.heap.size, 5, none⟩ = some (.int .i64 xi) := (HX.out.below hb1).cell 5
        have qy5 : w1.cell? ⟨w.heap.size + 1, 5, none⟩ = some (.int .i64 yi) := (HY.out.below hb1).cell 5
        have qx6 : w1.cell? ⟨w.heap.size, 6, none⟩ = some (.int .i64 xcd) := (HX.out.below hb1).cell 6
        have qy6 : w1.cell? ⟨w.heap.size + 1, 6, none⟩ = some (.int .i64 ycd) := (HY.out.below hb1).cell 6
        have qx7 : w1.cell? ⟨w.heap.size, 7, none⟩ = some (.int .i64 xci) := (HX.out.below hb1).cell 7
        have qy7 : w1.cell? ⟨w.heap.size + 1, 7, none⟩ = some (.int .i64 yci) := (HY.out.below hb1).cell 7
        clear hb1
        by_cases hnm : xnm = ynm
        · have hd : decide (xnm = ynm) = true := by simp [hnm]
          rw [hd]
          clear hd
          have HNM := Lib.hid hnm
          clear hnm
          by_cases hd : xd = yd
          · subst hd
            by_cases hi : xi = yi
            · subst hi
              by_cases hcd : xcd = ycd
              · subst hcd
                by_cases hci : xci = yci
                · subst hci
                  go_wp2
                  go_ret
                  exact ⟨by rw [show decide ((⟨xco, xsy, xna, xnm, xd, xi, xcd, xci⟩ : CurM) = (⟨xco, xsy, xna, ynm, xd, xi, xcd, xci⟩ : CurM)) = true from by simp [HNM.out]]; rfl, HB1.out⟩
                · have hbe : (xci == yci) = false := by simp [hci]
                  go_wp2
                  go_ret
                  exact ⟨by rw [show decide ((⟨xco, xsy, xna, xnm, xd, xi, xcd, xci⟩ : CurM) = (⟨xco, xsy, xna, ynm, xd, xi, xcd, yci⟩ : CurM)) = false from by simp [hci]]; rfl, HB1.out⟩
              · go_wp2
                go_ret
                exact ⟨by rw [show decide ((⟨xco, xsy, xna, xnm, xd, xi, xcd, xci⟩ : CurM) = (⟨xco, xsy, xna, ynm, xd, xi, ycd, yci⟩ : CurM)) = false from by simp [hcd]]; rfl, HB1.out⟩
            · go_wp2
              go_ret
              exact ⟨by rw [show decide ((⟨xco, xsy, xna, xnm, xd, xi, xcd, xci⟩ : CurM) = (⟨xco, xsy, xna, ynm, xd, yi, ycd, yci⟩ : CurM)) = false from by simp [hi]]; rfl, HB1.out⟩
          · go_wp2
            go_ret
            exact ⟨by rw [show decide ((⟨xco, xsy, xna, xnm, xd, xi, xcd, xci⟩ : CurM) = (⟨xco, xsy, xna, ynm, yd, yi, ycd, yci⟩ : CurM)) = false from by simp [hd]]; rfl, HB1.out⟩
        · have hd : decide (xnm = ynm) = false := by simp [hnm]
          rw [hd]
          go_wp2
          go_ret
          exact ⟨by rw [show decide ((⟨xco, xsy, xna, xnm, xd, xi, xcd, xci⟩ : CurM) = (⟨xco, xsy, xna, ynm, yd, yi, ycd, yci⟩ : CurM)) = false from by simp [hnm]]; rfl, HB1.out⟩
      · have hbe : (xna == yna) = false := by simp [hna]
        go_wp2
        go_ret
        exact ⟨by rw [show decide ((⟨xco, xsy, xna, xnm, xd, xi, xcd, xci⟩ : CurM) = (⟨xco, xsy, yna, ynm, yd, yi, ycd, yci⟩ : CurM)) = false from by simp [hna]]; rfl, HB.out⟩
    · have hbe : (xsy == ysy) = false := by simp [hsy]
      go_wp2
      go_ret
      exact ⟨by rw [show decide ((⟨xco, xsy, xna, xnm, xd, xi, xcd, xci⟩ : CurM) = (⟨xco, ysy, yna, ynm, yd, yi, ycd, yci⟩ : CurM)) = false from by simp [hsy]]; rfl, HB.out⟩
  · have hbe : (xco == yco) = false := by simp [hco]
    go_wp2
    go_ret
    exact ⟨by rw [show decide ((⟨xco, xsy, xna, xnm, xd, xi, xcd, xci⟩ : CurM) = (⟨yco, ysy, yna, ynm, yd, yi, ycd, yci⟩ : CurM)) = false from by simp [hco]]; rfl, HB.out⟩
set_option maxRecDepth 100000 in
set_option maxHeartbeats 12800000 in
theorem eqCur_as (l1 l2 : List CurM) (v1 v2 : Value) (w : World) (h1 : CurL w w.heap.size v1 l1) (h2 : CurL w w.heap.size v2 l2) :
    Calls Try.prog 18 #[v1, v2, .func (Fn.func 19) #[] #[]] w fun e w' => e = .returned (.bool (decide (l1 = l2))) ∧ Below w.heap.size w w' := by
  obtain ⟨a1, c1, rfl, hc1, hm1, hx1⟩ := h1
  obtain ⟨a2, c2, rfl, hc2, hm2, hx2⟩ := h2
  unfold maxLen at hm1 hm2
  have HX1 := Lib.hid hx1
  have HX2 := Lib.hid hx2
  clear hx1 hx2
  go_enter Try.func18, Try.ntmps18
  by_cases hlen : l1.length = l2.length
  · have hli : (l1.length : Int) = (l2.length : Int) := by omega
    go_wp2_with fail
    have hle1 : l1.length ≤ l2.length := by omega
    have hle2 : l2.length ≤ l1.length := by omega
    clear hli hlen
    go_loopw [17] (fun i wr => ∃ k : Nat, k ≤ l1.length ∧ i = .int .i64 (k : Int) ∧ l1.take k = l2.take k ∧ Below w.heap.size w wr) (fun i _ => l1.length - (intOf i).toNat)
    case atStart => exact ⟨0, Nat.zero_le _, rfl, rfl, Below.refl _ _⟩
    case round =>
      obtain ⟨k, hk, rfl, htk, hb⟩ := hrel
      have HB := Lib.hid hb
      have HTK := Lib.hid htk
      have hbs := hb.size
      clear hb htk
      by_cases hlt : k < l1.length
      · obtain ⟨b1, o1, rfl, hb1, _, hy1⟩ := HX1.out (by omega)
        obtain ⟨b2, o2, rfl, hb2, _, hy2⟩ := HX2.out (by omega)
        obtain ⟨d1, hA1, _, hq1⟩ := hy1 k hlt
        obtain ⟨d2, hA2, _, hq2⟩ := hy2 k (by omega)
        have hlt2 : k < l2.length := by omega
        have HS := Lib.hid (take_two l1 l2 k hlt hlt2)
        obtain ⟨x, hx⟩ : ∃ x, x = l1[k] := ⟨_, rfl⟩
        obtain ⟨y, hy⟩ : ∃ y, y = l2[k] := ⟨_, rfl⟩
        rw [← hx] at hA1 HS
        rw [← hy] at hA2 HS
        clear hx hy
        obtain ⟨u, rfl, hu⟩ := hA1
        obtain ⟨v, rfl, hv⟩ := hA2
        have p0 : wr.cell? ⟨b1, o1 + k * 8, none⟩ = _ := (HB.out.cell (p := ⟨b1, o1 + k * 8, none⟩) hb1).trans (hq1 0 (by decide))
        have p1 : wr.cell? ⟨b1, o1 + k * 8 + 1, none⟩ = _ := (HB.out.cell (p := ⟨b1, o1 + k * 8 + 1, none⟩) hb1).trans (hq1 1 (by decide))
        have p2 : wr.cell? ⟨b1, o1 + k * 8 + 2, none⟩ = _ := (HB.out.cell (p := ⟨b1, o1 + k * 8 + 2, none⟩) hb1).trans (hq1 2 (by decide))
        have p3 : wr.cell? ⟨b1, o1 + k * 8 + 3, none⟩ = _ := (HB.out.cell (p := ⟨b1, o1 + k * 8 + 3, none⟩) hb1).trans (hq1 3 (by decide))
        have p4 : wr.cell? ⟨b1, o1 + k * 8 + 4, none⟩ = _ := (HB.out.cell (p := ⟨b1, o1 + k * 8 + 4, none⟩) hb1).trans (hq1 4 (by decide))
        have p5 : wr.cell? ⟨b1, o1 + k * 8 + 5, none⟩ = _ := (HB.out.cell (p := ⟨b1, o1 + k * 8 + 5, none⟩) hb1).trans (hq1 5 (by decide))
        have p6 : wr.cell? ⟨b1, o1 + k * 8 + 6, none⟩ = _ := (HB.out.cell (p := ⟨b1, o1 + k * 8 + 6, none⟩) hb1).trans (hq1 6 (by decide))
        have p7 : wr.cell? ⟨b1, o1 + k * 8 + 7, none⟩ = _ := (HB.out.cell (p := ⟨b1, o1 + k * 8 + 7, none⟩) hb1).trans (hq1 7 (by decide))
        simp only [List.getElem?_cons_zero, List.getElem?_cons_succ] at p0 p1 p2 p3 p4 p5 p6 p7
        have HB2 := Lib.hid ((HB.out.alloc hbs (.cells #[S x.code, S x.sym, S x.nar, u, .int .i64 x.d, .int .i64 x.i, .int .i64 x.cd, .int .i64 x.ci] 35)))
        have r0 : (wr.alloc (.cells #[S x.code, S x.sym, S x.nar, u, .int .i64 x.d, .int .i64 x.i, .int .i64 x.cd, .int .i64 x.ci] 35)).cell? ⟨b2, o2 + k * 8, none⟩ = _ := (HB2.out.cell (p := ⟨b2, o2 + k * 8, none⟩) hb2).trans (hq2 0 (by decide))
        have r1 : (wr.alloc (.cells #[S x.code, S x.sym, S x.nar, u, .int .i64 x.d, .int .i64 x.i, .int .i64 x.cd, .int .i64 x.ci] 35)).cell? ⟨b2, o2 + k * 8 + 1, none⟩ = _ := (HB2.out.cell (p := ⟨b2, o2 + k * 8 + 1, none⟩) hb2).trans (hq2 1 (by decide))
        have r2 : (wr.alloc (.cells #[S x.code, S x.sym, S x.nar, u, .int .i64 x.d, .int .i64 x.i, .int .i64 x.cd, .int .i64 x.ci] 35)).cell? ⟨b2, o2 + k * 8 + 2, none⟩ = _ := (HB2.out.cell (p := ⟨b2, o2 + k * 8 + 2, none⟩) hb2).trans (hq2 2 (by decide))
        have r3 : (wr.alloc (.cells #[S x.code, S x.sym, S x.nar, u, .int .i64 x.d, .int .i64 x.i, .int .i64 x.cd, .int .i64 x.ci] 35)).cell? ⟨b2, o2 + k * 8 + 3, none⟩ = _ := (HB2.out.cell (p := ⟨b2, o2 + k * 8 + 3, none⟩) hb2).trans (hq2 3 (by decide))
        have r4 : (wr.alloc (.cells #[S x.code, S x.sym, S x.nar, u, .int .i64 x.d, .int .i64 x.i, .int .i64 x.cd, .int .i64 x.ci] 35)).cell? ⟨b2, o2 + k * 8 + 4, none⟩ = _ := (HB2.out.cell (p := ⟨b2, o2 + k * 8 + 4, none⟩) hb2).trans (hq2 4 (by decide))
        have r5 : (wr.alloc (.cells #[S x.code, S x.sym, S x.nar, u, .int .i64 x.d, .int .i64 x.i, .int .i64 x.cd, .int .i64 x.ci] 35)).cell? ⟨b2, o2 + k * 8 + 5, none⟩ = _ := (HB2.out.cell (p := ⟨b2, o2 + k * 8 + 5, none⟩) hb2).trans (hq2 5 (by decide))
        have r6 : (wr.alloc (.cells #[S x.code, S x.sym, S x.nar, u, .int .i64 x.d, .int .i64 x.i, .int .i64 x.cd, .int .i64 x.ci] 35)).cell? ⟨b2, o2 + k * 8 + 6, none⟩ = _ := (HB2.out.cell (p := ⟨b2, o2 + k * 8 + 6, none⟩) hb2).trans (hq2 6 (by decide))
        have r7 : (wr.alloc (.cells #[S x.code, S x.sym, S x.nar, u, .int .i64 x.d, .int .i64 x.i, .int .i64 x.cd, .int .i64 x.ci] 35)).cell? ⟨b2, o2 + k * 8 + 7, none⟩ = _ := (HB2.out.cell (p := ⟨b2, o2 + k * 8 + 7, none⟩) hb2).trans (hq2 7 (by decide))
        simp only [List.getElem?_cons_zero, List.getElem?_cons_succ] at r0 r1 r2 r3 r4 r5 r6 r7
        clear hq1 hq2 hy1 hy2
        have hs1 : (wr.alloc (.cells #[S x.code, S x.sym, S x.nar, u, .int .i64 x.d, .int .i64 x.i, .int .i64 x.cd, .int .i64 x.ci] 35)).heap.size = wr.heap.size + 1 := by simp
        have HB3 := Lib.hid (HB2.out.alloc (by omega) (.cells #[S y.code, S y.sym, S y.nar, v, .int .i64 y.d, .int .i64 y.i, .int .i64 y.cd, .int .i64 y.ci] 35))
        have HU := Lib.hid (TxL.move hu (Nat.le_refl _) HB3.out)
        have HV := Lib.hid (TxL.move hv (Nat.le_refl _) HB3.out)
        obtain ⟨ua, uc, rfl, _, _, _⟩ := hu
        obtain ⟨va, vc, rfl, _, _, _⟩ := hv
        have hki : (k : Int) < (l1.length : Int) := by omega
        have hki2 : (k : Int) < (l2.length : Int) := by omega
        go_wp2_with fail
        have HC := Lib.hid (sameCur_as x.code x.sym x.nar y.code y.sym y.nar x.names y.names x.d x.i x.cd x.ci y.d y.i y.cd y.ci _ _ _ (InL.move HU.out (fun _ _ h => h) HB3.out.size (Below.refl _ _)) (InL.move HV.out (fun _ _ h => h) HB3.out.size (Below.refl _ _)))
        generalize (wr.alloc (.cells #[S x.code, S x.sym, S x.nar, _, .int .i64 x.d, .int .i64 x.i, .int .i64 x.cd, .int .i64 x.ci] 35)).alloc (.cells #[S y.code, S y.sym, S y.nar, _, .int .i64 y.d, .int .i64 y.i, .int .i64 y.cd, .int .i64 y.ci] 35) = w3 at *
        with_reducible refine (HC.out).mono ?_
        rintro e w4 ⟨rfl, hb4⟩
        have HB4 := Lib.hid (HB3.out.trans (hb4.mono HB3.out.size))
        clear hb4 HC
        by_cases hxy : x = y
        · have hd : decide (x = y) = true := by simp [hxy]
          rw [hd]
          go_wp2
          go_roundw
          case rel => exact ⟨k + 1, by omega, by go_num, HS.out.2 ⟨HTK.out, hxy⟩, HB4.out⟩
          case measure => simp [intOf]; omega
        · have hd : decide (x = y) = false := by simp [hxy]
          rw [hd]
          go_wp2
          go_ret
          exact ⟨by rw [show decide (l1 = l2) = false from by simp; intro e; subst e; exact hxy (HS.out.1 rfl).2]; rfl, HB4.out⟩
      · have hke : k = l1.length := by omega
        have hnl : ¬ (k : Int) < (l1.length : Int) := by omega
        go_wp2
        go_ret
        exact ⟨by rw [show decide (l1 = l2) = true from by simp; have h := HTK.out; rwa [List.take_of_length_le (by omega), List.take_of_length_le (by omega)] at h]; rfl, HB.out⟩
  · have hli : ¬ (l1.length : Int) = (l2.length : Int) := by omega
    go_wp2
    go_ret
    exact ⟨by simp; intro e; exact hlen (by rw [e]), Below.refl _ _⟩
end Go.Proofs.Ytkbigfkpgjhojaa
