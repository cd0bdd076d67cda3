/- Tables compared: rows, units. -/
import Derived.Test.YtkbigfkpgjhojaaTdA
namespace Go.Proofs.Ytkbigfkpgjhojaa
open Go.RowKit Florin
set_option linter.unusedVariables false
set_option linter.unusedSimpArgs false
attribute [local go_sem ↓] Go.wp_at_zero Go.wp_at_succ
set_option maxRecDepth 100000 in
set_option maxHeartbeats 3200000 in
theorem sameRow_as (x y : RowM) (u v : Value) (w : World) (hu : TxL w w.heap.size u x.2) (hv : TxL w w.heap.size v y.2) :
    Calls Try.prog 17 #[.agg #[.int .i64 x.1, u], .agg #[.int .i64 y.1, v]] w fun e w' => e = .returned (.bool (decide (x = y))) ∧ Below w.heap.size w w' := by
  obtain ⟨xa, xt⟩ := x
  obtain ⟨ya, yt⟩ := y
  dsimp only at hu hv ⊢
  have HB := Lib.hid (((Below.refl w.heap.size w).alloc (Nat.le_refl _) (.cells #[.int .i64 xa, u] 37)).alloc (by simp) (.cells #[.int .i64 ya, v] 37))
  have HX := Lib.hid ((BoxT.new w #[.int .i64 xa, u] 37).alloc (.cells #[.int .i64 ya, v] 37))
  have HY := Lib.hid (BoxT.new (w.alloc (.cells #[.int .i64 xa, u] 37)) #[.int .i64 ya, v] 37)
  rw [show (w.alloc (.cells #[.int .i64 xa, u] 37)).heap.size = w.heap.size + 1 by simp] at HY
  have HU := Lib.hid (TxL.move hu (Nat.le_refl _) HB.out)
  have HV := Lib.hid (TxL.move hv (Nat.le_refl _) HB.out)
  obtain ⟨ua, uc, rfl, _, _, _⟩ := hu
  obtain ⟨va, vc, rfl, _, _, _⟩ := hv
  go_enter Try.func17, Try.ntmps17
  by_cases hxy : xa = ya
  · subst hxy
    skip
    go_wp2_with fail
    generalize (w.alloc (.cells #[.int .i64 xa, _] 37)).alloc (.cells #[.int .i64 xa, _] 37) = w0 at *
    with_reducible refine (eqTx_as xt yt _ _ w0 (InL.move HU.out (fun _ _ h => h) HB.out.size (Below.refl _ _)) (InL.move HV.out (fun _ _ h => h) HB.out.size (Below.refl _ _))).mono ?_
    rintro e w1 ⟨rfl, hb1⟩
    have HB1 := Lib.hid (HB.out.trans (hb1.mono HB.out.size))
    clear hb1
    go_wp2
    go_ret
    exact ⟨by rw [show decide (xt = yt) = decide ((xa, xt) = (xa, yt)) from decide_eq_decide.2 ⟨fun h => by rw [h], fun h => (Prod.mk.inj h).2⟩]; rfl, HB1.out⟩
  · skip
    go_wp2
    go_ret
    exact ⟨by rw [show decide ((xa, xt) = (ya, yt)) = false from by simp [hxy]]; rfl, HB.out⟩
set_option maxRecDepth 100000 in
set_option maxHeartbeats 6400000 in
theorem eqRow_as (l1 l2 : List RowM) (v1 v2 : Value) (w : World) (h1 : RowL w w.heap.size v1 l1) (h2 : RowL w w.heap.size v2 l2) :
    Calls Try.prog 16 #[v1, v2, .func (Fn.func 17) #[] #[]] w fun e w' => e = .returned (.bool (decide (l1 = l2))) ∧ Below w.heap.size w w' := by
  obtain ⟨a1, c1, rfl, hc1, hm1, hx1⟩ := h1
  obtain ⟨a2, c2, rfl, hc2, hm2, hx2⟩ := h2
  unfold maxLen at hm1 hm2
  have HX1 := Lib.hid hx1
  have HX2 := Lib.hid hx2
  clear hx1 hx2
  go_enter Try.func16, Try.ntmps16
  by_cases hlen : l1.length = l2.length
  · have hli : (l1.length : Int) = (l2.length : Int) := by omega
    go_wp2_with fail
    have hle1 : l1.length ≤ l2.length := by omega
    have hle2 : l2.length ≤ l1.length := by omega
    clear hli hlen
    go_loopw [17] (fun i wr => ∃ k : Nat, k ≤ l1.length ∧ i = .int .i64 (k : Int) ∧ l1.take k = l2.take k ∧ Below w.heap.size w wr) (fun i _ => l1.length - (intOf i).toNat)
    case atStart => exact ⟨0, Nat.zero_le _, rfl, rfl, Below.refl _ _⟩
    case round =>
      obtain ⟨k, hk, rfl, htk, hb⟩ := hrel
      have HB := Lib.hid hb
      have HTK := Lib.hid htk
      have hbs := hb.size
      clear hb htk
      by_cases hlt : k < l1.length
      · obtain ⟨b1, o1, rfl, hb1, _, hy1⟩ := HX1.out (by omega)
        obtain ⟨b2, o2, rfl, hb2, _, hy2⟩ := HX2.out (by omega)
        obtain ⟨d1, hA1, _, hq1⟩ := hy1 k hlt
        obtain ⟨d2, hA2, _, hq2⟩ := hy2 k (by omega)
        have hlt2 : k < l2.length := by omega
        have HS := Lib.hid (take_two l1 l2 k hlt hlt2)
        obtain ⟨x, hx⟩ : ∃ x, x = l1[k] := ⟨_, rfl⟩
        obtain ⟨y, hy⟩ : ∃ y, y = l2[k] := ⟨_, rfl⟩
        rw [← hx] at hA1 HS
        rw [← hy] at hA2 HS
        clear hx hy
        obtain ⟨u, rfl, hu⟩ := hA1
        obtain ⟨v, rfl, hv⟩ := hA2
        have p0 : wr.cell? ⟨b1, o1 + k * 2, none⟩ = _ := (HB.out.cell (p := ⟨b1, o1 + k * 2, none⟩) hb1).trans (hq1 0 (by decide))
        have p1 : wr.cell? ⟨b1, o1 + k * 2 + 1, none⟩ = _ := (HB.out.cell (p := ⟨b1, o1 + k * 2 + 1, none⟩) hb1).trans (hq1 1 (by decide))
        simp only [List.getElem?_cons_zero, List.getElem?_cons_succ] at p0 p1
        have HB2 := Lib.hid ((HB.out.alloc hbs (.cells #[.int .i64 x.1, u] 37)))
        have r0 : (wr.alloc (.cells #[.int .i64 x.1, u] 37)).cell? ⟨b2, o2 + k * 2, none⟩ = _ := (HB2.out.cell (p := ⟨b2, o2 + k * 2, none⟩) hb2).trans (hq2 0 (by decide))
        have r1 : (wr.alloc (.cells #[.int .i64 x.1, u] 37)).cell? ⟨b2, o2 + k * 2 + 1, none⟩ = _ := (HB2.out.cell (p := ⟨b2, o2 + k * 2 + 1, none⟩) hb2).trans (hq2 1 (by decide))
        simp only [List.getElem?_cons_zero, List.getElem?_cons_succ] at r0 r1
        clear hq1 hq2 hy1 hy2
        have hs1 : (wr.alloc (.cells #[.int .i64 x.1, u] 37)).heap.size = wr.heap.size + 1 := by simp
        have HB3 := Lib.hid (HB2.out.alloc (by omega) (.cells #[.int .i64 y.1, v] 37))
        have HU := Lib.hid (TxL.move hu (Nat.le_refl _) HB3.out)
        have HV := Lib.hid (TxL.move hv (Nat.le_refl _) HB3.out)
        obtain ⟨ua, uc, rfl, _, _, _⟩ := hu
        obtain ⟨va, vc, rfl, _, _, _⟩ := hv
        have hki : (k : Int) < (l1.length : Int) := by omega
        have hki2 : (k : Int) < (l2.length : Int) := by omega
        go_wp2_with fail
        have HC := Lib.hid (sameRow_as x y _ _ _ (InL.move HU.out (fun _ _ h => h) HB3.out.size (Below.refl _ _)) (InL.move HV.out (fun _ _ h => h) HB3.out.size (Below.refl _ _)))
        generalize (wr.alloc (.cells #[.int .i64 x.1, _] 37)).alloc (.cells #[.int .i64 y.1, _] 37) = w3 at *
        with_reducible refine (HC.out).mono ?_
        rintro e w4 ⟨rfl, hb4⟩
        have HB4 := Lib.hid (HB3.out.trans (hb4.mono HB3.out.size))
        clear hb4 HC
        by_cases hxy : x = y
        · have hd : decide (x = y) = true := by simp [hxy]
          rw [hd]
          go_wp2
          go_roundw
          case rel => exact ⟨k + 1, by omega, by go_num, HS.out.2 ⟨HTK.out, hxy⟩, HB4.out⟩
          case measure => simp [intOf]; omega
        · have hd : decide (x = y) = false := by simp [hxy]
          rw [hd]
          go_wp2
          go_ret
          exact ⟨by rw [show decide (l1 = l2) = false from by simp; intro e; subst e; exact hxy (HS.out.1 rfl).2]; rfl, HB4.out⟩
      · have hke : k = l1.length := by omega
        have hnl : ¬ (k : Int) < (l1.length : Int) := by omega
        go_wp2
        go_ret
        exact ⟨by rw [show decide (l1 = l2) = true from by simp; have h := HTK.out; rwa [List.take_of_length_le (by omega), List.take_of_length_le (by omega)] at h]; rfl, HB.out⟩
  · have hli : ¬ (l1.length : Int) = (l2.length : Int) := by omega
    go_wp2
    go_ret
    exact ⟨by simp; intro e; exact hlen (by rw [e]), Below.refl _ _⟩
set_option maxRecDepth 100000 in
set_option maxHeartbeats 3200000 in
theorem sameUnt_as (x y : UntM) (u v : Value) (w : World) (hu : TxL w w.heap.size u x.2) (hv : TxL w w.heap.size v y.2) :
    Calls Try.prog 21 #[.agg #[S x.1, u], .agg #[S y.1, v]] w fun e w' => e = .returned (.bool (decide (x = y))) ∧ Below w.heap.size w w' := by
  obtain ⟨xa, xt⟩ := x
  obtain ⟨ya, yt⟩ := y
  dsimp only at hu hv ⊢
  have HB := Lib.hid (((Below.refl w.heap.size w).alloc (Nat.le_refl _) (.cells #[S xa, u] 50)).alloc (by simp) (.cells #[S ya, v] 50))
  have HX := Lib.hid ((BoxT.new w #[S xa, u] 50).alloc (.cells #[S ya, v] 50))
  have HY := Lib.hid (BoxT.new (w.alloc (.cells #[S xa, u] 50)) #[S ya, v] 50)
  rw [show (w.alloc (.cells #[S xa, u] 50)).heap.size = w.heap.size + 1 by simp] at HY
  have HU := Lib.hid (TxL.move hu (Nat.le_refl _) HB.out)
  have HV := Lib.hid (TxL.move hv (Nat.le_refl _) HB.out)
  obtain ⟨ua, uc, rfl, _, _, _⟩ := hu
  obtain ⟨va, vc, rfl, _, _, _⟩ := hv
  go_enter Try.func21, Try.ntmps21
  by_cases hxy : xa = ya
  · subst hxy
    skip
    go_wp2_with fail
    generalize (w.alloc (.cells #[S xa, _] 50)).alloc (.cells #[S xa, _] 50) = w0 at *
    with_reducible refine (eqTx_as xt yt _ _ w0 (InL.move HU.out (fun _ _ h => h) HB.out.size (Below.refl _ _)) (InL.move HV.out (fun _ _ h => h) HB.out.size (Below.refl _ _))).mono ?_
    rintro e w1 ⟨rfl, hb1⟩
    have HB1 := Lib.hid (HB.out.trans (hb1.mono HB.out.size))
    clear hb1
    go_wp2
    go_ret
    exact ⟨by rw [show decide (xt = yt) = decide ((xa, xt) = (xa, yt)) from decide_eq_decide.2 ⟨fun h => by rw [h], fun h => (Prod.mk.inj h).2⟩]; rfl, HB1.out⟩
  · have hbe : (xa == ya) = false := by simp [hxy]
    go_wp2
    go_ret
    exact ⟨by rw [show decide ((xa, xt) = (ya, yt)) = false from by simp [hxy]]; rfl, HB.out⟩
set_option maxRecDepth 100000 in
set_option maxHeartbeats 6400000 in
theorem eqUnt_as (l1 l2 : List UntM) (v1 v2 : Value) (w : World) (h1 : UntL w w.heap.size v1 l1) (h2 : UntL w w.heap.size v2 l2) :
    Calls Try.prog 20 #[v1, v2, .func (Fn.func 21) #[] #[]] w fun e w' => e = .returned (.bool (decide (l1 = l2))) ∧ Below w.heap.size w w' := by
  obtain ⟨a1, c1, rfl, hc1, hm1, hx1⟩ := h1
  obtain ⟨a2, c2, rfl, hc2, hm2, hx2⟩ := h2
  unfold maxLen at hm1 hm2
  have HX1 := Lib.hid hx1
  have HX2 := Lib.hid hx2
  clear hx1 hx2
  go_enter Try.func20, Try.ntmps20
  by_cases hlen : l1.length = l2.length
  · have hli : (l1.length : Int) = (l2.length : Int) := by omega
    go_wp2_with fail
    have hle1 : l1.length ≤ l2.length := by omega
    have hle2 : l2.length ≤ l1.length := by omega
    clear hli hlen
    go_loopw [17] (fun i wr => ∃ k : Nat, k ≤ l1.length ∧ i = .int .i64 (k : Int) ∧ l1.take k = l2.take k ∧ Below w.heap.size w wr) (fun i _ => l1.length - (intOf i).toNat)
    case atStart => exact ⟨0, Nat.zero_le _, rfl, rfl, Below.refl _ _⟩
    case round =>
      obtain ⟨k, hk, rfl, htk, hb⟩ := hrel
      have HB := Lib.hid hb
      have HTK := Lib.hid htk
      have hbs := hb.size
      clear hb htk
      by_cases hlt : k < l1.length
      · obtain ⟨b1, o1, rfl, hb1, _, hy1⟩ := HX1.out (by omega)
        obtain ⟨b2, o2, rfl, hb2, _, hy2⟩ := HX2.out (by omega)
        obtain ⟨d1, hA1, _, hq1⟩ := hy1 k hlt
        obtain ⟨d2, hA2, _, hq2⟩ := hy2 k (by omega)
        have hlt2 : k < l2.length := by omega
        have HS := Lib.hid (take_two l1 l2 k hlt hlt2)
        obtain ⟨x, hx⟩ : ∃ x, x = l1[k] := ⟨_, rfl⟩
        obtain ⟨y, hy⟩ : ∃ y, y = l2[k] := ⟨_, rfl⟩
        rw [← hx] at hA1 HS
        rw [← hy] at hA2 HS
        clear hx hy
        obtain ⟨u, rfl, hu⟩ := hA1
        obtain ⟨v, rfl, hv⟩ := hA2
        have p0 : wr.cell? ⟨b1, o1 + k * 2, none⟩ = _ := (HB.out.cell (p := ⟨b1, o1 + k * 2, none⟩) hb1).trans (hq1 0 (by decide))
        have p1 : wr.cell? ⟨b1, o1 + k * 2 + 1, none⟩ = _ := (HB.out.cell (p := ⟨b1, o1 + k * 2 + 1, none⟩) hb1).trans (hq1 1 (by decide))
        simp only [List.getElem?_cons_zero, List.getElem?_cons_succ] at p0 p1
        have HB2 := Lib.hid ((HB.out.alloc hbs (.cells #[S x.1, u] 50)))
        have r0 : (wr.alloc (.cells #[S x.1, u] 50)).cell? ⟨b2, o2 + k * 2, none⟩ = _ := (HB2.out.cell (p := ⟨b2, o2 + k * 2, none⟩) hb2).trans (hq2 0 (by decide))
        have r1 : (wr.alloc (.cells #[S x.1, u] 50)).cell? ⟨b2, o2 + k * 2 + 1, none⟩ = _ := (HB2.out.cell (p := ⟨b2, o2 + k * 2 + 1, none⟩) hb2).trans (hq2 1 (by decide))
        simp only [List.getElem?_cons_zero, List.getElem?_cons_succ] at r0 r1
        clear hq1 hq2 hy1 hy2
        have hs1 : (wr.alloc (.cells #[S x.1, u] 50)).heap.size = wr.heap.size + 1 := by simp
        have HB3 := Lib.hid (HB2.out.alloc (by omega) (.cells #[S y.1, v] 50))
        have HU := Lib.hid (TxL.move hu (Nat.le_refl _) HB3.out)
        have HV := Lib.hid (TxL.move hv (Nat.le_refl _) HB3.out)
        obtain ⟨ua, uc, rfl, _, _, _⟩ := hu
        obtain ⟨va, vc, rfl, _, _, _⟩ := hv
        have hki : (k : Int) < (l1.length : Int) := by omega
        have hki2 : (k : Int) < (l2.length : Int) := by omega
        go_wp2_with fail
        have HC := Lib.hid (sameUnt_as x y _ _ _ (InL.move HU.out (fun _ _ h => h) HB3.out.size (Below.refl _ _)) (InL.move HV.out (fun _ _ h => h) HB3.out.size (Below.refl _ _)))
        generalize (wr.alloc (.cells #[S x.1, _] 50)).alloc (.cells #[S y.1, _] 50) = w3 at *
        with_reducible refine (HC.out).mono ?_
        rintro e w4 ⟨rfl, hb4⟩
        have HB4 := Lib.hid (HB3.out.trans (hb4.mono HB3.out.size))
        clear hb4 HC
        by_cases hxy : x = y
        · have hd : decide (x = y) = true := by simp [hxy]
          rw [hd]
          go_wp2
          go_roundw
          case rel => exact ⟨k + 1, by omega, by go_num, HS.out.2 ⟨HTK.out, hxy⟩, HB4.out⟩
          case measure => simp [intOf]; omega
        · have hd : decide (x = y) = false := by simp [hxy]
          rw [hd]
          go_wp2
          go_ret
          exact ⟨by rw [show decide (l1 = l2) = false from by simp; intro e; subst e; exact hxy (HS.out.1 rfl).2]; rfl, HB4.out⟩
      · have hke : k = l1.length := by omega
        have hnl : ¬ (k : Int) < (l1.length : Int) := by omega
        go_wp2
        go_ret
        exact ⟨by rw [show decide (l1 = l2) = true from by simp; have h := HTK.out; rwa [List.take_of_length_le (by omega), List.take_of_length_le (by omega)] at h]; rfl, HB.out⟩
  · have hli : ¬ (l1.length : Int) = (l2.length : Int) := by omega
    go_wp2
    go_ret
    exact ⟨by simp; intro e; exact hlen (by rw [e]), Below.refl _ _⟩
end Go.Proofs.Ytkbigfkpgjhojaa
