/- Patterns compared, as the laws compare them. -/
import Derived.Test.YtmmllhdphlnpjaaDoorPtO
import Derived.Laws.StructEq
namespace Go.Proofs.YtmmllhdphlnpjaaDoor
open Go.RowKit Florin
set_option linter.unusedVariables false
set_option linter.unusedSimpArgs false
attribute [local go_sem ↓] Go.wp_at_zero Go.wp_at_succ
def PCV (x : PcT) : Value := .agg #[.int .i64 (x.k : Int), S x.t, .int .i64 (x.n : Int)]
theorem run_Pc (x y : PcT) (w : World) : (Op.equalIn 10000 TPc (PCV x) (PCV y)).run Tryd.prog w = .ok (decide (x = y)) w := by
  unfold PCV
  rw [show (10000 : Nat) = 9999 + 1 from rfl, run_equalIn_struct w 9999 TPc _ _ (by kernel_rfl) (by kernel_rfl)]
  obtain ⟨a, b, c⟩ := x
  obtain ⟨d, e, f⟩ := y
  simp [go_sem, Tryd.underlying66, Tryd.underlying9, Tryd.underlying64, Tryd.underlying3]
  by_cases h1 : a = d
  · by_cases h2 : b = e
    · by_cases h3 : c = f
      · simp [h1, h2, h3]
      · have h3' : ¬ (c : Int) = (f : Int) := by omega
        simp [h1, h2, h3]
        omega
    · simp [h1, h2]
  · have h1' : ¬ (a : Int) = (d : Int) := by omega
    simp [h1]
    intro hh
    omega
theorem ne_Pc (x y : PcT) (w : World) : (binOp .neq TPc (.agg #[.int .i64 (x.k : Int), S x.t, .int .i64 (x.n : Int)]) (.agg #[.int .i64 (y.k : Int), S y.t, .int .i64 (y.n : Int)])).run Tryd.prog w = .ok (.bool (!decide (x = y))) w := by
  have h := run_Pc x y w
  unfold PCV at h
  rw [run_neq_struct, h]; rfl
theorem take_two {α : Type} (l1 l2 : List α) (k : Nat) (h1 : k < l1.length) (h2 : k < l2.length) : (l1.take (k + 1) = l2.take (k + 1) → l1.take k = l2.take k ∧ l1[k] = l2[k]) ∧ (l1.take k = l2.take k ∧ l1[k] = l2[k] → l1.take (k + 1) = l2.take (k + 1)) := by
  rw [List.take_succ_eq_append_getElem h1, List.take_succ_eq_append_getElem h2]
  constructor
  · intro h
    have := List.append_inj' h rfl
    exact ⟨this.1, by simpa using this.2⟩
  · rintro ⟨a, b⟩; rw [a, b]
set_option maxRecDepth 100000 in
set_option maxHeartbeats 3200000 in
theorem sameList_as (l1 l2 : List PcT) (v1 v2 : Value) (w : World) (h1 : PcL w v1 l1) (h2 : PcL w v2 l2) :
    Calls Tryd.prog 25 #[v1, v2] w fun e w' => e = .returned (.bool (decide (l1 = l2))) ∧ Below w.heap.size w w' := by
  obtain ⟨a1, c1, rfl, hc1, hm1, hx1⟩ := h1
  obtain ⟨a2, c2, rfl, hc2, hm2, hx2⟩ := h2
  unfold maxLen at hm1 hm2
  have HX1 := Lib.hid hx1
  have HX2 := Lib.hid hx2
  clear hx1 hx2
  go_enter Tryd.func25, Tryd.ntmps25
  by_cases hlen : l1.length = l2.length
  · have hli : (l1.length : Int) = (l2.length : Int) := by omega
    go_wp2_with fail
    go_loopw [13] (fun i wr => ∃ k : Nat, k ≤ l1.length ∧ i = .int .i64 (k : Int) ∧ l1.take k = l2.take k ∧ Below w.heap.size w wr) (fun i _ => l1.length - (intOf i).toNat)
    case atStart => exact ⟨0, Nat.zero_le _, rfl, rfl, Below.refl _ _⟩
    case round =>
      obtain ⟨k, hk, rfl, htk, hb⟩ := hrel
      have HB := Lib.hid hb
      have HTK := Lib.hid htk
      clear hb htk
      by_cases hlt : k < l1.length
      · obtain ⟨b1, cs1, rfl, hb1, hy1⟩ := HX1.out (by omega)
        obtain ⟨b2, cs2, rfl, hb2, hy2⟩ := HX2.out (by omega)
        obtain ⟨d1, hA1, _, hq1⟩ := hy1 k hlt
        obtain ⟨d2, hA2, _, hq2⟩ := hy2 k (by omega)
        have hlt2 : k < l2.length := by omega
        have HS := Lib.hid (take_two l1 l2 k hlt hlt2)
        obtain ⟨x, hx⟩ : ∃ x, x = l1[k] := ⟨_, rfl⟩
        obtain ⟨y, hy⟩ : ∃ y, y = l2[k] := ⟨_, rfl⟩
        rw [← hx] at hA1 HS
        rw [← hy] at hA2 HS
        clear hx hy
        obtain rfl : d1 = (pcC x).toList := hA1
        obtain rfl : d2 = (pcC y).toList := hA2
        have hbw1 := hb1.below (w' := wr) HB.out
        have hbw2 := hb2.below (w' := wr) HB.out
        have p0 : wr.cell? ⟨b1, k * 3, none⟩ = _ := (hbw1.cell (k * 3)).trans ((by rw [Array.getElem?_toList] : cs1[k * 3]? = cs1.toList[k * 3]?).trans (hq1 0 (by decide)))
        have p1 : wr.cell? ⟨b1, k * 3 + 1, none⟩ = _ := (hbw1.cell (k * 3 + 1)).trans ((by rw [Array.getElem?_toList] : cs1[k * 3 + 1]? = cs1.toList[k * 3 + 1]?).trans (hq1 1 (by decide)))
        have p2 : wr.cell? ⟨b1, k * 3 + 2, none⟩ = _ := (hbw1.cell (k * 3 + 2)).trans ((by rw [Array.getElem?_toList] : cs1[k * 3 + 2]? = cs1.toList[k * 3 + 2]?).trans (hq1 2 (by decide)))
        have r0 : wr.cell? ⟨b2, k * 3, none⟩ = _ := (hbw2.cell (k * 3)).trans ((by rw [Array.getElem?_toList] : cs2[k * 3]? = cs2.toList[k * 3]?).trans (hq2 0 (by decide)))
        have r1 : wr.cell? ⟨b2, k * 3 + 1, none⟩ = _ := (hbw2.cell (k * 3 + 1)).trans ((by rw [Array.getElem?_toList] : cs2[k * 3 + 1]? = cs2.toList[k * 3 + 1]?).trans (hq2 1 (by decide)))
        have r2 : wr.cell? ⟨b2, k * 3 + 2, none⟩ = _ := (hbw2.cell (k * 3 + 2)).trans ((by rw [Array.getElem?_toList] : cs2[k * 3 + 2]? = cs2.toList[k * 3 + 2]?).trans (hq2 2 (by decide)))
        simp [pcC] at p0 p1 p2 r0 r1 r2
        clear hq1 hq2 hy1 hy2 hbw1 hbw2 hb1 hb2
        have hki : (k : Int) < (l1.length : Int) := by omega
        have hki2 : (k : Int) < (l2.length : Int) := by omega
        have hne := ne_Pc x y
        by_cases hxy : x = y
        · have hd : decide (x = y) = true := by simp [hxy]
          rw [hd] at hne
          go_wp2_with fail
          go_region
          go_wp2
          go_roundw
          case rel => exact ⟨k + 1, by omega, by go_num, HS.out.2 ⟨HTK.out, hxy⟩, HB.out.drew⟩
          case measure => simp [intOf]; omega
        · have hd : decide (x = y) = false := by simp [hxy]
          rw [hd] at hne
          go_wp2_with fail
          go_region
          go_wp2
          go_ret
          exact ⟨by rw [show decide (l1 = l2) = false from by simp; intro e; subst e; exact hxy (HS.out.1 rfl).2]; rfl, HB.out.drew⟩
      · have hke : k = l1.length := by omega
        have hnl : ¬ (k : Int) < (l1.length : Int) := by omega
        go_wp2
        go_ret
        exact ⟨by rw [show decide (l1 = l2) = true from by simp; have h := HTK.out; rwa [List.take_of_length_le (by omega), List.take_of_length_le (by omega)] at h]; rfl, HB.out⟩
  · have hli : ¬ (l1.length : Int) = (l2.length : Int) := by omega
    go_wp2
    go_ret
    exact ⟨by simp; intro e; exact hlen (by rw [e]), Below.refl _ _⟩
abbrev TSd : TypeId := 25
set_option maxRecDepth 100000 in
set_option maxHeartbeats 3200000 in
/-- Two pairs of sides with the same pieces. -/
theorem sameSides_as (l m : List PcT) (v1 v2 u1 u2 : Value) (w : World) (h1 : PcL w v1 l) (h2 : PcL w v2 m) (k1 : PcL w u1 l) (k2 : PcL w u2 m) :
    Calls Tryd.prog 17 #[.agg #[v1, v2], .agg #[u1, u2]] w fun e w' => e = .returned (.bool true) ∧ Below w.heap.size w w' := by
  obtain ⟨a1, c1, rfl⟩ := h1.slice
  obtain ⟨a2, c2, rfl⟩ := h2.slice
  obtain ⟨b1, d1, rfl⟩ := k1.slice
  obtain ⟨b2, d2, rfl⟩ := k2.slice
  have X0 := Lib.hid ((BoxT.new w #[.slice a1 l.length c1, .slice a2 m.length c2] TSd).alloc (.cells #[.slice b1 l.length d1, .slice b2 m.length d2] TSd))
  have Y0 : Hid (BoxT ((w.alloc (.cells #[.slice a1 l.length c1, .slice a2 m.length c2] TSd)).alloc (.cells #[.slice b1 l.length d1, .slice b2 m.length d2] TSd)) (w.heap.size + 1) #[.slice b1 l.length d1, .slice b2 m.length d2] TSd) := Lib.hid (by
    have h := BoxT.new (w.alloc (.cells #[.slice a1 l.length c1, .slice a2 m.length c2] TSd)) #[.slice b1 l.length d1, .slice b2 m.length d2] TSd
    rw [show (w.alloc (.cells #[.slice a1 l.length c1, .slice a2 m.length c2] TSd)).heap.size = w.heap.size + 1 by simp] at h
    exact h)
  have B0 := Lib.hid (below_alloc2 w (.cells #[.slice a1 l.length c1, .slice a2 m.length c2] TSd) (.cells #[.slice b1 l.length d1, .slice b2 m.length d2] TSd))
  have H1 := Lib.hid (h1.keep (KeepB.below B0.out))
  have H2 := Lib.hid (h2.keep (KeepB.below B0.out))
  have K1 := Lib.hid (k1.keep (KeepB.below B0.out))
  have K2 := Lib.hid (k2.keep (KeepB.below B0.out))
  clear h1 h2 k1 k2
  go_enter Tryd.func17, Tryd.ntmps17
  go_wp2_with fail
  generalize (w.alloc (.cells #[.slice a1 l.length c1, .slice a2 m.length c2] TSd)).alloc (.cells #[.slice b1 l.length d1, .slice b2 m.length d2] TSd) = w0 at *
  with_reducible refine (sameList_as l l _ _ w0 H1.out K1.out).mono ?_
  rintro e w1 ⟨rfl, hb⟩
  have B1 := Lib.hid (B0.out.trans (hb.mono B0.out.size))
  have x1 := (X0.out.below hb).cell 1
  have y1 := (Y0.out.below hb).cell 1
  have H3 := Lib.hid (H2.out.keep (KeepB.below hb))
  have K3 := Lib.hid (K2.out.keep (KeepB.below hb))
  simp at x1 y1
  rw [show decide (l = l) = true from by simp]
  clear hb
  go_wp2_with fail
  with_reducible refine (sameList_as m m _ _ w1 H3.out K3.out).mono ?_
  rintro e w2 ⟨rfl, hb⟩
  have B2 := Lib.hid (B1.out.trans (hb.mono B1.out.size))
  rw [show decide (m = m) = true from by simp]
  clear hb
  go_wp2
  go_ret
  exact ⟨rfl, B2.out⟩
set_option maxRecDepth 100000 in
set_option maxHeartbeats 3200000 in
/-- Two patterns told alike. -/
theorem psame_as (x : PatT) (v u : Value) (w : World) (hv : PatV w x v) (hu : PatV w x u) :
    Calls Tryd.prog 8 #[v, u] w fun e w' => e = .returned (.bool true) ∧ Below w.heap.size w w' := by
  obtain ⟨_, _, _, _, rfl, h1, h2, h3, h4⟩ := hv
  obtain ⟨_, _, _, _, rfl, k1, k2, k3, k4⟩ := hu
  obtain ⟨a1, c1, rfl⟩ := h1.slice
  obtain ⟨a2, c2, rfl⟩ := h2.slice
  obtain ⟨a3, c3, rfl⟩ := h3.slice
  obtain ⟨a4, c4, rfl⟩ := h4.slice
  obtain ⟨b1, d1, rfl⟩ := k1.slice
  obtain ⟨b2, d2, rfl⟩ := k2.slice
  obtain ⟨b3, d3, rfl⟩ := k3.slice
  obtain ⟨b4, d4, rfl⟩ := k4.slice
  obtain ⟨X, hX⟩ : ∃ X, X = HC x.pos.num (.slice a1 x.pos.pre.length c1) (.slice a2 x.pos.suf.length c2) (.slice a3 (negPre x).length c3) (.slice a4 (negSuf x).length c4) x.neg.isSome := ⟨_, rfl⟩
  obtain ⟨Y, hY⟩ : ∃ Y, Y = HC x.pos.num (.slice b1 x.pos.pre.length d1) (.slice b2 x.pos.suf.length d2) (.slice b3 (negPre x).length d3) (.slice b4 (negSuf x).length d4) x.neg.isSome := ⟨_, rfl⟩
  rw [← hX, ← hY]
  have X0 := Lib.hid ((BoxT.new w X TP).alloc (.cells Y TP))
  have Y0 : Hid (BoxT ((w.alloc (.cells X TP)).alloc (.cells Y TP)) (w.heap.size + 1) Y TP) := Lib.hid (by
    have h := BoxT.new (w.alloc (.cells X TP)) Y TP
    rw [show (w.alloc (.cells X TP)).heap.size = w.heap.size + 1 by simp] at h
    exact h)
  have B0 := Lib.hid (below_alloc2 w (.cells X TP) (.cells Y TP))
  have H1 := Lib.hid (h1.keep (KeepB.below B0.out))
  have H2 := Lib.hid (h2.keep (KeepB.below B0.out))
  have H3 := Lib.hid (h3.keep (KeepB.below B0.out))
  have H4 := Lib.hid (h4.keep (KeepB.below B0.out))
  have K1 := Lib.hid (k1.keep (KeepB.below B0.out))
  have K2 := Lib.hid (k2.keep (KeepB.below B0.out))
  have K3 := Lib.hid (k3.keep (KeepB.below B0.out))
  have K4 := Lib.hid (k4.keep (KeepB.below B0.out))
  clear h1 h2 h3 h4 k1 k2 k3 k4
  have HX := Lib.hid hX
  have HY := Lib.hid hY
  clear hX hY
  generalize hL1 : x.pos.pre = L1 at *
  generalize hL2 : x.pos.suf = L2 at *
  generalize negPre x = L3 at *
  generalize negSuf x = L4 at *
  obtain ⟨h, m, a0, f0, g, o⟩ := x.pos.num
  generalize x.neg.isSome = two at *
  clear hL1 hL2
  go_enter Tryd.func8, Tryd.ntmps8
  go_upto_region 1 with fail
  generalize (w.alloc (.cells X TP)).alloc (.cells Y TP) = w0 at *
  have x0 := X0.out.cell 0
  have x1 := X0.out.cell 1
  have y0 := Y0.out.cell 0
  have y1 := Y0.out.cell 1
  rw [HX.out] at x0 x1
  rw [HY.out] at y0 y1
  simp [HC] at x0 x1 y0 y1
  go_wp2_with fail
  with_reducible refine (sameSides_as L1 L2 _ _ _ _ _ H1.out H2.out K1.out K2.out).mono ?_
  rintro e w1 ⟨rfl, hb⟩
  have B1 := Lib.hid (B0.out.trans (hb.mono B0.out.size))
  have X1 := Lib.hid (X0.out.below hb)
  have Y1 := Lib.hid (Y0.out.below hb)
  have H5 := Lib.hid (H3.out.keep (KeepB.below hb))
  have H6 := Lib.hid (H4.out.keep (KeepB.below hb))
  have K5 := Lib.hid (K3.out.keep (KeepB.below hb))
  have K6 := Lib.hid (K4.out.keep (KeepB.below hb))
  have x2 := X1.out.cell 2
  have x3 := X1.out.cell 3
  have y2 := Y1.out.cell 2
  have y3 := Y1.out.cell 3
  rw [HX.out] at x2 x3
  rw [HY.out] at y2 y3
  simp [HC] at x2 x3 y2 y3
  clear hb x0 x1 y0 y1
  go_wp2_with fail
  with_reducible refine (sameSides_as L3 L4 _ _ _ _ _ H5.out H6.out K5.out K6.out).mono ?_
  rintro e w2 ⟨rfl, hb⟩
  have B2 := Lib.hid (B1.out.trans (hb.mono B1.out.size))
  have X2 := Lib.hid (X1.out.below hb)
  have Y2 := Lib.hid (Y1.out.below hb)
  clear hb x2 x3 y2 y3
  have x4 := X2.out.cell 4
  have x5 := X2.out.cell 5
  have x6 := X2.out.cell 6
  have x7 := X2.out.cell 7
  have x8 := X2.out.cell 8
  have x9 := X2.out.cell 9
  have x10 := X2.out.cell 10
  have y4 := Y2.out.cell 4
  have y5 := Y2.out.cell 5
  have y6 := Y2.out.cell 6
  have y7 := Y2.out.cell 7
  have y8 := Y2.out.cell 8
  have y9 := Y2.out.cell 9
  have y10 := Y2.out.cell 10
  rw [HX.out] at x4 x5 x6 x7 x8 x9 x10
  rw [HY.out] at y4 y5 y6 y7 y8 y9 y10
  simp [HC] at x4 x5 x6 x7 x8 x9 x10 y4 y5 y6 y7 y8 y9 y10
  go_wp2
  go_ret
  exact ⟨rfl, B2.out⟩
end Go.Proofs.YtmmllhdphlnpjaaDoor
