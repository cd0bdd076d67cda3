/- The reader of patterns: places ahead of the point. -/
import Derived.Test.YtmmllhdphlnpjaaDoorPtF
namespace Florin
theorem grp_sum {h m : Nat} {l : List UInt8} {x : Nat × Nat × Nat} {r : List UInt8} (hx : grpP h m l = .ok x r) : x.1 + x.2.1 + r.length = h + m + l.length ∧ x.2.2 ≤ l.length := by
  unfold grpP at hx
  dsimp only at hx
  generalize ha : (if m = 0 then cntP [35] l else 0) = a at hx
  have hal : a ≤ l.length := by
    rw [← ha]
    by_cases hm0 : m = 0
    · rw [if_pos hm0]; have := Go.Proofs.YtmmllhdphlnpjaaDoor.cnt_le (g := [35]) (by simp) _ l (Nat.le_refl _); simpa using this
    · rw [if_neg hm0]; omega
  have hzl := Go.Proofs.YtmmllhdphlnpjaaDoor.cnt_le (g := [48]) (by simp) _ (l.drop a) (Nat.le_refl _)
  rw [List.length_drop] at hzl
  generalize cntP [48] (l.drop a) = z at hx hzl
  simp only [List.length_cons, List.length_nil] at hzl
  by_cases h0 : a + z = 0
  · rw [if_pos h0] at hx; cases hx
  · rw [if_neg h0] at hx
    injection hx with h1 h2
    subst h1 h2
    simp only [List.length_drop]
    omega
end Florin
namespace Go.Proofs.YtmmllhdphlnpjaaDoor
open Go.RowKit Florin
set_option linter.unusedVariables false
set_option linter.unusedSimpArgs false
attribute [local go_sem ↓] Go.wp_at_zero Go.wp_at_succ
/-- The cells of a pattern of which nothing is known yet. -/
abbrev Z0 : Array Value := #[.slice none 0 0, .slice none 0 0, .slice none 0 0, .slice none 0 0, .bool false, .int .i64 0, .int .i64 0, .int .i64 0, .int .i64 0, .int .i64 0, .int .i64 0]
/-- A number's places as a value. -/
def NV (_ : World) (x : NumT) (v : Value) : Prop := v = .agg (NC x.hash x.int x.minF x.maxF x.grp x.more)
theorem grown_two {w w0 w1 w2 : World} {b c : Nat} (h : w.grownBy w0 (some b)) (h1 : w0.grownBy w1 (some b)) (h2 : w1.grownBy w2 (some c)) (hc : w.heap.size ≤ c) : w.grownBy w2 (some b) :=
  ⟨h2.os.trans (h1.os.trans h.os), h2.tape.trans (h1.tape.trans h.tape), h2.output.trans (h1.output.trans h.output), Nat.le_trans h.size (Nat.le_trans h1.size h2.size), fun k hk hn =>
    (h2.block k (Nat.lt_of_lt_of_le hk (Nat.le_trans h.size h1.size)) (fun e => by have := Option.some.inj e; omega)).trans ((h1.block k (Nat.lt_of_lt_of_le hk h.size) hn).trans (h.block k hk hn))⟩
/-- A store of a whole pattern, cell by cell. -/
abbrev put11 (W : World) (n : Nat) (v0 v1 v2 v3 v4 v5 v6 v7 v8 v9 v10 : Value) : World :=
  ((((((((((W.setCell ⟨n, 0, none⟩ v0).setCell ⟨n, 1, none⟩ v1).setCell ⟨n, 2, none⟩ v2).setCell ⟨n, 3, none⟩ v3).setCell ⟨n, 4, none⟩ v4).setCell ⟨n, 5, none⟩ v5).setCell ⟨n, 6, none⟩ v6).setCell ⟨n, 7, none⟩ v7).setCell ⟨n, 8, none⟩ v8).setCell ⟨n, 9, none⟩ v9).setCell ⟨n, 10, none⟩ v10
theorem BoxT.put11 {W : World} {n : Nat} {u0 u1 u2 u3 u4 u5 u6 u7 u8 u9 u10 : Value} {t : TypeId} (h : BoxT W n #[u0, u1, u2, u3, u4, u5, u6, u7, u8, u9, u10] t) (v0 v1 v2 v3 v4 v5 v6 v7 v8 v9 v10 : Value) : BoxT (put11 W n v0 v1 v2 v3 v4 v5 v6 v7 v8 v9 v10) n #[v0, v1, v2, v3, v4, v5, v6, v7, v8, v9, v10] t := by
  have h0 : BoxT _ n #[v0, u1, u2, u3, u4, u5, u6, u7, u8, u9, u10] t := h.set 0 v0
  have h1 : BoxT _ n #[v0, v1, u2, u3, u4, u5, u6, u7, u8, u9, u10] t := h0.set 1 v1
  have h2 : BoxT _ n #[v0, v1, v2, u3, u4, u5, u6, u7, u8, u9, u10] t := h1.set 2 v2
  have h3 : BoxT _ n #[v0, v1, v2, v3, u4, u5, u6, u7, u8, u9, u10] t := h2.set 3 v3
  have h4 : BoxT _ n #[v0, v1, v2, v3, v4, u5, u6, u7, u8, u9, u10] t := h3.set 4 v4
  have h5 : BoxT _ n #[v0, v1, v2, v3, v4, v5, u6, u7, u8, u9, u10] t := h4.set 5 v5
  have h6 : BoxT _ n #[v0, v1, v2, v3, v4, v5, v6, u7, u8, u9, u10] t := h5.set 6 v6
  have h7 : BoxT _ n #[v0, v1, v2, v3, v4, v5, v6, v7, u8, u9, u10] t := h6.set 7 v7
  have h8 : BoxT _ n #[v0, v1, v2, v3, v4, v5, v6, v7, v8, u9, u10] t := h7.set 8 v8
  have h9 : BoxT _ n #[v0, v1, v2, v3, v4, v5, v6, v7, v8, v9, u10] t := h8.set 9 v9
  exact h9.set 10 v10
theorem Rd.put11 {W : World} {b : Nat} {T : ByteArray} {p n : Nat} (h : Rd W b T p) (hn : b ≠ n) (v0 v1 v2 v3 v4 v5 v6 v7 v8 v9 v10 : Value) : Rd (put11 W n v0 v1 v2 v3 v4 v5 v6 v7 v8 v9 v10) b T p :=
  ((((((((((h.other (a := ⟨n, 0, none⟩) hn v0).other (a := ⟨n, 1, none⟩) hn v1).other (a := ⟨n, 2, none⟩) hn v2).other (a := ⟨n, 3, none⟩) hn v3).other (a := ⟨n, 4, none⟩) hn v4).other (a := ⟨n, 5, none⟩) hn v5).other (a := ⟨n, 6, none⟩) hn v6).other (a := ⟨n, 7, none⟩) hn v7).other (a := ⟨n, 8, none⟩) hn v8).other (a := ⟨n, 9, none⟩) hn v9).other (a := ⟨n, 10, none⟩) hn v10
theorem grown_set_new {a b : World} {r : Option Nat} (h : a.grownBy b r) {c : Nat} (hc : a.heap.size ≤ c) (i : Nat) (v : Value) : a.grownBy (b.setCell ⟨c, i, none⟩ v) r :=
  ⟨h.os, h.tape, h.output, by simpa [World.setCell] using h.size, fun k hk hn => (Below.heap_setCell _ _ _ _ (by simp only; omega)).trans (h.block k hk hn)⟩
theorem grown_put11 {w W : World} {r : Option Nat} (h : w.grownBy W r) {n : Nat} (hn : w.heap.size ≤ n) (v0 v1 v2 v3 v4 v5 v6 v7 v8 v9 v10 : Value) : w.grownBy (put11 W n v0 v1 v2 v3 v4 v5 v6 v7 v8 v9 v10) r :=
  grown_set_new (grown_set_new (grown_set_new (grown_set_new (grown_set_new (grown_set_new (grown_set_new (grown_set_new (grown_set_new (grown_set_new (grown_set_new h hn 0 v0) hn 1 v1) hn 2 v2) hn 3 v3) hn 4 v4) hn 5 v5) hn 6 v6) hn 7 v7) hn 8 v8) hn 9 v9) hn 10 v10
set_option maxRecDepth 100000 in
set_option maxHeartbeats 3200000 in
theorem places_as (b : Nat) (T : ByteArray) (p : Nat) (l : List UInt8) (w : World) (h : Rd w b T p) (ha : At T p l) (hT : T.size ≤ 1000) (R : PR NumT) (hR : plcP l = R) :
    Calls Tryd.prog 40 #[.pointer (some ⟨b, 0, none⟩)] w (PTold b T w NV R) := by
  have HA := Lib.hid ha
  have hlen := ha.len
  have bl := h.lt
  have X0 : Hid (BoxT ((w.alloc (.cells Z0 TP)).alloc (.cells Z0 TP)) w.heap.size (NC 0 0 0 0 0 0) TP) := Lib.hid ((BoxT.new w Z0 TP).alloc (.cells Z0 TP))
  have P0 : Hid (BoxT ((w.alloc (.cells Z0 TP)).alloc (.cells Z0 TP)) (w.heap.size + 1) (NC 0 0 0 0 0 0) TP) := Lib.hid (by
    have h1 := BoxT.new (w.alloc (.cells Z0 TP)) Z0 TP
    rw [show (w.alloc (.cells Z0 TP)).heap.size = w.heap.size + 1 by simp] at h1
    exact h1)
  have R0 := Lib.hid (Rd.alloc (Rd.alloc h (.cells Z0 TP)) (.cells Z0 TP))
  have G0 := Lib.hid (grown_alloc (grown_alloc (World.grownBy.refl w (some b)) (.cells Z0 TP)) (.cells Z0 TP))
  obtain ⟨R1, hR1⟩ : ∃ R1, grpP 0 0 l = R1 := ⟨_, rfl⟩
  have HR1 := Lib.hid hR1
  have HQ := Lib.hid hR
  clear h ha hR hR1
  go_enter Tryd.func40, Tryd.ntmps40
  go_wp2_with fail
  with_reducible refine (group_as b (w.heap.size + 1) T p l _ R0.out HA.out hT 0 0 0 0 0 0 P0.out (by omega) (by omega) R1 HR1.out).mono ?_
  intro e w1 ht
  cases R1 with
  | bad r =>
    obtain ⟨q, rfl, hat, hg⟩ := ht
    have Q2 : Hid (.bad r = R) := Lib.hid (by rw [← HQ.out]; unfold plcP; rw [HR1.out])
    have G1 := Lib.hid (grown_trans G0.out hg)
    clear hg
    go_wp2
    rw [← Q2.out]
    exact ⟨rfl, q, rfl, hat, G1.out⟩
  | ok x r =>
    obtain ⟨q, rfl, hcx, hat, hr, w0, hg1, hg2⟩ := ht
    have Q1 : Hid (plcL 2 x.1 x.2.1 0 0 r = R) := Lib.hid (by rw [← HQ.out]; unfold plcP; rw [HR1.out])
    have hsum := (grp_sum HR1.out).1
    have G1 := Lib.hid (grown_two G0.out hg1 hg2 (by omega))
    have X1 := Lib.hid ((X0.out.grown hg1 (fun e => by have := Option.some.inj e; omega)).grown hg2 (fun e => by have := Option.some.inj e; omega))
    have C1 := Lib.hid hcx
    have A1 := Lib.hid hat
    have RR1 := Lib.hid hr
    clear hcx hat hr hg1 hg2
    go_wp2_with fail
    go_loopw [6] (fun i wr => ∃ (k H m g o q : Nat) (s : List UInt8), k ≤ 2 ∧ i = .int .i64 (((2 - k : Nat) : Nat) : Int) ∧ H + m + s.length ≤ T.size ∧ g ≤ 1000 ∧ o ≤ 1000 ∧ plcL k H m g o s = R ∧ BoxT wr (w.heap.size + 1) (NC H m 0 0 g o) TP ∧ BoxT wr w.heap.size (NC 0 0 0 0 0 0) TP ∧ At T q s ∧ Rd wr b T q ∧ w.grownBy wr (some b)) (fun i _ => 2 - (intOf i).toNat)
    case atStart => exact ⟨2, x.1, x.2.1, 0, 0, q, r, Nat.le_refl _, rfl, by omega, by omega, by omega, Q1.out, C1.out, X1.out, A1.out, RR1.out, G1.out⟩
    case round =>
      obtain ⟨k, H, m, g, o, q, s, hk, rfl, hsm, hgl, hol, hpl, hc, hx, hat, hr, hg⟩ := hrel
      have HS := Lib.hid hpl
      have HC := Lib.hid hc
      have HX := Lib.hid hx
      have AQ := Lib.hid hat
      have RQ := Lib.hid hr
      have GQ := Lib.hid hg
      clear hpl hc hx hat hr hg X0 P0 R0 G0 X1 C1 A1 RR1 G1
      cases k with
      | zero =>
        have c9 := HC.out.cell 9
        have c10 := HC.out.cell 10
        have c0 := HC.out.cell 0
        have c1 := HC.out.cell 1
        have c2 := HC.out.cell 2
        have c3 := HC.out.cell 3
        have c4 := HC.out.cell 4
        have c5 := HC.out.cell 5
        have c6 := HC.out.cell 6
        have c7 := HC.out.cell 7
        have c8 := HC.out.cell 8
        have zc := HC.out.frozen 10
        have cl := HC.out.lt
        have x0 := HX.out.cell 0
        have x1 := HX.out.cell 1
        have x2 := HX.out.cell 2
        have x3 := HX.out.cell 3
        have x4 := HX.out.cell 4
        have x5 := HX.out.cell 5
        have x6 := HX.out.cell 6
        have x7 := HX.out.cell 7
        have x8 := HX.out.cell 8
        have x9 := HX.out.cell 9
        have x10 := HX.out.cell 10
        have zx0 := HX.out.frozen 0
        have zx1 := HX.out.frozen 1
        have zx2 := HX.out.frozen 2
        have zx3 := HX.out.frozen 3
        have zx4 := HX.out.frozen 4
        have zx5 := HX.out.frozen 5
        have zx6 := HX.out.frozen 6
        have zx7 := HX.out.frozen 7
        have zx8 := HX.out.frozen 8
        have zx9 := HX.out.frozen 9
        have zx10 := HX.out.frozen 10
        have xl := HX.out.lt
        simp at c0 c1 c2 c3 c4 c5 c6 c7 c8 c9 c10 x0 x1 x2 x3 x4 x5 x6 x7 x8 x9 x10
        by_cases ho : o = g
        · have hob : ((o : Int) == (g : Int)) = true := by rw [ho]; simp
          have HQE : Hid (.ok ⟨H, m, 0, 0, g, 0⟩ s = R) := Lib.hid (by rw [← HS.out]; unfold plcL; rw [ho]; simp)
          clear ho
          go_wp2
          have DX := BoxT.put11 (show BoxT _ _ #[_, _, _, _, _, _, _, _, _, _, _] TP from HX.out.other (a := ⟨w.heap.size + 1, 10, none⟩) (show w.heap.size ≠ w.heap.size + 1 by omega) (.int .i64 0)) (.slice none 0 0) (.slice none 0 0) (.slice none 0 0) (.slice none 0 0) (.bool false) (.int .i64 (H : Int)) (.int .i64 (m : Int)) (.int .i64 0) (.int .i64 0) (.int .i64 (g : Int)) (.int .i64 0)
          have r0 := DX.cell 0
          have r1 := DX.cell 1
          have r2 := DX.cell 2
          have r3 := DX.cell 3
          have r4 := DX.cell 4
          have r5 := DX.cell 5
          have r6 := DX.cell 6
          have r7 := DX.cell 7
          have r8 := DX.cell 8
          have r9 := DX.cell 9
          have r10 := DX.cell 10
          simp at r0 r1 r2 r3 r4 r5 r6 r7 r8 r9 r10
          refine bodyPost_ret (v := .agg #[.slice none 0 0, .slice none 0 0, .slice none 0 0, .slice none 0 0, .bool false, .int .i64 (H : Int), .int .i64 (m : Int), .int .i64 0, .int .i64 0, .int .i64 (g : Int), .int .i64 0]) (by simp [results, Tryd.results40, go_sem, r0, r1, r2, r3, r4, r5, r6, r7, r8, r9, r10]) rfl ?_
          rw [← HQE.out]
          exact ⟨_, q, rfl, rfl, AQ.out, Rd.put11 (RQ.out.other (a := ⟨w.heap.size + 1, 10, none⟩) (show b ≠ w.heap.size + 1 by omega) (.int .i64 0)) (show b ≠ w.heap.size by omega) _ _ _ _ _ _ _ _ _ _ _, grown_put11 (grown_set_new GQ.out (show w.heap.size ≤ w.heap.size + 1 by omega) 10 (.int .i64 0)) (by omega) _ _ _ _ _ _ _ _ _ _ _⟩
        · have hob : ((o : Int) == (g : Int)) = false := by simp; omega
          have HQE : Hid (.ok ⟨H, m, 0, 0, g, o⟩ s = R) := Lib.hid (by rw [← HS.out]; unfold plcL; simp [ho])
          clear ho
          go_wp2
          have DX := BoxT.put11 (show BoxT _ _ #[_, _, _, _, _, _, _, _, _, _, _] TP from HX.out) (.slice none 0 0) (.slice none 0 0) (.slice none 0 0) (.slice none 0 0) (.bool false) (.int .i64 (H : Int)) (.int .i64 (m : Int)) (.int .i64 0) (.int .i64 0) (.int .i64 (g : Int)) (.int .i64 (o : Int))
          have r0 := DX.cell 0
          have r1 := DX.cell 1
          have r2 := DX.cell 2
          have r3 := DX.cell 3
          have r4 := DX.cell 4
          have r5 := DX.cell 5
          have r6 := DX.cell 6
          have r7 := DX.cell 7
          have r8 := DX.cell 8
          have r9 := DX.cell 9
          have r10 := DX.cell 10
          simp at r0 r1 r2 r3 r4 r5 r6 r7 r8 r9 r10
          refine bodyPost_ret (v := .agg #[.slice none 0 0, .slice none 0 0, .slice none 0 0, .slice none 0 0, .bool false, .int .i64 (H : Int), .int .i64 (m : Int), .int .i64 0, .int .i64 0, .int .i64 (g : Int), .int .i64 (o : Int)]) (by simp [results, Tryd.results40, go_sem, r0, r1, r2, r3, r4, r5, r6, r7, r8, r9, r10]) rfl ?_
          rw [← HQE.out]
          exact ⟨_, q, rfl, rfl, AQ.out, Rd.put11 (RQ.out) (show b ≠ w.heap.size by omega) _ _ _ _ _ _ _ _ _ _ _, grown_put11 (GQ.out) (by omega) _ _ _ _ _ _ _ _ _ _ _⟩
      | succ k =>
        have hki : (((2 - (k + 1) : Nat) : Nat) : Int) < 2 := by omega
        cases hp : [44].isPrefixOf s with
        | false =>
          have HP := Lib.hid hp
          clear hp
          go_wp2_with fail
          with_reducible refine (takes_false [44] b T q s _ RQ.out AQ.out (by omega) HP.out).mono ?_
          rintro e w2 ⟨rfl, hr, hg⟩
          have RQ2 := Lib.hid hr
          have HC2 := Lib.hid (HC.out.grown hg (fun e => by have := Option.some.inj e; omega))
          have HX2 := Lib.hid (HX.out.grown hg (fun e => by have := Option.some.inj e; omega))
          have GQ2 := Lib.hid (grown_trans GQ.out hg)
          clear hr hg RQ HC HX GQ
          have c9 := HC2.out.cell 9
          have c10 := HC2.out.cell 10
          have c0 := HC2.out.cell 0
          have c1 := HC2.out.cell 1
          have c2 := HC2.out.cell 2
          have c3 := HC2.out.cell 3
          have c4 := HC2.out.cell 4
          have c5 := HC2.out.cell 5
          have c6 := HC2.out.cell 6
          have c7 := HC2.out.cell 7
          have c8 := HC2.out.cell 8
          have zc := HC2.out.frozen 10
          have cl := HC2.out.lt
          have x0 := HX2.out.cell 0
          have x1 := HX2.out.cell 1
          have x2 := HX2.out.cell 2
          have x3 := HX2.out.cell 3
          have x4 := HX2.out.cell 4
          have x5 := HX2.out.cell 5
          have x6 := HX2.out.cell 6
          have x7 := HX2.out.cell 7
          have x8 := HX2.out.cell 8
          have x9 := HX2.out.cell 9
          have x10 := HX2.out.cell 10
          have zx0 := HX2.out.frozen 0
          have zx1 := HX2.out.frozen 1
          have zx2 := HX2.out.frozen 2
          have zx3 := HX2.out.frozen 3
          have zx4 := HX2.out.frozen 4
          have zx5 := HX2.out.frozen 5
          have zx6 := HX2.out.frozen 6
          have zx7 := HX2.out.frozen 7
          have zx8 := HX2.out.frozen 8
          have zx9 := HX2.out.frozen 9
          have zx10 := HX2.out.frozen 10
          have xl := HX2.out.lt
          simp at c0 c1 c2 c3 c4 c5 c6 c7 c8 c9 c10 x0 x1 x2 x3 x4 x5 x6 x7 x8 x9 x10
          by_cases ho : o = g
          · have hob : ((o : Int) == (g : Int)) = true := by rw [ho]; simp
            have HQE : Hid (.ok ⟨H, m, 0, 0, g, 0⟩ s = R) := Lib.hid (by rw [← HS.out]; unfold plcL; rw [if_neg (by rw [HP.out]; decide)]; rw [ho]; simp)
            clear ho
            go_wp2
            have DX := BoxT.put11 (show BoxT _ _ #[_, _, _, _, _, _, _, _, _, _, _] TP from HX2.out.other (a := ⟨w.heap.size + 1, 10, none⟩) (show w.heap.size ≠ w.heap.size + 1 by omega) (.int .i64 0)) (.slice none 0 0) (.slice none 0 0) (.slice none 0 0) (.slice none 0 0) (.bool false) (.int .i64 (H : Int)) (.int .i64 (m : Int)) (.int .i64 0) (.int .i64 0) (.int .i64 (g : Int)) (.int .i64 0)
            have r0 := DX.cell 0
            have r1 := DX.cell 1
            have r2 := DX.cell 2
            have r3 := DX.cell 3
            have r4 := DX.cell 4
            have r5 := DX.cell 5
            have r6 := DX.cell 6
            have r7 := DX.cell 7
            have r8 := DX.cell 8
            have r9 := DX.cell 9
            have r10 := DX.cell 10
            simp at r0 r1 r2 r3 r4 r5 r6 r7 r8 r9 r10
            refine bodyPost_ret (v := .agg #[.slice none 0 0, .slice none 0 0, .slice none 0 0, .slice none 0 0, .bool false, .int .i64 (H : Int), .int .i64 (m : Int), .int .i64 0, .int .i64 0, .int .i64 (g : Int), .int .i64 0]) (by simp [results, Tryd.results40, go_sem, r0, r1, r2, r3, r4, r5, r6, r7, r8, r9, r10]) rfl ?_
            rw [← HQE.out]
            exact ⟨_, q, rfl, rfl, AQ.out, Rd.put11 (RQ2.out.other (a := ⟨w.heap.size + 1, 10, none⟩) (show b ≠ w.heap.size + 1 by omega) (.int .i64 0)) (show b ≠ w.heap.size by omega) _ _ _ _ _ _ _ _ _ _ _, grown_put11 (grown_set_new GQ2.out (show w.heap.size ≤ w.heap.size + 1 by omega) 10 (.int .i64 0)) (by omega) _ _ _ _ _ _ _ _ _ _ _⟩
          · have hob : ((o : Int) == (g : Int)) = false := by simp; omega
            have HQE : Hid (.ok ⟨H, m, 0, 0, g, o⟩ s = R) := Lib.hid (by rw [← HS.out]; unfold plcL; rw [if_neg (by rw [HP.out]; decide)]; simp [ho])
            clear ho
            go_wp2
            have DX := BoxT.put11 (show BoxT _ _ #[_, _, _, _, _, _, _, _, _, _, _] TP from HX2.out) (.slice none 0 0) (.slice none 0 0) (.slice none 0 0) (.slice none 0 0) (.bool false) (.int .i64 (H : Int)) (.int .i64 (m : Int)) (.int .i64 0) (.int .i64 0) (.int .i64 (g : Int)) (.int .i64 (o : Int))
            have r0 := DX.cell 0
            have r1 := DX.cell 1
            have r2 := DX.cell 2
            have r3 := DX.cell 3
            have r4 := DX.cell 4
            have r5 := DX.cell 5
            have r6 := DX.cell 6
            have r7 := DX.cell 7
            have r8 := DX.cell 8
            have r9 := DX.cell 9
            have r10 := DX.cell 10
            simp at r0 r1 r2 r3 r4 r5 r6 r7 r8 r9 r10
            refine bodyPost_ret (v := .agg #[.slice none 0 0, .slice none 0 0, .slice none 0 0, .slice none 0 0, .bool false, .int .i64 (H : Int), .int .i64 (m : Int), .int .i64 0, .int .i64 0, .int .i64 (g : Int), .int .i64 (o : Int)]) (by simp [results, Tryd.results40, go_sem, r0, r1, r2, r3, r4, r5, r6, r7, r8, r9, r10]) rfl ?_
            rw [← HQE.out]
            exact ⟨_, q, rfl, rfl, AQ.out, Rd.put11 (RQ2.out) (show b ≠ w.heap.size by omega) _ _ _ _ _ _ _ _ _ _ _, grown_put11 (GQ2.out) (by omega) _ _ _ _ _ _ _ _ _ _ _⟩
        | true =>
          have HP := Lib.hid hp
          have hl1 := pre_len2 hp
          simp only [List.length_cons, List.length_nil] at hl1
          obtain ⟨R2, hR2⟩ : ∃ R2, grpP H m (s.drop 1) = R2 := ⟨_, rfl⟩
          have HR2 := Lib.hid hR2
          have A1 := Lib.hid (AQ.out.drop 1 hl1)
          clear hp hR2
          go_wp2_with fail
          with_reducible refine (takes_true [44] b T q s _ RQ.out AQ.out (by omega) HP.out).mono ?_
          rintro e w2 ⟨rfl, hr, hg⟩
          have RQ2 := Lib.hid hr
          have HC2 := Lib.hid (HC.out.grown hg (fun e => by have := Option.some.inj e; omega))
          have HX2 := Lib.hid (HX.out.grown hg (fun e => by have := Option.some.inj e; omega))
          have GQ2 := Lib.hid (grown_trans GQ.out hg)
          clear hr hg RQ HC HX GQ
          have c9 := HC2.out.cell 9
          have c10 := HC2.out.cell 10
          have zc := HC2.out.frozen 10
          have cl := HC2.out.lt
          simp at c9 c10
          have HC3 : Hid (BoxT (w2.setCell ⟨w.heap.size + 1, 10, none⟩ (.int .i64 (g : Int))) (w.heap.size + 1) (NC H m 0 0 g g) TP) := Lib.hid (HC2.out.set 10 (.int .i64 (g : Int)))
          have HX3 := Lib.hid (HX2.out.other (a := ⟨w.heap.size + 1, 10, none⟩) (show w.heap.size ≠ w.heap.size + 1 by omega) (.int .i64 (g : Int)))
          have RQ3 := Lib.hid (RQ2.out.other (a := ⟨w.heap.size + 1, 10, none⟩) (show b ≠ w.heap.size + 1 by omega) (.int .i64 (g : Int)))
          have GQ3 := Lib.hid (grown_set_new GQ2.out (show w.heap.size ≤ w.heap.size + 1 by omega) 10 (.int .i64 (g : Int)))
          go_wp2_with fail
          with_reducible refine (group_as b (w.heap.size + 1) T (q + 1) (s.drop 1) _ RQ3.out A1.out hT H m 0 0 g g HC3.out (by omega) (by omega) R2 HR2.out).mono ?_
          intro e w3 ht
          cases R2 with
          | bad r2 =>
            obtain ⟨q2, rfl, hat, hg⟩ := ht
            have HQE : Hid (.bad r2 = R) := Lib.hid (by rw [← HS.out]; unfold plcL; rw [if_pos HP.out, HR2.out])
            have G4 := Lib.hid (grown_trans GQ3.out hg)
            clear hg
            go_wp2
            rw [← HQE.out]
            exact ⟨rfl, q2, rfl, hat, G4.out⟩
          | ok x2 r2 =>
            obtain ⟨q2, rfl, hcx, hat, hr, w4, hg1, hg2⟩ := ht
            have HS2 : Hid (plcL k x2.1 x2.2.1 x2.2.2 g r2 = R) := Lib.hid (by rw [← HS.out]; rw [show plcL (k + 1) H m g o s = (if [44].isPrefixOf s then match grpP H m (s.drop 1) with | .bad r => .bad r | .ok x r => plcL k x.1 x.2.1 x.2.2 g r else .ok ⟨H, m, 0, 0, g, if o = g then 0 else o⟩ s) from rfl, if_pos HP.out, HR2.out])
            have hsum2 := grp_sum HR2.out
            have hsl : (s.drop 1).length = s.length - 1 := List.length_drop
            have G4 := Lib.hid (grown_two GQ3.out hg1 hg2 (show w.heap.size ≤ w.heap.size + 1 by omega))
            have X4 := Lib.hid ((HX3.out.grown hg1 (fun e => by have := Option.some.inj e; omega)).grown hg2 (fun e => by have := Option.some.inj e; omega))
            have C4 := Lib.hid hcx
            have A4 := Lib.hid hat
            have R4 := Lib.hid hr
            have d9 := hcx.cell 9
            have zd := hcx.frozen 9
            have dl := hcx.lt
            simp at d9
            have C5 : Hid (BoxT (w3.setCell ⟨w.heap.size + 1, 9, none⟩ (.int .i64 (x2.2.2 : Int))) (w.heap.size + 1) (NC x2.1 x2.2.1 0 0 x2.2.2 g) TP) := Lib.hid (C4.out.set 9 (.int .i64 (x2.2.2 : Int)))
            have X5 := Lib.hid (X4.out.other (a := ⟨w.heap.size + 1, 9, none⟩) (show w.heap.size ≠ w.heap.size + 1 by omega) (.int .i64 (x2.2.2 : Int)))
            have R5 := Lib.hid (R4.out.other (a := ⟨w.heap.size + 1, 9, none⟩) (show b ≠ w.heap.size + 1 by omega) (.int .i64 (x2.2.2 : Int)))
            have G5 := Lib.hid (grown_set_new G4.out (show w.heap.size ≤ w.heap.size + 1 by omega) 9 (.int .i64 (x2.2.2 : Int)))
            clear hcx hat hr hg1 hg2 HC2 HX2 RQ2 GQ2 HC3 HX3 RQ3 GQ3 c9 c10
            go_wp2
            go_roundw
            case rel => exact ⟨k, x2.1, x2.2.1, x2.2.2, g, q2, r2, by omega, by congr 1; omega, by omega, by omega, hgl, HS2.out, C5.out, X5.out, A4.out, R5.out, G5.out⟩
            case measure => simp [intOf]; omega
end Go.Proofs.YtmmllhdphlnpjaaDoor
