/- A number, or two, as the reader reads them. -/
import Derived.Test.YtbfhkcljkblnmaaDoorCrF
namespace Go.Proofs.YtbfhkcljkblnmaaDoor
open Go.RowKit Florin
set_option linter.unusedVariables false
set_option linter.unusedSimpArgs false
attribute [local go_sem ↓] Go.wp_at_zero Go.wp_at_succ
theorem BoxT.grown {w w' : World} {b : Nat} {cs : Array Value} {t : TypeId} {r : Nat} (h : BoxT w b cs t) (hg : w.grownBy w' (some r)) (hn : b ≠ r) : BoxT w' b cs t := (hg.block b h.lt (fun e => hn (Option.some.inj e))).trans h
theorem BoxT.other {w : World} {b : Nat} {cs : Array Value} {t : TypeId} (h : BoxT w b cs t) {a : Addr} (hn : b ≠ a.block) (v : Value) : BoxT (w.setCell a v) b cs t := (Below.heap_setCell w a v b hn).trans h
theorem Rd.other {w : World} {b : Nat} {T : ByteArray} {p : Nat} (h : Rd w b T p) {a : Addr} (hn : b ≠ a.block) (v : Value) : Rd (w.setCell a v) b T p := BoxT.other h hn v
/-- A store into a block that is younger. -/
theorem grown_set_new {a b : World} {r : Option Nat} (h : a.grownBy b r) {c : Nat} (hc : a.heap.size ≤ c) (i : Nat) (v : Value) : a.grownBy (b.setCell ⟨c, i, none⟩ v) r :=
  ⟨h.os, h.tape, h.output, by simpa [World.setCell] using h.size, fun k hk hn => (Below.heap_setCell _ _ _ _ (by simp only; omega)).trans (h.block k hk hn)⟩
theorem span_eq1 {l : List UInt8} {n : Int} {m : List UInt8} (h : nfP 0 l = (n, false, m)) {x : Int × Int} {ok : Bool} {r : List UInt8} (hq : spanP l = (x, ok, r)) : x = (n, n) ∧ ok = false ∧ r = m := by
  have h0 := (nf_le 0 l).2.2
  rw [h] at h0
  have h1 : n = 0 := h0 rfl
  unfold spanP at hq
  rw [h, if_pos rfl] at hq
  simp only [Prod.mk.injEq] at hq
  subst h1
  exact ⟨hq.1.symm, hq.2.1.symm, hq.2.2.symm⟩
theorem span_eq2 {l : List UInt8} {n : Int} {m : List UInt8} (h : nfP 0 l = (n, true, m)) (hc : ctk [45] m = false) {x : Int × Int} {ok : Bool} {r : List UInt8} (hq : spanP l = (x, ok, r)) : x = (n, n) ∧ ok = true ∧ r = ctkR [45] m := by
  unfold spanP at hq
  rw [h, if_neg (by simp), if_neg (by rw [hc]; decide)] at hq
  simp only [Prod.mk.injEq] at hq
  refine ⟨hq.1.symm, hq.2.1.symm, ?_⟩
  unfold ctkR
  rw [if_neg (by rw [hc]; decide)]
  exact hq.2.2.symm
theorem span_eq3 {l : List UInt8} {n : Int} {m : List UInt8} (h : nfP 0 l = (n, true, m)) (hc : ctk [45] m = true) {x : Int × Int} {ok : Bool} {r : List UInt8} (hq : spanP l = (x, ok, r)) :
    x.1 = n ∧ nfP n (ctkR [45] m) = (x.2, ok, r) := by
  unfold spanP at hq
  rw [h, if_neg (by simp), if_pos hc] at hq
  simp only [Prod.mk.injEq] at hq
  obtain ⟨h1, h2, h3⟩ := hq
  subst h1
  exact ⟨rfl, Prod.ext rfl (Prod.ext h2 h3)⟩
set_option maxRecDepth 100000 in
set_option maxHeartbeats 3200000 in
theorem span_as (b : Nat) (T : ByteArray) (p : Nat) (l : List UInt8) (w : World) (h : Rd w b T p) (ha : At T p l) (hT : T.size ≤ 1000000) (hTab : Tabs w) (x : Int × Int) (ok : Bool) (m : List UInt8) (hq : spanP l = (x, ok, m)) :
    Calls Tryd.prog 53 #[.pointer (some ⟨b, 0, none⟩)] w fun e w' => ∃ q, e = .returned (.tuple #[.agg #[.int .i32 x.1, .int .i32 x.2], .bool ok]) ∧ At T q m ∧ Rd w' b T q ∧ w.grownBy w' (some b) := by
  obtain ⟨n, k1, m1, hn⟩ : ∃ n k1 m1, nfP 0 l = (n, k1, m1) := ⟨_, _, _, rfl⟩
  have bl0 := h.lt
  have hbn : b ≠ w.heap.size := by omega
  have R0 := Lib.hid (Rd.alloc h (.cells #[.int .i32 0, .int .i32 0] 28))
  have T0 := Lib.hid (hTab.below ((Below.refl _ w).alloc (Nat.le_refl _) (.cells #[.int .i32 0, .int .i32 0] 28)))
  have B0 := Lib.hid (BoxT.new w #[.int .i32 0, .int .i32 0] 28)
  have G0 := Lib.hid (World.grownBy_alloc w (.cells #[.int .i32 0, .int .i32 0] 28) (some b))
  have HA := Lib.hid ha
  have HN := Lib.hid hn
  have HQ := Lib.hid hq
  clear h ha hTab hn hq
  go_enter Tryd.func53, Tryd.ntmps53
  go_wp2_with fail
  with_reducible refine (nf_as b T p l 0 _ R0.out HA.out hT T0.out n k1 m1 HN.out).mono ?_
  rintro e w1 ⟨q, rfl, hat, hr1, hg1⟩
  have HM := Lib.hid hat
  have R1 := Lib.hid hr1
  have G1 := Lib.hid (grown_trans G0.out hg1)
  have B1 := Lib.hid (B0.out.grown hg1 hbn.symm)
  have T1 := Lib.hid (T0.out.grown R0.out hg1)
  clear hat hr1 hg1
  cases k1 with
  | false =>
    obtain ⟨rfl, rfl, rfl⟩ := span_eq1 HN.out HQ.out
    have z0 := B1.out.frozen 0
    have z1 := B1.out.frozen 1
    have c0 := B1.out.cell 0
    have c1 := B1.out.cell 1
    simp at c0 c1
    go_wp2
    have D := (B1.out.set 0 (.int .i32 n)).set 1 (.int .i32 n)
    have r0 := D.cell 0
    have r1 := D.cell 1
    simp at r0 r1
    refine bodyPost_ret (v := .tuple #[.agg #[.int .i32 n, .int .i32 n], .bool false]) (by simp [results, Tryd.results53, go_sem, r0, r1]) rfl ⟨rfl, q, HM.out, (R1.out.other hbn _).other hbn _, grown_set_new (grown_set_new G1.out (Nat.le_refl _) 0 _) (Nat.le_refl _) 1 _⟩
  | true =>
    cases hc : ctk [45] m1 with
    | false =>
      obtain ⟨rfl, rfl, rfl⟩ := span_eq2 HN.out hc HQ.out
      have HC := Lib.hid hc
      clear hc
      go_wp2_with fail
      with_reducible refine (takes_false [45] b T q m1 _ R1.out HM.out hT HC.out).mono ?_
      rintro e w2 ⟨q2, rfl, hat, hr2, hg2⟩
      have B2 := Lib.hid (B1.out.grown hg2 hbn.symm)
      have G2 := Lib.hid (grown_trans G1.out hg2)
      have z0 := B2.out.frozen 0
      have z1 := B2.out.frozen 1
      have c0 := B2.out.cell 0
      have c1 := B2.out.cell 1
      simp at c0 c1
      have HM2 := Lib.hid hat
      have R2 := Lib.hid hr2
      clear hat hr2 hg2
      go_wp2
      have D := (B2.out.set 0 (.int .i32 n)).set 1 (.int .i32 n)
      have r0 := D.cell 0
      have r1 := D.cell 1
      simp at r0 r1
      refine bodyPost_ret (v := .tuple #[.agg #[.int .i32 n, .int .i32 n], .bool true]) (by simp [results, Tryd.results53, go_sem, r0, r1]) rfl ⟨rfl, q2, HM2.out, (R2.out.other hbn _).other hbn _, grown_set_new (grown_set_new G2.out (Nat.le_refl _) 0 _) (Nat.le_refl _) 1 _⟩
    | true =>
      obtain ⟨h1, h2⟩ := span_eq3 HN.out hc HQ.out
      obtain ⟨x1, x2⟩ := x
      dsimp only at h1 h2
      subst h1
      have HC := Lib.hid hc
      have H2 := Lib.hid h2
      clear hc h2
      go_wp2_with fail
      with_reducible refine (takes_true [45] b T q m1 _ R1.out HM.out hT HC.out).mono ?_
      rintro e w2 ⟨q2, rfl, hat, hr2, hg2⟩
      have B2 := Lib.hid (B1.out.grown hg2 hbn.symm)
      have G2 := Lib.hid (grown_trans G1.out hg2)
      have T2 := Lib.hid (T1.out.grown R1.out hg2)
      have HM2 := Lib.hid hat
      have R2 := Lib.hid hr2
      clear hat hr2 hg2
      go_wp2_with fail
      with_reducible refine (nf_as b T q2 (ctkR [45] m1) x1 _ R2.out HM2.out hT T2.out x2 ok m H2.out).mono ?_
      rintro e w3 ⟨q3, rfl, hat, hr3, hg3⟩
      have B3 := Lib.hid (B2.out.grown hg3 hbn.symm)
      have G3 := Lib.hid (grown_trans G2.out hg3)
      have z0 := B3.out.frozen 0
      have z1 := B3.out.frozen 1
      have c0 := B3.out.cell 0
      have c1 := B3.out.cell 1
      simp at c0 c1
      have HM3 := Lib.hid hat
      have R3 := Lib.hid hr3
      clear hat hr3 hg3
      go_wp2
      have D := (B3.out.set 0 (.int .i32 x1)).set 1 (.int .i32 x2)
      have r0 := D.cell 0
      have r1 := D.cell 1
      simp at r0 r1
      refine bodyPost_ret (v := .tuple #[.agg #[.int .i32 x1, .int .i32 x2], .bool ok]) (by simp [results, Tryd.results53, go_sem, r0, r1]) rfl ⟨rfl, q3, HM3.out, (R3.out.other hbn _).other hbn _, grown_set_new (grown_set_new G3.out (Nat.le_refl _) 0 _) (Nat.le_refl _) 1 _⟩
end Go.Proofs.YtbfhkcljkblnmaaDoor
