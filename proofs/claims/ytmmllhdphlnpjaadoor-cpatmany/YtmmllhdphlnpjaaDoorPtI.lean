/- The reader of patterns: a piece. -/
import Derived.Test.YtmmllhdphlnpjaaDoorPtI0
namespace Florin
def sgn (k : Nat) : List UInt8 := ([[], [45], [43], [37], [226, 128, 176], [194, 164]] : List (List UInt8)).getD k []
theorem piece_sgn (k : Nat) (l : List UInt8) (h1 : 1 ≤ k) (h4 : k ≤ 4) (hno : ∀ j, 1 ≤ j → j < k → (sgn j).isPrefixOf l = false) (hk : (sgn k).isPrefixOf l = true) : pieceP l = .ok (⟨k, [], 0⟩, true) (l.drop (sgn k).length) := by
  have n1 : 1 < k → ¬ [45].isPrefixOf l = true := fun h => by rw [show [45].isPrefixOf l = false from hno 1 (by decide) h]; decide
  have n2 : 2 < k → ¬ [43].isPrefixOf l = true := fun h => by rw [show [43].isPrefixOf l = false from hno 2 (by decide) h]; decide
  have n3 : 3 < k → ¬ [37].isPrefixOf l = true := fun h => by rw [show [37].isPrefixOf l = false from hno 3 (by decide) h]; decide
  match k, h1, h4 with
  | 1, _, _ => unfold pieceP; rw [if_pos (show [45].isPrefixOf l = true from hk)]; rfl
  | 2, _, _ => unfold pieceP; rw [if_neg (n1 (by decide)), if_pos (show [43].isPrefixOf l = true from hk)]; rfl
  | 3, _, _ => unfold pieceP; rw [if_neg (n1 (by decide)), if_neg (n2 (by decide)), if_pos (show [37].isPrefixOf l = true from hk)]; rfl
  | 4, _, _ => unfold pieceP; rw [if_neg (n1 (by decide)), if_neg (n2 (by decide)), if_neg (n3 (by decide)), if_pos (show [226, 128, 176].isPrefixOf l = true from hk)]; rfl
theorem piece_cur {l : List UInt8} (hno : ∀ j, 1 ≤ j → j < 5 → (sgn j).isPrefixOf l = false) {c : Nat} (hc : cntP [194, 164] l = c) (h0 : 0 < c) : pieceP l = .ok (⟨5, [], c⟩, true) (l.drop (c * 2)) := by
  unfold pieceP
  rw [if_neg (by rw [show [45].isPrefixOf l = false from hno 1 (by decide) (by decide)]; decide), if_neg (by rw [show [43].isPrefixOf l = false from hno 2 (by decide) (by decide)]; decide),
    if_neg (by rw [show [37].isPrefixOf l = false from hno 3 (by decide) (by decide)]; decide), if_neg (by rw [show [226, 128, 176].isPrefixOf l = false from hno 4 (by decide) (by decide)]; decide)]
  rw [hc, if_pos h0]
theorem piece_bad {l r : List UInt8} (hno : ∀ j, 1 ≤ j → j < 5 → (sgn j).isPrefixOf l = false) (hc : cntP [194, 164] l = 0) (h : litsQ [] l = .bad r) : pieceP l = .bad r := by
  unfold pieceP
  rw [if_neg (by rw [show [45].isPrefixOf l = false from hno 1 (by decide) (by decide)]; decide), if_neg (by rw [show [43].isPrefixOf l = false from hno 2 (by decide) (by decide)]; decide),
    if_neg (by rw [show [37].isPrefixOf l = false from hno 3 (by decide) (by decide)]; decide), if_neg (by rw [show [226, 128, 176].isPrefixOf l = false from hno 4 (by decide) (by decide)]; decide)]
  rw [hc, if_neg (by decide), show litsP (l.length + 1) [] l = .bad r from h]
theorem piece_lit {l r t : List UInt8} (hno : ∀ j, 1 ≤ j → j < 5 → (sgn j).isPrefixOf l = false) (hc : cntP [194, 164] l = 0) (h : litsQ [] l = .ok t r) : pieceP l = .ok (⟨0, t, 0⟩, !t.isEmpty) r := by
  unfold pieceP
  rw [if_neg (by rw [show [45].isPrefixOf l = false from hno 1 (by decide) (by decide)]; decide), if_neg (by rw [show [43].isPrefixOf l = false from hno 2 (by decide) (by decide)]; decide),
    if_neg (by rw [show [37].isPrefixOf l = false from hno 3 (by decide) (by decide)]; decide), if_neg (by rw [show [226, 128, 176].isPrefixOf l = false from hno 4 (by decide) (by decide)]; decide)]
  rw [hc, if_neg (by decide), show litsP (l.length + 1) [] l = .ok t r from h]
theorem sgn_ne (k : Nat) (h1 : 1 ≤ k) (h5 : k ≤ 5) : sgn k ≠ [] := by
  match k, h1, h5 with
  | 1, _, _ => decide
  | 2, _, _ => decide
  | 3, _, _ => decide
  | 4, _, _ => decide
  | 5, _, _ => decide
end Florin
namespace Go.Proofs.YtmmllhdphlnpjaaDoor
open Go.RowKit Florin
set_option linter.unusedVariables false
set_option linter.unusedSimpArgs false
attribute [local go_sem ↓] Go.wp_at_zero Go.wp_at_succ
abbrev TPc : TypeId := 66
/-- The signs of the kinds. -/
def Sg (w : World) : Prop := ∀ k, k < 6 → w.cell? ⟨2, k, none⟩ = some (S (sgn k))
theorem Sg.lt {w : World} (h : Sg w) : 2 < w.heap.size := World.block_lt_of_cell? w ⟨_, 0, none⟩ (h 0 (by decide))
theorem Sg.below {w w' : World} (h : Sg w) (hb : Below w.heap.size w w') : Sg w' := fun k hk => (hb.cell (p := ⟨_, k, none⟩) h.lt).trans (h k hk)
theorem Sg.belowB {w w' : World} (h : Sg w) {B : Nat} (hb : Below B w w') (hB : 2 < B) : Sg w' := fun k hk => (hb.cell (p := ⟨_, k, none⟩) hB).trans (h k hk)
theorem Sg.ne {w : World} (h : Sg w) {b : Nat} {T : ByteArray} {p : Nat} (hr : Rd w b T p) : some 2 ≠ some b := by
  intro e
  have e2 := hr.c1
  rw [← Option.some.inj e, h 1 (by decide)] at e2
  simp at e2
theorem Sg.grown {w w' : World} (h : Sg w) {b : Nat} {T : ByteArray} {p : Nat} (hr : Rd w b T p) (hg : w.grownBy w' (some b)) : Sg w' := fun k hk => hg.cell (h k hk) (h.ne hr)
structure EnvP (w : World) : Prop where
  e : Env w
  s : Sg w
theorem EnvP.below {w w' : World} (h : EnvP w) (hb : Below w.heap.size w w') : EnvP w' := ⟨h.e.below hb, h.s.below hb⟩
theorem EnvP.grown {w w' : World} (h : EnvP w) {b : Nat} {T : ByteArray} {p : Nat} (hr : Rd w b T p) (hg : w.grownBy w' (some b)) : EnvP w' := ⟨h.e.grown hr hg, h.s.grown hr hg⟩
theorem EnvP.alloc {w : World} (h : EnvP w) (o : Obj) : EnvP (w.alloc o) := h.below ((Below.refl _ w).alloc (Nat.le_refl _) o)
def pcC (x : PcT) : Array Value := #[.int .i64 (x.k : Int), S x.t, .int .i64 (x.n : Int)]
def pcA (x : PcT) (c : List Value) : Prop := c = (pcC x).toList
/-- What a piece tells. -/
def PcV (_ : World) (x : PcT × Bool) (v : Value) : Prop := v = .tuple #[.agg (pcC x.1), .bool x.2]
abbrev put3 (W : World) (n : Nat) (v0 v1 v2 : Value) : World := ((W.setCell ⟨n, 0, none⟩ v0).setCell ⟨n, 1, none⟩ v1).setCell ⟨n, 2, none⟩ v2
theorem BoxT.put3 {W : World} {n : Nat} {u0 u1 u2 : Value} {t : TypeId} (h : BoxT W n #[u0, u1, u2] t) (v0 v1 v2 : Value) : BoxT (put3 W n v0 v1 v2) n #[v0, v1, v2] t := by
  have h0 : BoxT _ n #[v0, u1, u2] t := h.set 0 v0
  have h1 : BoxT _ n #[v0, v1, u2] t := h0.set 1 v1
  exact h1.set 2 v2
theorem Rd.put3 {W : World} {b : Nat} {T : ByteArray} {p n : Nat} (h : Rd W b T p) (hn : b ≠ n) (v0 v1 v2 : Value) : Rd (put3 W n v0 v1 v2) b T p :=
  ((h.other (a := ⟨n, 0, none⟩) hn v0).other (a := ⟨n, 1, none⟩) hn v1).other (a := ⟨n, 2, none⟩) hn v2
theorem grown_put3 {w W : World} {r : Option Nat} (h : w.grownBy W r) {n : Nat} (hn : w.heap.size ≤ n) (v0 v1 v2 : Value) : w.grownBy (put3 W n v0 v1 v2) r :=
  grown_set_new (grown_set_new (grown_set_new h hn 0 v0) hn 1 v1) hn 2 v2
set_option maxRecDepth 100000 in
set_option maxHeartbeats 3200000 in
theorem piece_as (b : Nat) (T : ByteArray) (p : Nat) (l : List UInt8) (w : World) (h : Rd w b T p) (ha : At T p l) (hT : T.size ≤ 1000) (hE : EnvP w) (R : PR (PcT × Bool)) (hR : pieceP l = R) :
    Calls Tryd.prog 39 #[.pointer (some ⟨b, 0, none⟩)] w (PTold b T w PcV R) := by
  have HA := Lib.hid ha
  have bl := h.lt
  have hlT : l.length ≤ 1000 := by have := ha.len; omega
  have X0 := Lib.hid (BoxT.new w #[.int .i64 0, S [], .int .i64 0] TPc)
  have R0 := Lib.hid (Rd.alloc h (.cells #[.int .i64 0, S [], .int .i64 0] TPc))
  have E0 := Lib.hid (hE.alloc (.cells #[.int .i64 0, S [], .int .i64 0] TPc))
  have G0 := Lib.hid (grown_alloc (World.grownBy.refl w (some b)) (.cells #[.int .i64 0, S [], .int .i64 0] TPc))
  have HQ := Lib.hid hR
  clear h ha hR hE
  go_enter Tryd.func39, Tryd.ntmps39
  go_wp2_with fail
  go_loopw [4] (fun v wr => ∃ k : Nat, v = .int .i64 (k : Int) ∧ 1 ≤ k ∧ k ≤ 5 ∧ (∀ j, 1 ≤ j → j < k → (sgn j).isPrefixOf l = false) ∧ Rd wr b T p ∧ EnvP wr ∧ BoxT wr w.heap.size #[.int .i64 0, S [], .int .i64 0] TPc ∧ w.grownBy wr (some b)) (fun v _ => 5 - (intOf v).toNat)
  case atStart => exact ⟨1, rfl, by decide, by decide, fun j h1 h2 => absurd h2 (by omega), R0.out, E0.out, X0.out, G0.out⟩
  case round =>
    obtain ⟨k, rfl, hk1, hk5, hno, hr, he, hx, hg⟩ := hrel
    have RM := Lib.hid hr
    have EM := Lib.hid he
    have XM := Lib.hid hx
    have GM := Lib.hid hg
    have HN := Lib.hid hno
    clear hr he hx hg hno
    by_cases hk : k ≤ 4
    · have hki : (k : Int) ≤ 4 := by omega
      have hk6 : (k : Int) < 6 := by omega
      have cg : wr.drew.cell? ⟨2, k, none⟩ = some (S (sgn k)) := EM.out.s k (by omega)
      have hlt := EM.out.s.lt
      cases hp : (sgn k).isPrefixOf l with
      | true =>
        have HP := Lib.hid hp
        have HQE : Hid (.ok (⟨k, [], 0⟩, true) (l.drop (sgn k).length) = R) := Lib.hid (by rw [← HQ.out, piece_sgn k l hk1 hk HN.out hp])
        have A2 := Lib.hid (HA.out.drop (sgn k).length (pre_len2 hp))
        clear hp
        go_wp2_with fail
        go_region_with (go_at_call 22; (with_reducible refine (takes_true (sgn k) b T p l _ RM.out.drew HA.out (by omega) HP.out).mono ?_); (rintro e w1 ⟨rfl, hr, hg⟩))
        all_goals (
          have R1 := Lib.hid hr
          have X1 := Lib.hid (XM.out.drew.grown hg (fun e => by have := Option.some.inj e; omega))
          have G1 := Lib.hid (grown_trans (grown_drew GM.out) hg)
          clear hr hg
          have x0 := X1.out.cell 0
          have x1 := X1.out.cell 1
          have x2 := X1.out.cell 2
          have z0 := X1.out.frozen 0
          have z1 := X1.out.frozen 1
          have z2 := X1.out.frozen 2
          have xl := X1.out.lt
          simp at x0 x1 x2
          go_wp2
          have DX := BoxT.put3 (show BoxT _ _ #[_, _, _] TPc from X1.out) (.int .i64 (k : Int)) (S []) (.int .i64 0)
          have r0 := DX.cell 0
          have r1 := DX.cell 1
          have r2 := DX.cell 2
          simp at r0 r1 r2
          refine bodyPost_ret (v := .tuple #[.agg #[.int .i64 (k : Int), S [], .int .i64 0], .bool true]) (by simp [results, Tryd.results39, go_sem, r0, r1, r2]) rfl ?_
          rw [← HQE.out]
          exact ⟨_, _, rfl, rfl, A2.out, Rd.put3 R1.out (show b ≠ w.heap.size by omega) _ _ _, grown_put3 G1.out (Nat.le_refl _) _ _ _⟩)
      | false =>
        have HP := Lib.hid hp
        clear hp
        go_wp2_with fail
        go_region_with (go_at_call 22; (with_reducible refine (takes_false (sgn k) b T p l _ RM.out.drew HA.out (by omega) HP.out).mono ?_); (rintro e w1 ⟨rfl, hr, hg⟩))
        all_goals (
          have R1 := Lib.hid hr
          have X1 := Lib.hid (XM.out.drew.grown hg (fun e => by have := Option.some.inj e; omega))
          have E1 := Lib.hid ((EM.out.below (Below.refl _ _).drew).grown RM.out.drew hg)
          have G1 := Lib.hid (grown_trans (grown_drew GM.out) hg)
          clear hr hg
          go_wp2
          go_roundw
          case rel => exact ⟨k + 1, by go_num, by omega, by omega, fun j h1 h2 => by
            by_cases hj : j < k
            · exact HN.out j h1 hj
            · obtain rfl : j = k := by omega
              exact HP.out, R1.out, E1.out, X1.out, G1.out⟩
          case measure => simp [intOf]; omega)
    · obtain rfl : k = 5 := by omega
      have cg : wr.cell? ⟨2, 5, none⟩ = some (S [194, 164]) := EM.out.s 5 (by decide)
      have hlt := EM.out.s.lt
      obtain ⟨c, hc⟩ : ∃ c, cntP [194, 164] l = c := ⟨_, rfl⟩
      have HC := Lib.hid hc
      clear hc
      go_wp2_with fail
      with_reducible refine (count_as [194, 164] (by simp) b T p l _ RM.out HA.out (by omega) c HC.out).mono ?_
      rintro e w1 ⟨rfl, hat, hr, hg⟩
      have A1 : Hid (At T (p + c * 2) (l.drop (c * 2))) := Lib.hid hat
      have R1 : Hid (Rd w1 b T (p + c * 2)) := Lib.hid hr
      have X1 := Lib.hid (XM.out.grown hg (fun e => by have := Option.some.inj e; omega))
      have E1 := Lib.hid (EM.out.grown RM.out hg)
      have G1 := Lib.hid (grown_trans GM.out hg)
      clear hat hr hg cg
      by_cases h0 : 0 < c
      · have h0i : (0 : Int) < (c : Int) := by omega
        have HQE : Hid (.ok (⟨5, [], c⟩, true) (l.drop (c * 2)) = R) := Lib.hid (by rw [← HQ.out, piece_cur HN.out HC.out h0])
        have x0 := X1.out.cell 0
        have x1 := X1.out.cell 1
        have x2 := X1.out.cell 2
        have z0 := X1.out.frozen 0
        have z1 := X1.out.frozen 1
        have z2 := X1.out.frozen 2
        have xl := X1.out.lt
        simp at x0 x1 x2
        clear h0
        go_wp2
        have DX := BoxT.put3 (show BoxT _ _ #[_, _, _] TPc from X1.out) (.int .i64 5) (S []) (.int .i64 (c : Int))
        have r0 := DX.cell 0
        have r1 := DX.cell 1
        have r2 := DX.cell 2
        simp at r0 r1 r2
        refine bodyPost_ret (v := .tuple #[.agg #[.int .i64 5, S [], .int .i64 (c : Int)], .bool true]) (by simp [results, Tryd.results39, go_sem, r0, r1, r2]) rfl ?_
        rw [← HQE.out]
        exact ⟨_, _, rfl, rfl, A1.out, Rd.put3 R1.out (show b ≠ w.heap.size by omega) _ _ _, grown_put3 G1.out (Nat.le_refl _) _ _ _⟩
      · obtain rfl : c = 0 := by omega
        have A1' : Hid (At T p l) := HA
        have R1' : Hid (Rd w1 b T p) := Lib.hid (by have h := R1.out; simpa using h)
        obtain ⟨R2, hR2⟩ : ∃ R2, litsQ [] l = R2 := ⟨_, rfl⟩
        have HR2 := Lib.hid hR2
        clear h0 hR2 R1 A1
        go_wp2_with fail
        with_reducible refine (literals_as b T p l _ R1'.out A1'.out hT E1.out.e R2 HR2.out).mono ?_
        intro e w2 ht
        cases R2 with
        | bad r =>
          obtain ⟨q, rfl, hat, hg⟩ := ht
          have HQE : Hid (.bad r = R) := Lib.hid (by rw [← HQ.out, piece_bad HN.out HC.out HR2.out])
          have G2 := Lib.hid (grown_trans G1.out hg)
          clear hg
          go_wp2
          rw [← HQE.out]
          exact ⟨rfl, q, rfl, hat, G2.out⟩
        | ok t r =>
          obtain ⟨v, q, rfl, hv, hat, hr, hg⟩ := ht
          obtain rfl : v = S t := hv
          have HQE : Hid (.ok (⟨0, t, 0⟩, !t.isEmpty) r = R) := Lib.hid (by rw [← HQ.out, piece_lit HN.out HC.out HR2.out])
          have A2 := Lib.hid hat
          have Rr2 := Lib.hid hr
          have X2 := Lib.hid (X1.out.grown hg (fun e => by have := Option.some.inj e; omega))
          have G2 := Lib.hid (grown_trans G1.out hg)
          clear hat hr hg
          have x0 := X2.out.cell 0
          have x1 := X2.out.cell 1
          have x2 := X2.out.cell 2
          have z0 := X2.out.frozen 0
          have z1 := X2.out.frozen 1
          have z2 := X2.out.frozen 2
          have xl := X2.out.lt
          simp at x0 x1 x2
          go_wp2
          have DX := BoxT.put3 (show BoxT _ _ #[_, _, _] TPc from X2.out) (.int .i64 0) (S t) (.int .i64 0)
          have r0 := DX.cell 0
          have r1 := DX.cell 1
          have r2 := DX.cell 2
          simp at r0 r1 r2
          refine bodyPost_ret (v := .tuple #[.agg #[.int .i64 0, S t, .int .i64 0], .bool (!t.isEmpty)]) (by simp [results, Tryd.results39, go_sem, r0, r1, r2]) rfl ?_
          rw [← HQE.out]
          exact ⟨_, _, rfl, rfl, A2.out, Rd.put3 Rr2.out (show b ≠ w.heap.size by omega) _ _ _, grown_put3 G2.out (Nat.le_refl _) _ _ _⟩
end Go.Proofs.YtmmllhdphlnpjaaDoor
