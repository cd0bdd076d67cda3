/- The reader of patterns: literals. -/
import Derived.Test.YtmmllhdphlnpjaaDoorPtB
namespace Florin
theorem nx_pos {l : List UInt8} (h : l ≠ []) : 0 < (nxP l).length := by
  have h1 := List.length_pos_iff.2 h
  unfold nxP decL
  rw [if_neg h, List.length_take]
  by_cases h0 : lead l = 0
  · rw [if_pos h0]; omega
  · rw [if_neg h0]; show 0 < min (lead l) l.length; omega
theorem nx_pre (l : List UInt8) : (nxP l).isPrefixOf l = true := by
  unfold nxP
  rw [List.isPrefixOf_iff_prefix]
  exact List.take_prefix _ _
theorem nx_le (l : List UInt8) : (nxP l).length ≤ l.length := by unfold nxP; rw [List.length_take]; omega
theorem quoP_more : ∀ (f k : Nat) (acc l : List UInt8), l.length < f → l.length < k → quoP f acc l = quoP k acc l
  | 0, _, _, l, h, _ => absurd h (by omega)
  | _ + 1, 0, _, l, _, h => absurd h (by omega)
  | f + 1, k + 1, acc, l, hf, hk => by
    unfold quoP
    by_cases h1 : [39, 39].isPrefixOf l = true
    · have := pre_len2 h1
      simp only [List.length_cons, List.length_nil] at this
      rw [if_pos h1, if_pos h1, quoP_more f k _ _ (by rw [List.length_drop]; omega) (by rw [List.length_drop]; omega)]
    · rw [if_neg h1, if_neg h1]
      by_cases h2 : [39].isPrefixOf l = true
      · rw [if_pos h2, if_pos h2]
      · rw [if_neg h2, if_neg h2]
        by_cases h3 : l.isEmpty = true
        · rw [if_pos h3, if_pos h3]
        · rw [if_neg h3, if_neg h3]
          have h4 : l ≠ [] := fun e => h3 (by rw [e]; rfl)
          have := nx_pos h4
          have h5 := List.length_pos_iff.2 h4
          rw [quoP_more f k _ _ (by rw [List.length_drop]; omega) (by rw [List.length_drop]; omega)]
def quoQ (acc l : List UInt8) : PR (List UInt8) := quoP (l.length + 1) acc l
theorem quo_two {acc l : List UInt8} (h : [39, 39].isPrefixOf l = true) : quoQ acc l = quoQ (acc ++ [39]) (l.drop 2) := by
  have := pre_len2 h
  simp only [List.length_cons, List.length_nil] at this
  unfold quoQ
  rw [show quoP (l.length + 1) acc l = (if [39, 39].isPrefixOf l then quoP l.length (acc ++ [39]) (l.drop 2) else _) from rfl, if_pos h]
  exact quoP_more _ _ _ _ (by rw [List.length_drop]; omega) (by omega)
theorem quo_one {acc l : List UInt8} (h : [39, 39].isPrefixOf l = false) (h2 : [39].isPrefixOf l = true) : quoQ acc l = .ok acc (l.drop 1) := by
  unfold quoQ quoP
  rw [if_neg (by rw [h]; decide), if_pos h2]
theorem quo_end {acc : List UInt8} : quoQ acc [] = .bad [] := rfl
theorem quo_sign {acc l : List UInt8} (h : [39, 39].isPrefixOf l = false) (h2 : [39].isPrefixOf l = false) (h3 : l ≠ []) : quoQ acc l = quoQ (acc ++ nxP l) (l.drop (nxP l).length) := by
  have h4 : ¬ l.isEmpty = true := fun e => h3 (List.isEmpty_iff.1 e)
  have h5 := nx_pos h3
  have h6 := List.length_pos_iff.2 h3
  unfold quoQ
  rw [show quoP (l.length + 1) acc l = (if [39, 39].isPrefixOf l then quoP l.length (acc ++ [39]) (l.drop 2) else if [39].isPrefixOf l then .ok acc (l.drop 1) else if l.isEmpty then .bad l else quoP l.length (acc ++ nxP l) (l.drop (nxP l).length)) from rfl, if_neg (by rw [h]; decide), if_neg (by rw [h2]; decide), if_neg h4]
  exact quoP_more _ _ _ _ (by rw [List.length_drop]; omega) (by omega)
end Florin
namespace Go.Proofs.YtmmllhdphlnpjaaDoor
open Go.RowKit Florin
set_option linter.unusedVariables false
set_option linter.unusedSimpArgs false
attribute [local go_sem ↓] Go.wp_at_zero Go.wp_at_succ
theorem Rd.belowB {w w' : World} {b : Nat} {T : ByteArray} {p B : Nat} (h : Rd w b T p) (hb : Below B w w') (hB : b < B) : Rd w' b T p := (hb.block b hB).trans h
theorem grown_below {w w1 w2 : World} {b : Nat} (h : w.grownBy w1 (some b)) {B : Nat} (hb : Below B w1 w2) (hB : w.heap.size ≤ B) : w.grownBy w2 (some b) :=
  ⟨hb.os.trans h.os, hb.tape.trans h.tape, hb.output.trans h.output, Nat.le_trans h.size hb.size, fun k hk hn => (hb.block k (by omega)).trans (h.block k hk hn)⟩
theorem bld_grown {B c : Nat} {bs : List Value} {w w' : World} {b : Nat} (h : Lib.IsBuilder TB 5 B c bs w) (hg : w.grownBy w' (some b)) (hb : b < B) : Lib.IsBuilder TB 5 B c bs w' := by
  have key : ∀ p, Lib.BuilderAt TB 5 B c p bs w → Lib.BuilderAt TB 5 B c p bs w' := by
    intro p h
    have hl := h.lt
    obtain ⟨hB, v, hbk, hown, hn⟩ := h
    refine ⟨hB, v, (hg.block c hl (fun e => by have := Option.some.inj e; omega)).trans hbk, ?_, hn⟩
    refine hown.kept hg ?_
    rcases hown.2 with ⟨rfl, _⟩ | ⟨g, cap, cur, rfl, hBg, _⟩
    · exact .inl rfl
    · exact .inr (fun e => by have e2 : g = b := Option.some.inj e; omega)
  rcases h with h | h
  · exact .inl (key _ h)
  · exact .inr (key _ h)
theorem env_belowB {w w' : World} (h : Env w) {B : Nat} (hb : Below B w w') (hB : 0 < B ∧ 1 < B ∧ 3 < B) : Env w' :=
  ⟨⟨fun c hc => (hb.cell (p := ⟨_, c, none⟩) hB.1).trans (h.t.1 c hc), fun i hi => ⟨(hb.cell (p := ⟨_, 2 * i, none⟩) hB.2.1).trans (h.t.2 i hi).1, (hb.cell (p := ⟨_, 2 * i + 1, none⟩) hB.2.1).trans (h.t.2 i hi).2⟩⟩,
   by obtain ⟨m, hm⟩ := h.m; exact ⟨m, (hb.cell (p := ⟨_, 0, none⟩) hB.2.2).trans hm⟩⟩
theorem Env.low {w : World} (h : Env w) : 0 < w.heap.size ∧ 1 < w.heap.size ∧ 3 < w.heap.size := by
  refine ⟨World.block_lt_of_cell? w ⟨_, 0, none⟩ (h.t.1 0 (by decide)), World.block_lt_of_cell? w ⟨_, 0, none⟩ (h.t.2 0 (by decide)).1, ?_⟩
  obtain ⟨m, hm⟩ := h.m
  exact World.block_lt_of_cell? w _ hm
theorem wants_as (g : List UInt8) (b : Nat) (T : ByteArray) (p : Nat) (l : List UInt8) (w : World) (h : Rd w b T p) (ha : At T p l) (hT : T.size ≤ 1000000) (hr : g.isPrefixOf l = true) :
    Calls Tryd.prog 66 #[.pointer (some ⟨b, 0, none⟩), S g] w fun e w' => e = .returned (.tuple #[]) ∧ Rd w' b T (p + g.length) ∧ w.grownBy w' (some b) := by
  have HR := Lib.hid h
  have HA := Lib.hid ha
  have HP := Lib.hid hr
  clear h ha hr
  go_enter Tryd.func66, Tryd.ntmps66
  go_wp2_with fail
  with_reducible refine (takes_true g b T p l _ HR.out HA.out hT HP.out).mono ?_
  rintro x w1 ⟨rfl, hr, hg⟩
  go_wp2
  go_end0
  exact ⟨rfl, hr, hg⟩
/-- A text that is told. -/
def IsS (_ : World) (x : List UInt8) (v : Value) : Prop := v = S x
set_option maxRecDepth 100000 in
set_option maxHeartbeats 3200000 in
theorem quoted_as (b : Nat) (T : ByteArray) (p : Nat) (l : List UInt8) (w : World) (h : Rd w b T p) (ha : At T p l) (hT : T.size ≤ 1000) (hE : Env w) (R : PR (List UInt8)) (hR : quoQ [] l = R) :
    Calls Tryd.prog 60 #[.pointer (some ⟨b, 0, none⟩)] w (PTold b T w IsS R) := by
  have HR := Lib.hid (Rd.alloc h (.cells #[.pointer none, .slice none 0 0] TB))
  have HA := Lib.hid ha
  have HE := Lib.hid hE
  have HQ := Lib.hid hR
  have bl := h.lt
  have HBD := Lib.hid (Lib.fresh_isBuilder TB 5 w)
  have HG0 := Lib.hid (grown_alloc (World.grownBy.refl w (some b)) (.cells #[.pointer none, .slice none 0 0] TB))
  have HLo := Lib.hid hE.low
  have E0 := Lib.hid (hE.below ((Below.refl _ w).alloc (Nat.le_refl _) (.cells #[.pointer none, .slice none 0 0] TB)))
  have hlen := ha.len
  clear h ha hE hR
  go_enter Tryd.func60, Tryd.ntmps60
  go_wp2_with fail
  go_loopg [] (l.length) (fun k wr => ∃ q m acc, k = m.length ∧ acc.length + m.length ≤ l.length ∧ At T q m ∧ Rd wr b T q ∧ quoQ acc m = R ∧ Lib.IsBuilder TB 5 w.heap.size w.heap.size (Lib.byteCells acc) wr ∧ Env wr ∧ w.grownBy wr (some b) ∧ w.heap.size < wr.heap.size)
  case atStart => exact ⟨p, l, [], rfl, by simp, HA.out, HR.out, HQ.out, HBD.out, E0.out, HG0.out, by simp⟩
  case round =>
    obtain ⟨q, m, acc, hk, hac, hat, hr, hq, hbd, he, hg, hsz⟩ := hrel
    have HK := Lib.hid hk
    have AM := Lib.hid hat
    have RM := Lib.hid hr
    have QM := Lib.hid hq
    have BM := Lib.hid hbd
    have EM := Lib.hid he
    have GM := Lib.hid hg
    clear hk hat hr hq hbd he hg
    cases h1 : [39, 39].isPrefixOf m with
    | true =>
      have H1 := Lib.hid h1
      have hl2 := pre_len2 h1
      simp only [List.length_cons, List.length_nil] at hl2
      have Q2 := Lib.hid ((quo_two h1).symm.trans QM.out)
      have A2 := Lib.hid (AM.out.drop 2 (by omega))
      have hdl : (m.drop 2).length = m.length - 2 := List.length_drop
      clear h1
      go_wp2_with fail
      with_reducible refine (takes_true [39, 39] b T q m _ RM.out AM.out (by omega) H1.out).mono ?_
      rintro x w1 ⟨rfl, hr, hg⟩
      have R1 := Lib.hid hr
      have E1 := Lib.hid (EM.out.grown RM.out hg)
      have B1 := Lib.hid (bld_grown BM.out hg bl)
      have G1 := Lib.hid (grown_trans GM.out hg)
      have hs1 := hg.size
      clear hr hg
      go_wp2_with fail
      with_reducible refine (wstr_as w.heap.size w.heap.size _ ⟨([39] : List UInt8).toArray⟩ _ B1.out (by rw [Lib.byteCells_length, arr_size]; simp only [List.length_cons, List.length_nil]; omega) (by omega)).mono ?_
      rintro e w2 ⟨rfl, hbd, hbl, hkt⟩
      have R2 := Lib.hid (R1.out.belowB hbl bl)
      have E2 := Lib.hid (env_belowB E1.out hbl HLo.out)
      have G2 := Lib.hid (grown_below G1.out hbl (Nat.le_refl _))
      have B2 : Hid (Lib.IsBuilder TB 5 w.heap.size w.heap.size (Lib.byteCells (acc ++ [39])) w2) := Lib.hid (.inr (by rw [Lib.byteCells_append]; exact hbd))
      have hs2 := hbl.size
      clear hbd hbl hkt
      go_wp2
      go_roundg (m.length - 2)
      case measure => rw [HK.out]; omega
      case rel => exact ⟨q + 2, m.drop 2, acc ++ [39], hdl.symm, by rw [List.length_append, hdl]; simp; omega, A2.out, R2.out, Q2.out, B2.out, E2.out, G2.out, by omega⟩
    | false =>
      have H1 := Lib.hid h1
      clear h1
      go_wp2_with fail
      with_reducible refine (takes_false [39, 39] b T q m _ RM.out AM.out (by omega) H1.out).mono ?_
      rintro x w1 ⟨rfl, hr, hg⟩
      have R1 := Lib.hid hr
      have E1 := Lib.hid (EM.out.grown RM.out hg)
      have B1 := Lib.hid (bld_grown BM.out hg bl)
      have G1 := Lib.hid (grown_trans GM.out hg)
      have hs1 := hg.size
      clear hr hg
      cases h2 : [39].isPrefixOf m with
      | true =>
        have H2 := Lib.hid h2
        have hl2 := pre_len2 h2
        simp only [List.length_cons, List.length_nil] at hl2
        have Q2 := Lib.hid ((quo_one H1.out h2).symm.trans QM.out)
        have A2 := Lib.hid (AM.out.drop 1 (by omega))
        clear h2
        go_wp2_with fail
        with_reducible refine (takes_true [39] b T q m _ R1.out AM.out (by omega) H2.out).mono ?_
        rintro x w2 ⟨rfl, hr, hg⟩
        have R2 := Lib.hid hr
        have B2 := Lib.hid (bld_grown B1.out hg bl)
        have G2 := Lib.hid (grown_trans G1.out hg)
        have hs2 := hg.size
        clear hr hg
        go_wp2_with fail
        with_reducible refine (Tryd.Builder_String_any _ _ _ _ B2.out (by omega)).mono ?_
        rintro e w3 ⟨rfl, hb⟩
        have R3 := Lib.hid (R2.out.belowB hb bl)
        have G3 := Lib.hid (grown_below G2.out hb (Nat.le_refl _))
        clear hb
        go_wp2
        go_ret
        rw [← Q2.out]
        exact ⟨_, q + 1, rfl, rfl, A2.out, R3.out, G3.out⟩
      | false =>
        have H2 := Lib.hid h2
        clear h2
        go_wp2_with fail
        with_reducible refine (takes_false [39] b T q m _ R1.out AM.out (by omega) H2.out).mono ?_
        rintro x w2 ⟨rfl, hr, hg⟩
        have R2 := Lib.hid hr
        have E2 := Lib.hid (E1.out.grown R1.out hg)
        have B2 := Lib.hid (bld_grown B1.out hg bl)
        have G2 := Lib.hid (grown_trans G1.out hg)
        have hs2 := hg.size
        clear hr hg
        cases hm : m.isEmpty with
        | true =>
          obtain rfl : m = [] := List.isEmpty_iff.1 hm
          have Q2 := Lib.hid (quo_end.symm.trans QM.out)
          go_wp2_with fail
          with_reducible refine (ended_as b T q [] _ R2.out AM.out true rfl).mono ?_
          rintro x w3 ⟨rfl, hr, hg⟩
          have R3 := Lib.hid hr
          have G3 := Lib.hid (grown_trans G2.out hg)
          clear hr hg
          go_wp2_with fail
          with_reducible refine (give_as b T q [] _ R3.out AM.out (by omega)).mono ?_
          rintro x w4 ⟨rfl, hg⟩
          have G4 := Lib.hid (grown_trans G3.out hg)
          clear hg
          go_wp2
          rw [← Q2.out]
          exact ⟨rfl, q, rfl, AM.out, G4.out⟩
        | false =>
          have hne : m ≠ [] := fun e => by subst e; cases hm
          obtain ⟨g, hg⟩ : ∃ g, nxP m = g := ⟨_, rfl⟩
          have HNx := Lib.hid hg
          have hgp : 0 < g.length := by rw [← hg]; exact nx_pos hne
          have hgl : g.length ≤ m.length := by rw [← hg]; exact nx_le m
          have Q2 := Lib.hid ((quo_sign H1.out H2.out hne).symm.trans QM.out)
          rw [hg] at Q2
          have A2 := Lib.hid (AM.out.drop g.length hgl)
          have HPx : Hid (g.isPrefixOf m = true) := Lib.hid (by rw [← hg]; exact nx_pre m)
          have hdl : (m.drop g.length).length = m.length - g.length := List.length_drop
          have HMe := Lib.hid hm
          clear hg hm hne
          go_wp2_with fail
          with_reducible refine (ended_as b T q m _ R2.out AM.out false HMe.out).mono ?_
          rintro x w3 ⟨rfl, hr, hg⟩
          have R3 := Lib.hid hr
          have E3 := Lib.hid (E2.out.grown R2.out hg)
          have B3 := Lib.hid (bld_grown B2.out hg bl)
          have G3 := Lib.hid (grown_trans G2.out hg)
          have hs3 := hg.size
          clear hr hg
          go_wp2_with fail
          with_reducible refine (next_as b T q m _ R3.out AM.out (by omega) E3.out g HNx.out).mono ?_
          rintro x w4 ⟨rfl, hr, hg⟩
          have R4 := Lib.hid hr
          have E4 := Lib.hid (E3.out.grown R3.out hg)
          have B4 := Lib.hid (bld_grown B3.out hg bl)
          have G4 := Lib.hid (grown_trans G3.out hg)
          have hs4 := hg.size
          clear hr hg
          go_wp2_with fail
          with_reducible refine (wstr_as w.heap.size w.heap.size _ ⟨g.toArray⟩ _ B4.out (by rw [Lib.byteCells_length, arr_size]; omega) (by omega)).mono ?_
          rintro e w5 ⟨rfl, hbd, hbl, hkt⟩
          have R5 := Lib.hid (R4.out.belowB hbl bl)
          have E5 := Lib.hid (env_belowB E4.out hbl HLo.out)
          have G5 := Lib.hid (grown_below G4.out hbl (Nat.le_refl _))
          have B5 : Hid (Lib.IsBuilder TB 5 w.heap.size w.heap.size (Lib.byteCells (acc ++ g)) w5) := Lib.hid (.inr (by rw [Lib.byteCells_append, ← strC_S]; exact hbd))
          have hs5 := hbl.size
          clear hbd hbl hkt
          go_wp2_with fail
          with_reducible refine (wants_as g b T q m _ R5.out AM.out (by omega) HPx.out).mono ?_
          rintro x w6 ⟨rfl, hr, hg⟩
          have R6 := Lib.hid hr
          have E6 := Lib.hid (E5.out.grown R5.out hg)
          have B6 := Lib.hid (bld_grown B5.out hg bl)
          have G6 := Lib.hid (grown_trans G5.out hg)
          have hs6 := hg.size
          clear hr hg
          go_wp2
          go_roundg (m.length - g.length)
          case measure => rw [HK.out]; omega
          case rel => exact ⟨q + g.length, m.drop g.length, acc ++ g, hdl.symm, by rw [List.length_append, hdl]; omega, A2.out, R6.out, Q2.out, B6.out, E6.out, G6.out, by omega⟩
end Go.Proofs.YtmmllhdphlnpjaaDoor
