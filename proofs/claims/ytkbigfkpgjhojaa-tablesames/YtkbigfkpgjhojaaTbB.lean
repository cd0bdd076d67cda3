/- Tables as bytes: lists of texts, rows, currencies, units are laid. -/
import Derived.Test.YtkbigfkpgjhojaaTbA
namespace Go.Proofs.Ytkbigfkpgjhojaa
open Go.RowKit Florin
set_option linter.unusedVariables false
set_option linter.unusedSimpArgs false
attribute [local go_sem ↓] Go.wp_at_zero Go.wp_at_succ
/-- A row that lies below 'lim': element k has the cells that A tells. -/
def InL {α : Type} (w : World) (lim sz : Nat) (A : α → List Value → Prop) (v : Value) (l : List α) : Prop :=
  ∃ a cap, v = .slice a l.length cap ∧ l.length ≤ cap ∧ cap ≤ maxLen ∧ (0 < l.length → ∃ b off, a = some ⟨b, off, none⟩ ∧ b < lim ∧ b < w.heap.size ∧ ∀ k (h : k < l.length), ∃ c, A l[k] c ∧ c.length = sz ∧ ∀ j, j < sz → w.cell? ⟨b, off + k * sz + j, none⟩ = c[j]?)
theorem InL.move {α : Type} {w w' : World} {lim lim' sz : Nat} {A A' : α → List Value → Prop} {v : Value} {l : List α} (h : InL w lim sz A v l) (hA : ∀ x c, A x c → A' x c) (hl : lim ≤ lim') (hb : Below lim w w') : InL w' lim' sz A' v l := by
  obtain ⟨a, cap, h1, h2, h3, h4⟩ := h
  refine ⟨a, cap, h1, h2, h3, fun h0 => ?_⟩
  obtain ⟨b, off, e, hb1, hb2, hc⟩ := h4 h0
  refine ⟨b, off, e, Nat.lt_of_lt_of_le hb1 hl, Nat.lt_of_lt_of_le hb2 hb.size, fun k hk => ?_⟩
  obtain ⟨c, g1, g2, g3⟩ := hc k hk
  exact ⟨c, hA _ _ g1, g2, fun j hj => (hb.cell (p := ⟨b, off + k * sz + j, none⟩) hb1).trans (g3 j hj)⟩
def txA (x : TxM) (c : List Value) : Prop := c = [.int .i64 x.1, S x.2]
abbrev TxL (w : World) (lim : Nat) (v : Value) (l : List TxM) : Prop := InL w lim 2 txA v l
def rowA (w : World) (lim : Nat) (r : RowM) (c : List Value) : Prop := ∃ u, c = [.int .i64 r.1, u] ∧ TxL w lim u r.2
abbrev RowL (w : World) (lim : Nat) (v : Value) (l : List RowM) : Prop := InL w lim 2 (rowA w lim) v l
def curA (w : World) (lim : Nat) (x : CurM) (c : List Value) : Prop := ∃ u, c = [S x.code, S x.sym, S x.nar, u, .int .i64 x.d, .int .i64 x.i, .int .i64 x.cd, .int .i64 x.ci] ∧ TxL w lim u x.names
abbrev CurL (w : World) (lim : Nat) (v : Value) (l : List CurM) : Prop := InL w lim 8 (curA w lim) v l
def untA (w : World) (lim : Nat) (x : UntM) (c : List Value) : Prop := ∃ u, c = [S x.1, u] ∧ TxL w lim u x.2
abbrev UntL (w : World) (lim : Nat) (v : Value) (l : List UntM) : Prop := InL w lim 2 (untA w lim) v l
theorem TxL.move {w w' : World} {lim lim' : Nat} {v : Value} {l : List TxM} (h : TxL w lim v l) (hl : lim ≤ lim') (hb : Below lim w w') : TxL w' lim' v l := InL.move h (fun _ _ h => h) hl hb
theorem rowA.move {w w' : World} {lim lim' : Nat} (hl : lim ≤ lim') (hb : Below lim w w') (r : RowM) (c : List Value) (h : rowA w lim r c) : rowA w' lim' r c := by obtain ⟨u, e, g⟩ := h; exact ⟨u, e, g.move hl hb⟩
theorem curA.move {w w' : World} {lim lim' : Nat} (hl : lim ≤ lim') (hb : Below lim w w') (r : CurM) (c : List Value) (h : curA w lim r c) : curA w' lim' r c := by obtain ⟨u, e, g⟩ := h; exact ⟨u, e, g.move hl hb⟩
theorem untA.move {w w' : World} {lim lim' : Nat} (hl : lim ≤ lim') (hb : Below lim w w') (r : UntM) (c : List Value) (h : untA w lim r c) : untA w' lim' r c := by obtain ⟨u, e, g⟩ := h; exact ⟨u, e, g.move hl hb⟩
theorem RowL.move {w w' : World} {lim lim' : Nat} {v : Value} {l : List RowM} (h : RowL w lim v l) (hl : lim ≤ lim') (hb : Below lim w w') : RowL w' lim' v l := InL.move h (rowA.move hl hb) hl hb
theorem CurL.move {w w' : World} {lim lim' : Nat} {v : Value} {l : List CurM} (h : CurL w lim v l) (hl : lim ≤ lim') (hb : Below lim w w') : CurL w' lim' v l := InL.move h (curA.move hl hb) hl hb
theorem UntL.move {w w' : World} {lim lim' : Nat} {v : Value} {l : List UntM} (h : UntL w lim v l) (hl : lim ≤ lim') (hb : Below lim w w') : UntL w' lim' v l := InL.move h (untA.move hl hb) hl hb
theorem below_lim {w w' : World} {lim b : Nat} (hg : w.grownBy w' (some b)) (h1 : lim ≤ w.heap.size) (h2 : lim ≤ b) : Below lim w w' := below_grown (Below.refl _ _) h1 h2 hg
def nTx (x : TxM) : Prop := x.1 ≤ 9223372036854775807
def nRow (r : RowM) : Prop := r.1 ≤ 9223372036854775807 ∧ ∀ x ∈ r.2, nTx x
def nCur (c : CurM) : Prop := c.d ≤ 9223372036854775807 ∧ c.i ≤ 9223372036854775807 ∧ c.cd ≤ 9223372036854775807 ∧ c.ci ≤ 9223372036854775807 ∧ ∀ x ∈ c.names, nTx x
def nUnt (u : UntM) : Prop := ∀ x ∈ u.2, nTx x
theorem eT_le (s : List UInt8) : s.length ≤ (eT s).length := by unfold eT; rw [List.length_append]; omega
theorem eL_len {α : Type} (f : α → List UInt8) (l : List α) : (eL f l).length = (vnum l.length).length + (l.flatMap f).length := by unfold eL; rw [List.length_append]

set_option maxRecDepth 100000 in
set_option maxHeartbeats 3200000 in
theorem layLT_as (B b p lim : Nat) (s : List UInt8) (l : List TxM) (v : Value) (w : World) (hw : WrS w B b s) (hp : BoxT w p #[ptr b] TPw) (hin : InL w lim 2 txA v l) (hlim : lim ≤ b) (hn : ∀ x ∈ l, nTx x) (hl : s.length + (eL eTx l).length ≤ 900000000) :
    Calls Try.prog 52 #[ptr b, v, .func (Fn.func 53) #[] #[ptr p]] w fun e w' => e = .returned (.tuple #[]) ∧ WrS w' B b (s ++ eL eTx l) ∧ w.grownBy w' (some b) := by
  have hbw := hw.lt
  obtain ⟨bs, hbx⟩ := hw.box
  have hpb : p ≠ b := hp.apart hbx (by decide)
  have HW := Lib.hid hw
  have HP := Lib.hid hp
  have HN := Lib.hid hn
  have hl2 := hl
  rw [eL_len] at hl2
  obtain ⟨a, cap, rfl, hcap, hmax, hcell⟩ := hin
  unfold maxLen at hmax
  have HC := Lib.hid hcell
  clear hw hp hn hbx hcell
  go_enter Try.func52, Try.ntmps52
  go_wp2_with fail
  with_reducible refine (snum_as B b s _ _ HW.out (by omega) (by omega)).mono ?_
  rintro y w1 ⟨rfl, hw1, hg1⟩
  have HW1 : Hid (WrS w1 B b (s ++ vnum l.length)) := Lib.hid (by unfold eN at hw1; rw [Int.toNat_natCast] at hw1; exact hw1)
  have HG1 := Lib.hid hg1
  clear hw1 hg1
  go_wp2_with fail
  go_loopw [14] (fun i wr => ∃ k : Nat, k ≤ l.length ∧ i = .int .i64 (k : Int) ∧ WrS wr B b (s ++ vnum l.length ++ (l.take k).flatMap eTx) ∧ w.grownBy wr (some b)) (fun i _ => l.length - (intOf i).toNat)
  case atStart => exact ⟨0, Nat.zero_le _, rfl, by rw [List.take_zero]; simpa using HW1.out, HG1.out⟩
  case round =>
    obtain ⟨k, hk, rfl, hwr, hg⟩ := hrel
    have HWR := Lib.hid hwr
    have HG := Lib.hid hg
    have hws := hg.size
    have hbr := hwr.lt
    have BL : Hid (∀ q, q < lim → ∀ i, wr.cell? ⟨q, i, none⟩ = w.cell? ⟨q, i, none⟩) := Lib.hid (fun q hq i => (below_lim hg (by omega) hlim).cell (p := ⟨q, i, none⟩) hq)
    have BLW : Hid (Below lim w wr) := Lib.hid (below_lim hg (by omega) hlim)
    clear hwr hg HW1 HG1
    by_cases hlt : k < l.length
    · obtain ⟨bb, off, rfl, hbl, hbl2, hc⟩ := HC.out (by omega)
      obtain ⟨c, hA, hcl, hcc⟩ := hc k hlt
      have HT := Lib.hid (flat_take eTx l k hlt)
      have hnx := HN.out l[k] (List.getElem_mem hlt)
      have hml := flat_mem eTx (List.getElem_mem hlt)
      have hfl := flat_le eTx l (k + 1)
      rw [HT.out, List.length_append] at hfl
      obtain ⟨x, hx⟩ : ∃ x, x = l[k] := ⟨_, rfl⟩
      rw [← hx] at hA hnx HT hml hfl

      obtain rfl := hA
      have hcc2 : ∀ j, j < 2 → wr.cell? ⟨bb, off + k * 2 + j, none⟩ = _ := fun j hj => (BL.out bb hbl (off + k * 2 + j)).trans (hcc j hj)
      have q0 : wr.cell? ⟨bb, off + k * 2, none⟩ = _ := hcc2 0 (by decide)
      have q1 : wr.cell? ⟨bb, off + k * 2 + 1, none⟩ = _ := hcc2 1 (by decide)
      simp only [List.getElem?_cons_zero, List.getElem?_cons_succ] at q0 q1
      clear hcc hcc2 hc hcl hx
      have HNX := Lib.hid hnx
      clear hnx
      have hki : (k : Int) < (l.length : Int) := by omega
      obtain ⟨s1, hs1⟩ : ∃ s1, s1 = s ++ vnum l.length ++ (l.take k).flatMap eTx := ⟨_, rfl⟩
      have hs1l : s1.length + (eTx x).length ≤ 900000000 := by rw [hs1, List.length_append, List.length_append]; omega
      rw [← hs1] at HWR
      have HS1 := Lib.hid hs1
      clear hs1 hfl hml
      go_wp2_with fail
      have HW2 := Lib.hid (HWR.out.alloc (.cells #[.int .i64 x.1, S x.2] 56))
      have HP2 := Lib.hid ((HP.out.grown HG.out (fun e => hpb (Option.some.inj e))).alloc (.cells #[.int .i64 x.1, S x.2] 56))
      have HG2 := Lib.hid (grown_alloc HG.out (.cells #[.int .i64 x.1, S x.2] 56))
      have BL2 : Hid (Below lim w (wr.alloc (.cells #[.int .i64 x.1, S x.2] 56))) := Lib.hid (BLW.out.alloc (by omega) _)
      clear q0 q1
      generalize wr.alloc (.cells #[.int .i64 x.1, S x.2] 56) = w2 at *
      have hn9 : x.1 ≤ 9223372036854775807 := HNX.out
      with_reducible refine (layText1_as B b p s1 x _ HW2.out HP2.out hn9 hs1l).mono ?_
      rintro y w3 ⟨rfl, hw3, hg3⟩
      have HW3 := Lib.hid hw3
      have HG3 := Lib.hid (grown_trans HG2.out hg3)
      clear hw3 hg3
      go_wp2
      go_roundw
      case rel => exact ⟨k + 1, by omega, by go_num, by rw [HT.out, ← List.append_assoc, ← HS1.out]; exact HW3.out, HG3.out⟩
      case measure => simp [intOf]; omega
    · have hke : l.take k = l := List.take_of_length_le (by omega)
      rw [hke] at HWR
      clear hke
      go_wp2
      go_end0
      exact ⟨rfl, by unfold eL; rw [← List.append_assoc]; exact HWR.out, HG.out⟩
set_option maxRecDepth 100000 in
set_option maxHeartbeats 1600000 in
theorem layTexts_as (B b lim : Nat) (s : List UInt8) (l : List TxM) (v : Value) (w : World) (hw : WrS w B b s) (hin : TxL w lim v l) (hlim : lim ≤ b) (hn : ∀ x ∈ l, nTx x) (hl : s.length + (eTxs l).length ≤ 900000000) :
    Calls Try.prog 36 #[ptr b, v] w fun e w' => e = .returned (.tuple #[]) ∧ WrS w' B b (s ++ eTxs l) ∧ w.grownBy w' (some b) := by
  have hbw := hw.lt
  have HW := Lib.hid (hw.alloc (.cells #[ptr b] TPw))
  have HP := Lib.hid (BoxT.new w #[ptr b] TPw)
  have HI := Lib.hid (TxL.move hin (Nat.le_refl _) ((Below.refl lim w).alloc (by omega) (.cells #[ptr b] TPw)))
  have HG := Lib.hid (grown_alloc (World.grownBy.refl w (some b)) (.cells #[ptr b] TPw))
  have hl3 : s.length + (eL eTx l).length ≤ 900000000 := hl
  have hin2 := hin
  obtain ⟨va, vc, rfl, _, _, _⟩ := hin2
  clear hw hin
  go_enter Try.func36, Try.ntmps36
  go_wp2_with fail
  generalize w.alloc (.cells #[ptr b] TPw) = w0 at *
  generalize w.heap.size = p at *
  with_reducible refine (layLT_as B b p lim s l _ _ HW.out HP.out HI.out hlim hn hl3).mono ?_
  rintro y w3 ⟨rfl, hw3, hg3⟩
  have HW3 := Lib.hid hw3
  have HG3 := Lib.hid (grown_trans HG.out hg3)
  clear hw3 hg3
  go_wp2
  go_end0
  exact ⟨rfl, HW3.out, HG3.out⟩
set_option maxRecDepth 100000 in
set_option maxHeartbeats 3200000 in
theorem layRow1_as (B b p lim : Nat) (s : List UInt8) (x : RowM) (u : Value) (w : World) (hw : WrS w B b s) (hp : BoxT w p #[ptr b] TPw) (hu : TxL w lim u x.2) (hlim : lim ≤ b) (hn : x.1 ≤ 9223372036854775807) (hnt : ∀ y ∈ x.2, nTx y) (hl : s.length + (eRow x).length ≤ 900000000) :
    Calls Try.prog 51 #[.agg #[.int .i64 x.1, u], ptr p] w fun e w' => e = .returned (.tuple #[]) ∧ WrS w' B b (s ++ eRow x) ∧ w.grownBy w' (some b) := by
  obtain ⟨bs, hbx⟩ := hw.box
  have hpb : p ≠ b := hp.apart hbx (by decide)
  have hbl := hw.lt
  have hu2 := hu
  obtain ⟨va, vc, rfl, _, _, _⟩ := hu2
  have hel : (eRow x).length = (eN x.1).length + (eTxs x.2).length := by show (eN x.1 ++ eTxs x.2).length = _; rw [List.length_append]
  have HW := Lib.hid (hw.alloc (.cells #[.int .i64 x.1, .slice va x.2.length vc] 37))
  have HP := Lib.hid (hp.alloc (.cells #[.int .i64 x.1, .slice va x.2.length vc] 37))
  have HX := Lib.hid (BoxT.new w #[.int .i64 x.1, .slice va x.2.length vc] 37)
  have HU := Lib.hid (TxL.move hu (Nat.le_refl _) ((Below.refl lim w).alloc (by omega) (.cells #[.int .i64 x.1, .slice va x.2.length vc] 37)))
  have HG0 : Hid (w.grownBy (w.alloc (.cells #[.int .i64 x.1, .slice va x.2.length vc] 37)) (some b)) := Lib.hid (grown_alloc (World.grownBy.refl w _) _)
  have hp0 : (w.alloc (.cells #[.int .i64 x.1, .slice va x.2.length vc] 37)).cell? ⟨p, 0, none⟩ = some (ptr b) := HP.out.cell 0
  have hxb : w.heap.size ≠ b := by omega
  clear hw hp hbx hu
  go_enter Try.func51, Try.ntmps51
  go_wp2_with fail
  with_reducible refine (snum_as B b s x.1 _ HW.out hn (by omega)).mono ?_
  rintro y w1 ⟨rfl, hw1, hg1⟩
  have HW1 := Lib.hid hw1
  have HG1 := Lib.hid (grown_trans HG0.out hg1)
  have hp1 : w1.cell? ⟨p, 0, none⟩ = some (ptr b) := (HP.out.grown hg1 (fun e => hpb (Option.some.inj e))).cell 0
  have hx1 : w1.cell? ⟨w.heap.size, 1, none⟩ = some (.slice va x.2.length vc) := (HX.out.grown hg1 (fun e => hxb (Option.some.inj e))).cell 1
  have HU1 := Lib.hid (TxL.move HU.out (Nat.le_refl _) (below_lim hg1 (by simp; omega) hlim))
  have hl4 : (s ++ eN x.1).length + (eTxs x.2).length ≤ 900000000 := by rw [List.length_append]; omega
  clear hw1 hg1 hp0
  go_wp2_with fail
  with_reducible refine (layTexts_as B b lim _ x.2 _ _ HW1.out HU1.out hlim hnt hl4).mono ?_
  rintro y w2 ⟨rfl, hw2, hg2⟩
  have HW2 := Lib.hid hw2
  have HG2 := Lib.hid (grown_trans HG1.out hg2)
  clear hw2 hg2
  go_wp2
  go_end0
  exact ⟨rfl, by rw [List.append_assoc] at HW2; exact HW2.out, HG2.out⟩
set_option maxRecDepth 100000 in
set_option maxHeartbeats 3200000 in
theorem layUnt1_as (B b p lim : Nat) (s : List UInt8) (x : UntM) (u : Value) (w : World) (hw : WrS w B b s) (hp : BoxT w p #[ptr b] TPw) (hu : TxL w lim u x.2) (hlim : lim ≤ b) (hn : x.1.length ≤ (eT x.1).length) (hnt : ∀ y ∈ x.2, nTx y) (hl : s.length + (eUnt x).length ≤ 900000000) :
    Calls Try.prog 38 #[.agg #[S x.1, u], ptr p] w fun e w' => e = .returned (.tuple #[]) ∧ WrS w' B b (s ++ eUnt x) ∧ w.grownBy w' (some b) := by
  obtain ⟨bs, hbx⟩ := hw.box
  have hpb : p ≠ b := hp.apart hbx (by decide)
  have hbl := hw.lt
  have hu2 := hu
  obtain ⟨va, vc, rfl, _, _, _⟩ := hu2
  have hel : (eUnt x).length = (eT x.1).length + (eTxs x.2).length := by show (eT x.1 ++ eTxs x.2).length = _; rw [List.length_append]
  have HW := Lib.hid (hw.alloc (.cells #[S x.1, .slice va x.2.length vc] 50))
  have HP := Lib.hid (hp.alloc (.cells #[S x.1, .slice va x.2.length vc] 50))
  have HX := Lib.hid (BoxT.new w #[S x.1, .slice va x.2.length vc] 50)
  have HU := Lib.hid (TxL.move hu (Nat.le_refl _) ((Below.refl lim w).alloc (by omega) (.cells #[S x.1, .slice va x.2.length vc] 50)))
  have HG0 : Hid (w.grownBy (w.alloc (.cells #[S x.1, .slice va x.2.length vc] 50)) (some b)) := Lib.hid (grown_alloc (World.grownBy.refl w _) _)
  have hp0 : (w.alloc (.cells #[S x.1, .slice va x.2.length vc] 50)).cell? ⟨p, 0, none⟩ = some (ptr b) := HP.out.cell 0
  have hxb : w.heap.size ≠ b := by omega
  clear hw hp hbx hu
  go_enter Try.func38, Try.ntmps38
  go_wp2_with fail
  with_reducible refine (stext_as B b s x.1 _ HW.out (by rw [hel] at hl; have := hn; omega)).mono ?_
  rintro y w1 ⟨rfl, hw1, hg1⟩
  have HW1 := Lib.hid hw1
  have HG1 := Lib.hid (grown_trans HG0.out hg1)
  have hp1 : w1.cell? ⟨p, 0, none⟩ = some (ptr b) := (HP.out.grown hg1 (fun e => hpb (Option.some.inj e))).cell 0
  have hx1 : w1.cell? ⟨w.heap.size, 1, none⟩ = some (.slice va x.2.length vc) := (HX.out.grown hg1 (fun e => hxb (Option.some.inj e))).cell 1
  have HU1 := Lib.hid (TxL.move HU.out (Nat.le_refl _) (below_lim hg1 (by simp; omega) hlim))
  have hl4 : (s ++ eT x.1).length + (eTxs x.2).length ≤ 900000000 := by rw [List.length_append]; omega
  clear hw1 hg1 hp0
  go_wp2_with fail
  with_reducible refine (layTexts_as B b lim _ x.2 _ _ HW1.out HU1.out hlim hnt hl4).mono ?_
  rintro y w2 ⟨rfl, hw2, hg2⟩
  have HW2 := Lib.hid hw2
  have HG2 := Lib.hid (grown_trans HG1.out hg2)
  clear hw2 hg2
  go_wp2
  go_end0
  exact ⟨rfl, by rw [List.append_assoc] at HW2; exact HW2.out, HG2.out⟩
set_option maxRecDepth 100000 in
set_option maxHeartbeats 3200000 in
theorem layLR_as (B b p lim : Nat) (s : List UInt8) (l : List RowM) (v : Value) (w : World) (hw : WrS w B b s) (hp : BoxT w p #[ptr b] TPw) (hin : InL w lim 2 (rowA w lim) v l) (hlim : lim ≤ b) (hn : ∀ x ∈ l, nRow x) (hl : s.length + (eL eRow l).length ≤ 900000000) :
    Calls Try.prog 50 #[ptr b, v, .func (Fn.func 51) #[] #[ptr p]] w fun e w' => e = .returned (.tuple #[]) ∧ WrS w' B b (s ++ eL eRow l) ∧ w.grownBy w' (some b) := by
  have hbw := hw.lt
  obtain ⟨bs, hbx⟩ := hw.box
  have hpb : p ≠ b := hp.apart hbx (by decide)
  have HW := Lib.hid hw
  have HP := Lib.hid hp
  have HN := Lib.hid hn
  have hl2 := hl
  rw [eL_len] at hl2
  obtain ⟨a, cap, rfl, hcap, hmax, hcell⟩ := hin
  unfold maxLen at hmax
  have HC := Lib.hid hcell
  clear hw hp hn hbx hcell
  go_enter Try.func50, Try.ntmps50
  go_wp2_with fail
  with_reducible refine (snum_as B b s _ _ HW.out (by omega) (by omega)).mono ?_
  rintro y w1 ⟨rfl, hw1, hg1⟩
  have HW1 : Hid (WrS w1 B b (s ++ vnum l.length)) := Lib.hid (by unfold eN at hw1; rw [Int.toNat_natCast] at hw1; exact hw1)
  have HG1 := Lib.hid hg1
  clear hw1 hg1
  go_wp2_with fail
  go_loopw [14] (fun i wr => ∃ k : Nat, k ≤ l.length ∧ i = .int .i64 (k : Int) ∧ WrS wr B b (s ++ vnum l.length ++ (l.take k).flatMap eRow) ∧ w.grownBy wr (some b)) (fun i _ => l.length - (intOf i).toNat)
  case atStart => exact ⟨0, Nat.zero_le _, rfl, by rw [List.take_zero]; simpa using HW1.out, HG1.out⟩
  case round =>
    obtain ⟨k, hk, rfl, hwr, hg⟩ := hrel
    have HWR := Lib.hid hwr
    have HG := Lib.hid hg
    have hws := hg.size
    have hbr := hwr.lt
    have BL : Hid (∀ q, q < lim → ∀ i, wr.cell? ⟨q, i, none⟩ = w.cell? ⟨q, i, none⟩) := Lib.hid (fun q hq i => (below_lim hg (by omega) hlim).cell (p := ⟨q, i, none⟩) hq)
    have BLW : Hid (Below lim w wr) := Lib.hid (below_lim hg (by omega) hlim)
    clear hwr hg HW1 HG1
    by_cases hlt : k < l.length
    · obtain ⟨bb, off, rfl, hbl, hbl2, hc⟩ := HC.out (by omega)
      obtain ⟨c, hA, hcl, hcc⟩ := hc k hlt
      have HT := Lib.hid (flat_take eRow l k hlt)
      have hnx := HN.out l[k] (List.getElem_mem hlt)
      have hml := flat_mem eRow (List.getElem_mem hlt)
      have hfl := flat_le eRow l (k + 1)
      rw [HT.out, List.length_append] at hfl
      obtain ⟨x, hx⟩ : ∃ x, x = l[k] := ⟨_, rfl⟩
      rw [← hx] at hA hnx HT hml hfl

      obtain ⟨u, rfl, hu⟩ := hA
      have hu2 := hu
      obtain ⟨ua, uc, rfl, _, _, _⟩ := hu2
      have HU := Lib.hid hu
      clear hu
      have hcc2 : ∀ j, j < 2 → wr.cell? ⟨bb, off + k * 2 + j, none⟩ = _ := fun j hj => (BL.out bb hbl (off + k * 2 + j)).trans (hcc j hj)
      have q0 : wr.cell? ⟨bb, off + k * 2, none⟩ = _ := hcc2 0 (by decide)
      have q1 : wr.cell? ⟨bb, off + k * 2 + 1, none⟩ = _ := hcc2 1 (by decide)
      simp only [List.getElem?_cons_zero, List.getElem?_cons_succ] at q0 q1
      clear hcc hcc2 hc hcl hx
      have HNX := Lib.hid hnx
      clear hnx
      have hki : (k : Int) < (l.length : Int) := by omega
      obtain ⟨s1, hs1⟩ : ∃ s1, s1 = s ++ vnum l.length ++ (l.take k).flatMap eRow := ⟨_, rfl⟩
      have hs1l : s1.length + (eRow x).length ≤ 900000000 := by rw [hs1, List.length_append, List.length_append]; omega
      rw [← hs1] at HWR
      have HS1 := Lib.hid hs1
      clear hs1 hfl hml
      go_wp2_with fail
      have HW2 := Lib.hid (HWR.out.alloc (.cells #[.int .i64 x.1, .slice ua x.2.length uc] 37))
      have HP2 := Lib.hid ((HP.out.grown HG.out (fun e => hpb (Option.some.inj e))).alloc (.cells #[.int .i64 x.1, .slice ua x.2.length uc] 37))
      have HG2 := Lib.hid (grown_alloc HG.out (.cells #[.int .i64 x.1, .slice ua x.2.length uc] 37))
      have BL2 : Hid (Below lim w (wr.alloc (.cells #[.int .i64 x.1, .slice ua x.2.length uc] 37))) := Lib.hid (BLW.out.alloc (by omega) _)
      clear q0 q1
      generalize wr.alloc (.cells #[.int .i64 x.1, .slice ua x.2.length uc] 37) = w2 at *
      have hn9 : x.1 ≤ 9223372036854775807 := HNX.out.1
      have hn8 : ∀ y ∈ x.2, nTx y := HNX.out.2
      have HU2 := Lib.hid (TxL.move HU.out (Nat.le_refl _) BL2.out)
      with_reducible refine (layRow1_as B b p lim s1 x _ _ HW2.out HP2.out HU2.out hlim hn9 hn8 hs1l).mono ?_
      rintro y w3 ⟨rfl, hw3, hg3⟩
      have HW3 := Lib.hid hw3
      have HG3 := Lib.hid (grown_trans HG2.out hg3)
      clear hw3 hg3
      go_wp2
      go_roundw
      case rel => exact ⟨k + 1, by omega, by go_num, by rw [HT.out, ← List.append_assoc, ← HS1.out]; exact HW3.out, HG3.out⟩
      case measure => simp [intOf]; omega
    · have hke : l.take k = l := List.take_of_length_le (by omega)
      rw [hke] at HWR
      clear hke
      go_wp2
      go_end0
      exact ⟨rfl, by unfold eL; rw [← List.append_assoc]; exact HWR.out, HG.out⟩
set_option maxRecDepth 100000 in
set_option maxHeartbeats 1600000 in
theorem layRows_as (B b lim : Nat) (s : List UInt8) (l : List RowM) (v : Value) (w : World) (hw : WrS w B b s) (hin : RowL w lim v l) (hlim : lim ≤ b) (hn : ∀ x ∈ l, nRow x) (hl : s.length + (eRows l).length ≤ 900000000) :
    Calls Try.prog 33 #[ptr b, v] w fun e w' => e = .returned (.tuple #[]) ∧ WrS w' B b (s ++ eRows l) ∧ w.grownBy w' (some b) := by
  have hbw := hw.lt
  have HW := Lib.hid (hw.alloc (.cells #[ptr b] TPw))
  have HP := Lib.hid (BoxT.new w #[ptr b] TPw)
  have HI := Lib.hid (RowL.move hin (Nat.le_refl _) ((Below.refl lim w).alloc (by omega) (.cells #[ptr b] TPw)))
  have HG := Lib.hid (grown_alloc (World.grownBy.refl w (some b)) (.cells #[ptr b] TPw))
  have hl3 : s.length + (eL eRow l).length ≤ 900000000 := hl
  have hin2 := hin
  obtain ⟨va, vc, rfl, _, _, _⟩ := hin2
  clear hw hin
  go_enter Try.func33, Try.ntmps33
  go_wp2_with fail
  generalize w.alloc (.cells #[ptr b] TPw) = w0 at *
  generalize w.heap.size = p at *
  with_reducible refine (layLR_as B b p lim s l _ _ HW.out HP.out HI.out hlim hn hl3).mono ?_
  rintro y w3 ⟨rfl, hw3, hg3⟩
  have HW3 := Lib.hid hw3
  have HG3 := Lib.hid (grown_trans HG.out hg3)
  clear hw3 hg3
  go_wp2
  go_end0
  exact ⟨rfl, HW3.out, HG3.out⟩
set_option maxRecDepth 100000 in
set_option maxHeartbeats 3200000 in
theorem layLU_as (B b p lim : Nat) (s : List UInt8) (l : List UntM) (v : Value) (w : World) (hw : WrS w B b s) (hp : BoxT w p #[ptr b] TPw) (hin : InL w lim 2 (untA w lim) v l) (hlim : lim ≤ b) (hn : ∀ x ∈ l, nUnt x) (hl : s.length + (eL eUnt l).length ≤ 900000000) :
    Calls Try.prog 37 #[ptr b, v, .func (Fn.func 38) #[] #[ptr p]] w fun e w' => e = .returned (.tuple #[]) ∧ WrS w' B b (s ++ eL eUnt l) ∧ w.grownBy w' (some b) := by
  have hbw := hw.lt
  obtain ⟨bs, hbx⟩ := hw.box
  have hpb : p ≠ b := hp.apart hbx (by decide)
  have HW := Lib.hid hw
  have HP := Lib.hid hp
  have HN := Lib.hid hn
  have hl2 := hl
  rw [eL_len] at hl2
  obtain ⟨a, cap, rfl, hcap, hmax, hcell⟩ := hin
  unfold maxLen at hmax
  have HC := Lib.hid hcell
  clear hw hp hn hbx hcell
  go_enter Try.func37, Try.ntmps37
  go_wp2_with fail
  with_reducible refine (snum_as B b s _ _ HW.out (by omega) (by omega)).mono ?_
  rintro y w1 ⟨rfl, hw1, hg1⟩
  have HW1 : Hid (WrS w1 B b (s ++ vnum l.length)) := Lib.hid (by unfold eN at hw1; rw [Int.toNat_natCast] at hw1; exact hw1)
  have HG1 := Lib.hid hg1
  clear hw1 hg1
  go_wp2_with fail
  go_loopw [14] (fun i wr => ∃ k : Nat, k ≤ l.length ∧ i = .int .i64 (k : Int) ∧ WrS wr B b (s ++ vnum l.length ++ (l.take k).flatMap eUnt) ∧ w.grownBy wr (some b)) (fun i _ => l.length - (intOf i).toNat)
  case atStart => exact ⟨0, Nat.zero_le _, rfl, by rw [List.take_zero]; simpa using HW1.out, HG1.out⟩
  case round =>
    obtain ⟨k, hk, rfl, hwr, hg⟩ := hrel
    have HWR := Lib.hid hwr
    have HG := Lib.hid hg
    have hws := hg.size
    have hbr := hwr.lt
    have BL : Hid (∀ q, q < lim → ∀ i, wr.cell? ⟨q, i, none⟩ = w.cell? ⟨q, i, none⟩) := Lib.hid (fun q hq i => (below_lim hg (by omega) hlim).cell (p := ⟨q, i, none⟩) hq)
    have BLW : Hid (Below lim w wr) := Lib.hid (below_lim hg (by omega) hlim)
    clear hwr hg HW1 HG1
    by_cases hlt : k < l.length
    · obtain ⟨bb, off, rfl, hbl, hbl2, hc⟩ := HC.out (by omega)
      obtain ⟨c, hA, hcl, hcc⟩ := hc k hlt
      have HT := Lib.hid (flat_take eUnt l k hlt)
      have hnx := HN.out l[k] (List.getElem_mem hlt)
      have hml := flat_mem eUnt (List.getElem_mem hlt)
      have hfl := flat_le eUnt l (k + 1)
      rw [HT.out, List.length_append] at hfl
      obtain ⟨x, hx⟩ : ∃ x, x = l[k] := ⟨_, rfl⟩
      rw [← hx] at hA hnx HT hml hfl

      obtain ⟨u, rfl, hu⟩ := hA
      have hu2 := hu
      obtain ⟨ua, uc, rfl, _, _, _⟩ := hu2
      have HU := Lib.hid hu
      clear hu
      have hcc2 : ∀ j, j < 2 → wr.cell? ⟨bb, off + k * 2 + j, none⟩ = _ := fun j hj => (BL.out bb hbl (off + k * 2 + j)).trans (hcc j hj)
      have q0 : wr.cell? ⟨bb, off + k * 2, none⟩ = _ := hcc2 0 (by decide)
      have q1 : wr.cell? ⟨bb, off + k * 2 + 1, none⟩ = _ := hcc2 1 (by decide)
      simp only [List.getElem?_cons_zero, List.getElem?_cons_succ] at q0 q1
      clear hcc hcc2 hc hcl hx
      have HNX := Lib.hid hnx
      clear hnx
      have hki : (k : Int) < (l.length : Int) := by omega
      obtain ⟨s1, hs1⟩ : ∃ s1, s1 = s ++ vnum l.length ++ (l.take k).flatMap eUnt := ⟨_, rfl⟩
      have hs1l : s1.length + (eUnt x).length ≤ 900000000 := by rw [hs1, List.length_append, List.length_append]; omega
      rw [← hs1] at HWR
      have HS1 := Lib.hid hs1
      clear hs1 hfl hml
      go_wp2_with fail
      have HW2 := Lib.hid (HWR.out.alloc (.cells #[S x.1, .slice ua x.2.length uc] 50))
      have HP2 := Lib.hid ((HP.out.grown HG.out (fun e => hpb (Option.some.inj e))).alloc (.cells #[S x.1, .slice ua x.2.length uc] 50))
      have HG2 := Lib.hid (grown_alloc HG.out (.cells #[S x.1, .slice ua x.2.length uc] 50))
      have BL2 : Hid (Below lim w (wr.alloc (.cells #[S x.1, .slice ua x.2.length uc] 50))) := Lib.hid (BLW.out.alloc (by omega) _)
      clear q0 q1
      generalize wr.alloc (.cells #[S x.1, .slice ua x.2.length uc] 50) = w2 at *
      have hn9 : ∀ y ∈ x.2, nTx y := HNX.out
      have hn8 : x.1.length ≤ (eT x.1).length := eT_le x.1
      have HU2 := Lib.hid (TxL.move HU.out (Nat.le_refl _) BL2.out)
      with_reducible refine (layUnt1_as B b p lim s1 x _ _ HW2.out HP2.out HU2.out hlim hn8 hn9 hs1l).mono ?_
      rintro y w3 ⟨rfl, hw3, hg3⟩
      have HW3 := Lib.hid hw3
      have HG3 := Lib.hid (grown_trans HG2.out hg3)
      clear hw3 hg3
      go_wp2
      go_roundw
      case rel => exact ⟨k + 1, by omega, by go_num, by rw [HT.out, ← List.append_assoc, ← HS1.out]; exact HW3.out, HG3.out⟩
      case measure => simp [intOf]; omega
    · have hke : l.take k = l := List.take_of_length_le (by omega)
      rw [hke] at HWR
      clear hke
      go_wp2
      go_end0
      exact ⟨rfl, by unfold eL; rw [← List.append_assoc]; exact HWR.out, HG.out⟩
end Go.Proofs.Ytkbigfkpgjhojaa
