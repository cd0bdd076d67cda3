/- The reader of patterns: pieces side by side. -/
import Derived.Test.YtmmllhdphlnpjaaDoorPtI
namespace Florin
theorem lits_sum : ∀ (n : Nat) (acc l x r : List UInt8), l.length ≤ n → litsQ acc l = .ok x r → x.length + r.length ≤ acc.length + l.length
  | n, acc, l, x, r, hn, h => by
    cases h1 : litQ l with
    | bad q => rw [lits_bad h1] at h; cases h
    | ok y q =>
      have hs := lit_sum h1
      by_cases hy : y = []
      · subst hy
        rw [lits_end h1] at h
        injection h with h2 h3
        subst h2 h3
        simp at hs; omega
      · have hl := lit_less h1 hy
        rw [lits_more h1 hy] at h
        cases n with
        | zero => omega
        | succ n =>
          have h2 := lits_sum n _ q x r (by omega) h
          rw [List.length_append] at h2; omega
theorem piece_less {l r : List UInt8} {x : PcT} (h : pieceP l = .ok (x, true) r) : r.length < l.length := by
  by_cases hno : ∀ j, 1 ≤ j → j < 5 → (sgn j).isPrefixOf l = false
  · obtain ⟨c, hc⟩ : ∃ c, cntP [194, 164] l = c := ⟨_, rfl⟩
    by_cases h0 : 0 < c
    · rw [piece_cur hno hc h0] at h
      injection h with _ h2
      have hle := Go.Proofs.YtmmllhdphlnpjaaDoor.cnt_le (g := [194, 164]) (by simp) _ l (Nat.le_refl _)
      rw [hc] at hle
      simp only [List.length_cons, List.length_nil] at hle
      rw [← h2, List.length_drop]; omega
    · obtain rfl : c = 0 := by omega
      cases h1 : litsQ [] l with
      | bad q => rw [piece_bad hno hc h1] at h; cases h
      | ok t q =>
        rw [piece_lit hno hc h1] at h
        injection h with h2 h3
        injection h2 with _ h4
        have hs := lits_sum _ _ _ _ _ (Nat.le_refl _) h1
        have ht : 0 < t.length := by cases t with | nil => simp at h4 | cons c t => simp
        simp at hs
        rw [← h3]; omega
  · -- the first of the four signs that stands here
    have key : ∀ n, n ≤ 5 → (∀ j, 1 ≤ j → j < n → (sgn j).isPrefixOf l = false) ∨ ∃ k, 1 ≤ k ∧ k ≤ 4 ∧ (∀ j, 1 ≤ j → j < k → (sgn j).isPrefixOf l = false) ∧ (sgn k).isPrefixOf l = true := by
      intro n
      induction n with
      | zero => intro _; exact .inl (fun j _ h => absurd h (by omega))
      | succ n ih =>
        intro hn
        rcases ih (by omega) with h1 | h1
        · by_cases hn0 : 1 ≤ n
          · cases hp : (sgn n).isPrefixOf l with
            | true => exact .inr ⟨n, hn0, by omega, h1, hp⟩
            | false => exact .inl (fun j a b => by
                by_cases e : j = n
                · subst e; exact hp
                · exact h1 j a (by omega))
          · exact .inl (fun j a b => absurd b (by omega))
        · exact .inr h1
    rcases key 5 (by omega) with h1 | ⟨k, hk1, hk4, hk, hp⟩
    · exact absurd h1 hno
    · rw [piece_sgn k l hk1 hk4 hk hp] at h
      injection h with _ h2
      have h3 := pre_len2 hp
      have h4 := List.length_pos_iff.2 (sgn_ne k hk1 (by omega))
      rw [← h2, List.length_drop]; omega
theorem affP_more : ∀ (f k : Nat) (acc : List PcT) (l : List UInt8), l.length < f → l.length < k → affP f acc l = affP k acc l
  | 0, _, _, l, h, _ => absurd h (by omega)
  | _ + 1, 0, _, l, _, h => absurd h (by omega)
  | f + 1, k + 1, acc, l, hf, hk => by
    unfold affP
    cases ho : pieceP l with
    | bad r => rfl
    | ok x r =>
      obtain ⟨x, z⟩ := x
      cases z with
      | false => rfl
      | true =>
        have := piece_less ho
        exact affP_more f k _ _ (by omega) (by omega)
def affQ (acc : List PcT) (l : List UInt8) : PR (List PcT) := affP (l.length + 1) acc l
theorem aff_bad {acc : List PcT} {l r : List UInt8} (h : pieceP l = .bad r) : affQ acc l = .bad r := by unfold affQ affP; rw [h]
theorem aff_end {acc : List PcT} {l r : List UInt8} {x : PcT} (h : pieceP l = .ok (x, false) r) : affQ acc l = .ok acc r := by unfold affQ affP; rw [h]
theorem aff_more {acc : List PcT} {l r : List UInt8} {x : PcT} (h : pieceP l = .ok (x, true) r) : affQ acc l = affQ (acc ++ [x]) r := by
  have h1 := piece_less h
  unfold affQ
  rw [show affP (l.length + 1) acc l = (match pieceP l with | .bad r => .bad r | .ok (_, false) r => .ok acc r | .ok (x, true) r => affP l.length (acc ++ [x]) r) from rfl, h]
  exact affP_more _ _ _ _ h1 (by omega)
end Florin
namespace Go.Proofs.YtmmllhdphlnpjaaDoor
open Go.RowKit Florin
set_option linter.unusedVariables false
set_option linter.unusedSimpArgs false
attribute [local go_sem ↓] Go.wp_at_zero Go.wp_at_succ
theorem infoPc : (Tryd.prog.info? TPc).map (fun i => (i.zero, i.size, i.bytes)) = some (some (.agg #[.int .i64 0, .string ⟨#[]⟩, .int .i64 0]), 3, 32) := by kernel_rfl
abbrev OwnPc (w : World) (base : Nat) (v : Value) (l : List PcT) : Prop := OwnA w base TPc 3 pcA v l
abbrev PcL (w : World) (v : Value) (l : List PcT) : Prop := LisT w TPc 3 pcA v l
def PcsV (w : World) (x : List PcT) (v : Value) : Prop := PcL w v x
theorem OwnPc.below {w w' : World} {base : Nat} {v : Value} {l : List PcT} (h : OwnPc w base v l) (hb : Below w.heap.size w w') : OwnPc w' base v l := OwnA.keep h (KeepB.below hb) (fun _ _ h => h)
theorem OwnPc.rd {w w' : World} {base : Nat} {v : Value} {l : List PcT} (h : OwnPc w base v l) {b : Nat} {T : ByteArray} {p : Nat} (hr : Rd w b T p) (hg : w.grownBy w' (some b)) : OwnPc w' base v l := OwnA.keep h (KeepB.of hr (by decide) hg) (fun _ _ h => h)
theorem PcL.rd {w w' : World} {v : Value} {l : List PcT} (h : PcL w v l) {b : Nat} {T : ByteArray} {p : Nat} (hr : Rd w b T p) (hg : w.grownBy w' (some b)) : PcL w' v l := LisT.keep h (KeepB.of hr (by decide) hg) (fun _ _ h => h)
theorem EnvP.belowB {w w' : World} (h : EnvP w) {B : Nat} (hb : Below B w w') (hB : (0 < B ∧ 1 < B ∧ 3 < B) ∧ 2 < B) : EnvP w' := ⟨env_belowB h.e hb hB.1, h.s.belowB hb hB.2⟩
theorem EnvP.low {w : World} (h : EnvP w) : (0 < w.heap.size ∧ 1 < w.heap.size ∧ 3 < w.heap.size) ∧ 2 < w.heap.size := ⟨h.e.low, h.s.lt⟩
theorem below_put3 {w : World} (o : Obj) (v0 v1 v2 : Value) : Below w.heap.size w (put3 (w.alloc o) w.heap.size v0 v1 v2) :=
  ((((Below.refl _ w).alloc (Nat.le_refl _) o).setCell (Nat.le_refl _) v0).setCell (Nat.le_refl _) v1).setCell (Nat.le_refl _) v2
set_option maxRecDepth 100000 in
set_option maxHeartbeats 3200000 in
theorem raffix_as (b : Nat) (T : ByteArray) (p : Nat) (l : List UInt8) (w : World) (h : Rd w b T p) (ha : At T p l) (hT : T.size ≤ 1000) (hE : EnvP w) (R : PR (List PcT)) (hR : affQ [] l = R) :
    Calls Tryd.prog 30 #[.pointer (some ⟨b, 0, none⟩)] w (PTold b T w PcsV R) := by
  have HR := Lib.hid h
  have HA := Lib.hid ha
  have hlT : l.length ≤ 1000 := by have := ha.len; omega
  have HQ := Lib.hid hR
  have bl := h.lt
  have HLo := Lib.hid hE.low
  have E0 := Lib.hid hE
  have O0 : Hid (OwnPc w w.heap.size (.slice none 0 0) []) := Lib.hid (OwnA.nil _ _ _ _ _)
  obtain ⟨i0, hi, hz0, hz1, hz2⟩ := info_parts infoPc
  clear h ha hE hR
  go_enter Tryd.func30, Tryd.ntmps30
  go_wp2_with fail
  go_loopg [3] (l.length) (fun k v wr => ∃ q m acc, k = m.length ∧ acc.length + m.length ≤ l.length ∧ At T q m ∧ Rd wr b T q ∧ affQ acc m = R ∧ OwnPc wr w.heap.size v acc ∧ EnvP wr ∧ w.grownBy wr (some b))
  case atStart => exact ⟨p, l, [], rfl, by simp, HA.out, HR.out, HQ.out, O0.out, E0.out, World.grownBy.refl _ _⟩
  case round =>
    obtain ⟨q, m, acc, hk, hac, hat, hr, hq, ho, he, hg⟩ := hrel
    have HK := Lib.hid hk
    have AM := Lib.hid hat
    have RM := Lib.hid hr
    have QM := Lib.hid hq
    have EM := Lib.hid he
    have GM := Lib.hid hg
    have hsz := hg.size
    obtain ⟨xs0, hox0, hxe0⟩ := ho
    obtain ⟨ao, co, rfl⟩ := own_slice hox0
    have OM : Hid (OwnPc wr w.heap.size (.slice ao acc.length co) acc) := Lib.hid ⟨xs0, hox0, hxe0⟩
    clear hk hat hr hq he hg hox0 hxe0
    obtain ⟨R1, hR1⟩ : ∃ R1, pieceP m = R1 := ⟨_, rfl⟩
    have HR1 := Lib.hid hR1
    clear hR1
    go_wp2_with fail
    with_reducible refine (piece_as b T q m _ RM.out AM.out hT EM.out R1 HR1.out).mono ?_
    intro e w1 ht
    cases R1 with
    | bad r =>
      obtain ⟨q1, rfl, hat, hg⟩ := ht
      have Q2 := Lib.hid ((aff_bad HR1.out).symm.trans QM.out)
      have G1 := Lib.hid (grown_trans GM.out hg)
      have A1 := Lib.hid hat
      clear hat hg
      go_wp2
      rw [← Q2.out]
      exact ⟨rfl, q1, rfl, A1.out, G1.out⟩
    | ok x r =>
      obtain ⟨x, z⟩ := x
      obtain ⟨v, q1, rfl, hv, hat, hr, hg⟩ := ht
      obtain rfl : v = .tuple #[.agg (pcC x), .bool z] := hv
      have A1 := Lib.hid hat
      have R1' := Lib.hid hr
      have E1 := Lib.hid (EM.out.grown RM.out hg)
      have O1 := Lib.hid (OwnPc.rd OM.out RM.out hg)
      have G1 := Lib.hid (grown_trans GM.out hg)
      have hs1 := hg.size
      obtain ⟨xk, xt, xn⟩ := x
      have P1 : Hid (BoxT (w1.alloc (.cells #[.int .i64 (xk : Int), S xt, .int .i64 (xn : Int)] TPc)) w1.heap.size (pcC ⟨xk, xt, xn⟩) TPc) := Lib.hid (BoxT.new w1 _ _)
      have B1 := Lib.hid (below_alloc w1 (.cells #[.int .i64 (xk : Int), S xt, .int .i64 (xn : Int)] TPc))
      clear hat hr hg
      cases z with
      | false =>
        have Q2 := Lib.hid ((aff_end HR1.out).symm.trans QM.out)
        simp only [pcC]
        go_wp2
        go_ret
        rw [← Q2.out]
        exact ⟨_, q1, rfl, (OwnPc.below O1.out B1.out).lisT, A1.out, R1'.out.below B1.out, grown_below G1.out B1.out (by omega)⟩
      | true =>
        have Q2 := Lib.hid ((aff_more HR1.out).symm.trans QM.out)
        have hless := piece_less HR1.out
        simp only [pcC]
        go_upto_region 5 with fail
        have O2 := Lib.hid (OwnPc.below O1.out B1.out)
        have R2 := Lib.hid (R1'.out.below B1.out)
        have E2 := Lib.hid (E1.out.below B1.out)
        have G2 := Lib.hid (grown_below G1.out B1.out (by omega))
        have hs2 := B1.out.size
        generalize w1.alloc (.cells #[.int .i64 (xk : Int), S xt, .int .i64 (xn : Int)] TPc) = w2 at *
        have p0 := P1.out.cell 0
        have p1 := P1.out.cell 1
        have p2 := P1.out.cell 2
        simp [pcC] at p0 p1 p2
        obtain ⟨xs, hox, hxe⟩ := O2.out
        have HOX := Lib.hid hox
        have HXE := Lib.hid hxe
        clear hox hxe
        go_wp2_with (at_builtin; refine wpList_append_lies _ rfl _ _ _ rfl w.heap.size TPc i0 (.agg #[.int .i64 0, .string ⟨#[]⟩, .int .i64 0]) 3 32 Tryd.underlying23 hi hz0 hz1 hz2 rfl (by omega) (.slice ao acc.length co) acc.length xs rfl (own_below HOX.out (below_alloc _ _)) ⟨w2.heap.size, 0, none⟩ 1 1 [.int .i64 (xk : Int), S xt, .int .i64 (xn : Int)] rfl rfl (World.news_of_block (heap_alloc_new _ _)) (by simp [Value.oneCell']) (by omega) (by unfold maxLen; omega) (by omega) (by simp; omega) _ rfl ?_; intro g2 cap2 w5 hown hgr hat5 hlt5)
        have HOW := Lib.hid (own_below HOX.out (below_alloc w2 (.cells #[.int .i64 (xk : Int), S xt, .int .i64 (xn : Int)] TPc)))
        have B5 := Lib.hid (((Below.refl w.heap.size w2).alloc (by omega) (.cells #[.int .i64 (xk : Int), S xt, .int .i64 (xn : Int)] TPc)).grown hgr (by simp; omega) (fun j hj => (World.ownsRow.lt HOW.out j hj).1))
        have R5 := Lib.hid (R2.out.belowB B5.out bl)
        have E5 := Lib.hid (E2.out.belowB B5.out HLo.out)
        have G5 := Lib.hid (grown_below G2.out B5.out (Nat.le_refl _))
        have O5 : Hid (OwnPc w5 w.heap.size (.slice (some ⟨g2, 0, none⟩) (acc.length + 1) cap2) (acc ++ [⟨xk, xt, xn⟩])) := Lib.hid ⟨xs ++ [.int .i64 (xk : Int), S xt, .int .i64 (xn : Int)], by rw [List.length_append]; exact hown, Elts.snoc HXE.out rfl rfl (by have h := HOX.out.1; exact h)⟩
        clear hown hgr hat5 hlt5
        go_wp2
        go_roundg r.length
        case measure => rw [HK.out]; exact hless
        case rel => exact ⟨q1, r, acc ++ [⟨xk, xt, xn⟩], rfl, by rw [List.length_append]; simp; omega, A1.out, R5.out, Q2.out, O5.out, E5.out, G5.out⟩
end Go.Proofs.YtmmllhdphlnpjaaDoor
