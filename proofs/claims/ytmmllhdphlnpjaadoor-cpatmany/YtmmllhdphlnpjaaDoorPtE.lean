/- The reader of patterns: literals side by side. -/
import Derived.Test.YtmmllhdphlnpjaaDoorPtD
namespace Florin
theorem lit_less {l x r : List UInt8} (h : litQ l = .ok x r) (hx : x ≠ []) : r.length < l.length := by
  unfold litQ at h
  by_cases h1 : [39, 39].isPrefixOf l = true
  · rw [if_pos h1] at h
    have := pre_len2 h1
    simp only [List.length_cons, List.length_nil] at this
    injection h with _ h3
    rw [← h3, List.length_drop]; omega
  · rw [if_neg h1] at h
    by_cases h2 : [39].isPrefixOf l = true
    · rw [if_pos h2] at h
      have := pre_len2 h2
      simp only [List.length_cons, List.length_nil] at this
      have h3 := quo_le _ _ _ _ _ (Nat.le_refl _) h
      rw [List.length_drop] at h3; omega
    · rw [if_neg h2] at h
      by_cases h3 : markB (nxP l) = true
      · rw [if_pos h3] at h
        injection h with h4 _
        exact absurd h4.symm hx
      · rw [if_neg h3] at h
        injection h with h4 h5
        have h6 : l ≠ [] := fun e => by
          subst e
          apply hx
          rw [← h4]; rfl
        have h7 := nx_pos h6
        have h8 := List.length_pos_iff.2 h6
        rw [← h5, List.length_drop]; omega
theorem quo_sum : ∀ (n : Nat) (acc l : List UInt8) (x r : List UInt8), l.length ≤ n → quoQ acc l = .ok x r → x.length + r.length ≤ acc.length + l.length
  | n, acc, l, x, r, hn, h => by
    cases h1 : [39, 39].isPrefixOf l with
    | true =>
      have := pre_len2 h1
      simp only [List.length_cons, List.length_nil] at this
      rw [quo_two h1] at h
      cases n with
      | zero => omega
      | succ n =>
        have h2 := quo_sum n _ _ x r (by rw [List.length_drop]; omega) h
        rw [List.length_drop, List.length_append] at h2
        simp only [List.length_cons, List.length_nil] at h2; omega
    | false =>
      cases h2 : [39].isPrefixOf l with
      | true =>
        rw [quo_one h1 h2] at h
        injection h with h4 h3
        rw [← h3, ← h4, List.length_drop]; omega
      | false =>
        by_cases h3 : l = []
        · subst h3; rw [quo_end] at h; cases h
        · have h4 := nx_pos h3
          have h4b := nx_le l
          have h5 := List.length_pos_iff.2 h3
          rw [quo_sign h1 h2 h3] at h
          cases n with
          | zero => omega
          | succ n =>
            have h6 := quo_sum n _ _ x r (by rw [List.length_drop]; omega) h
            rw [List.length_drop, List.length_append] at h6; omega
theorem lit_sum {l x r : List UInt8} (h : litQ l = .ok x r) : x.length + r.length ≤ l.length := by
  unfold litQ at h
  by_cases h1 : [39, 39].isPrefixOf l = true
  · rw [if_pos h1] at h
    have := pre_len2 h1
    simp only [List.length_cons, List.length_nil] at this
    injection h with h4 h3
    rw [← h3, ← h4, List.length_drop]; simp only [List.length_cons, List.length_nil]; omega
  · rw [if_neg h1] at h
    by_cases h2 : [39].isPrefixOf l = true
    · rw [if_pos h2] at h
      have := pre_len2 h2
      simp only [List.length_cons, List.length_nil] at this
      have h3 := quo_sum _ _ _ _ _ (Nat.le_refl _) h
      rw [List.length_drop] at h3; simp only [List.length_nil] at h3; omega
    · rw [if_neg h2] at h
      by_cases h3 : markB (nxP l) = true
      · rw [if_pos h3] at h
        injection h with h4 h5
        rw [← h4, ← h5]; simp
      · rw [if_neg h3] at h
        injection h with h4 h5
        have h8 := nx_le l
        rw [← h5, ← h4, List.length_drop]; omega
theorem litsP_more : ∀ (f k : Nat) (acc l : List UInt8), l.length < f → l.length < k → litsP f acc l = litsP k acc l
  | 0, _, _, l, h, _ => absurd h (by omega)
  | _ + 1, 0, _, l, _, h => absurd h (by omega)
  | f + 1, k + 1, acc, l, hf, hk => by
    unfold litsP
    cases ho : litP l with
    | bad r => rfl
    | ok x r =>
      cases x with
      | nil => rfl
      | cons c x =>
        have := lit_less ((litQ_eq l).symm.trans ho) (by simp)
        exact litsP_more f k _ _ (by omega) (by omega)
def litsQ (acc l : List UInt8) : PR (List UInt8) := litsP (l.length + 1) acc l
theorem lits_bad {acc l r : List UInt8} (h : litQ l = .bad r) : litsQ acc l = .bad r := by unfold litsQ litsP; rw [litQ_eq, h]
theorem lits_end {acc l r : List UInt8} (h : litQ l = .ok [] r) : litsQ acc l = .ok acc r := by unfold litsQ litsP; rw [litQ_eq, h]
theorem lits_more {acc l x r : List UInt8} (h : litQ l = .ok x r) (hx : x ≠ []) : litsQ acc l = litsQ (acc ++ x) r := by
  have h1 := lit_less h hx
  cases x with
  | nil => exact absurd rfl hx
  | cons c x =>
    unfold litsQ
    rw [show litsP (l.length + 1) acc l = (match litP l with | .bad r => .bad r | .ok [] r => .ok acc r | .ok (c :: x) r => litsP l.length (acc ++ c :: x) r) from rfl, litQ_eq, h]
    exact litsP_more _ _ _ _ h1 (by omega)
end Florin
namespace Go.Proofs.YtmmllhdphlnpjaaDoor
open Go.RowKit Florin
set_option linter.unusedVariables false
set_option linter.unusedSimpArgs false
attribute [local go_sem ↓] Go.wp_at_zero Go.wp_at_succ
set_option maxRecDepth 100000 in
set_option maxHeartbeats 3200000 in
theorem literals_as (b : Nat) (T : ByteArray) (p : Nat) (l : List UInt8) (w : World) (h : Rd w b T p) (ha : At T p l) (hT : T.size ≤ 1000) (hE : Env w) (R : PR (List UInt8)) (hR : litsQ [] l = R) :
    Calls Tryd.prog 47 #[.pointer (some ⟨b, 0, none⟩)] w (PTold b T w IsS R) := by
  have HR := Lib.hid (Rd.alloc h (.cells #[.pointer none, .slice none 0 0] TB))
  have HA := Lib.hid ha
  have hlT : l.length ≤ 1000 := by have := ha.len; omega
  have HQ := Lib.hid hR
  have bl := h.lt
  have HBD := Lib.hid (Lib.fresh_isBuilder TB 5 w)
  have HG0 := Lib.hid (grown_alloc (World.grownBy.refl w (some b)) (.cells #[.pointer none, .slice none 0 0] TB))
  have HLo := Lib.hid hE.low
  have E0 := Lib.hid (hE.below ((Below.refl _ w).alloc (Nat.le_refl _) (.cells #[.pointer none, .slice none 0 0] TB)))
  clear h ha hE hR
  go_enter Tryd.func47, Tryd.ntmps47
  go_wp2_with fail
  go_loopg [] (l.length) (fun k wr => ∃ q m acc, k = m.length ∧ acc.length + m.length ≤ l.length ∧ At T q m ∧ Rd wr b T q ∧ litsQ acc m = R ∧ Lib.IsBuilder TB 5 w.heap.size w.heap.size (Lib.byteCells acc) wr ∧ Env wr ∧ w.grownBy wr (some b) ∧ w.heap.size < wr.heap.size)
  case atStart => exact ⟨p, l, [], rfl, by simp, HA.out, HR.out, HQ.out, HBD.out, E0.out, HG0.out, by simp⟩
  case round =>
    obtain ⟨q, m, acc, hk, hac, hat, hr, hq, hbd, he, hg, hsz⟩ := hrel
    have HK := Lib.hid hk
    have AM := Lib.hid hat
    have RM := Lib.hid hr
    have QM := Lib.hid hq
    have BM := Lib.hid hbd
    have EM := Lib.hid he
    have GM := Lib.hid hg
    clear hk hat hr hq hbd he hg
    obtain ⟨R1, hR1⟩ : ∃ R1, litQ m = R1 := ⟨_, rfl⟩
    have HR1 := Lib.hid hR1
    clear hR1
    go_wp2_with fail
    with_reducible refine (literal_as b T q m _ RM.out AM.out hT EM.out R1 HR1.out).mono ?_
    intro e w1 ht
    cases R1 with
    | bad r =>
      obtain ⟨q1, rfl, hat, hg⟩ := ht
      have Q2 := Lib.hid ((lits_bad HR1.out).symm.trans QM.out)
      have G1 := Lib.hid (grown_trans GM.out hg)
      have A1 := Lib.hid hat
      clear hat hg
      go_wp2
      rw [← Q2.out]
      exact ⟨rfl, q1, rfl, A1.out, G1.out⟩
    | ok x r =>
      obtain ⟨v, q1, rfl, hv, hat, hr, hg⟩ := ht
      obtain rfl : v = S x := hv
      have A1 := Lib.hid hat
      have R1' := Lib.hid hr
      have E1 := Lib.hid (EM.out.grown RM.out hg)
      have B1 := Lib.hid (bld_grown BM.out hg bl)
      have G1 := Lib.hid (grown_trans GM.out hg)
      have hs1 := hg.size
      clear hat hr hg
      by_cases hx : x = []
      · subst hx
        have Q2 := Lib.hid ((lits_end HR1.out).symm.trans QM.out)
        go_wp2_with fail
        with_reducible refine (Tryd.Builder_String_any _ _ _ _ B1.out (by omega)).mono ?_
        rintro e w3 ⟨rfl, hb⟩
        have R3 := Lib.hid (R1'.out.belowB hb bl)
        have G3 := Lib.hid (grown_below G1.out hb (Nat.le_refl _))
        clear hb
        go_wp2
        go_ret
        rw [← Q2.out]
        exact ⟨_, q1, rfl, rfl, A1.out, R3.out, G3.out⟩
      · have Q2 := Lib.hid ((lits_more HR1.out hx).symm.trans QM.out)
        have hless := lit_less HR1.out hx
        have hxe : x.isEmpty = false := by cases x with | nil => exact absurd rfl hx | cons c x => rfl
        have hxl : acc.length + x.length + r.length ≤ l.length := by have := lit_sum HR1.out; omega
        go_wp2_with fail
        with_reducible refine (wstr_as w.heap.size w.heap.size _ ⟨x.toArray⟩ _ B1.out (by rw [Lib.byteCells_length, arr_size]; omega) (by omega)).mono ?_
        rintro e w2 ⟨rfl, hbd, hbl, hkt⟩
        have R2 := Lib.hid (R1'.out.belowB hbl bl)
        have E2 := Lib.hid (env_belowB E1.out hbl HLo.out)
        have G2 := Lib.hid (grown_below G1.out hbl (Nat.le_refl _))
        have B2 : Hid (Lib.IsBuilder TB 5 w.heap.size w.heap.size (Lib.byteCells (acc ++ x)) w2) := Lib.hid (.inr (by rw [Lib.byteCells_append, ← strC_S]; exact hbd))
        have hs2 := hbl.size
        clear hbd hbl hkt
        go_wp2
        go_roundg r.length
        case measure => rw [HK.out]; exact hless
        case rel => exact ⟨q1, r, acc ++ x, rfl, by rw [List.length_append]; exact hxl, A1.out, R2.out, Q2.out, B2.out, E2.out, G2.out, by omega⟩
end Go.Proofs.YtmmllhdphlnpjaaDoor
