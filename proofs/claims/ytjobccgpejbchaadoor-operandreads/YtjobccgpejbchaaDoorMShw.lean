/- RndS, ShwA, ShwB, ShwC, ShwE, in one text. -/
import Derived.Test.YtjobccgpejbchaaDoorRndG
import Derived.Laws.StructEq
namespace Go.Proofs.YtjobccgpejbchaaDoor
open Go.RowKit Florin
set_option linter.unusedVariables false

def sigT (d : Tri) (k m : Int) : Tri := if d.l = [] then zero else mulT d 1 (hld (d.e + (d.l.length : Int) - 1 - min (max k 1) 30000 + 1)) m
end Go.Proofs.YtjobccgpejbchaaDoor

namespace Go.Proofs.YtjobccgpejbchaaDoor
open Go.RowKit Florin
set_option linter.unusedVariables false
set_option linter.unusedSimpArgs false
attribute [local go_sem ↓] Go.wp_at_zero Go.wp_at_succ

/-- What is asked. -/
structure Prc where
  kind : Int
  mn : Int
  mx : Int
  inc : Tri
  mode : Int
  mi : Int
abbrev PV (p : Prc) : Value := .agg #[.int .i64 p.kind, .int .i64 p.mn, .int .i64 p.mx, .bool p.inc.neg, S p.inc.l, .int .i64 p.inc.e, .int .i64 p.mode, .int .i64 p.mi]
def wi (n a b : Int) : Bool := decide (a ≤ n) && decide (n ≤ b)

/-- May it be an increment? -/
def vinc (d : Tri) : Bool := !d.l.isEmpty && (!d.neg && (decide ((d.l.length : Int) ≤ 9) && wi d.e (-100) 100))
/-- What may be asked. -/
def validP (p : Prc) : Bool := vm p.mode && (wi p.mi 0 100 && (wi p.mn 0 100 &&
  (if p.kind = 0 then wi p.mx p.mn 100 else if p.kind = 1 then decide (1 ≤ p.mn) && wi p.mx p.mn 100 else if p.kind = 2 then vinc (made p.inc.neg p.inc.l p.inc.e) else false)))
end Go.Proofs.YtjobccgpejbchaaDoor

namespace Go.Proofs.YtjobccgpejbchaaDoor
open Go.RowKit Florin
set_option linter.unusedVariables false
set_option linter.unusedSimpArgs false
attribute [local go_sem ↓] Go.wp_at_zero Go.wp_at_succ

/-- A decimal (in its normal form) as it is shown, rounded. -/
def roundP (p : Prc) (d : Tri) : Tri :=
  if p.kind = 0 then mulT d 1 (hld (-p.mx)) p.mode else if p.kind = 1 then sigT d p.mx p.mode else mulT d (val (made p.inc.neg p.inc.l p.inc.e).l) (made p.inc.neg p.inc.l p.inc.e).e p.mode
theorem validP_parts {p : Prc} (h : validP p = true) : (0 ≤ p.mode ∧ p.mode ≤ 6) ∧ (0 ≤ p.mi ∧ p.mi ≤ 100) ∧ (0 ≤ p.mn ∧ p.mn ≤ 100) ∧ ((p.kind = 0 ∧ p.mn ≤ p.mx ∧ p.mx ≤ 100) ∨ (p.kind = 1 ∧ 1 ≤ p.mn ∧ p.mn ≤ p.mx ∧ p.mx ≤ 100) ∨ (p.kind = 2 ∧ vinc (made p.inc.neg p.inc.l p.inc.e) = true)) := by
  unfold validP vm wi at h
  simp only [Bool.and_eq_true, decide_eq_true_eq] at h
  obtain ⟨h1, h2, h3, h4⟩ := h
  refine ⟨h1, h2, h3, ?_⟩
  by_cases k0 : p.kind = 0
  · rw [if_pos k0] at h4; simp only [Bool.and_eq_true, decide_eq_true_eq] at h4; exact .inl ⟨k0, h4⟩
  · rw [if_neg k0] at h4
    by_cases k1 : p.kind = 1
    · rw [if_pos k1] at h4; simp only [Bool.and_eq_true, decide_eq_true_eq] at h4; exact .inr (.inl ⟨k1, h4⟩)
    · rw [if_neg k1] at h4
      by_cases k2 : p.kind = 2
      · rw [if_pos k2] at h4; exact .inr (.inr ⟨k2, h4⟩)
      · rw [if_neg k2] at h4; cases h4
theorem mulT_len (d : Tri) (F : Nat) (p m : Int) (hd : d.l.length ≤ 1000) (hF : F ≤ 1000000000) (hF1 : 1 ≤ F) (hdg : isDig d.l = true) (h1 : -30000 ≤ d.e) (h2 : d.e ≤ 30000) (p1 : -30000 ≤ p) (p2 : p ≤ 30000) : (mulT d F p m).l.length ≤ 100000 := by
  unfold mulT
  split
  · split
    · omega
    · refine Nat.le_trans (made_length _ _ _) ?_
      obtain ⟨E, hE⟩ : ∃ E : Nat, d.l.length + (d.e - p).toNat = E := ⟨_, rfl⟩
      have hn : nN d p < 10 ^ E := by
        unfold nN
        have a1 := val_lt d.l hdg
        rw [← hE, Nat.pow_add]
        exact Nat.mul_lt_mul_of_lt_of_le a1 (Nat.le_refl _) (pow_pos' _)
      have hc : cnt m d.neg (uU d F p) (nN d p) ≤ nN d p + 1 := by
        unfold cnt
        have := Nat.div_le_self (nN d p) (uU d F p)
        split <;> omega
      refine Nat.le_trans ((dig_length_le _ (E + 11)).2 ?_) (by omega)
      have a5 : cnt m d.neg (uU d F p) (nN d p) * F ≤ 10 ^ E * 10 ^ 10 := Nat.mul_le_mul (Nat.le_trans hc hn) (Nat.le_trans hF (by decide))
      rw [← Nat.pow_add] at a5
      exact Nat.lt_of_le_of_lt a5 ((Nat.pow_lt_pow_iff_right (by decide)).2 (by omega))
  · omega

/-- How many digits behind the point are asked for. -/
def mfrac (p : Prc) (g : Tri) : Int := if p.kind = 1 then (if g.l = [] then p.mn - 1 else p.mn - 1 - (g.e + (g.l.length : Int) - 1)) else p.mn
/-- What is shown. -/
structure Vs where
  neg : Bool
  i : List UInt8
  f : List UInt8
deriving DecidableEq
abbrev VV (v : Vs) : Value := .agg #[.bool v.neg, S v.i, S v.f]
/-- The digits that are shown of a decimal that is rounded. -/
def visP (p : Prc) (g : Tri) : Vs :=
  let a := zs (p.mi - ((partsT g).1.length : Int)).toNat ++ (partsT g).1
  let b := (partsT g).2 ++ zs (mfrac p g - ((partsT g).2.length : Int)).toNat
  ⟨g.neg, if a = [] ∧ b = [] then [48] else a, b⟩
end Go.Proofs.YtjobccgpejbchaaDoor

namespace Go.Proofs.YtjobccgpejbchaaDoor
open Go.RowKit Florin
set_option linter.unusedVariables false
set_option linter.unusedSimpArgs false
attribute [local go_sem ↓] Go.wp_at_zero Go.wp_at_succ

/-- The text of what is shown. -/
def textV (v : Vs) : List UInt8 := signL v.neg ++ v.i ++ (if v.f = [] then [] else 46 :: v.f)
theorem cat45 (i : List UInt8) : (⟨#[45]⟩ : ByteArray) ++ (⟨i.toArray⟩ : ByteArray) = ⟨(45 :: i).toArray⟩ := arr_append [45] i
theorem cat46 (i f : List UInt8) : (⟨i.toArray⟩ : ByteArray) ++ ((⟨#[46]⟩ : ByteArray) ++ (⟨f.toArray⟩ : ByteArray)) = ⟨(i ++ 46 :: f).toArray⟩ := by
  rw [show (⟨#[46]⟩ : ByteArray) ++ (⟨f.toArray⟩ : ByteArray) = ⟨(46 :: f).toArray⟩ from arr_append [46] f, arr_append]
theorem dig12 : dig 12 = [49, 50] := dig_val (l := [49, 50]) rfl
theorem ex_r1 : roundP ⟨0, 2, 2, ⟨false, [], 0⟩, 0, 0⟩ (made false [49, 50, 51, 52, 53] (-1)) = ⟨false, [49, 50, 51, 52, 53], -1⟩ := by
  rw [show made false [49, 50, 51, 52, 53] (-1) = ⟨false, [49, 50, 51, 52, 53], -1⟩ by decide]
  unfold roundP
  rw [if_pos rfl]
  unfold mulT
  rw [if_pos ⟨by decide, by decide⟩, if_pos]
  show nN _ _ % uU _ 1 _ = 0
  unfold uU
  simp only [hld]
  exact Nat.mod_one _
theorem ex_r2 : roundP ⟨1, 1, 2, ⟨false, [], 0⟩, 0, 0⟩ (made false [49, 50, 51, 52, 53] (-1)) = ⟨false, [49, 50], 2⟩ := by
  rw [show made false [49, 50, 51, 52, 53] (-1) = ⟨false, [49, 50, 51, 52, 53], -1⟩ by decide]
  unfold roundP
  rw [if_neg (by decide), if_pos rfl]
  unfold sigT
  rw [if_neg (by decide)]
  unfold mulT
  rw [if_pos ⟨by decide, by decide⟩, if_neg (by decide)]
  rw [show cnt _ _ _ _ * 1 = 12 by decide, dig12]
  decide
theorem ex_v1 : visP ⟨0, 2, 2, ⟨false, [], 0⟩, 0, 0⟩ ⟨false, [49, 50, 51, 52, 53], -1⟩ = ⟨false, [49, 50, 51, 52], [53, 48]⟩ := by decide
theorem ex_v2 : visP ⟨1, 1, 2, ⟨false, [], 0⟩, 0, 0⟩ ⟨false, [49, 50], 2⟩ = ⟨false, [49, 50, 48, 48], []⟩ := by decide
end Go.Proofs.YtjobccgpejbchaaDoor

namespace Go.Proofs.YtjobccgpejbchaaDoor
open Go.RowKit Florin
set_option linter.unusedVariables false

theorem run_VV (a b : Vs) (w : World) : (Op.equalIn 10000 25 (VV a) (VV b)).run Tryd.prog w = .ok (decide (a = b)) w := by
  rw [show (10000 : Nat) = 9999 + 1 from rfl, run_equalIn_struct w 9999 25 _ _ (by kernel_rfl) (by kernel_rfl)]
  obtain ⟨an, al, ae⟩ := a
  obtain ⟨bn, bl, be⟩ := b
  simp [go_sem, Tryd.underlying25, Tryd.underlying4, Tryd.underlying9]
  by_cases h1 : an = bn
  · by_cases h2 : al = bl
    · by_cases h3 : ae = be
      · simp [h1, h2, h3]
      · simp [h1, h2, h3]
    · simp [h1, h2]
  · simp [h1]
theorem eq_VV (a b : Vs) (w : World) : (binOp .eql 25 (VV a) (VV b)).run Tryd.prog w = .ok (.bool (decide (a = b))) w := by
  rw [run_eql_struct, run_VV]; rfl
theorem mulT_idem {d : Tri} (h : made d.neg d.l d.e = d) (F : Nat) (p m : Int) : made (mulT d F p m).neg (mulT d F p m).l (mulT d F p m).e = mulT d F p m := by
  unfold mulT
  split
  · split
    · exact h
    · exact made_idem _ _ _
  · exact h
theorem roundP_idem {p : Prc} {d : Tri} (h : made d.neg d.l d.e = d) : made (roundP p d).neg (roundP p d).l (roundP p d).e = roundP p d := by
  unfold roundP
  split
  · exact mulT_idem h _ _ _
  · split
    · unfold sigT
      split
      · rfl
      · exact mulT_idem h _ _ _
    · exact mulT_idem h _ _ _
/-- An increment's digits. -/
theorem vinc_val {i : Tri} (hi : vinc (made i.neg i.l i.e) = true) : 1 ≤ val (made i.neg i.l i.e).l ∧ val (made i.neg i.l i.e).l ≤ 1000000000 ∧ (made i.neg i.l i.e).neg = false ∧ -100 ≤ (made i.neg i.l i.e).e ∧ (made i.neg i.l i.e).e ≤ 100 := by
  have hdg := made_isDig i.neg i.l i.e
  have hnr := made_nrm i.neg i.l i.e
  generalize made i.neg i.l i.e = d at *
  unfold vinc wi at hi
  simp only [Bool.and_eq_true, Bool.not_eq_true', decide_eq_true_eq] at hi
  obtain ⟨i1, i2, i3, i4⟩ := hi
  have hlt := val_lt d.l hdg
  have h9 : 10 ^ d.l.length ≤ 10 ^ 9 := Nat.pow_le_pow_right (by decide) (by omega)
  refine ⟨?_, by omega, i2, i4.1, i4.2⟩
  rcases hnr with h0 | h0
  · rw [h0] at i1; simp [zero] at i1
  · rcases Nat.eq_zero_or_pos (val d.l) with hv | hv
    · exfalso
      have hm := h0.made
      rw [made_zero _ _ (by rw [bare_dig hdg, hv, dig_zero])] at hm
      exact h0.ne (by rw [← hm]; rfl)
    · exact hv
theorem roundP_len {p : Prc} {d : Tri} (hv : validP p = true) (hl : d.l.length ≤ 1000) (hdg : isDig d.l = true) (h1 : -30000 ≤ d.e) (h2 : d.e ≤ 30000) : (roundP p d).l.length ≤ 100000 := by
  obtain ⟨_, _, h3, h4⟩ := validP_parts hv
  unfold roundP
  split
  · exact mulT_len d 1 _ _ hl (by decide) (by decide) hdg h1 h2 (le_hld _) (hld_le _)
  · split
    · unfold sigT
      split
      · simp [zero]
      · exact mulT_len d 1 _ _ hl (by decide) (by decide) hdg h1 h2 (le_hld _) (hld_le _)
    · rename_i k0 k1
      rcases h4 with ⟨k, _⟩ | ⟨k, _⟩ | ⟨k, b⟩
      · exact absurd k k0
      · exact absurd k k1
      · obtain ⟨b1, b2, b3, b4, b5⟩ := vinc_val b
        exact mulT_len d _ _ _ hl b2 b1 hdg h1 h2 (by omega) (by omega)
end Go.Proofs.YtjobccgpejbchaaDoor
