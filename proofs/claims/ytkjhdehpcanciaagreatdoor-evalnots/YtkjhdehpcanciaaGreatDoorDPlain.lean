/- Plain facts on decimals: digits times a power of ten, their normal form, and the whole number that one is at so many places. No program here. -/
import Derived.Test.YtkjhdehpcanciaaGreatDoorPlain
namespace Florin

def zs (n : Nat) : List UInt8 := List.replicate n 48
/-- Noughts at the end go. -/
def rt (l : List UInt8) : List UInt8 := (l.reverse.dropWhile (· == 48)).reverse
theorem rt_nil : rt [] = [] := rfl
theorem rt_snoc_zero (l : List UInt8) : rt (l ++ [48]) = rt l := by unfold rt; simp
theorem rt_snoc (l : List UInt8) {c : UInt8} (h : c ≠ 48) : rt (l ++ [c]) = l ++ [c] := by unfold rt; simp [h]
theorem zs_succ (n : Nat) : zs (n + 1) = zs n ++ [48] := by unfold zs; rw [List.replicate_succ']
theorem zs_zero : zs 0 = [] := rfl
theorem zs_length (n : Nat) : (zs n).length = n := by simp [zs]
theorem isDig_zs (n : Nat) : isDig (zs n) = true := by
  unfold isDig zs
  rw [List.all_eq_true]
  intro c hc
  rw [(List.mem_replicate.1 hc).2]; rfl
theorem val_zs (n : Nat) : val (zs n) = 0 := by
  induction n with
  | zero => rfl
  | succ n ih => rw [zs_succ, val_snoc, ih]; rfl
theorem val_app_zs (l : List UInt8) (n : Nat) : val (l ++ zs n) = val l * 10 ^ n := by
  rw [val_append, val_zs, zs_length]; omega
theorem rt_app_zs (l : List UInt8) (n : Nat) : rt (l ++ zs n) = rt l := by
  induction n with
  | zero => simp [zs]
  | succ n ih => rw [zs_succ, ← List.append_assoc, rt_snoc_zero, ih]
/-- What was there, and the noughts that went. -/
theorem rt_back (l : List UInt8) : ∃ t, l = rt l ++ zs t ∧ l.length = (rt l).length + t ∧ (∀ a c, rt l = a ++ [c] → c ≠ 48) := by
  have key : ∀ n, ∀ l : List UInt8, l.length = n → ∃ t, l = rt l ++ zs t ∧ l.length = (rt l).length + t ∧ (∀ a c, rt l = a ++ [c] → c ≠ 48) := by
    intro n
    induction n with
    | zero =>
      intro l hl
      obtain rfl := List.eq_nil_of_length_eq_zero hl
      exact ⟨0, rfl, rfl, fun a c h => by rw [rt_nil] at h; simp at h⟩
    | succ n ih =>
      intro l hl
      rcases List.eq_nil_or_concat l with rfl | ⟨a, c, rfl⟩
      · simp at hl
      · rw [List.concat_eq_append] at *
        by_cases h : c = 48
        · subst h
          obtain ⟨t, h1, h2, h3⟩ := ih a (by simp at hl; omega)
          rw [rt_snoc_zero]
          refine ⟨t + 1, ?_, ?_, h3⟩
          · rw [zs_succ, ← List.append_assoc, ← h1]
          · simp; omega
        · rw [rt_snoc a h]
          refine ⟨0, by simp [zs], by simp, fun b d hb => ?_⟩
          have := List.append_inj' hb rfl
          simp at this
          rw [← this.2]; exact h
  exact key _ l rfl
theorem rt_length_le (l : List UInt8) : (rt l).length ≤ l.length := by
  obtain ⟨t, _, h, _⟩ := rt_back l; omega
theorem isDig_rt {l : List UInt8} (h : isDig l = true) : isDig (rt l) = true := by
  obtain ⟨t, h1, _, _⟩ := rt_back l
  rw [h1, isDig_append] at h; simp at h; exact h.1
theorem rt_ne_nil {l : List UInt8} (h : val l ≠ 0) : rt l ≠ [] := by
  obtain ⟨t, h1, _, _⟩ := rt_back l
  intro e
  rw [e, List.nil_append] at h1
  rw [h1, val_zs] at h; exact h rfl
theorem dig_mul_pow {n : Nat} (h : n ≠ 0) (j : Nat) : dig (n * 10 ^ j) = dig n ++ zs j := by
  induction j with
  | zero => simp [zs]
  | succ j ih =>
    have hp := pow_pos' j
    have h0 : n * 10 ^ (j + 1) ≠ 0 := Nat.mul_ne_zero h (by have := pow_pos' (j + 1); omega)
    have e1 : n * 10 ^ (j + 1) = 10 * (n * 10 ^ j) := by rw [Nat.pow_succ, ← Nat.mul_assoc, Nat.mul_comm]
    rw [dig_pos h0, e1, Nat.mul_div_cancel_left _ (by decide), ih, zs_succ, ← List.append_assoc]
    congr 2
    show db (10 * (n * 10 ^ j)) = db 0
    apply db_congr; simp
theorem rt_rt (l : List UInt8) : rt (rt l) = rt l := by
  obtain ⟨t, h1, _, _⟩ := rt_back l
  conv => rhs; rw [h1, rt_app_zs]

/-- Digits without noughts ahead; of other texts none. -/
def bare (l : List UInt8) : List UInt8 := if isDig l then trim l else []
theorem bare_dig {l : List UInt8} (h : isDig l = true) : bare l = dig (val l) := by unfold bare; rw [if_pos h, dig_val h]
theorem bare_no {l : List UInt8} (h : isDig l = false) : bare l = [] := by unfold bare; rw [if_neg (by rw [h]; simp)]
theorem bare_of_dig (n : Nat) : bare (dig n) = dig n := by rw [bare_dig (isDig_dig n), val_dig]
theorem bare_length_le (l : List UInt8) : (bare l).length ≤ l.length := by
  unfold bare; split
  · exact trim_length_le l
  · simp
theorem isDig_bare (l : List UInt8) : isDig (bare l) = true := by
  unfold bare; split
  · rename_i h; exact isDig_trim l h
  · rfl

/-- An exponent within its bounds. -/
def hld (e : Int) : Int := min (max e (-30000)) 30000
theorem hld_of {e : Int} (h1 : -30000 ≤ e) (h2 : e ≤ 30000) : hld e = e := by unfold hld; omega
theorem hld_le (e : Int) : hld e ≤ 30000 := by unfold hld; omega
theorem le_hld (e : Int) : -30000 ≤ hld e := by unfold hld; omega

structure Tri where
  neg : Bool
  l : List UInt8
  e : Int
deriving DecidableEq
def zero : Tri := ⟨false, [], 0⟩
/-- The normal form. -/
def made (neg : Bool) (l : List UInt8) (e : Int) : Tri :=
  if bare l = [] then zero else ⟨neg, rt (bare l), hld (hld e + (((bare l).length : Int) - ((rt (bare l)).length : Int)))⟩
theorem made_zero (neg : Bool) {l : List UInt8} (e : Int) (h : bare l = []) : made neg l e = zero := by unfold made; rw [if_pos h]
theorem made_pos (neg : Bool) {l : List UInt8} (e : Int) (h : bare l ≠ []) : made neg l e = ⟨neg, rt (bare l), hld (hld e + (((bare l).length : Int) - ((rt (bare l)).length : Int)))⟩ := by unfold made; rw [if_neg h]
theorem made_isDig (neg : Bool) (l : List UInt8) (e : Int) : isDig (made neg l e).l = true := by
  unfold made; split
  · rfl
  · exact isDig_rt (isDig_bare l)
theorem made_length (neg : Bool) (l : List UInt8) (e : Int) : (made neg l e).l.length ≤ l.length := by
  unfold made; split
  · simp [zero]
  · exact Nat.le_trans (rt_length_le _) (bare_length_le l)
theorem made_exp (neg : Bool) (l : List UInt8) (e : Int) : -30000 ≤ (made neg l e).e ∧ (made neg l e).e ≤ 30000 := by
  unfold made; split
  · simp [zero]
  · exact ⟨le_hld _, hld_le _⟩

def sg (b : Bool) (n : Nat) : Int := if b then -(n : Int) else n
theorem sg_natAbs (b : Bool) (n : Nat) : (sg b n).natAbs = n := by unfold sg; split <;> omega
theorem sg_neg (b : Bool) {n : Nat} (h : n ≠ 0) : decide (sg b n < 0) = b := by
  unfold sg; cases b <;> simp <;> omega
theorem sg_zero (b : Bool) : sg b 0 = 0 := by unfold sg; split <;> rfl
theorem sg_self (z : Int) : sg (decide (z < 0)) z.natAbs = z := by unfold sg; split <;> simp_all <;> omega
theorem sg_mul (b : Bool) (n p : Nat) : sg b (n * p) = sg b n * p := by
  unfold sg; split
  · rw [Int.neg_mul]; simp
  · simp

/-- The normal form of the whole number z at k places behind the point. -/
def nf (k : Nat) (z : Int) : Tri := made (decide (z < 0)) (dig z.natAbs) (-(k : Int))
structure Fit (k : Nat) (z : Int) : Prop where
  hk : k ≤ 30000
  hz : z.natAbs < 10 ^ (k + 30000)
theorem Fit.of {k : Nat} {z : Int} {m : Nat} (h1 : k ≤ 30000) (h2 : z.natAbs < 10 ^ m) (h3 : m ≤ 30000) : Fit k z :=
  ⟨h1, Nat.lt_of_lt_of_le h2 (Nat.pow_le_pow_right (by decide) (by omega))⟩
/-- A decimal is z at k places. -/
structure Dv (k : Nat) (z : Int) (d : Tri) : Prop where
  dg : isDig d.l = true
  lo : -(k : Int) ≤ d.e
  num : sg d.neg (val d.l * 10 ^ (d.e + k).toNat) = z

theorem nf_zero (k : Nat) : nf k 0 = zero := by
  unfold nf; exact made_zero _ _ (by rw [bare_of_dig]; exact dig_zero)
/-- The digits of a number, its noughts at the end apart. -/
theorem dig_parts {n : Nat} (h : n ≠ 0) : ∃ t, dig n = rt (dig n) ++ zs t ∧ (dig n).length = (rt (dig n)).length + t ∧ n = val (rt (dig n)) * 10 ^ t ∧ rt (dig n) ≠ [] ∧ isDig (rt (dig n)) = true ∧ trim (rt (dig n)) = rt (dig n) ∧ (∀ a c, rt (dig n) = a ++ [c] → c ≠ 48) := by
  obtain ⟨t, h1, h2, h3⟩ := rt_back (dig n)
  have hne : rt (dig n) ≠ [] := rt_ne_nil (by rw [val_dig]; exact h)
  have hv : n = val (rt (dig n)) * 10 ^ t := by rw [← val_app_zs, ← h1, val_dig]
  refine ⟨t, h1, h2, hv, hne, isDig_rt (isDig_dig n), ?_, h3⟩
  cases hr : rt (dig n) with
  | nil => rfl
  | cons c l =>
    refine trim_cons l ?_
    refine dig_head n c (l ++ zs t) ?_
    rw [h1, hr]; rfl
theorem tz_lt {n t m : Nat} (h : n ≠ 0) (hv : n = val (rt (dig n)) * 10 ^ t) (hm : n < 10 ^ m) : t < m := by
  have h1 : 1 ≤ val (rt (dig n)) := by
    rcases Nat.eq_zero_or_pos (val (rt (dig n))) with h0 | h0
    · rw [h0] at hv; omega
    · exact h0
  have h2 : 10 ^ t ≤ val (rt (dig n)) * 10 ^ t := Nat.le_mul_of_pos_left _ h1
  have h3 : 10 ^ t < 10 ^ m := Nat.lt_of_le_of_lt h2 (by rw [← hv]; exact hm)
  exact (Nat.pow_lt_pow_iff_right (by decide)).1 h3
/-- The normal form of a number that isn't 0, written out. -/
theorem nf_pos {k : Nat} {z : Int} (hf : Fit k z) (h : z ≠ 0) : ∃ t : Nat, nf k z = ⟨decide (z < 0), rt (dig z.natAbs), (t : Int) - k⟩ ∧ z.natAbs = val (rt (dig z.natAbs)) * 10 ^ t ∧ t < k + 30000 ∧
    (dig z.natAbs).length = (rt (dig z.natAbs)).length + t := by
  have hn : z.natAbs ≠ 0 := by omega
  obtain ⟨t, h1, h2, h3, h4, h5, h6, h7⟩ := dig_parts hn
  have ht := tz_lt hn h3 hf.hz
  have hk := hf.hk
  refine ⟨t, ?_, h3, ht, h2⟩
  unfold nf
  rw [made_pos _ _ (by rw [bare_of_dig, Ne, dig_eq_nil]; exact hn), bare_of_dig, hld_of (e := -(k : Int)) (by omega) (by omega), hld_of (by omega) (by omega)]
  congr 1; omega
theorem nf_dv {k : Nat} {z : Int} (hf : Fit k z) : Dv k z (nf k z) := by
  by_cases h : z = 0
  · subst h; rw [nf_zero]; exact ⟨rfl, by simp [zero], by simp [zero, val_nil, sg_zero]⟩
  · obtain ⟨t, h1, h2, h3, h4⟩ := nf_pos hf h
    rw [h1]
    refine ⟨isDig_rt (isDig_dig _), by simp; omega, ?_⟩
    simp only
    rw [show ((t : Int) - k + k).toNat = t by omega, ← h2, sg_self]
/-- Whatever decimal is z at k places has its normal form. -/
theorem Dv.made {k : Nat} {z : Int} {d : Tri} (h : Dv k z d) (hf : Fit k z) : made d.neg d.l d.e = nf k z := by
  obtain ⟨neg, l, e⟩ := d
  obtain ⟨h1, h2, h3⟩ := h
  simp only at h1 h2 h3 ⊢
  obtain ⟨j, hj⟩ : ∃ j : Nat, (j : Int) = e + k := ⟨(e + k).toNat, by omega⟩
  rw [show (e + k).toNat = j by omega] at h3
  by_cases h0 : val l = 0
  · rw [h0, Nat.zero_mul, sg_zero] at h3
    rw [← h3, nf_zero]
    exact made_zero _ _ (by rw [bare_dig h1, h0, dig_zero])
  · have hz : z.natAbs = val l * 10 ^ j := by rw [← h3, sg_natAbs]
    have hn : z.natAbs ≠ 0 := by rw [hz]; exact Nat.mul_ne_zero h0 (by have := pow_pos' j; omega)
    have hb : bare l ≠ [] := by rw [bare_dig h1, Ne, dig_eq_nil]; exact h0
    have hjm : j < k + 30000 := by
      have h4 : 10 ^ j ≤ val l * 10 ^ j := Nat.le_mul_of_pos_left _ (by omega)
      have h5 := hf.hz
      exact (Nat.pow_lt_pow_iff_right (by decide : 1 < 10)).1 (by omega)
    have hk := hf.hk
    unfold nf
    rw [made_pos _ _ hb, made_pos _ _ (by rw [bare_of_dig, Ne, dig_eq_nil]; exact hn), bare_of_dig, bare_dig h1, hz, dig_mul_pow h0, rt_app_zs]
    have hs : decide (z < 0) = neg := by rw [← h3, sg_neg _ (by rw [← hz]; exact hn)]
    rw [hs, hld_of (e := e) (by omega) (by omega), hld_of (e := -(k : Int)) (by omega) (by omega)]
    congr 2
    rw [List.length_append, zs_length]; omega
theorem nf_made {k : Nat} {z : Int} (hf : Fit k z) : made (nf k z).neg (nf k z).l (nf k z).e = nf k z := (nf_dv hf).made hf
theorem nf_inj {k : Nat} {a b : Int} (ha : Fit k a) (hb : Fit k b) (h : nf k a = nf k b) : a = b := by
  rw [← (nf_dv ha).num, ← (nf_dv hb).num, h]
theorem nf_l_nil {k : Nat} {z : Int} (hf : Fit k z) : (nf k z).l = [] ↔ z = 0 := by
  constructor
  · intro h
    rw [← (nf_dv hf).num, h, val_nil, Nat.zero_mul, sg_zero]
  · rintro rfl; rw [nf_zero]; rfl
theorem nf_neg {k : Nat} {z : Int} (hf : Fit k z) : (nf k z).neg = decide (z < 0) := by
  by_cases h : z = 0
  · subst h; rw [nf_zero]; rfl
  · obtain ⟨t, h1, _⟩ := nf_pos hf h; rw [h1]
theorem nf_bounds {k : Nat} {z : Int} (hf : Fit k z) : -(k : Int) ≤ (nf k z).e ∧ (nf k z).e ≤ 30000 := ⟨(nf_dv hf).lo, (made_exp _ _ _).2⟩
/-- A raw decimal's number. -/
theorem raw_dv (neg : Bool) {l : List UInt8} {e : Int} {k : Nat} (h : isDig l = true) (he : -(k : Int) ≤ e) : Dv k (sg neg (val l * 10 ^ (e + k).toNat)) ⟨neg, l, e⟩ := ⟨h, he, rfl⟩
theorem nf_length {k : Nat} {z : Int} {m : Nat} (h : z.natAbs < 10 ^ m) : (nf k z).l.length ≤ m := by
  unfold nf
  exact Nat.le_trans (made_length _ _ _) ((dig_length_le _ _).2 h)
theorem nf_isDig (k : Nat) (z : Int) : isDig (nf k z).l = true := made_isDig _ _ _
/-- Two decimals at one place for both. -/
theorem align {k : Nat} {a b : Int} {d g : Tri} (ha : Dv k a d) (hb : Dv k b g) : ∃ j : Nat, (j : Int) = min d.e g.e + k ∧
    a = sg d.neg (val (d.l ++ zs (d.e - min d.e g.e).toNat) * 10 ^ j) ∧ b = sg g.neg (val (g.l ++ zs (g.e - min d.e g.e).toNat) * 10 ^ j) := by
  obtain ⟨_, a2, a3⟩ := ha
  obtain ⟨_, b2, b3⟩ := hb
  refine ⟨(min d.e g.e + k).toNat, by omega, ?_, ?_⟩
  · rw [val_app_zs, Nat.mul_assoc, ← Nat.pow_add, show (d.e - min d.e g.e).toNat + (min d.e g.e + k).toNat = (d.e + k).toNat by omega]; exact a3.symm
  · rw [val_app_zs, Nat.mul_assoc, ← Nat.pow_add, show (g.e - min d.e g.e).toNat + (min d.e g.e + k).toNat = (g.e + k).toNat by omega]; exact b3.symm
end Florin
