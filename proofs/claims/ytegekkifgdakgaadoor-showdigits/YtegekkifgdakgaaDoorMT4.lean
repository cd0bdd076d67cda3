/- RndP, LawT1v, ShnL, ShnD, ShnE, ShnF, LawT4, LawT4z, LawT4w, in one text. -/
import Derived.Test.YtegekkifgdakgaaDoorRndG
import Derived.Test.YtegekkifgdakgaaDoorShwP
import Derived.Test.YtegekkifgdakgaaDoorMShw
import Derived.Deep.Cut
namespace Go.Proofs.YtegekkifgdakgaaDoor
open Go.RowKit Florin
set_option linter.unusedVariables false

theorem place60 (k : Int) : -30 ≤ wrap64 (k.tmod 60 - wrap64 ((k.tmod 60).tdiv 2)) ∧ wrap64 (k.tmod 60 - wrap64 ((k.tmod 60).tdiv 2)) ≤ 30 := by
  have t1 := Int.tmod_lt_of_pos k (show (0 : Int) < 60 by decide)
  have t2 := Int.lt_tmod_of_pos k (show (0 : Int) < 60 by decide)
  generalize k.tmod 60 = t at *
  have t3 := Int.tdiv_eq_ediv (a := t) (b := 2)
  have t4 : (0 ≤ t → t.tdiv 2 = t / 2) ∧ (t < 0 → t / 2 ≤ t.tdiv 2 ∧ t.tdiv 2 ≤ t / 2 + 1) ∧ (t < 0 → 2 * t.tdiv 2 ≥ t ∧ 2 * t.tdiv 2 ≤ t + 1) := by
    refine ⟨fun h => ?_, fun h => ?_, fun h => ?_⟩
    · rw [t3, if_pos (.inl h)]; omega
    · rw [t3]; split
      · omega
      · rw [show Int.sign 2 = 1 from rfl]; omega
    · rw [t3]; split
      · omega
      · rw [show Int.sign 2 = 1 from rfl]; omega
  clear t3
  generalize t.tdiv 2 = u at *
  unfold wrap64
  omega
/-- Ten to the power of a place, at sixty places. -/
def un (P : Int) : Nat := 10 ^ (P + 60).toNat
theorem un_pos (P : Int) : 0 < un P := pow_pos' _
theorem un_le {P : Int} {N : Nat} (h : P + 60 ≤ N) : un P ≤ 10 ^ N := Nat.pow_le_pow_right (by decide) (by omega)
theorem rz_lt {m U X : Int} {N : Nat} (hU : 0 < U) (hX : X.natAbs < 10 ^ N) (hU2 : U.natAbs ≤ 10 ^ N) : (rz m U X).natAbs < 10 ^ (N + 1) := by
  have := rz_abs m U X hU
  rw [Nat.pow_succ]; omega
/-- At of a decimal at sixty places. -/
theorem at60 {X m P : Int} (N : Nat) (hN : N ≤ 230) (hX : X.natAbs < 10 ^ N) (hP : -60 ≤ P) (hP2 : P + 60 ≤ N) (h0 : 0 ≤ m) (h6 : m ≤ 6) :
    mulT (nf 60 X) 1 (hld P) m = nf 60 (rz m (un P) X) ∧ (rz m (un P) X).natAbs < 10 ^ (N + 1) ∧ Fit 60 (rz m (un P) X) ∧ Fit 60 X := by
  have hR := rz_lt (m := m) (U := (un P : Int)) (X := X) (N := N) (by have := un_pos P; omega) hX (by rw [Int.natAbs_natCast]; exact un_le hP2)
  have f1 : Fit 60 (rz m (un P) X) := fit60 (Nat.lt_of_lt_of_le hR (Nat.pow_le_pow_right (by decide) (by omega)))
  have f2 : Fit 60 X := fit60 (Nat.lt_of_lt_of_le hX (Nat.pow_le_pow_right (by decide) (by omega)))
  refine ⟨?_, hR, f1, f2⟩
  rw [hld_of (by omega) (by omega)]
  exact mulT_nf f2 1 (by decide) P m (by omega) h0 h6 (un P) (by unfold un; rw [Nat.one_mul]; rfl) f1
/-- .. and Step: a unit of some digits. -/
theorem step60 {X m : Int} {F : Nat} {p : Int} (N : Nat) (hN : N ≤ 230) (hX : X.natAbs < 10 ^ N) (hF : 0 < F) (hp : -60 ≤ p) (U : Nat) (hU : U = F * 10 ^ (p + 60).toNat) (hU2 : U ≤ 10 ^ N) (h0 : 0 ≤ m) (h6 : m ≤ 6) :
    mulT (nf 60 X) F p m = nf 60 (rz m U X) ∧ (rz m U X).natAbs < 10 ^ (N + 1) ∧ Fit 60 (rz m U X) ∧ Fit 60 X ∧ 0 < U := by
  have hU0 : 0 < U := by rw [hU]; exact Nat.mul_pos hF (pow_pos' _)
  have hR := rz_lt (m := m) (U := (U : Int)) (X := X) (N := N) (by omega) hX (by rw [Int.natAbs_natCast]; exact hU2)
  have f1 : Fit 60 (rz m U X) := fit60 (Nat.lt_of_lt_of_le hR (Nat.pow_le_pow_right (by decide) (by omega)))
  have f2 : Fit 60 X := fit60 (Nat.lt_of_lt_of_le hX (Nat.pow_le_pow_right (by decide) (by omega)))
  exact ⟨mulT_nf f2 F hF p m (by omega) h0 h6 U (by rw [hU]; rfl) f1, hR, f1, f2, hU0⟩
theorem nf_len {k : Nat} {z : Int} {N : Nat} (h : z.natAbs < 10 ^ N) (hN : N ≤ 100000) : (nf k z).l.length ≤ 100000 := Nat.le_trans (nf_length h) hN
/-- The unit itself. -/
theorem unit60 {P : Int} (h1 : -60 ≤ P) (h2 : P ≤ 150) : made false [49] P = nf 60 (un P : Int) ∧ Fit 60 (un P : Int) := by
  have hf : Fit 60 (un P : Int) := fit60 (by rw [Int.natAbs_natCast]; exact Nat.lt_of_le_of_lt (un_le (N := 210) (by omega)) ((Nat.pow_lt_pow_iff_right (by decide)).2 (by decide)))
  refine ⟨?_, hf⟩
  have hd : Dv 60 (un P : Int) ⟨false, [49], P⟩ := ⟨rfl, by simp only; omega, by
    simp only
    rw [show val [49] = 1 from rfl, Nat.one_mul]; rfl⟩
  exact hd.made hf
end Go.Proofs.YtegekkifgdakgaaDoor

namespace Go.Proofs.YtegekkifgdakgaaDoor
open Go.RowKit Florin
set_option linter.unusedVariables false

theorem wrap_same (t : Int) : IntKind.i64.wrap t = wrap64 t := by rw [IntKind.wrap_i64]; unfold wrap64; omega
/-- What the laws ask, of small numbers. -/
structure Asked (p : Prc) : Prop where
  ok : validP p = true
  mn8 : p.mn ≤ 8
  mx15 : p.mx ≤ 15
  mx0 : 0 ≤ p.mx
  mi7 : p.mi ≤ 7
  il : p.inc.l.length ≤ 100
  inn : p.kind = 2 → made p.inc.neg p.inc.l p.inc.e = p.inc ∧ p.inc.neg = false ∧ -6 ≤ p.inc.e ∧ p.inc.e ≤ 6 ∧ 1 ≤ val p.inc.l ∧ val p.inc.l ≤ 1000000000
theorem prec_any (k0 k1 k2 k3 k4 k5 k6 : Int) : ∃ p : Prc, Asked p ∧ ∀ w : World, Tab w → Calls Tryd.prog 12 #[.agg #[.int .i64 k0, .int .i64 k1, .int .i64 k2, .int .i64 k3, .int .i64 k4, .int .i64 k5, .int .i64 k6]] w fun z w' => z = .returned (PV p) ∧ Below w.heap.size w w' := by
  have hk := u64_mod k0 3 (by decide) (by decide)
  rw [← wrap_same] at hk
  obtain ⟨j1, l1, hj1⟩ := and_mask k1 7 (by decide)
  obtain ⟨j2, l2, hj2⟩ := and_mask k2 7 (by decide)
  obtain ⟨j4, l4, hj4⟩ := and_mask k4 7 (by decide)
  obtain ⟨j5, l5, hj5⟩ := and_mask k5 65535 (by decide)
  obtain ⟨M, m0, m6, hM⟩ := mode_as k3
  have hk3 : IntKind.i64.wrap ((IntKind.u64.wrap k0).tmod 3) = 0 ∨ IntKind.i64.wrap ((IntKind.u64.wrap k0).tmod 3) = 1 ∨ IntKind.i64.wrap ((IntKind.u64.wrap k0).tmod 3) = 2 := by omega
  rcases hk3 with h | h | h
  · refine ⟨⟨0, j1, j1 + j2, zero, M, j4⟩, ⟨?_, by simp only; omega, by simp only; omega, by simp only; omega, by simp only; omega, by show ([] : List UInt8).length ≤ 100; decide, fun h => by simp at h⟩, fun w ht => prec_0 k0 k1 k2 k3 k4 k5 k6 w h j1 j2 j4 hj1 hj2 hj4 l1 l2 l4 M hM ht⟩
    unfold validP vm wi
    simp only [if_true, Bool.and_eq_true, decide_eq_true_eq]
    omega
  · refine ⟨⟨1, j1 + 1, j1 + 1 + j2, zero, M, j4⟩, ⟨?_, by simp only; omega, by simp only; omega, by simp only; omega, by simp only; omega, by show ([] : List UInt8).length ≤ 100; decide, fun h => by simp at h⟩, fun w ht => prec_1 k0 k1 k2 k3 k4 k5 k6 w h j1 j2 j4 hj1 hj2 hj4 l1 l2 l4 M hM ht⟩
    unfold validP vm wi
    simp only [Int.reduceEq, if_false, if_true, Bool.and_eq_true, decide_eq_true_eq]
    omega
  · have t1 := Int.tmod_lt_of_pos k6 (show (0 : Int) < 4 by decide)
    have t2 := Int.lt_tmod_of_pos k6 (show (0 : Int) < 4 by decide)
    have dl : (dig (j5 + 1)).length ≤ 6 := (dig_length_le _ _).2 (Nat.lt_of_le_of_lt (show j5 + 1 ≤ 65536 by omega) (by decide))
    have he := made_e_le false (dig (j5 + 1)) (k6.tmod 4 - 3) (by omega) (by omega) (by omega)
    have hl := made_length false (dig (j5 + 1)) (k6.tmod 4 - 3)
    have hid := made_idem false (dig (j5 + 1)) (k6.tmod 4 - 3)
    have hdg := made_isDig false (dig (j5 + 1)) (k6.tmod 4 - 3)
    have hpos : bare (dig (j5 + 1)) ≠ [] := by rw [bare_of_dig, Ne, dig_eq_nil]; omega
    have hneg : (made false (dig (j5 + 1)) (k6.tmod 4 - 3)).neg = false := by rw [made_pos _ _ hpos]
    have hne : (made false (dig (j5 + 1)) (k6.tmod 4 - 3)).l ≠ [] := by
      rw [made_pos _ _ hpos]; simp only; rw [bare_of_dig]; exact rt_ne_nil (by rw [val_dig]; omega)
    obtain ⟨g, hg⟩ : ∃ g, made false (dig (j5 + 1)) (k6.tmod 4 - 3) = g := ⟨_, rfl⟩
    rw [hg] at he hl hid hdg hneg hne
    have hvi : vinc g = true := by
      unfold vinc wi
      rw [hneg, ne_empty hne]
      simp only [Bool.not_false, Bool.true_and, Bool.and_eq_true, decide_eq_true_eq]
      omega
    have hvi2 : vinc (made g.neg g.l g.e) = true := by rw [hid]; exact hvi
    obtain ⟨v1, v2, v3, v4, v5⟩ := vinc_val hvi2
    rw [hid] at v1 v2
    refine ⟨⟨2, j1, j1 + j2, g, M, j4⟩, ⟨?_, by simp only; omega, by simp only; omega, by simp only; omega, by simp only; omega, by simp only; omega, fun _ => ⟨hid, hneg, by simp only; omega, by simp only; omega, v1, v2⟩⟩, fun w ht => prec_2 k0 k1 k2 k3 k4 k5 k6 w h j1 j2 j4 hj1 hj2 hj4 l1 l2 l4 M hM ht j5 hj5 l5 (by omega) (by omega) g hg⟩
    unfold validP vm wi
    simp only [Int.reduceEq, if_false, if_true, Bool.and_eq_true, decide_eq_true_eq]
    exact ⟨⟨m0, m6⟩, ⟨by omega, by omega⟩, ⟨by omega, by omega⟩, hvi2⟩

theorem zs_add (m k : Nat) (l : List UInt8) : zs m ++ (zs k ++ l) = zs (m + k) ++ l := by
  unfold zs; rw [← List.append_assoc, List.replicate_append_replicate]
theorem nrm_of {b : Bool} {l : List UInt8} {e : Int} (h : Nrm ⟨b, l, e⟩) (t z : Nat) (h1 : -30000 ≤ e - t) (h2 : e - t ≤ 30000) : made b (zs z ++ l ++ zs t) (e - t) = ⟨b, l, e⟩ := by
  have hd : isDig (zs z ++ l ++ zs t) = true := by rw [isDig_append, isDig_append, isDig_zs, isDig_zs, h.dg]; rfl
  have hz : ∀ z, trim (zs z ++ l ++ zs t) = l ++ zs t := by
    intro z
    induction z with
    | zero =>
      cases hl : l with
      | nil => exact absurd hl h.ne
      | cons c r => exact trim_cons _ (h.hd c r hl)
    | succ z ih => rw [show zs (z + 1) ++ l ++ zs t = 48 :: (zs z ++ l ++ zs t) by simp [zs, List.replicate_succ], trim_cons_zero, ih]
  have hb : bare (zs z ++ l ++ zs t) = l ++ zs t := by unfold bare; rw [if_pos hd, hz]
  have hr : rt (l ++ zs t) = l := by rw [rt_app_zs]; exact rt_last h.lst
  have lo := h.lo
  have hi := h.hi
  simp only at lo hi
  rw [made_pos _ _ (by rw [hb]; simp [h.ne]), hb, hr, hld_of (e := e - t) (by omega) (by omega)]
  rw [hld_of (by rw [List.length_append, zs_length]; omega) (by rw [List.length_append, zs_length]; omega)]
  congr 1
  rw [List.length_append, zs_length]; omega
theorem rt_tail {a l : List UInt8} (h : ∀ t c, l = t ++ [c] → c ≠ 48) (hne : l ≠ []) : rt (a ++ l) = a ++ l := by
  rcases List.eq_nil_or_concat l with h0 | ⟨t, c, h0⟩
  · exact absurd h0 hne
  · rw [List.concat_eq_append] at h0
    rw [h0, ← List.append_assoc]; exact rt_snoc _ (h t c h0)
/-- The value of what is shown is what was rounded. -/
theorem value_vis (p : Prc) (g : Tri) (h : g = zero ∨ Nrm g) : made (visP p g).neg ((visP p g).i ++ rt (visP p g).f) (-((rt (visP p g).f).length : Int)) = g := by
  unfold visP
  simp only
  rcases h with rfl | h
  · have hp : partsT zero = ([], []) := by decide
    rw [hp]
    simp only [List.append_nil, List.nil_append]
    have hr : ∀ n, rt (zs n) = [] := fun n => by have := rt_app_zs [] n; simpa [rt_nil] using this
    rw [hr]
    simp only [List.append_nil]
    refine made_zero _ _ ?_
    split
    · decide
    · unfold bare
      rw [if_pos (isDig_zs _)]
      have : ∀ n, trim (zs n) = [] := by
        intro n; induction n with
        | zero => rfl
        | succ n ih => rw [show zs (n + 1) = 48 :: zs n from rfl, trim_cons_zero, ih]
      exact this _
  · obtain ⟨b, l, e⟩ := g
    have lo := h.lo
    have hi := h.hi
    simp only at lo hi
    have hne : l ≠ [] := h.ne
    unfold partsT
    simp only
    by_cases h0 : 0 ≤ e
    · rw [if_pos h0]
      simp only [List.nil_append]
      rw [show rt (zs (mfrac p ⟨b, l, e⟩ - (([] : List UInt8).length : Int)).toNat) = [] by have := rt_app_zs [] (mfrac p ⟨b, l, e⟩ - (([] : List UInt8).length : Int)).toNat; simpa [rt_nil] using this]
      rw [if_neg (fun hh => hne (by have := (List.append_eq_nil_iff.1 hh.1).2; exact (List.append_eq_nil_iff.1 this).1))]
      have := nrm_of h e.toNat (p.mi - ((l ++ zs e.toNat).length : Int)).toNat (by omega) (by omega)
      rw [show e - (e.toNat : Int) = 0 by omega] at this
      simp only [List.append_nil, List.length_nil]
      rw [← List.append_assoc]
      exact this
    · rw [if_neg h0]
      by_cases hp : (l.length : Int) + e ≤ 0
      · rw [if_pos hp]
        simp only [List.append_nil]
        rw [if_neg (fun hh => hne (by have := (List.append_eq_nil_iff.1 hh.2).1; exact (List.append_eq_nil_iff.1 this).2)), rt_app_zs, rt_tail h.lst hne]
        have := nrm_of h 0 ((p.mi - (([] : List UInt8).length : Int)).toNat + (-((l.length : Int) + e)).toNat) (by omega) (by omega)
        simp only [zs_zero, List.append_nil] at this
        rw [zs_add, List.length_append, zs_length]
        rw [show -((((-((l.length : Int) + e)).toNat + l.length : Nat) : Int)) = e - ((0 : Nat) : Int) by omega]
        exact this
      · rw [if_neg hp]
        simp only
        have hlen : 0 < l.length := List.length_pos_iff.2 hne
        obtain ⟨q, hq⟩ : ∃ q : Nat, ((l.length : Int) + e).toNat = q := ⟨_, rfl⟩
        rw [hq]
        have hqb : q < l.length ∧ 0 < q := by omega
        have hdne : l.drop q ≠ [] := by intro hh; have := congrArg List.length hh; rw [List.length_drop, List.length_nil] at this; omega
        have htl : ∀ t c, l.drop q = t ++ [c] → c ≠ 48 := by
          intro t c hh
          refine h.lst (l.take q ++ t) c ?_
          show l = _
          rw [List.append_assoc, ← hh, List.take_append_drop]
        rw [if_neg (fun hh => hdne (List.append_eq_nil_iff.1 hh.2).1), rt_app_zs]
        have hrd : rt (l.drop q) = l.drop q := rt_last htl
        rw [hrd, List.append_assoc, List.take_append_drop, List.length_drop]
        have := nrm_of h 0 (p.mi - ((l.take q).length : Int)).toNat (by omega) (by omega)
        simp only [zs_zero, List.append_nil] at this
        rw [show -(((l.length - q : Nat) : Int)) = e - ((0 : Nat) : Int) by omega]
        exact this
theorem vis_len (p : Prc) (hp : Asked p) (g : Tri) (hl : g.l.length ≤ 1000) (h1 : -500 ≤ g.e) (h2 : g.e ≤ 1000) : (visP p g).i.length ≤ 2500 ∧ (visP p g).f.length ≤ 2000 := by
  obtain ⟨_, hi, hn, _⟩ := validP_parts hp.ok
  have m8 := hp.mn8
  have m7 := hp.mi7
  have hF : mfrac p g ≤ 600 := by
    unfold mfrac
    split
    · split
      · omega
      · rename_i hne
        have := List.length_pos_iff.2 hne
        omega
    · omega
  have ha : (partsT g).1.length ≤ 2000 ∧ (partsT g).2.length ≤ 500 := by
    unfold partsT
    split
    · simp only [List.length_append, zs_length, List.length_nil]; omega
    · split
      · simp only [List.length_append, zs_length, List.length_nil]; omega
      · simp only [List.length_take, List.length_drop]; omega
  unfold visP
  simp only
  constructor
  · split
    · decide
    · rw [List.length_append, zs_length]; omega
  · rw [List.length_append, zs_length]; omega
end Go.Proofs.YtegekkifgdakgaaDoor

namespace Go.Proofs.YtegekkifgdakgaaDoor
open Go.RowKit Florin
set_option linter.unusedVariables false

theorem fitM {M : Nat} {z : Int} (hM : M ≤ 20000) (h : z.natAbs < 10 ^ M) : Fit 200 z := Fit.of (m := M) (by decide) h (by omega)
theorem nfNrm {z : Int} (hf : Fit 200 z) (h : z ≠ 0) : Nrm (nf 200 z) := by
  unfold nf
  rcases made_nrm (decide (z < 0)) (dig z.natAbs) (-((200 : Nat) : Int)) with h1 | h1
  · exact absurd ((nf_l_nil hf).1 (by unfold nf; rw [h1]; rfl)) h
  · exact h1
theorem nfOr {z : Int} (hf : Fit 200 z) : nf 200 z = zero ∨ Nrm (nf 200 z) := by
  by_cases h : z = 0
  · subst h; exact .inl (nf_zero 200)
  · exact .inr (nfNrm hf h)
/-- Where a number's first digit stands. -/
theorem nf_first {z : Int} (hf : Fit 200 z) (h : z ≠ 0) : ∃ s : Nat, ((s : Int) = (nf 200 z).e + ((nf 200 z).l.length : Int) - 1 + 200) ∧ 10 ^ s ≤ z.natAbs ∧ z.natAbs < 10 ^ (s + 1) := by
  obtain ⟨t, h1, h2, h3, h4⟩ := nf_pos hf h
  have nr := nfNrm hf h
  have hp := List.length_pos_iff.2 nr.ne
  have hl : (nf 200 z).l.length = (rt (dig z.natAbs)).length := by rw [h1]
  have he : (nf 200 z).e = (t : Int) - 200 := by rw [h1]; rfl
  refine ⟨(dig z.natAbs).length - 1, by omega, ?_, ?_⟩
  · rcases Nat.lt_or_ge z.natAbs (10 ^ ((dig z.natAbs).length - 1)) with hlt | hge
    · have := (dig_length_le z.natAbs ((dig z.natAbs).length - 1)).2 hlt; omega
    · exact hge
  · rw [show (dig z.natAbs).length - 1 + 1 = (dig z.natAbs).length by omega]
    exact (dig_length_le _ _).1 (Nat.le_refl _)
/-- A power of ten that a unit of so many digits less divides. -/
theorem sig_between (m : Int) {X : Int} {U s : Nat} (hU : 0 < U) (hd : U ∣ 10 ^ s) (h1 : 10 ^ s ≤ X.natAbs) (h2 : X.natAbs < 10 ^ (s + 1)) :
    (0 < X → (10 ^ s : Nat) ≤ rz m U X ∧ rz m U X ≤ (10 ^ (s + 1) : Nat)) ∧ (X < 0 → rz m U X ≤ -((10 ^ s : Nat) : Int) ∧ -((10 ^ (s + 1) : Nat) : Int) ≤ rz m U X) := by
  have hd2 : U ∣ 10 ^ (s + 1) := Nat.dvd_trans hd (by rw [Nat.pow_succ]; exact Nat.dvd_mul_right _ _)
  have e1 : ((10 ^ s : Nat) : Int) % (U : Int) = 0 := Int.emod_eq_zero_of_dvd (Int.natCast_dvd_natCast.2 hd)
  have e2 : ((10 ^ (s + 1) : Nat) : Int) % (U : Int) = 0 := Int.emod_eq_zero_of_dvd (Int.natCast_dvd_natCast.2 hd2)
  have e3 : -((10 ^ s : Nat) : Int) % (U : Int) = 0 := Int.emod_eq_zero_of_dvd (Int.dvd_neg.2 (Int.natCast_dvd_natCast.2 hd))
  have e4 : -((10 ^ (s + 1) : Nat) : Int) % (U : Int) = 0 := Int.emod_eq_zero_of_dvd (Int.dvd_neg.2 (Int.natCast_dvd_natCast.2 hd2))
  have hu : (0 : Int) < U := by omega
  generalize hA : 10 ^ s = A at *
  generalize hB : 10 ^ (s + 1) = B at *
  constructor
  · intro hx
    have a := rz_mono m U (X := (A : Int)) (Y := X) hu (by omega)
    have b := rz_mono m U (X := X) (Y := (B : Int)) hu (by omega)
    rw [rz_self e1] at a
    rw [rz_self e2] at b
    exact ⟨a, b⟩
  · intro hx
    have a := rz_mono m U (X := X) (Y := -(A : Int)) hu (by omega)
    have b := rz_mono m U (X := -(B : Int)) (Y := X) hu (by omega)
    rw [rz_self e3] at a
    rw [rz_self e4] at b
    exact ⟨a, b⟩
/-- Of Frac and Step one unit serves all numbers. -/
theorem one_unit (p : Prc) (hp : Asked p) (hk : ¬ p.kind = 1) (N : Nat) (hN : N = 400) : ∃ U : Nat, 0 < U ∧ U < 10 ^ N ∧ ∀ X : Int, X.natAbs < 10 ^ (N + 2) → roundP p (nf 200 X) = nf 200 (rz p.mode U X) := by
  obtain ⟨⟨m0, m6⟩, _, _, hkk⟩ := validP_parts hp.ok
  have x0 := hp.mx0
  have x15 := hp.mx15
  have fit : ∀ (U : Nat) (X : Int), 0 < U → U < 10 ^ N → X.natAbs < 10 ^ (N + 2) → Fit 200 (rz p.mode U X) := fun U X h0 h hX => fitM (M := N + 3) (by omega) (rz_lt (U := (U : Int)) (by omega) hX (by rw [Int.natAbs_natCast]; exact Nat.le_of_lt (Nat.lt_of_lt_of_le h (Nat.pow_le_pow_right (by decide) (by omega)))))
  rcases hkk with ⟨k, b1, b2⟩ | ⟨k, _⟩ | ⟨k, b⟩
  · refine ⟨1 * 10 ^ (-p.mx + ((200 : Nat) : Int)).toNat, Nat.mul_pos (by decide) (pow_pos' _), ?_, fun X hX => ?_⟩
    · rw [Nat.one_mul]; exact (Nat.pow_lt_pow_iff_right (by decide)).2 (by omega)
    · unfold roundP
      rw [if_pos k, hld_of (by omega) (by omega)]
      refine mulT_nf (fitM (M := N + 2) (by omega) hX) 1 (by decide) (-p.mx) p.mode (by omega) m0 m6 _ rfl (fit _ X (Nat.mul_pos (by decide) (pow_pos' _)) ?_ hX)
      rw [Nat.one_mul]; exact (Nat.pow_lt_pow_iff_right (by decide)).2 (by omega)
  · exact absurd k hk
  · obtain ⟨i1, i2, i3, i4, i5, i6⟩ := hp.inn k
    have u1 : val p.inc.l * 10 ^ (p.inc.e + ((200 : Nat) : Int)).toNat < 10 ^ N := by
      have a1 : val p.inc.l < 10 ^ 10 := Nat.lt_of_le_of_lt i6 (by decide)
      have a2 : val p.inc.l * 10 ^ (p.inc.e + ((200 : Nat) : Int)).toNat < 10 ^ 10 * 10 ^ (p.inc.e + ((200 : Nat) : Int)).toNat := Nat.mul_lt_mul_of_pos_right a1 (pow_pos' _)
      rw [← Nat.pow_add] at a2
      exact Nat.lt_of_lt_of_le a2 (Nat.pow_le_pow_right (by decide) (by omega))
    refine ⟨val p.inc.l * 10 ^ (p.inc.e + ((200 : Nat) : Int)).toNat, Nat.mul_pos (by omega) (pow_pos' _), u1, fun X hX => ?_⟩
    unfold roundP
    rw [if_neg (by omega), if_neg (by omega), i1]
    exact mulT_nf (fitM (M := N + 2) (by omega) hX) _ (by omega) _ p.mode (by omega) m0 m6 _ rfl (fit _ X (Nat.mul_pos (by omega) (pow_pos' _)) u1 hX)
/-- Of Sig the unit hangs on the first digit. -/
theorem sig_unit (p : Prc) (hp : Asked p) (hk : p.kind = 1) (N : Nat) (hN : N = 400) (X : Int) (hX : X.natAbs < 10 ^ (N + 2)) (h0 : X ≠ 0) (s : Nat) (hs : (s : Int) = (nf 200 X).e + ((nf 200 X).l.length : Int) - 1 + 200) (s1 : 100 ≤ s) (s2 : s ≤ 401) : ∃ U : Nat, 0 < U ∧ U = 10 ^ (s + 1 - p.mx.toNat) ∧ U ∣ 10 ^ s ∧ roundP p (nf 200 X) = nf 200 (rz p.mode U X) := by
  obtain ⟨⟨m0, m6⟩, _, _, hkk⟩ := validP_parts hp.ok
  have x15 := hp.mx15
  have hb : 1 ≤ p.mn ∧ p.mn ≤ p.mx := by rcases hkk with ⟨k, _⟩ | ⟨k, a, b, c⟩ | ⟨k, _⟩; omega; exact ⟨a, b⟩; omega
  have fX := fitM (M := N + 2) (by omega) hX
  have nr := nfNrm fX h0
  refine ⟨10 ^ (s + 1 - p.mx.toNat), pow_pos' _, rfl, Nat.pow_dvd_pow 10 (by omega), ?_⟩
  unfold roundP sigT
  rw [if_neg (by omega), if_pos hk, if_neg nr.ne, show min (max p.mx 1) 30000 = p.mx by omega, hld_of (by omega) (by omega)]
  refine mulT_nf fX 1 (by decide) _ p.mode (by omega) m0 m6 _ ?_ ?_
  · rw [Nat.one_mul]; congr 1; omega
  · refine fitM (M := N + 3) (by omega) (rz_lt (N := N + 2) (by have := pow_pos' (s + 1 - p.mx.toNat); omega) hX ?_)
    rw [Int.natAbs_natCast]; exact Nat.pow_le_pow_right (by decide) (by omega)
/-- What is shown of a number; of it the same is shown. -/
theorem shown_again (p : Prc) (hp : Asked p) (N : Nat) (hN : N = 400) (X : Int) (hX : X.natAbs < 10 ^ N) (hG : X ≠ 0 → 10 ^ 100 ≤ X.natAbs) : ∃ R : Int, R.natAbs < 10 ^ (N + 1) ∧ roundP p (nf 200 X) = nf 200 R ∧ roundP p (nf 200 R) = nf 200 R := by
  have hX2 : X.natAbs < 10 ^ (N + 2) := Nat.lt_of_lt_of_le hX (Nat.pow_le_pow_right (by decide) (by omega))
  have up : ∀ R : Int, R.natAbs < 10 ^ (N + 1) → R.natAbs < 10 ^ (N + 2) := fun R h => Nat.lt_of_lt_of_le h (Nat.pow_le_pow_right (by decide) (by omega))
  by_cases hk : p.kind = 1
  · by_cases h0 : X = 0
    · subst h0
      have hz : roundP p (nf 200 0) = nf 200 0 := by rw [nf_zero]; unfold roundP; rw [if_neg (by omega), if_pos hk]; rfl
      exact ⟨0, by have := pow_pos' (N + 1); simpa using this, hz, hz⟩
    · obtain ⟨s, hs, l1, l2⟩ := nf_first (fitM (M := N) (by omega) hX) h0
      have s1 : 100 ≤ s := by
        have := Nat.lt_of_le_of_lt (hG h0) l2
        have := (Nat.pow_lt_pow_iff_right (by decide : 1 < 10)).1 this
        omega
      have s2 : s < N := (Nat.pow_lt_pow_iff_right (by decide : 1 < 10)).1 (Nat.lt_of_le_of_lt l1 hX)
      obtain ⟨U, u0, hU, hd, hr⟩ := sig_unit p hp hk N hN X hX2 h0 s hs s1 (by omega)
      have bt := sig_between p.mode u0 hd l1 l2
      have hRb : 10 ^ s ≤ (rz p.mode U X).natAbs ∧ (rz p.mode U X).natAbs ≤ 10 ^ (s + 1) := by
        generalize 10 ^ s = A at *
        generalize 10 ^ (s + 1) = B at *
        rcases Int.lt_or_gt_of_ne h0 with h | h
        · have := bt.2 h; omega
        · have := bt.1 h; omega
      have hR0 : rz p.mode U X ≠ 0 := by intro h; rw [h] at hRb; simp at hRb
      have hR1 : (rz p.mode U X).natAbs < 10 ^ (N + 1) := Nat.lt_of_le_of_lt hRb.2 ((Nat.pow_lt_pow_iff_right (by decide)).2 (by omega))
      refine ⟨_, hR1, hr, ?_⟩
      have hdv := rz_dvd p.mode U X (by omega)
      have hag := rz_again p.mode U X (by omega)
      generalize rz p.mode U X = R at *
      obtain ⟨s', hs', l1', l2'⟩ := nf_first (fitM (M := N + 1) (by omega) hR1) hR0
      have hge : s ≤ s' := by
        have := (Nat.pow_lt_pow_iff_right (by decide : 1 < 10)).1 (Nat.lt_of_le_of_lt hRb.1 l2'); omega
      have hle : s' ≤ s + 1 := (Nat.pow_le_pow_iff_right (by decide : 1 < 10)).1 (Nat.le_trans l1' hRb.2)
      obtain ⟨U', u0', hU', hd', hr'⟩ := sig_unit p hp hk N hN R (up R hR1) hR0 s' hs' (by omega) (by omega)
      rw [hr']
      congr 1
      by_cases he : s' = s
      · have : U' = U := by rw [hU', hU, he]
        rw [this]; exact hag
      · have hs1 : s' = s + 1 := by omega
        have hRe : R.natAbs = 10 ^ s' := by rw [hs1] at l1' ⊢; exact Nat.le_antisymm hRb.2 l1'
        refine rz_self (Int.emod_eq_zero_of_dvd ?_)
        rw [← Int.dvd_natAbs, hRe]
        exact Int.natCast_dvd_natCast.2 hd'
  · obtain ⟨U, u0, u1, hu⟩ := one_unit p hp hk N hN
    have hR := rz_lt (m := p.mode) (U := (U : Int)) (X := X) (N := N) (by omega) hX (by rw [Int.natAbs_natCast]; exact Nat.le_of_lt u1)
    refine ⟨_, hR, hu X hX2, ?_⟩
    rw [hu _ (up _ hR), rz_again _ _ _ (by omega)]
theorem rawG (n : Bool) (L : List UInt8) (e : Int) (h1 : L.length ≤ 30) (h2 : -30 ≤ e) (h3 : e ≤ 30) (N : Nat) (hN : 280 ≤ N) (hN2 : N ≤ 20000) : ∃ X : Int, made n (dgs L) e = nf 200 X ∧ X.natAbs < 10 ^ N ∧ (X ≠ 0 → 10 ^ 100 ≤ X.natAbs) := by
  have hdv := raw_dv n (k := 200) (isDig_dgs L) (e := e) (by omega)
  have hlt : (sg n (val (dgs L) * 10 ^ (e + ((200 : Nat) : Int)).toNat)).natAbs < 10 ^ N := by
    rw [sg_natAbs]
    have h4 := val_lt _ (isDig_dgs L)
    rw [dgs_length] at h4
    have h7 : val (dgs L) * 10 ^ (e + ((200 : Nat) : Int)).toNat < 10 ^ L.length * 10 ^ (e + ((200 : Nat) : Int)).toNat := Nat.mul_lt_mul_of_pos_right h4 (pow_pos' _)
    rw [← Nat.pow_add] at h7
    exact Nat.lt_of_lt_of_le h7 (Nat.pow_le_pow_right (by decide) (by omega))
  refine ⟨_, ?_, hlt, fun h0 => ?_⟩
  · exact hdv.made (fitM (M := N) (by omega) hlt)
  · rw [sg_natAbs]
    have hv : 1 ≤ val (dgs L) := by
      rcases Nat.eq_zero_or_pos (val (dgs L)) with h | h
      · exfalso; apply h0; rw [h, Nat.zero_mul, sg_zero]
      · exact h
    have h5 : 10 ^ 100 ≤ 10 ^ (e + ((200 : Nat) : Int)).toNat := Nat.pow_le_pow_right (by decide) (by omega)
    exact Nat.le_trans h5 (Nat.le_mul_of_pos_left _ hv)
theorem shownR (p : Prc) (hp : Asked p) (n : Bool) (L : List UInt8) (e : Int) (h1 : L.length ≤ 30) (h2 : -30 ≤ e) (h3 : e ≤ 30) (N : Nat) (hN : N = 400) : ∃ R : Int, R.natAbs < 10 ^ (N + 1) ∧ roundP p (made n (dgs L) e) = nf 200 R := by
  obtain ⟨X, dX, bX, gX⟩ := rawG n L e h1 h2 h3 N (by omega) (by omega)
  obtain ⟨R, rb, hr, hrr⟩ := shown_again p hp N hN X bX gX
  exact ⟨R, rb, by rw [dX]; exact hr⟩
end Go.Proofs.YtegekkifgdakgaaDoor

namespace Go.Proofs.YtegekkifgdakgaaDoor
open Go.RowKit Florin
set_option linter.unusedVariables false

theorem trim_zs_app (m : Nat) {l : List UInt8} (h : ∀ c t, l = c :: t → c ≠ 48) : trim (zs m ++ l) = l := by
  induction m with
  | zero => rw [zs_zero, List.nil_append]; exact trim_head h
  | succ m ih => rw [show zs (m + 1) ++ l = 48 :: (zs m ++ l) from rfl, trim_cons_zero, ih]
/-- The digits ahead of the point have no nought ahead, those behind it none at the end. -/
theorem parts_clean {g : Tri} (h : g = zero ∨ Nrm g) : (∀ c t, (partsT g).1 = c :: t → c ≠ 48) ∧ rt (partsT g).2 = (partsT g).2 := by
  rcases h with rfl | h
  · rw [show partsT zero = ([], []) by decide]
    exact ⟨fun c t h => by simp at h, rfl⟩
  · obtain ⟨b, l, e⟩ := g
    have hne : l ≠ [] := h.ne
    unfold partsT
    simp only
    by_cases h0 : 0 ≤ e
    · rw [if_pos h0]
      refine ⟨fun c t hc => ?_, rfl⟩
      simp only at hc
      cases hl : l with
      | nil => exact absurd hl hne
      | cons d r =>
        rw [hl, List.cons_append] at hc
        injection hc with h1 h2
        rw [← h1]; exact h.hd d r hl
    · rw [if_neg h0]
      by_cases hp : (l.length : Int) + e ≤ 0
      · rw [if_pos hp]
        exact ⟨fun c t hc => by simp at hc, rt_tail h.lst hne⟩
      · rw [if_neg hp]
        obtain ⟨q, hq⟩ : ∃ q : Nat, ((l.length : Int) + e).toNat = q := ⟨_, rfl⟩
        rw [hq]
        refine ⟨fun c t hc => ?_, ?_⟩
        · simp only at hc
          cases hl : l with
          | nil => exact absurd hl hne
          | cons d r =>
            rw [hl] at hc
            cases q with
            | zero => simp at hc
            | succ q =>
              rw [List.take_succ_cons] at hc
              injection hc with h1 h2
              rw [← h1]; exact h.hd d r hl
        · refine rt_last ?_
          intro t c hh
          simp only at hh
          refine h.lst (l.take q ++ t) c ?_
          show l = _
          rw [List.append_assoc, ← hh, List.take_append_drop]
/-- What is shown: its whole digits without noughts ahead, how many there are, what lies behind the point without noughts at the end. -/
theorem vis_digits (p : Prc) (hp : Asked p) {g : Tri} (h : g = zero ∨ Nrm g) :
    trim (visP p g).i = (partsT g).1 ∧ rt (visP p g).f = (partsT g).2 ∧
    ((visP p g).i.length = max (partsT g).1.length p.mi.toNat ∨ (max (partsT g).1.length p.mi.toNat = 0 ∧ (visP p g).i = [48] ∧ (visP p g).f = [])) ∧
    ((visP p g).f.length : Int) = max ((partsT g).2.length : Int) (mfrac p g) := by
  obtain ⟨c1, c2⟩ := parts_clean h
  obtain ⟨_, hi, _, _⟩ := validP_parts hp.ok
  unfold visP
  simp only
  by_cases hb : zs (p.mi - ((partsT g).1.length : Int)).toNat ++ (partsT g).1 = [] ∧ (partsT g).2 ++ zs (mfrac p g - ((partsT g).2.length : Int)).toNat = []
  · rw [if_pos hb]
    have a1 := (List.append_eq_nil_iff.1 hb.1).2
    have a0 := congrArg List.length (List.append_eq_nil_iff.1 hb.1).1
    have b1 := (List.append_eq_nil_iff.1 hb.2).1
    have b0 := congrArg List.length (List.append_eq_nil_iff.1 hb.2).2
    rw [zs_length, List.length_nil, a1, List.length_nil] at a0
    rw [zs_length, List.length_nil, b1, List.length_nil] at b0
    rw [hb.2, a1, b1]
    refine ⟨by decide, rfl, .inr ⟨?_, rfl, rfl⟩, ?_⟩
    · simp only [List.length_nil]; omega
    · simp only [List.length_nil]; omega
  · rw [if_neg hb]
    refine ⟨trim_zs_app _ c1, by rw [rt_app_zs]; exact c2, .inl ?_, ?_⟩
    · rw [List.length_append, zs_length]; omega
    · rw [List.length_append, zs_length]; omega
end Go.Proofs.YtegekkifgdakgaaDoor

namespace Go.Proofs.YtegekkifgdakgaaDoor
open Go.RowKit Florin
set_option linter.unusedVariables false

theorem drop_last (t : ByteArray) (h : 0 < t.size) : t.data.toList = (t.extract 0 (t.size - 1)).data.toList ++ [t[t.size - 1]'(by omega)] := by
  rw [ext_take, arr_list]
  have hl : t.data.toList.length = t.size := by simp
  have e : t[t.size - 1]'(by omega) = t.data.toList[t.size - 1]'(by omega) := by simp [ByteArray.getElem_eq_getElem_data]
  rw [e]
  have := List.take_append_getElem (l := t.data.toList) (i := t.size - 1) (by omega)
  rw [this, show t.size - 1 + 1 = t.size by omega, ← hl, List.take_length]
set_option maxHeartbeats 800000 in
theorem trimEnd_any (s : ByteArray) (w : World) (hs : s.size ≤ 1000000) :
    Calls Tryd.prog 19 #[.string s] w fun e w' => e = .returned (S (rt s.data.toList)) ∧ w = w' := by
  go_enter Tryd.func19, Tryd.ntmps19
  go_wp2
  go_loop [0] (fun v => ∃ t : ByteArray, t.size ≤ s.size ∧ v = .string t ∧ rt t.data.toList = rt s.data.toList) (fun v => match v with | .string t => t.size | _ => 0)
  case atStart => exact ⟨s, Nat.le_refl _, rfl, rfl⟩
  case round =>
    obtain ⟨t, ht, rfl, he⟩ := hrel
    have HE := Lib.hid he
    clear he
    by_cases hlt : 0 < t.size
    · have hb : t.size - 1 < t.size := by omega
      have hdr : Hid (t.data.toList = (t.extract 0 (t.size - 1)).data.toList ++ [t[t.size - 1]'hb]) := Lib.hid (drop_last t hlt)
      have hi1 : (0 : Int) ≤ (t.size : Int) - 1 := by omega
      have hi2 : (t.size : Int) - 1 < (t.size : Int) := by omega
      have hn : ((t.size : Int) - 1).toNat = t.size - 1 := by omega
      by_cases h1 : ((t[t.size - 1]'hb).toNat : Int) = 48
      · have h2 : (((t[t.size - 1]'hb).toNat : Int) == 48) = true := by simp [h1]
        have H1 := Lib.hid h1
        clear h1
        go_wp2
        go_round
        case rel =>
          refine ⟨_, ?_, rfl, ?_⟩
          · simp; omega
          · have e0 : t[t.size - 1]'hb = 48 := UInt8.toNat_inj.1 (by have := H1.out; simp; omega)
            have := hdr.out
            rw [e0] at this
            rw [← HE.out, this, rt_snoc_zero]
        case measure => simp; omega
      · have h2 : (((t[t.size - 1]'hb).toNat : Int) == 48) = false := by simpa using h1
        have H1 := Lib.hid h1
        clear h1
        go_wp2
        go_ret
        have e0 : t[t.size - 1]'hb ≠ 48 := fun e => H1.out (by rw [e]; rfl)
        have e1 : rt t.data.toList = t.data.toList := by rw [hdr.out]; exact rt_snoc _ e0
        exact ⟨by rw [← HE.out, e1]; simp, rfl⟩
    · go_wp2
      go_ret
      have hl : t.data.toList.length = t.size := by simp
      have e1 : t.data.toList = [] := List.eq_nil_of_length_eq_zero (by omega)
      have e2 : rt t.data.toList = t.data.toList := by rw [e1]; rfl
      exact ⟨by rw [← HE.out, e2]; simp, rfl⟩
end Go.Proofs.YtegekkifgdakgaaDoor

namespace Go.Proofs.YtegekkifgdakgaaDoor
open Go.RowKit Florin
set_option linter.unusedVariables false

theorem isDig_cut {l : List UInt8} (h : isDig l = true) (q : Nat) : isDig (l.take q) = true ∧ isDig (l.drop q) = true := by
  have hs : l = l.take q ++ l.drop q := (List.take_append_drop _ _).symm
  rw [hs, isDig_append] at h
  simpa using h
theorem parts_digs {g : Tri} (h : isDig g.l = true) : isDig (partsT g).1 = true ∧ isDig (partsT g).2 = true := by
  unfold partsT
  split
  · exact ⟨by rw [isDig_append, h, isDig_zs]; rfl, rfl⟩
  · split
    · exact ⟨rfl, by rw [isDig_append, h, isDig_zs]; rfl⟩
    · exact isDig_cut h _
theorem vis_digs (p : Prc) {g : Tri} (h : isDig g.l = true) : isDig (visP p g).i = true ∧ isDig (visP p g).f = true := by
  obtain ⟨h1, h2⟩ := parts_digs h
  unfold visP
  simp only
  constructor
  · split
    · rfl
    · rw [isDig_append, h1, isDig_zs]; rfl
  · rw [isDig_append, h2, isDig_zs]; rfl
theorem vis_some (p : Prc) (g : Tri) : (visP p g).i ≠ [] ∨ (visP p g).f ≠ [] := by
  unfold visP
  simp only
  split
  · left; simp
  · rename_i h
    by_cases h1 : zs (p.mi - ((partsT g).1.length : Int)).toNat ++ (partsT g).1 = []
    · right; exact fun h2 => h ⟨h1, h2⟩
    · left; exact h1
/-- What is rounded, with its first digit not too far behind the point. -/
theorem shownS (p : Prc) (hp : Asked p) (n : Bool) (L : List UInt8) (e : Int) (h1 : L.length ≤ 30) (h2 : -30 ≤ e) (h3 : e ≤ 30) (N : Nat) (hN : N = 400) : ∃ R : Int, R.natAbs < 10 ^ (N + 1) ∧ roundP p (made n (dgs L) e) = nf 200 R ∧ (p.kind = 1 → R ≠ 0 → 10 ^ 100 ≤ R.natAbs) := by
  obtain ⟨X, dX, bX, gX⟩ := rawG n L e h1 h2 h3 N (by omega) (by omega)
  by_cases hk : p.kind = 1
  · by_cases h0 : X = 0
    · subst h0
      have hz : roundP p (nf 200 0) = nf 200 0 := by rw [nf_zero]; unfold roundP; rw [if_neg (by omega), if_pos hk]; rfl
      exact ⟨0, by have := pow_pos' (N + 1); simpa using this, by rw [dX]; exact hz, fun _ h => absurd rfl h⟩
    · have hX2 : X.natAbs < 10 ^ (N + 2) := Nat.lt_of_lt_of_le bX (Nat.pow_le_pow_right (by decide) (by omega))
      obtain ⟨s, hs, l1, l2⟩ := nf_first (fitM (M := N) (by omega) bX) h0
      have s1 : 100 ≤ s := by
        have := Nat.lt_of_le_of_lt (gX h0) l2
        have := (Nat.pow_lt_pow_iff_right (by decide : 1 < 10)).1 this
        omega
      have s2 : s < N := (Nat.pow_lt_pow_iff_right (by decide : 1 < 10)).1 (Nat.lt_of_le_of_lt l1 bX)
      obtain ⟨U, u0, hU, hd, hr⟩ := sig_unit p hp hk N hN X hX2 h0 s hs s1 (by omega)
      have bt := sig_between p.mode u0 hd l1 l2
      have hRb : 10 ^ s ≤ (rz p.mode U X).natAbs ∧ (rz p.mode U X).natAbs ≤ 10 ^ (s + 1) := by
        generalize 10 ^ s = A at *
        generalize 10 ^ (s + 1) = B at *
        rcases Int.lt_or_gt_of_ne h0 with h | h
        · have := bt.2 h; omega
        · have := bt.1 h; omega
      refine ⟨_, Nat.lt_of_le_of_lt hRb.2 ((Nat.pow_lt_pow_iff_right (by decide)).2 (by omega)), by rw [dX]; exact hr, fun _ _ => Nat.le_trans (Nat.pow_le_pow_right (by decide) s1) hRb.1⟩
  · obtain ⟨R, rb, hr, _⟩ := shown_again p hp N hN X bX gX
    exact ⟨R, rb, by rw [dX]; exact hr, fun h => absurd h hk⟩
/-- How many digits lie behind the point. -/
theorem parts_two (g : Tri) (h : g = zero ∨ Nrm g) : (partsT g).2.length ≤ (-g.e).toNat := by
  unfold partsT
  split
  · simp
  · split
    · rw [List.length_append, zs_length]; omega
    · rw [List.length_drop]; omega
theorem parts_one {g : Tri} (h : (partsT g).1 ≠ []) : ((partsT g).1.length : Int) = (g.l.length : Int) + g.e := by
  revert h
  unfold partsT
  split
  · intro _; simp only [List.length_append, zs_length]; omega
  · split
    · intro h; exact absurd rfl h
    · intro _; rw [List.length_take]; omega
/-- A number below one: noughts ahead of its digits. -/
theorem parts_low {g : Tri} (hn : Nrm g) (h : (partsT g).1 = []) : (g.l.length : Int) + g.e ≤ 0 ∧ (partsT g).2 = zs (-((g.l.length : Int) + g.e)).toNat ++ g.l := by
  have hne := List.length_pos_iff.2 hn.ne
  revert h
  unfold partsT
  split
  · intro h; exact absurd (List.append_eq_nil_iff.1 h).1 hn.ne
  · split
    · rename_i h2; intro _; exact ⟨h2, rfl⟩
    · intro h; have := congrArg List.length h; simp only [List.length_take, List.length_nil] at this; omega
theorem vis_f (p : Prc) (g : Tri) : (visP p g).f = (partsT g).2 ++ zs (mfrac p g - ((partsT g).2.length : Int)).toNat := by
  unfold visP; rfl
theorem zs_get (k : Nat) (r : List UInt8) (i : Nat) (hi : i < k) (h : i < (zs k ++ r).length) : (zs k ++ r)[i] = 48 := by
  rw [List.getElem_append_left (by rw [zs_length]; exact hi)]
  simp [zs]
/-- Noughts ahead of any digits. -/
theorem ahead_any (f : List UInt8) : ∃ k : Nat, (∀ i, i < k → ∀ h : i < f.length, f[i] = 48) ∧ (∀ h : k < f.length, f[k] ≠ 48) := by
  induction f with
  | nil => exact ⟨0, fun i hi => by omega, fun h => by simp at h⟩
  | cons c f ih =>
    by_cases hc : c = 48
    · subst hc
      obtain ⟨k, h1, h2⟩ := ih
      refine ⟨k + 1, fun i hi hl => ?_, fun h => by simpa using h2 (by simpa using h)⟩
      cases i with
      | zero => rfl
      | succ i => simpa using h1 i (by omega) (by simpa using hl)
    · exact ⟨0, fun i hi => by omega, fun h => by simpa using hc⟩
end Go.Proofs.YtegekkifgdakgaaDoor

namespace Go.Proofs.YtegekkifgdakgaaDoor
open Go.RowKit Florin
set_option linter.unusedVariables false
set_option linter.unusedSimpArgs false
attribute [local go_sem ↓] Go.wp_at_zero Go.wp_at_succ eq_V ne_V eq_VV

theorem HeldL.tail {w : World} {x : Nat × Array Value} {L : List (Nat × Array Value)} {W : World} (h : HeldL w (x :: L) W) : HeldL w L W :=
  ⟨fun p hp => h.box p (List.Mem.tail _ hp), fun p hp => h.own p (List.Mem.tail _ hp), (List.pairwise_cons.1 h.desc).2, h.bel⟩
set_option maxRecDepth 100000 in
set_option maxHeartbeats 12800000 in
theorem digits_w (n : Bool) (a : Option Addr) (len cap : Nat) (L : List UInt8) (e : Int) (k0 k1 k2 k3 k4 k5 k6 : Int) (w : World) (hin : InB w a len cap L) (htab : Tab w) (h1 : len ≤ 30) (h2 : -30 ≤ e) (h3 : e ≤ 30) (p : Prc) (hpr : (∀ w : World, Tab w → Calls Tryd.prog 12 #[.agg #[.int .i64 k0, .int .i64 k1, .int .i64 k2, .int .i64 k3, .int .i64 k4, .int .i64 k5, .int .i64 k6]] w fun z w' => z = .returned (PV p) ∧ Below w.heap.size w w')) (g : Tri) (gl : g.l.length ≤ 100000) (least : Int) (vi vf t : List UInt8) (il : vi.length ≤ 1000) (fl : vf.length ≤ 200) (hi1 : isDig vi = true) (hi2 : isDig vf = true) (hor : vi ≠ [] ∨ vf ≠ []) (htr : ∀ w : World, Calls Tryd.prog 17 #[S vi] w fun z w' => z = .returned (S t) ∧ w = w') (tl : t.length ≤ 1000) (Wt : Int) (hW : max (t.length : Int) p.mi = Wt) (hvi : (vi.length : Int) = Wt) (kz : Nat) (hkl : t = [] → (made g.neg g.l g.e).l.isEmpty = false → kz < vf.length) (hz1 : ∀ i, i < kz → ∀ h : i < vf.length, ((((⟨vf.toArray⟩ : ByteArray)[i]'(by rw [arr_size]; exact h)).toNat : Int) == 48) = true) (hz2 : ∀ h : kz < vf.length, ((((⟨vf.toArray⟩ : ByteArray)[kz]'(by rw [arr_size]; exact h)).toNat : Int) == 48) = false) (ha1 : (∀ w : World, Tab w → Calls Tryd.prog 13 #[PV p, V ⟨n, dgs L, e⟩] w fun z w' => z = .returned (.tuple #[VV ⟨g.neg, vi, vf⟩, .int .i64 0]) ∧ Below w.heap.size w w')) (hr1 : (∀ w : World, Tab w → Calls Tryd.prog 15 #[PV p, V ⟨n, dgs L, e⟩] w fun z w' => z = .returned (V g) ∧ Below w.heap.size w w')) (b1 : 0 ≤ p.mn) (b2 : p.mn ≤ 100) (hl0 : (p.kind == 1) = false → p.mn = least) (hl1 : (p.kind == 1) = true → t = [] → (made g.neg g.l g.e).l.isEmpty = true → max (p.mn - 1) 0 = least) (hl2 : (p.kind == 1) = true → t = [] → (made g.neg g.l g.e).l.isEmpty = false → max (p.mn - (1 - (kz : Int) - 1)) 0 = least) (hl3 : (p.kind == 1) = true → t ≠ [] → max (p.mn - (t.length : Int)) 0 = least) (hgi : True) (hfb : ((vf.length : Int) == max least ((rt vf).length : Int)) = true) :
    Calls Tryd.prog 3 #[RV n a len cap e, .agg #[.int .i64 k0, .int .i64 k1, .int .i64 k2, .int .i64 k3, .int .i64 k4, .int .i64 k5, .int .i64 k6]] w fun x w' => x = .returned (.bool true) ∧ Below w.heap.size w w' := by
  have hcA := hin.2.1
  have hmA := hin.2.2.1
  have HT := Lib.hid htab
  have HIN := Lib.hid hin
  have HPR := Lib.hid hpr
  have HA1 := Lib.hid ha1
  have HR1 := Lib.hid hr1
  have HL0 := Lib.hid hl0
  have HL1 := Lib.hid hl1
  have HL2 := Lib.hid hl2
  have HGI := Lib.hid hgi
  have HTR := Lib.hid htr
  have HI1 := Lib.hid hi1
  have HI2 := Lib.hid hi2
  have HL3 := Lib.hid hl3
  have HZ1 := Lib.hid hz1
  have HZ2 := Lib.hid hz2
  have HW := Lib.hid hW
  have HVI := Lib.hid hvi
  have HKL := Lib.hid hkl
  clear htab hin hpr ha1 hr1 hl0 hl1 hl2 hgi htr hi1 hi2 hl3 hz1 hz2 hW hvi hkl
  have ca1 : ¬ 9223372036854775807 < vi.length + vf.length := by omega
  have eC : ((⟨vi.toArray⟩ : ByteArray) ++ (⟨vf.toArray⟩ : ByteArray)).toList.isEmpty = false := by rw [arr_append]; exact empty_of (ne_empty (fun h => hor.elim (fun q => q (List.append_eq_nil_iff.1 h).1) (fun q => q (List.append_eq_nil_iff.1 h).2)))
  have hf2 : decide ((vf.length : Int) ≤ 200) = true := by simp; omega
  have hvb : ((vi.length : Int) != max (t.length : Int) p.mi) = false := by rw [HW.out, HVI.out]; simp
  go_enter Tryd.func3, Tryd.ntmps3
  go_wp2_with fail
  with_reducible refine (head4 _ (HT.out.below (HeldL.alloc (HeldL.alloc (HeldL.refl w) (w.heap.size) #[.bool n, .slice a len cap, .int .i64 e] 24 (by simp)) (w.heap.size + 1) #[.int .i64 k0, .int .i64 k1, .int .i64 k2, .int .i64 k3, .int .i64 k4, .int .i64 k5, .int .i64 k6] 26 (by simp)).bel)).mono ?_
  rintro x w1 ⟨rfl, hb⟩
  have H1 : Hid (HeldL w [(w.heap.size + 1, #[.int .i64 k0, .int .i64 k1, .int .i64 k2, .int .i64 k3, .int .i64 k4, .int .i64 k5, .int .i64 k6]), (w.heap.size, #[.bool n, .slice a len cap, .int .i64 e])] w1) := Lib.hid (HeldL.keep (HeldL.alloc (HeldL.alloc (HeldL.refl w) (w.heap.size) #[.bool n, .slice a len cap, .int .i64 e] 24 (by simp)) (w.heap.size + 1) #[.int .i64 k0, .int .i64 k1, .int .i64 k2, .int .i64 k3, .int .i64 k4, .int .i64 k5, .int .i64 k6] 26 (by simp)) hb)
  clear hb
  have q0 : w1.cell? ⟨w.heap.size, 0, none⟩ = some (.bool n) := (H1.out.f (List.Mem.tail _ (List.Mem.head _))).cell 0
  have q1 : w1.cell? ⟨w.heap.size, 1, none⟩ = some (.slice a len cap) := (H1.out.f (List.Mem.tail _ (List.Mem.head _))).cell 1
  have q2 : w1.cell? ⟨w.heap.size, 2, none⟩ = some (.int .i64 e) := (H1.out.f (List.Mem.tail _ (List.Mem.head _))).cell 2
  have ql : w.heap.size < w1.heap.size := (H1.out.f (List.Mem.tail _ (List.Mem.head _))).lt
  have k0 : w1.cell? ⟨w.heap.size + 1, 0, none⟩ = some (.int .i64 k0) := (H1.out.f (List.Mem.head _)).cell 0
  have k1 : w1.cell? ⟨w.heap.size + 1, 1, none⟩ = some (.int .i64 k1) := (H1.out.f (List.Mem.head _)).cell 1
  have k2 : w1.cell? ⟨w.heap.size + 1, 2, none⟩ = some (.int .i64 k2) := (H1.out.f (List.Mem.head _)).cell 2
  have k3 : w1.cell? ⟨w.heap.size + 1, 3, none⟩ = some (.int .i64 k3) := (H1.out.f (List.Mem.head _)).cell 3
  have k4 : w1.cell? ⟨w.heap.size + 1, 4, none⟩ = some (.int .i64 k4) := (H1.out.f (List.Mem.head _)).cell 4
  have k5 : w1.cell? ⟨w.heap.size + 1, 5, none⟩ = some (.int .i64 k5) := (H1.out.f (List.Mem.head _)).cell 5
  have k6 : w1.cell? ⟨w.heap.size + 1, 6, none⟩ = some (.int .i64 k6) := (H1.out.f (List.Mem.head _)).cell 6
  have kl : w.heap.size + 1 < w1.heap.size := (H1.out.f (List.Mem.head _)).lt
  go_wp2_with fail
  with_reducible refine (few_yes n a len cap e 30 _ hcA hmA (by decide) (by decide) (by omega) h2 h3).mono ?_
  rintro x w2 ⟨rfl, hb⟩
  clear q0 q1 q2 ql k0 k1 k2 k3 k4 k5 k6 kl
  have H2 : Hid (HeldL w [(w.heap.size + 1, #[.int .i64 k0, .int .i64 k1, .int .i64 k2, .int .i64 k3, .int .i64 k4, .int .i64 k5, .int .i64 k6]), (w.heap.size, #[.bool n, .slice a len cap, .int .i64 e])] w2) := Lib.hid (HeldL.keep H1.out hb)
  clear H1
  clear hb
  have q0 : w2.cell? ⟨w.heap.size, 0, none⟩ = some (.bool n) := (H2.out.f (List.Mem.tail _ (List.Mem.head _))).cell 0
  have q1 : w2.cell? ⟨w.heap.size, 1, none⟩ = some (.slice a len cap) := (H2.out.f (List.Mem.tail _ (List.Mem.head _))).cell 1
  have q2 : w2.cell? ⟨w.heap.size, 2, none⟩ = some (.int .i64 e) := (H2.out.f (List.Mem.tail _ (List.Mem.head _))).cell 2
  have ql : w.heap.size < w2.heap.size := (H2.out.f (List.Mem.tail _ (List.Mem.head _))).lt
  have k0 : w2.cell? ⟨w.heap.size + 1, 0, none⟩ = some (.int .i64 k0) := (H2.out.f (List.Mem.head _)).cell 0
  have k1 : w2.cell? ⟨w.heap.size + 1, 1, none⟩ = some (.int .i64 k1) := (H2.out.f (List.Mem.head _)).cell 1
  have k2 : w2.cell? ⟨w.heap.size + 1, 2, none⟩ = some (.int .i64 k2) := (H2.out.f (List.Mem.head _)).cell 2
  have k3 : w2.cell? ⟨w.heap.size + 1, 3, none⟩ = some (.int .i64 k3) := (H2.out.f (List.Mem.head _)).cell 3
  have k4 : w2.cell? ⟨w.heap.size + 1, 4, none⟩ = some (.int .i64 k4) := (H2.out.f (List.Mem.head _)).cell 4
  have k5 : w2.cell? ⟨w.heap.size + 1, 5, none⟩ = some (.int .i64 k5) := (H2.out.f (List.Mem.head _)).cell 5
  have k6 : w2.cell? ⟨w.heap.size + 1, 6, none⟩ = some (.int .i64 k6) := (H2.out.f (List.Mem.head _)).cell 6
  have kl : w.heap.size + 1 < w2.heap.size := (H2.out.f (List.Mem.head _)).lt
  go_wp2_with fail
  with_reducible refine (HPR.out _ (HT.out.below H2.out.bel)).mono ?_
  rintro x w3 ⟨rfl, hb⟩
  clear q0 q1 q2 ql k0 k1 k2 k3 k4 k5 k6 kl
  have H3 : Hid (HeldL w [(w.heap.size + 1, #[.int .i64 k0, .int .i64 k1, .int .i64 k2, .int .i64 k3, .int .i64 k4, .int .i64 k5, .int .i64 k6]), (w.heap.size, #[.bool n, .slice a len cap, .int .i64 e])] w3) := Lib.hid (HeldL.keep H2.out hb)
  clear H2
  clear hb
  have q0 : w3.cell? ⟨w.heap.size, 0, none⟩ = some (.bool n) := (H3.out.f (List.Mem.tail _ (List.Mem.head _))).cell 0
  have q1 : w3.cell? ⟨w.heap.size, 1, none⟩ = some (.slice a len cap) := (H3.out.f (List.Mem.tail _ (List.Mem.head _))).cell 1
  have q2 : w3.cell? ⟨w.heap.size, 2, none⟩ = some (.int .i64 e) := (H3.out.f (List.Mem.tail _ (List.Mem.head _))).cell 2
  have ql : w.heap.size < w3.heap.size := (H3.out.f (List.Mem.tail _ (List.Mem.head _))).lt
  go_upto_region 6 with fail
  go_cut [6, 7] from 14 (fun vp ve w' => ∃ b : Nat, vp = .pointer (some ⟨b, 0, none⟩) ∧ ve = .int .i64 0 ∧ HeldL w ((b, #[.bool g.neg, S vi, S vf]) :: [(w3.heap.size, #[.int .i64 p.kind, .int .i64 p.mn, .int .i64 p.mx, .bool p.inc.neg, S p.inc.l, .int .i64 p.inc.e, .int .i64 p.mode, .int .i64 p.mi]), (w.heap.size + 1, #[.int .i64 k0, .int .i64 k1, .int .i64 k2, .int .i64 k3, .int .i64 k4, .int .i64 k5, .int .i64 k6]), (w.heap.size, #[.bool n, .slice a len cap, .int .i64 e])]) w')
  case first =>
    have ALL1 : Hid (∀ w' : World, HeldL w [(w3.heap.size, #[.int .i64 p.kind, .int .i64 p.mn, .int .i64 p.mx, .bool p.inc.neg, S p.inc.l, .int .i64 p.inc.e, .int .i64 p.mode, .int .i64 p.mi]), (w.heap.size + 1, #[.int .i64 k0, .int .i64 k1, .int .i64 k2, .int .i64 k3, .int .i64 k4, .int .i64 k5, .int .i64 k6]), (w.heap.size, #[.bool n, .slice a len cap, .int .i64 e])] w' → w'.cell? ⟨w3.heap.size, 0, none⟩ = some (.int .i64 p.kind) ∧ w'.cell? ⟨w3.heap.size, 1, none⟩ = some (.int .i64 p.mn) ∧ w'.cell? ⟨w3.heap.size, 2, none⟩ = some (.int .i64 p.mx) ∧ w'.cell? ⟨w3.heap.size, 3, none⟩ = some (.bool p.inc.neg) ∧ w'.cell? ⟨w3.heap.size, 4, none⟩ = some (S p.inc.l) ∧ w'.cell? ⟨w3.heap.size, 5, none⟩ = some (.int .i64 p.inc.e) ∧ w'.cell? ⟨w3.heap.size, 6, none⟩ = some (.int .i64 p.mode) ∧ w'.cell? ⟨w3.heap.size, 7, none⟩ = some (.int .i64 p.mi) ∧ w'.cell? ⟨w.heap.size, 0, none⟩ = some (.bool n) ∧ w'.cell? ⟨w.heap.size, 1, none⟩ = some (.slice a len cap) ∧ w'.cell? ⟨w.heap.size, 2, none⟩ = some (.int .i64 e) ∧ HeldL w [(w3.heap.size, #[.int .i64 p.kind, .int .i64 p.mn, .int .i64 p.mx, .bool p.inc.neg, S p.inc.l, .int .i64 p.inc.e, .int .i64 p.mode, .int .i64 p.mi]), (w.heap.size + 1, #[.int .i64 k0, .int .i64 k1, .int .i64 k2, .int .i64 k3, .int .i64 k4, .int .i64 k5, .int .i64 k6]), (w.heap.size, #[.bool n, .slice a len cap, .int .i64 e])] w') := Lib.hid (fun w' h => ⟨(h.f (List.Mem.head _)).cell 0, (h.f (List.Mem.head _)).cell 1, (h.f (List.Mem.head _)).cell 2, (h.f (List.Mem.head _)).cell 3, (h.f (List.Mem.head _)).cell 4, (h.f (List.Mem.head _)).cell 5, (h.f (List.Mem.head _)).cell 6, (h.f (List.Mem.head _)).cell 7, (h.f (List.Mem.tail _ (List.Mem.tail _ (List.Mem.head _)))).cell 0, (h.f (List.Mem.tail _ (List.Mem.tail _ (List.Mem.head _)))).cell 1, (h.f (List.Mem.tail _ (List.Mem.tail _ (List.Mem.head _)))).cell 2, h⟩)
    have KEEP1 : Hid (∀ w' w'' : World, (w'.cell? ⟨w3.heap.size, 0, none⟩ = some (.int .i64 p.kind) ∧ w'.cell? ⟨w3.heap.size, 1, none⟩ = some (.int .i64 p.mn) ∧ w'.cell? ⟨w3.heap.size, 2, none⟩ = some (.int .i64 p.mx) ∧ w'.cell? ⟨w3.heap.size, 3, none⟩ = some (.bool p.inc.neg) ∧ w'.cell? ⟨w3.heap.size, 4, none⟩ = some (S p.inc.l) ∧ w'.cell? ⟨w3.heap.size, 5, none⟩ = some (.int .i64 p.inc.e) ∧ w'.cell? ⟨w3.heap.size, 6, none⟩ = some (.int .i64 p.mode) ∧ w'.cell? ⟨w3.heap.size, 7, none⟩ = some (.int .i64 p.mi) ∧ w'.cell? ⟨w.heap.size, 0, none⟩ = some (.bool n) ∧ w'.cell? ⟨w.heap.size, 1, none⟩ = some (.slice a len cap) ∧ w'.cell? ⟨w.heap.size, 2, none⟩ = some (.int .i64 e) ∧ HeldL w [(w3.heap.size, #[.int .i64 p.kind, .int .i64 p.mn, .int .i64 p.mx, .bool p.inc.neg, S p.inc.l, .int .i64 p.inc.e, .int .i64 p.mode, .int .i64 p.mi]), (w.heap.size + 1, #[.int .i64 k0, .int .i64 k1, .int .i64 k2, .int .i64 k3, .int .i64 k4, .int .i64 k5, .int .i64 k6]), (w.heap.size, #[.bool n, .slice a len cap, .int .i64 e])] w') → Below w'.heap.size w' w'' → (w''.cell? ⟨w3.heap.size, 0, none⟩ = some (.int .i64 p.kind) ∧ w''.cell? ⟨w3.heap.size, 1, none⟩ = some (.int .i64 p.mn) ∧ w''.cell? ⟨w3.heap.size, 2, none⟩ = some (.int .i64 p.mx) ∧ w''.cell? ⟨w3.heap.size, 3, none⟩ = some (.bool p.inc.neg) ∧ w''.cell? ⟨w3.heap.size, 4, none⟩ = some (S p.inc.l) ∧ w''.cell? ⟨w3.heap.size, 5, none⟩ = some (.int .i64 p.inc.e) ∧ w''.cell? ⟨w3.heap.size, 6, none⟩ = some (.int .i64 p.mode) ∧ w''.cell? ⟨w3.heap.size, 7, none⟩ = some (.int .i64 p.mi) ∧ w''.cell? ⟨w.heap.size, 0, none⟩ = some (.bool n) ∧ w''.cell? ⟨w.heap.size, 1, none⟩ = some (.slice a len cap) ∧ w''.cell? ⟨w.heap.size, 2, none⟩ = some (.int .i64 e) ∧ HeldL w [(w3.heap.size, #[.int .i64 p.kind, .int .i64 p.mn, .int .i64 p.mx, .bool p.inc.neg, S p.inc.l, .int .i64 p.inc.e, .int .i64 p.mode, .int .i64 p.mi]), (w.heap.size + 1, #[.int .i64 k0, .int .i64 k1, .int .i64 k2, .int .i64 k3, .int .i64 k4, .int .i64 k5, .int .i64 k6]), (w.heap.size, #[.bool n, .slice a len cap, .int .i64 e])] w'')) := Lib.hid (fun w' w'' h hb => ALL1.out _ (HeldL.keep (h.2.2.2.2.2.2.2.2.2.2.2) hb))
    have TAB1 : Hid (∀ w' : World, (w'.cell? ⟨w3.heap.size, 0, none⟩ = some (.int .i64 p.kind) ∧ w'.cell? ⟨w3.heap.size, 1, none⟩ = some (.int .i64 p.mn) ∧ w'.cell? ⟨w3.heap.size, 2, none⟩ = some (.int .i64 p.mx) ∧ w'.cell? ⟨w3.heap.size, 3, none⟩ = some (.bool p.inc.neg) ∧ w'.cell? ⟨w3.heap.size, 4, none⟩ = some (S p.inc.l) ∧ w'.cell? ⟨w3.heap.size, 5, none⟩ = some (.int .i64 p.inc.e) ∧ w'.cell? ⟨w3.heap.size, 6, none⟩ = some (.int .i64 p.mode) ∧ w'.cell? ⟨w3.heap.size, 7, none⟩ = some (.int .i64 p.mi) ∧ w'.cell? ⟨w.heap.size, 0, none⟩ = some (.bool n) ∧ w'.cell? ⟨w.heap.size, 1, none⟩ = some (.slice a len cap) ∧ w'.cell? ⟨w.heap.size, 2, none⟩ = some (.int .i64 e) ∧ HeldL w [(w3.heap.size, #[.int .i64 p.kind, .int .i64 p.mn, .int .i64 p.mx, .bool p.inc.neg, S p.inc.l, .int .i64 p.inc.e, .int .i64 p.mode, .int .i64 p.mi]), (w.heap.size + 1, #[.int .i64 k0, .int .i64 k1, .int .i64 k2, .int .i64 k3, .int .i64 k4, .int .i64 k5, .int .i64 k6]), (w.heap.size, #[.bool n, .slice a len cap, .int .i64 e])] w') → Tab w') := Lib.hid (fun w' h => HT.out.below (h.2.2.2.2.2.2.2.2.2.2.2).bel)
    have HS1 : Hid (HeldL w [(w3.heap.size, #[.int .i64 p.kind, .int .i64 p.mn, .int .i64 p.mx, .bool p.inc.neg, S p.inc.l, .int .i64 p.inc.e, .int .i64 p.mode, .int .i64 p.mi]), (w.heap.size + 1, #[.int .i64 k0, .int .i64 k1, .int .i64 k2, .int .i64 k3, .int .i64 k4, .int .i64 k5, .int .i64 k6]), (w.heap.size, #[.bool n, .slice a len cap, .int .i64 e])] _) := Lib.hid (HeldL.alloc H3.out (w3.heap.size) #[.int .i64 p.kind, .int .i64 p.mn, .int .i64 p.mx, .bool p.inc.neg, S p.inc.l, .int .i64 p.inc.e, .int .i64 p.mode, .int .i64 p.mi] 34 (by simp))
    refine wp_region_held_drew (S := fun w' => w'.cell? ⟨w3.heap.size, 0, none⟩ = some (.int .i64 p.kind) ∧ w'.cell? ⟨w3.heap.size, 1, none⟩ = some (.int .i64 p.mn) ∧ w'.cell? ⟨w3.heap.size, 2, none⟩ = some (.int .i64 p.mx) ∧ w'.cell? ⟨w3.heap.size, 3, none⟩ = some (.bool p.inc.neg) ∧ w'.cell? ⟨w3.heap.size, 4, none⟩ = some (S p.inc.l) ∧ w'.cell? ⟨w3.heap.size, 5, none⟩ = some (.int .i64 p.inc.e) ∧ w'.cell? ⟨w3.heap.size, 6, none⟩ = some (.int .i64 p.mode) ∧ w'.cell? ⟨w3.heap.size, 7, none⟩ = some (.int .i64 p.mi) ∧ w'.cell? ⟨w.heap.size, 0, none⟩ = some (.bool n) ∧ w'.cell? ⟨w.heap.size, 1, none⟩ = some (.slice a len cap) ∧ w'.cell? ⟨w.heap.size, 2, none⟩ = some (.int .i64 e) ∧ HeldL w [(w3.heap.size, #[.int .i64 p.kind, .int .i64 p.mn, .int .i64 p.mx, .bool p.inc.neg, S p.inc.l, .int .i64 p.inc.e, .int .i64 p.mode, .int .i64 p.mi]), (w.heap.size + 1, #[.int .i64 k0, .int .i64 k1, .int .i64 k2, .int .i64 k3, .int .i64 k4, .int .i64 k5, .int .i64 k6]), (w.heap.size, #[.bool n, .slice a len cap, .int .i64 e])] w') (by kernel_rfl) (ALL1.out _ (HeldL.drew HS1.out)) (fun hHeld => ?_)
    refine wpAnyH_take (i := 0) (oi := { dst := some 22, op := Go.Op.load 34 (Go.Operand.tmp 5), type := 34, pos := "law.go:90", after := #[], guard := none }) (v := ?_) rfl (by kernel_rfl) (by kernel_rfl) (by kernel_rfl) (fun _ _ _ h => h) (Or.inl ⟨by rfl, ?_⟩) hHeld ?_
    case refine_2 => (intro w hSw; (try dsimp only at hSw); go_simp <;> with_reducible rfl)
    try simp only [Act.put, List.setIfInBounds_toArray, List.set_cons_zero, List.set_cons_succ]
    refine wpAnyH_take (i := 1) (oi := { dst := some 23, op := Go.Op.load 24 (Go.Operand.tmp 2), type := 24, pos := "law.go:90", after := #[], guard := none }) (v := ?_) rfl (by kernel_rfl) (by kernel_rfl) (by kernel_rfl) (fun _ _ _ h => h) (Or.inl ⟨by rfl, ?_⟩) hHeld ?_
    case refine_2 => (intro w hSw; (try dsimp only at hSw); go_simp <;> with_reducible rfl)
    try simp only [Act.put, List.setIfInBounds_toArray, List.set_cons_zero, List.set_cons_succ]
    refine wpAnyH_ready (rs := [2, 7]) (by kernel_rfl) (by simp) ?_
    refine (AllReadyH.cons (o := { dst := some 24, op := Go.Op.call { callee := Go.Callee.value (Go.Operand.func 14), args := #[Go.Operand.tmp 23], argTypes := #[24] }, type := 31, pos := "law.go:90", after := #[{ on := 1, ground := Go.Ground.data }], guard := none }) rfl (fun KK hK => ?_) (AllReadyH.cons (o := { dst := some 6, op := Go.Op.alloc 37, type := 0, pos := "law.go:90", after := #[], guard := none }) rfl (fun KK hK => ?_) AllReadyH.nil))
    ·
      go_simp
      with_reducible refine (make_as n a len cap L e _ (HIN.out.below (hHeld.2.2.2.2.2.2.2.2.2.2.2).bel) (by omega)).mono ?_
      rintro x wA ⟨rfl, hb⟩
      go_wp2_with fail
      refine hK.out _ _ (KEEP1.out _ _ hHeld hb) (fun hHeld2 => ?_)
      clear hK hHeld hb
      have hHeld := hHeld2
      clear hHeld2
      try simp only [Act.put, List.setIfInBounds_toArray, List.set_cons_zero, List.set_cons_succ]
      refine wpAnyH_ready (rs := [3, 7]) (by kernel_rfl) (by simp) ?_
      refine (AllReadyH.cons (o := { dst := some 25, op := Go.Op.call { callee := Go.Callee.value (Go.Operand.func 13), args := #[Go.Operand.tmp 22, Go.Operand.tmp 24], argTypes := #[34, 31] }, type := 39, pos := "law.go:90", after := #[{ on := 0, ground := Go.Ground.data }, { on := 2, ground := Go.Ground.data }, { on := 2, ground := Go.Ground.chain }], guard := none }) rfl (fun KK hK => ?_) (AllReadyH.cons (o := { dst := some 6, op := Go.Op.alloc 37, type := 0, pos := "law.go:90", after := #[], guard := none }) rfl (fun KK hK => ?_) AllReadyH.nil))
      ·
        go_simp
        with_reducible refine (HA1.out _ (TAB1.out _ hHeld)).mono ?_
        rintro x wB ⟨rfl, hb⟩
        go_wp2_with fail
        refine hK.out _ _ (KEEP1.out _ _ hHeld hb) (fun hHeld2 => ?_)
        clear hK hHeld hb
        have hHeld := hHeld2
        clear hHeld2
        try simp only [Act.put, List.setIfInBounds_toArray, List.set_cons_zero, List.set_cons_succ]
        refine wpAnyH_take (i := 4) (oi := { dst := some 21, op := Go.Op.move (Go.Operand.tmp 25), type := 39, pos := "law.go:90", after := #[{ on := 3, ground := Go.Ground.data }], guard := none }) (v := ?_) rfl (by kernel_rfl) (by kernel_rfl) (by kernel_rfl) (fun _ _ _ h => h) (Or.inl ⟨by rfl, ?_⟩) hHeld ?_
        case refine_2 => (intro w hSw; (try dsimp only at hSw); go_simp <;> with_reducible rfl)
        try simp only [Act.put, List.setIfInBounds_toArray, List.set_cons_zero, List.set_cons_succ]
        refine wpAnyH_take (i := 5) (oi := { dst := some 26, op := Go.Op.extract (Go.Operand.tmp 21) 0, type := 37, pos := "law.go:90", after := #[{ on := 4, ground := Go.Ground.data }], guard := none }) (v := ?_) rfl (by kernel_rfl) (by kernel_rfl) (by kernel_rfl) (fun _ _ _ h => h) (Or.inl ⟨by rfl, ?_⟩) hHeld ?_
        case refine_2 => (intro w hSw; (try dsimp only at hSw); go_simp <;> with_reducible rfl)
        try simp only [Act.put, List.setIfInBounds_toArray, List.set_cons_zero, List.set_cons_succ]
        refine wpAnyH_take (i := 6) (oi := { dst := some 27, op := Go.Op.extract (Go.Operand.tmp 21) 1, type := 38, pos := "law.go:90", after := #[{ on := 4, ground := Go.Ground.data }, { on := 8, ground := Go.Ground.gcOnly Go.Departure.lateStores }], guard := none }) (v := ?_) rfl (by kernel_rfl) (by kernel_rfl) (by kernel_rfl) (fun _ _ _ h => h) (Or.inl ⟨by rfl, ?_⟩) hHeld ?_
        case refine_2 => (intro w hSw; (try dsimp only at hSw); go_simp <;> with_reducible rfl)
        try simp only [Act.put, List.setIfInBounds_toArray, List.set_cons_zero, List.set_cons_succ]
        refine wpAnyH_ready (rs := [7]) (by kernel_rfl) (by simp) ?_
        refine (AllReadyH.cons (o := { dst := some 6, op := Go.Op.alloc 37, type := 0, pos := "law.go:90", after := #[], guard := none }) rfl (fun KK hK => ?_) AllReadyH.nil)
        have hH0 := hHeld
        go_simp
        refine hK.out _ _ (ALL1.out _ (HeldL.skip (hHeld.2.2.2.2.2.2.2.2.2.2.2) _)) (fun hHeld2 => ?_)
        clear hK hHeld
        have hHeld := hHeld2
        clear hHeld2
        try simp only [Act.put, List.setIfInBounds_toArray, List.set_cons_zero, List.set_cons_succ]
        refine wpAnyH_ready (rs := [8]) (by kernel_rfl) (by simp) ?_
        refine (AllReadyH.cons (o := { dst := none, op := Go.Op.store 37 (Go.Operand.tmp 6) (Go.Operand.tmp 26), type := 0, pos := "law.go:90", after := #[{ on := 7, ground := Go.Ground.data }, { on := 5, ground := Go.Ground.data }, { on := 3, ground := Go.Ground.chain }, { on := 0, ground := Go.Ground.phase }, { on := 1, ground := Go.Ground.phase }, { on := 2, ground := Go.Ground.phase }, { on := 3, ground := Go.Ground.phase }, { on := 4, ground := Go.Ground.phase }, { on := 5, ground := Go.Ground.phase }, { on := 6, ground := Go.Ground.textOnly Go.Departure.lateStores }, { on := 7, ground := Go.Ground.phase }], guard := none }) rfl (fun KK hK => ?_) AllReadyH.nil)
        go_simp
        refine hK.out _ _ (ALL1.out _ (HeldL.skip (hH0.2.2.2.2.2.2.2.2.2.2.2) _)) (fun hHeld2 => ?_)
        clear hK hHeld
        have hHeld := hHeld2
        clear hHeld2
        try simp only [Act.put, List.setIfInBounds_toArray, List.set_cons_zero, List.set_cons_succ]
        refine wpAnyH_take (i := 9) (oi := { dst := some 7, op := Go.Op.assign (Go.Operand.tmp 27), type := 38, pos := "law.go:90", after := #[{ on := 6, ground := Go.Ground.data }, { on := 8, ground := Go.Ground.chain }, { on := 0, ground := Go.Ground.phase }, { on := 1, ground := Go.Ground.phase }, { on := 2, ground := Go.Ground.phase }, { on := 3, ground := Go.Ground.phase }, { on := 4, ground := Go.Ground.phase }, { on := 5, ground := Go.Ground.phase }, { on := 6, ground := Go.Ground.phase }, { on := 7, ground := Go.Ground.phase }, { on := 8, ground := Go.Ground.phase }], guard := none }) (v := ?_) rfl (by kernel_rfl) (by kernel_rfl) (by kernel_rfl) (fun _ _ _ h => h) (Or.inl ⟨by rfl, ?_⟩) hHeld ?_
        case refine_2 => (intro w hSw; (try dsimp only at hSw); go_simp <;> with_reducible rfl)
        try simp only [Act.put, List.setIfInBounds_toArray, List.set_cons_zero, List.set_cons_succ]
        refine wpAnyH_done (by kernel_rfl) ?_ _
        go_wp2
        go_meet
        case rel => exact ⟨_, rfl, rfl, HeldL.alloc (hH0.2.2.2.2.2.2.2.2.2.2.2) _ _ _ rfl⟩
      ·
        go_simp
        have HN : Hid (HeldL w ((wA.heap.size, #[.bool false, .string ⟨#[]⟩, .string ⟨#[]⟩]) :: [(w3.heap.size, #[.int .i64 p.kind, .int .i64 p.mn, .int .i64 p.mx, .bool p.inc.neg, S p.inc.l, .int .i64 p.inc.e, .int .i64 p.mode, .int .i64 p.mi]), (w.heap.size + 1, #[.int .i64 k0, .int .i64 k1, .int .i64 k2, .int .i64 k3, .int .i64 k4, .int .i64 k5, .int .i64 k6]), (w.heap.size, #[.bool n, .slice a len cap, .int .i64 e])]) _) := Lib.hid (HeldL.alloc (hHeld.2.2.2.2.2.2.2.2.2.2.2) (wA.heap.size) #[.bool false, .string ⟨#[]⟩, .string ⟨#[]⟩] 37 (by first | rfl | simp))
        refine hK.out _ _ (ALL1.out _ (HeldL.tail HN.out)) (fun hHeld2 => ?_)
        clear hK hHeld
        have hHeld := hHeld2
        clear hHeld2
        try simp only [Act.put, List.setIfInBounds_toArray, List.set_cons_zero, List.set_cons_succ]
        refine wpAnyH_ready (rs := [3]) (by kernel_rfl) (by simp) ?_
        refine (AllReadyH.cons (o := { dst := some 25, op := Go.Op.call { callee := Go.Callee.value (Go.Operand.func 13), args := #[Go.Operand.tmp 22, Go.Operand.tmp 24], argTypes := #[34, 31] }, type := 39, pos := "law.go:90", after := #[{ on := 0, ground := Go.Ground.data }, { on := 2, ground := Go.Ground.data }, { on := 2, ground := Go.Ground.chain }], guard := none }) rfl (fun KK hK => ?_) AllReadyH.nil)
        go_simp
        with_reducible refine (HA1.out _ (TAB1.out _ hHeld)).mono ?_
        rintro x wB ⟨rfl, hb⟩
        go_wp2_with fail
        refine hK.out _ _ (KEEP1.out _ _ hHeld hb) (fun hHeld2 => ?_)
        have HM : Hid (HeldL w ((wA.heap.size, #[.bool false, .string ⟨#[]⟩, .string ⟨#[]⟩]) :: [(w3.heap.size, #[.int .i64 p.kind, .int .i64 p.mn, .int .i64 p.mx, .bool p.inc.neg, S p.inc.l, .int .i64 p.inc.e, .int .i64 p.mode, .int .i64 p.mi]), (w.heap.size + 1, #[.int .i64 k0, .int .i64 k1, .int .i64 k2, .int .i64 k3, .int .i64 k4, .int .i64 k5, .int .i64 k6]), (w.heap.size, #[.bool n, .slice a len cap, .int .i64 e])]) wB) := Lib.hid (HeldL.keep HN.out hb)
        clear HN
        have HN := HM
        clear HM
        clear hK hHeld hb
        have hHeld := hHeld2
        clear hHeld2
        try simp only [Act.put, List.setIfInBounds_toArray, List.set_cons_zero, List.set_cons_succ]
        refine wpAnyH_take (i := 4) (oi := { dst := some 21, op := Go.Op.move (Go.Operand.tmp 25), type := 39, pos := "law.go:90", after := #[{ on := 3, ground := Go.Ground.data }], guard := none }) (v := ?_) rfl (by kernel_rfl) (by kernel_rfl) (by kernel_rfl) (fun _ _ _ h => h) (Or.inl ⟨by rfl, ?_⟩) hHeld ?_
        case refine_2 => (intro w hSw; (try dsimp only at hSw); go_simp <;> with_reducible rfl)
        try simp only [Act.put, List.setIfInBounds_toArray, List.set_cons_zero, List.set_cons_succ]
        refine wpAnyH_take (i := 5) (oi := { dst := some 26, op := Go.Op.extract (Go.Operand.tmp 21) 0, type := 37, pos := "law.go:90", after := #[{ on := 4, ground := Go.Ground.data }], guard := none }) (v := ?_) rfl (by kernel_rfl) (by kernel_rfl) (by kernel_rfl) (fun _ _ _ h => h) (Or.inl ⟨by rfl, ?_⟩) hHeld ?_
        case refine_2 => (intro w hSw; (try dsimp only at hSw); go_simp <;> with_reducible rfl)
        try simp only [Act.put, List.setIfInBounds_toArray, List.set_cons_zero, List.set_cons_succ]
        refine wpAnyH_take (i := 6) (oi := { dst := some 27, op := Go.Op.extract (Go.Operand.tmp 21) 1, type := 38, pos := "law.go:90", after := #[{ on := 4, ground := Go.Ground.data }, { on := 8, ground := Go.Ground.gcOnly Go.Departure.lateStores }], guard := none }) (v := ?_) rfl (by kernel_rfl) (by kernel_rfl) (by kernel_rfl) (fun _ _ _ h => h) (Or.inl ⟨by rfl, ?_⟩) hHeld ?_
        case refine_2 => (intro w hSw; (try dsimp only at hSw); go_simp <;> with_reducible rfl)
        try simp only [Act.put, List.setIfInBounds_toArray, List.set_cons_zero, List.set_cons_succ]
        refine wpAnyH_ready (rs := [8]) (by kernel_rfl) (by simp) ?_
        refine (AllReadyH.cons (o := { dst := none, op := Go.Op.store 37 (Go.Operand.tmp 6) (Go.Operand.tmp 26), type := 0, pos := "law.go:90", after := #[{ on := 7, ground := Go.Ground.data }, { on := 5, ground := Go.Ground.data }, { on := 3, ground := Go.Ground.chain }, { on := 0, ground := Go.Ground.phase }, { on := 1, ground := Go.Ground.phase }, { on := 2, ground := Go.Ground.phase }, { on := 3, ground := Go.Ground.phase }, { on := 4, ground := Go.Ground.phase }, { on := 5, ground := Go.Ground.phase }, { on := 6, ground := Go.Ground.textOnly Go.Departure.lateStores }, { on := 7, ground := Go.Ground.phase }], guard := none }) rfl (fun KK hK => ?_) AllReadyH.nil)
        obtain ⟨nn0, nn1, nn2, nnz0, nnz1, nnz2, nnl⟩ := (HN.out.f (List.Mem.head _)).three
        go_simp
        refine hK.out _ _ (ALL1.out _ (HeldL.tail (HeldL.store3 [] [(w3.heap.size, #[.int .i64 p.kind, .int .i64 p.mn, .int .i64 p.mx, .bool p.inc.neg, S p.inc.l, .int .i64 p.inc.e, .int .i64 p.mode, .int .i64 p.mi]), (w.heap.size + 1, #[.int .i64 k0, .int .i64 k1, .int .i64 k2, .int .i64 k3, .int .i64 k4, .int .i64 k5, .int .i64 k6]), (w.heap.size, #[.bool n, .slice a len cap, .int .i64 e])] HN.out (.bool g.neg) (S vi) (S vf)))) (fun hHeld2 => ?_)
        clear hK hHeld
        have hHeld := hHeld2
        clear hHeld2
        try simp only [Act.put, List.setIfInBounds_toArray, List.set_cons_zero, List.set_cons_succ]
        refine wpAnyH_take (i := 9) (oi := { dst := some 7, op := Go.Op.assign (Go.Operand.tmp 27), type := 38, pos := "law.go:90", after := #[{ on := 6, ground := Go.Ground.data }, { on := 8, ground := Go.Ground.chain }, { on := 0, ground := Go.Ground.phase }, { on := 1, ground := Go.Ground.phase }, { on := 2, ground := Go.Ground.phase }, { on := 3, ground := Go.Ground.phase }, { on := 4, ground := Go.Ground.phase }, { on := 5, ground := Go.Ground.phase }, { on := 6, ground := Go.Ground.phase }, { on := 7, ground := Go.Ground.phase }, { on := 8, ground := Go.Ground.phase }], guard := none }) (v := ?_) rfl (by kernel_rfl) (by kernel_rfl) (by kernel_rfl) (fun _ _ _ h => h) (Or.inl ⟨by rfl, ?_⟩) hHeld ?_
        case refine_2 => (intro w hSw; (try dsimp only at hSw); go_simp <;> with_reducible rfl)
        try simp only [Act.put, List.setIfInBounds_toArray, List.set_cons_zero, List.set_cons_succ]
        refine wpAnyH_done (by kernel_rfl) ?_ _
        go_wp2
        go_meet
        case rel => exact ⟨_, rfl, rfl, HeldL.store3 [] [(w3.heap.size, #[.int .i64 p.kind, .int .i64 p.mn, .int .i64 p.mx, .bool p.inc.neg, S p.inc.l, .int .i64 p.inc.e, .int .i64 p.mode, .int .i64 p.mi]), (w.heap.size + 1, #[.int .i64 k0, .int .i64 k1, .int .i64 k2, .int .i64 k3, .int .i64 k4, .int .i64 k5, .int .i64 k6]), (w.heap.size, #[.bool n, .slice a len cap, .int .i64 e])] HN.out (.bool g.neg) (S vi) (S vf)⟩
    ·
      go_simp
      have HN : Hid (HeldL w ((w3.heap.size + 1, #[.bool false, .string ⟨#[]⟩, .string ⟨#[]⟩]) :: [(w3.heap.size, #[.int .i64 p.kind, .int .i64 p.mn, .int .i64 p.mx, .bool p.inc.neg, S p.inc.l, .int .i64 p.inc.e, .int .i64 p.mode, .int .i64 p.mi]), (w.heap.size + 1, #[.int .i64 k0, .int .i64 k1, .int .i64 k2, .int .i64 k3, .int .i64 k4, .int .i64 k5, .int .i64 k6]), (w.heap.size, #[.bool n, .slice a len cap, .int .i64 e])]) _) := Lib.hid (HeldL.alloc (hHeld.2.2.2.2.2.2.2.2.2.2.2) (w3.heap.size + 1) #[.bool false, .string ⟨#[]⟩, .string ⟨#[]⟩] 37 (by first | rfl | simp))
      refine hK.out _ _ (ALL1.out _ (HeldL.tail HN.out)) (fun hHeld2 => ?_)
      clear hK hHeld
      have hHeld := hHeld2
      clear hHeld2
      try simp only [Act.put, List.setIfInBounds_toArray, List.set_cons_zero, List.set_cons_succ]
      refine wpAnyH_ready (rs := [2]) (by kernel_rfl) (by simp) ?_
      refine (AllReadyH.cons (o := { dst := some 24, op := Go.Op.call { callee := Go.Callee.value (Go.Operand.func 14), args := #[Go.Operand.tmp 23], argTypes := #[24] }, type := 31, pos := "law.go:90", after := #[{ on := 1, ground := Go.Ground.data }], guard := none }) rfl (fun KK hK => ?_) AllReadyH.nil)
      go_simp
      with_reducible refine (make_as n a len cap L e _ (HIN.out.below (hHeld.2.2.2.2.2.2.2.2.2.2.2).bel) (by omega)).mono ?_
      rintro x wA ⟨rfl, hb⟩
      go_wp2_with fail
      refine hK.out _ _ (KEEP1.out _ _ hHeld hb) (fun hHeld2 => ?_)
      have HM : Hid (HeldL w ((w3.heap.size + 1, #[.bool false, .string ⟨#[]⟩, .string ⟨#[]⟩]) :: [(w3.heap.size, #[.int .i64 p.kind, .int .i64 p.mn, .int .i64 p.mx, .bool p.inc.neg, S p.inc.l, .int .i64 p.inc.e, .int .i64 p.mode, .int .i64 p.mi]), (w.heap.size + 1, #[.int .i64 k0, .int .i64 k1, .int .i64 k2, .int .i64 k3, .int .i64 k4, .int .i64 k5, .int .i64 k6]), (w.heap.size, #[.bool n, .slice a len cap, .int .i64 e])]) wA) := Lib.hid (HeldL.keep HN.out hb)
      clear HN
      have HN := HM
      clear HM
      clear hK hHeld hb
      have hHeld := hHeld2
      clear hHeld2
      try simp only [Act.put, List.setIfInBounds_toArray, List.set_cons_zero, List.set_cons_succ]
      refine wpAnyH_ready (rs := [3]) (by kernel_rfl) (by simp) ?_
      refine (AllReadyH.cons (o := { dst := some 25, op := Go.Op.call { callee := Go.Callee.value (Go.Operand.func 13), args := #[Go.Operand.tmp 22, Go.Operand.tmp 24], argTypes := #[34, 31] }, type := 39, pos := "law.go:90", after := #[{ on := 0, ground := Go.Ground.data }, { on := 2, ground := Go.Ground.data }, { on := 2, ground := Go.Ground.chain }], guard := none }) rfl (fun KK hK => ?_) AllReadyH.nil)
      go_simp
      with_reducible refine (HA1.out _ (TAB1.out _ hHeld)).mono ?_
      rintro x wB ⟨rfl, hb⟩
      go_wp2_with fail
      refine hK.out _ _ (KEEP1.out _ _ hHeld hb) (fun hHeld2 => ?_)
      have HM : Hid (HeldL w ((w3.heap.size + 1, #[.bool false, .string ⟨#[]⟩, .string ⟨#[]⟩]) :: [(w3.heap.size, #[.int .i64 p.kind, .int .i64 p.mn, .int .i64 p.mx, .bool p.inc.neg, S p.inc.l, .int .i64 p.inc.e, .int .i64 p.mode, .int .i64 p.mi]), (w.heap.size + 1, #[.int .i64 k0, .int .i64 k1, .int .i64 k2, .int .i64 k3, .int .i64 k4, .int .i64 k5, .int .i64 k6]), (w.heap.size, #[.bool n, .slice a len cap, .int .i64 e])]) wB) := Lib.hid (HeldL.keep HN.out hb)
      clear HN
      have HN := HM
      clear HM
      clear hK hHeld hb
      have hHeld := hHeld2
      clear hHeld2
      try simp only [Act.put, List.setIfInBounds_toArray, List.set_cons_zero, List.set_cons_succ]
      refine wpAnyH_take (i := 4) (oi := { dst := some 21, op := Go.Op.move (Go.Operand.tmp 25), type := 39, pos := "law.go:90", after := #[{ on := 3, ground := Go.Ground.data }], guard := none }) (v := ?_) rfl (by kernel_rfl) (by kernel_rfl) (by kernel_rfl) (fun _ _ _ h => h) (Or.inl ⟨by rfl, ?_⟩) hHeld ?_
      case refine_2 => (intro w hSw; (try dsimp only at hSw); go_simp <;> with_reducible rfl)
      try simp only [Act.put, List.setIfInBounds_toArray, List.set_cons_zero, List.set_cons_succ]
      refine wpAnyH_take (i := 5) (oi := { dst := some 26, op := Go.Op.extract (Go.Operand.tmp 21) 0, type := 37, pos := "law.go:90", after := #[{ on := 4, ground := Go.Ground.data }], guard := none }) (v := ?_) rfl (by kernel_rfl) (by kernel_rfl) (by kernel_rfl) (fun _ _ _ h => h) (Or.inl ⟨by rfl, ?_⟩) hHeld ?_
      case refine_2 => (intro w hSw; (try dsimp only at hSw); go_simp <;> with_reducible rfl)
      try simp only [Act.put, List.setIfInBounds_toArray, List.set_cons_zero, List.set_cons_succ]
      refine wpAnyH_take (i := 6) (oi := { dst := some 27, op := Go.Op.extract (Go.Operand.tmp 21) 1, type := 38, pos := "law.go:90", after := #[{ on := 4, ground := Go.Ground.data }, { on := 8, ground := Go.Ground.gcOnly Go.Departure.lateStores }], guard := none }) (v := ?_) rfl (by kernel_rfl) (by kernel_rfl) (by kernel_rfl) (fun _ _ _ h => h) (Or.inl ⟨by rfl, ?_⟩) hHeld ?_
      case refine_2 => (intro w hSw; (try dsimp only at hSw); go_simp <;> with_reducible rfl)
      try simp only [Act.put, List.setIfInBounds_toArray, List.set_cons_zero, List.set_cons_succ]
      refine wpAnyH_ready (rs := [8]) (by kernel_rfl) (by simp) ?_
      refine (AllReadyH.cons (o := { dst := none, op := Go.Op.store 37 (Go.Operand.tmp 6) (Go.Operand.tmp 26), type := 0, pos := "law.go:90", after := #[{ on := 7, ground := Go.Ground.data }, { on := 5, ground := Go.Ground.data }, { on := 3, ground := Go.Ground.chain }, { on := 0, ground := Go.Ground.phase }, { on := 1, ground := Go.Ground.phase }, { on := 2, ground := Go.Ground.phase }, { on := 3, ground := Go.Ground.phase }, { on := 4, ground := Go.Ground.phase }, { on := 5, ground := Go.Ground.phase }, { on := 6, ground := Go.Ground.textOnly Go.Departure.lateStores }, { on := 7, ground := Go.Ground.phase }], guard := none }) rfl (fun KK hK => ?_) AllReadyH.nil)
      obtain ⟨nn0, nn1, nn2, nnz0, nnz1, nnz2, nnl⟩ := (HN.out.f (List.Mem.head _)).three
      go_simp
      refine hK.out _ _ (ALL1.out _ (HeldL.tail (HeldL.store3 [] [(w3.heap.size, #[.int .i64 p.kind, .int .i64 p.mn, .int .i64 p.mx, .bool p.inc.neg, S p.inc.l, .int .i64 p.inc.e, .int .i64 p.mode, .int .i64 p.mi]), (w.heap.size + 1, #[.int .i64 k0, .int .i64 k1, .int .i64 k2, .int .i64 k3, .int .i64 k4, .int .i64 k5, .int .i64 k6]), (w.heap.size, #[.bool n, .slice a len cap, .int .i64 e])] HN.out (.bool g.neg) (S vi) (S vf)))) (fun hHeld2 => ?_)
      clear hK hHeld
      have hHeld := hHeld2
      clear hHeld2
      try simp only [Act.put, List.setIfInBounds_toArray, List.set_cons_zero, List.set_cons_succ]
      refine wpAnyH_take (i := 9) (oi := { dst := some 7, op := Go.Op.assign (Go.Operand.tmp 27), type := 38, pos := "law.go:90", after := #[{ on := 6, ground := Go.Ground.data }, { on := 8, ground := Go.Ground.chain }, { on := 0, ground := Go.Ground.phase }, { on := 1, ground := Go.Ground.phase }, { on := 2, ground := Go.Ground.phase }, { on := 3, ground := Go.Ground.phase }, { on := 4, ground := Go.Ground.phase }, { on := 5, ground := Go.Ground.phase }, { on := 6, ground := Go.Ground.phase }, { on := 7, ground := Go.Ground.phase }, { on := 8, ground := Go.Ground.phase }], guard := none }) (v := ?_) rfl (by kernel_rfl) (by kernel_rfl) (by kernel_rfl) (fun _ _ _ h => h) (Or.inl ⟨by rfl, ?_⟩) hHeld ?_
      case refine_2 => (intro w hSw; (try dsimp only at hSw); go_simp <;> with_reducible rfl)
      try simp only [Act.put, List.setIfInBounds_toArray, List.set_cons_zero, List.set_cons_succ]
      refine wpAnyH_done (by kernel_rfl) ?_ _
      go_wp2
      go_meet
      case rel => exact ⟨_, rfl, rfl, HeldL.store3 [] [(w3.heap.size, #[.int .i64 p.kind, .int .i64 p.mn, .int .i64 p.mx, .bool p.inc.neg, S p.inc.l, .int .i64 p.inc.e, .int .i64 p.mode, .int .i64 p.mi]), (w.heap.size + 1, #[.int .i64 k0, .int .i64 k1, .int .i64 k2, .int .i64 k3, .int .i64 k4, .int .i64 k5, .int .i64 k6]), (w.heap.size, #[.bool n, .slice a len cap, .int .i64 e])] HN.out (.bool g.neg) (S vi) (S vf)⟩
  case rest =>
  clear q0 q1 q2 ql
  obtain ⟨b4, hvp, hve, hh⟩ := hcut
  subst hvp hve
  have H4 : Hid (HeldL w ((b4, #[.bool g.neg, S vi, S vf]) :: [(w3.heap.size, #[.int .i64 p.kind, .int .i64 p.mn, .int .i64 p.mx, .bool p.inc.neg, S p.inc.l, .int .i64 p.inc.e, .int .i64 p.mode, .int .i64 p.mi]), (w.heap.size + 1, #[.int .i64 k0, .int .i64 k1, .int .i64 k2, .int .i64 k3, .int .i64 k4, .int .i64 k5, .int .i64 k6]), (w.heap.size, #[.bool n, .slice a len cap, .int .i64 e])]) wc) := Lib.hid hh
  clear hh H3
  generalize wc = w4 at *
  go_upto_region 7 with fail
  go_cut [8] from 14 (fun vp w' => ∃ b : Nat, vp = .pointer (some ⟨b, 0, none⟩) ∧ HeldL w ((b, #[.bool g.neg, S g.l, .int .i64 g.e]) :: [(b4, #[.bool g.neg, S vi, S vf]), (w3.heap.size, #[.int .i64 p.kind, .int .i64 p.mn, .int .i64 p.mx, .bool p.inc.neg, S p.inc.l, .int .i64 p.inc.e, .int .i64 p.mode, .int .i64 p.mi]), (w.heap.size + 1, #[.int .i64 k0, .int .i64 k1, .int .i64 k2, .int .i64 k3, .int .i64 k4, .int .i64 k5, .int .i64 k6]), (w.heap.size, #[.bool n, .slice a len cap, .int .i64 e])]) w')
  case first =>
    have ALL2 : Hid (∀ w' : World, HeldL w [(b4, #[.bool g.neg, S vi, S vf]), (w3.heap.size, #[.int .i64 p.kind, .int .i64 p.mn, .int .i64 p.mx, .bool p.inc.neg, S p.inc.l, .int .i64 p.inc.e, .int .i64 p.mode, .int .i64 p.mi]), (w.heap.size + 1, #[.int .i64 k0, .int .i64 k1, .int .i64 k2, .int .i64 k3, .int .i64 k4, .int .i64 k5, .int .i64 k6]), (w.heap.size, #[.bool n, .slice a len cap, .int .i64 e])] w' → w'.cell? ⟨w3.heap.size, 0, none⟩ = some (.int .i64 p.kind) ∧ w'.cell? ⟨w3.heap.size, 1, none⟩ = some (.int .i64 p.mn) ∧ w'.cell? ⟨w3.heap.size, 2, none⟩ = some (.int .i64 p.mx) ∧ w'.cell? ⟨w3.heap.size, 3, none⟩ = some (.bool p.inc.neg) ∧ w'.cell? ⟨w3.heap.size, 4, none⟩ = some (S p.inc.l) ∧ w'.cell? ⟨w3.heap.size, 5, none⟩ = some (.int .i64 p.inc.e) ∧ w'.cell? ⟨w3.heap.size, 6, none⟩ = some (.int .i64 p.mode) ∧ w'.cell? ⟨w3.heap.size, 7, none⟩ = some (.int .i64 p.mi) ∧ w'.cell? ⟨w.heap.size, 0, none⟩ = some (.bool n) ∧ w'.cell? ⟨w.heap.size, 1, none⟩ = some (.slice a len cap) ∧ w'.cell? ⟨w.heap.size, 2, none⟩ = some (.int .i64 e) ∧ HeldL w [(b4, #[.bool g.neg, S vi, S vf]), (w3.heap.size, #[.int .i64 p.kind, .int .i64 p.mn, .int .i64 p.mx, .bool p.inc.neg, S p.inc.l, .int .i64 p.inc.e, .int .i64 p.mode, .int .i64 p.mi]), (w.heap.size + 1, #[.int .i64 k0, .int .i64 k1, .int .i64 k2, .int .i64 k3, .int .i64 k4, .int .i64 k5, .int .i64 k6]), (w.heap.size, #[.bool n, .slice a len cap, .int .i64 e])] w') := Lib.hid (fun w' h => ⟨(h.f (List.Mem.tail _ (List.Mem.head _))).cell 0, (h.f (List.Mem.tail _ (List.Mem.head _))).cell 1, (h.f (List.Mem.tail _ (List.Mem.head _))).cell 2, (h.f (List.Mem.tail _ (List.Mem.head _))).cell 3, (h.f (List.Mem.tail _ (List.Mem.head _))).cell 4, (h.f (List.Mem.tail _ (List.Mem.head _))).cell 5, (h.f (List.Mem.tail _ (List.Mem.head _))).cell 6, (h.f (List.Mem.tail _ (List.Mem.head _))).cell 7, (h.f (List.Mem.tail _ (List.Mem.tail _ (List.Mem.tail _ (List.Mem.head _))))).cell 0, (h.f (List.Mem.tail _ (List.Mem.tail _ (List.Mem.tail _ (List.Mem.head _))))).cell 1, (h.f (List.Mem.tail _ (List.Mem.tail _ (List.Mem.tail _ (List.Mem.head _))))).cell 2, h⟩)
    have KEEP2 : Hid (∀ w' w'' : World, (w'.cell? ⟨w3.heap.size, 0, none⟩ = some (.int .i64 p.kind) ∧ w'.cell? ⟨w3.heap.size, 1, none⟩ = some (.int .i64 p.mn) ∧ w'.cell? ⟨w3.heap.size, 2, none⟩ = some (.int .i64 p.mx) ∧ w'.cell? ⟨w3.heap.size, 3, none⟩ = some (.bool p.inc.neg) ∧ w'.cell? ⟨w3.heap.size, 4, none⟩ = some (S p.inc.l) ∧ w'.cell? ⟨w3.heap.size, 5, none⟩ = some (.int .i64 p.inc.e) ∧ w'.cell? ⟨w3.heap.size, 6, none⟩ = some (.int .i64 p.mode) ∧ w'.cell? ⟨w3.heap.size, 7, none⟩ = some (.int .i64 p.mi) ∧ w'.cell? ⟨w.heap.size, 0, none⟩ = some (.bool n) ∧ w'.cell? ⟨w.heap.size, 1, none⟩ = some (.slice a len cap) ∧ w'.cell? ⟨w.heap.size, 2, none⟩ = some (.int .i64 e) ∧ HeldL w [(b4, #[.bool g.neg, S vi, S vf]), (w3.heap.size, #[.int .i64 p.kind, .int .i64 p.mn, .int .i64 p.mx, .bool p.inc.neg, S p.inc.l, .int .i64 p.inc.e, .int .i64 p.mode, .int .i64 p.mi]), (w.heap.size + 1, #[.int .i64 k0, .int .i64 k1, .int .i64 k2, .int .i64 k3, .int .i64 k4, .int .i64 k5, .int .i64 k6]), (w.heap.size, #[.bool n, .slice a len cap, .int .i64 e])] w') → Below w'.heap.size w' w'' → (w''.cell? ⟨w3.heap.size, 0, none⟩ = some (.int .i64 p.kind) ∧ w''.cell? ⟨w3.heap.size, 1, none⟩ = some (.int .i64 p.mn) ∧ w''.cell? ⟨w3.heap.size, 2, none⟩ = some (.int .i64 p.mx) ∧ w''.cell? ⟨w3.heap.size, 3, none⟩ = some (.bool p.inc.neg) ∧ w''.cell? ⟨w3.heap.size, 4, none⟩ = some (S p.inc.l) ∧ w''.cell? ⟨w3.heap.size, 5, none⟩ = some (.int .i64 p.inc.e) ∧ w''.cell? ⟨w3.heap.size, 6, none⟩ = some (.int .i64 p.mode) ∧ w''.cell? ⟨w3.heap.size, 7, none⟩ = some (.int .i64 p.mi) ∧ w''.cell? ⟨w.heap.size, 0, none⟩ = some (.bool n) ∧ w''.cell? ⟨w.heap.size, 1, none⟩ = some (.slice a len cap) ∧ w''.cell? ⟨w.heap.size, 2, none⟩ = some (.int .i64 e) ∧ HeldL w [(b4, #[.bool g.neg, S vi, S vf]), (w3.heap.size, #[.int .i64 p.kind, .int .i64 p.mn, .int .i64 p.mx, .bool p.inc.neg, S p.inc.l, .int .i64 p.inc.e, .int .i64 p.mode, .int .i64 p.mi]), (w.heap.size + 1, #[.int .i64 k0, .int .i64 k1, .int .i64 k2, .int .i64 k3, .int .i64 k4, .int .i64 k5, .int .i64 k6]), (w.heap.size, #[.bool n, .slice a len cap, .int .i64 e])] w'')) := Lib.hid (fun w' w'' h hb => ALL2.out _ (HeldL.keep (h.2.2.2.2.2.2.2.2.2.2.2) hb))
    have TAB2 : Hid (∀ w' : World, (w'.cell? ⟨w3.heap.size, 0, none⟩ = some (.int .i64 p.kind) ∧ w'.cell? ⟨w3.heap.size, 1, none⟩ = some (.int .i64 p.mn) ∧ w'.cell? ⟨w3.heap.size, 2, none⟩ = some (.int .i64 p.mx) ∧ w'.cell? ⟨w3.heap.size, 3, none⟩ = some (.bool p.inc.neg) ∧ w'.cell? ⟨w3.heap.size, 4, none⟩ = some (S p.inc.l) ∧ w'.cell? ⟨w3.heap.size, 5, none⟩ = some (.int .i64 p.inc.e) ∧ w'.cell? ⟨w3.heap.size, 6, none⟩ = some (.int .i64 p.mode) ∧ w'.cell? ⟨w3.heap.size, 7, none⟩ = some (.int .i64 p.mi) ∧ w'.cell? ⟨w.heap.size, 0, none⟩ = some (.bool n) ∧ w'.cell? ⟨w.heap.size, 1, none⟩ = some (.slice a len cap) ∧ w'.cell? ⟨w.heap.size, 2, none⟩ = some (.int .i64 e) ∧ HeldL w [(b4, #[.bool g.neg, S vi, S vf]), (w3.heap.size, #[.int .i64 p.kind, .int .i64 p.mn, .int .i64 p.mx, .bool p.inc.neg, S p.inc.l, .int .i64 p.inc.e, .int .i64 p.mode, .int .i64 p.mi]), (w.heap.size + 1, #[.int .i64 k0, .int .i64 k1, .int .i64 k2, .int .i64 k3, .int .i64 k4, .int .i64 k5, .int .i64 k6]), (w.heap.size, #[.bool n, .slice a len cap, .int .i64 e])] w') → Tab w') := Lib.hid (fun w' h => HT.out.below (h.2.2.2.2.2.2.2.2.2.2.2).bel)
    have HS2 : Hid (HeldL w [(b4, #[.bool g.neg, S vi, S vf]), (w3.heap.size, #[.int .i64 p.kind, .int .i64 p.mn, .int .i64 p.mx, .bool p.inc.neg, S p.inc.l, .int .i64 p.inc.e, .int .i64 p.mode, .int .i64 p.mi]), (w.heap.size + 1, #[.int .i64 k0, .int .i64 k1, .int .i64 k2, .int .i64 k3, .int .i64 k4, .int .i64 k5, .int .i64 k6]), (w.heap.size, #[.bool n, .slice a len cap, .int .i64 e])] _) := Lib.hid H4.out
    refine wp_region_held_drew (S := fun w' => w'.cell? ⟨w3.heap.size, 0, none⟩ = some (.int .i64 p.kind) ∧ w'.cell? ⟨w3.heap.size, 1, none⟩ = some (.int .i64 p.mn) ∧ w'.cell? ⟨w3.heap.size, 2, none⟩ = some (.int .i64 p.mx) ∧ w'.cell? ⟨w3.heap.size, 3, none⟩ = some (.bool p.inc.neg) ∧ w'.cell? ⟨w3.heap.size, 4, none⟩ = some (S p.inc.l) ∧ w'.cell? ⟨w3.heap.size, 5, none⟩ = some (.int .i64 p.inc.e) ∧ w'.cell? ⟨w3.heap.size, 6, none⟩ = some (.int .i64 p.mode) ∧ w'.cell? ⟨w3.heap.size, 7, none⟩ = some (.int .i64 p.mi) ∧ w'.cell? ⟨w.heap.size, 0, none⟩ = some (.bool n) ∧ w'.cell? ⟨w.heap.size, 1, none⟩ = some (.slice a len cap) ∧ w'.cell? ⟨w.heap.size, 2, none⟩ = some (.int .i64 e) ∧ HeldL w [(b4, #[.bool g.neg, S vi, S vf]), (w3.heap.size, #[.int .i64 p.kind, .int .i64 p.mn, .int .i64 p.mx, .bool p.inc.neg, S p.inc.l, .int .i64 p.inc.e, .int .i64 p.mode, .int .i64 p.mi]), (w.heap.size + 1, #[.int .i64 k0, .int .i64 k1, .int .i64 k2, .int .i64 k3, .int .i64 k4, .int .i64 k5, .int .i64 k6]), (w.heap.size, #[.bool n, .slice a len cap, .int .i64 e])] w') (by kernel_rfl) (ALL2.out _ (HeldL.drew HS2.out)) (fun hHeld => ?_)
    refine wpAnyH_take (i := 0) (oi := { dst := some 28, op := Go.Op.load 34 (Go.Operand.tmp 5), type := 34, pos := "law.go:91", after := #[], guard := none }) (v := ?_) rfl (by kernel_rfl) (by kernel_rfl) (by kernel_rfl) (fun _ _ _ h => h) (Or.inl ⟨by rfl, ?_⟩) hHeld ?_
    case refine_2 => (intro w hSw; (try dsimp only at hSw); go_simp <;> with_reducible rfl)
    try simp only [Act.put, List.setIfInBounds_toArray, List.set_cons_zero, List.set_cons_succ]
    refine wpAnyH_take (i := 1) (oi := { dst := some 29, op := Go.Op.load 24 (Go.Operand.tmp 2), type := 24, pos := "law.go:91", after := #[], guard := none }) (v := ?_) rfl (by kernel_rfl) (by kernel_rfl) (by kernel_rfl) (fun _ _ _ h => h) (Or.inl ⟨by rfl, ?_⟩) hHeld ?_
    case refine_2 => (intro w hSw; (try dsimp only at hSw); go_simp <;> with_reducible rfl)
    try simp only [Act.put, List.setIfInBounds_toArray, List.set_cons_zero, List.set_cons_succ]
    refine wpAnyH_ready (rs := [2, 4]) (by kernel_rfl) (by simp) ?_
    refine (AllReadyH.cons (o := { dst := some 30, op := Go.Op.call { callee := Go.Callee.value (Go.Operand.func 14), args := #[Go.Operand.tmp 29], argTypes := #[24] }, type := 31, pos := "law.go:91", after := #[{ on := 1, ground := Go.Ground.data }], guard := none }) rfl (fun KK hK => ?_) (AllReadyH.cons (o := { dst := some 8, op := Go.Op.alloc 31, type := 0, pos := "law.go:91", after := #[], guard := none }) rfl (fun KK hK => ?_) AllReadyH.nil))
    ·
      go_simp
      with_reducible refine (make_as n a len cap L e _ (HIN.out.below (hHeld.2.2.2.2.2.2.2.2.2.2.2).bel) (by omega)).mono ?_
      rintro x wA ⟨rfl, hb⟩
      go_wp2_with fail
      refine hK.out _ _ (KEEP2.out _ _ hHeld hb) (fun hHeld2 => ?_)
      clear hK hHeld hb
      have hHeld := hHeld2
      clear hHeld2
      try simp only [Act.put, List.setIfInBounds_toArray, List.set_cons_zero, List.set_cons_succ]
      refine wpAnyH_ready (rs := [3, 4]) (by kernel_rfl) (by simp) ?_
      refine (AllReadyH.cons (o := { dst := some 31, op := Go.Op.call { callee := Go.Callee.value (Go.Operand.func 15), args := #[Go.Operand.tmp 28, Go.Operand.tmp 30], argTypes := #[34, 31] }, type := 31, pos := "law.go:91", after := #[{ on := 0, ground := Go.Ground.data }, { on := 2, ground := Go.Ground.data }, { on := 2, ground := Go.Ground.chain }], guard := none }) rfl (fun KK hK => ?_) (AllReadyH.cons (o := { dst := some 8, op := Go.Op.alloc 31, type := 0, pos := "law.go:91", after := #[], guard := none }) rfl (fun KK hK => ?_) AllReadyH.nil))
      ·
        go_simp
        with_reducible refine (HR1.out _ (TAB2.out _ hHeld)).mono ?_
        rintro x wB ⟨rfl, hb⟩
        go_wp2_with fail
        refine hK.out _ _ (KEEP2.out _ _ hHeld hb) (fun hHeld2 => ?_)
        clear hK hHeld hb
        have hHeld := hHeld2
        clear hHeld2
        try simp only [Act.put, List.setIfInBounds_toArray, List.set_cons_zero, List.set_cons_succ]
        refine wpAnyH_ready (rs := [4]) (by kernel_rfl) (by simp) ?_
        refine (AllReadyH.cons (o := { dst := some 8, op := Go.Op.alloc 31, type := 0, pos := "law.go:91", after := #[], guard := none }) rfl (fun KK hK => ?_) AllReadyH.nil)
        have hH0 := hHeld
        go_simp
        refine hK.out _ _ (ALL2.out _ (HeldL.skip (hHeld.2.2.2.2.2.2.2.2.2.2.2) _)) (fun hHeld2 => ?_)
        clear hK hHeld
        have hHeld := hHeld2
        clear hHeld2
        try simp only [Act.put, List.setIfInBounds_toArray, List.set_cons_zero, List.set_cons_succ]
        refine wpAnyH_ready (rs := [5]) (by kernel_rfl) (by simp) ?_
        refine (AllReadyH.cons (o := { dst := none, op := Go.Op.store 31 (Go.Operand.tmp 8) (Go.Operand.tmp 31), type := 0, pos := "law.go:91", after := #[{ on := 4, ground := Go.Ground.data }, { on := 3, ground := Go.Ground.data }, { on := 3, ground := Go.Ground.chain }, { on := 0, ground := Go.Ground.phase }, { on := 1, ground := Go.Ground.phase }, { on := 2, ground := Go.Ground.phase }, { on := 3, ground := Go.Ground.phase }, { on := 4, ground := Go.Ground.phase }], guard := none }) rfl (fun KK hK => ?_) AllReadyH.nil)
        go_simp
        refine hK.out _ _ (ALL2.out _ (HeldL.skip (hH0.2.2.2.2.2.2.2.2.2.2.2) _)) (fun hHeld2 => ?_)
        clear hK hHeld
        have hHeld := hHeld2
        clear hHeld2
        try simp only [Act.put, List.setIfInBounds_toArray, List.set_cons_zero, List.set_cons_succ]
        refine wpAnyH_done (by kernel_rfl) ?_ _
        go_wp2
        go_meet
        case rel => exact ⟨_, rfl, HeldL.alloc (hH0.2.2.2.2.2.2.2.2.2.2.2) _ _ _ rfl⟩
      ·
        go_simp
        have HN : Hid (HeldL w ((wA.heap.size, #[.bool false, .string ⟨#[]⟩, .int .i64 0]) :: [(b4, #[.bool g.neg, S vi, S vf]), (w3.heap.size, #[.int .i64 p.kind, .int .i64 p.mn, .int .i64 p.mx, .bool p.inc.neg, S p.inc.l, .int .i64 p.inc.e, .int .i64 p.mode, .int .i64 p.mi]), (w.heap.size + 1, #[.int .i64 k0, .int .i64 k1, .int .i64 k2, .int .i64 k3, .int .i64 k4, .int .i64 k5, .int .i64 k6]), (w.heap.size, #[.bool n, .slice a len cap, .int .i64 e])]) _) := Lib.hid (HeldL.alloc (hHeld.2.2.2.2.2.2.2.2.2.2.2) (wA.heap.size) #[.bool false, .string ⟨#[]⟩, .int .i64 0] 31 (by first | rfl | simp))
        refine hK.out _ _ (ALL2.out _ (HeldL.tail HN.out)) (fun hHeld2 => ?_)
        clear hK hHeld
        have hHeld := hHeld2
        clear hHeld2
        try simp only [Act.put, List.setIfInBounds_toArray, List.set_cons_zero, List.set_cons_succ]
        refine wpAnyH_ready (rs := [3]) (by kernel_rfl) (by simp) ?_
        refine (AllReadyH.cons (o := { dst := some 31, op := Go.Op.call { callee := Go.Callee.value (Go.Operand.func 15), args := #[Go.Operand.tmp 28, Go.Operand.tmp 30], argTypes := #[34, 31] }, type := 31, pos := "law.go:91", after := #[{ on := 0, ground := Go.Ground.data }, { on := 2, ground := Go.Ground.data }, { on := 2, ground := Go.Ground.chain }], guard := none }) rfl (fun KK hK => ?_) AllReadyH.nil)
        go_simp
        with_reducible refine (HR1.out _ (TAB2.out _ hHeld)).mono ?_
        rintro x wB ⟨rfl, hb⟩
        go_wp2_with fail
        refine hK.out _ _ (KEEP2.out _ _ hHeld hb) (fun hHeld2 => ?_)
        have HM : Hid (HeldL w ((wA.heap.size, #[.bool false, .string ⟨#[]⟩, .int .i64 0]) :: [(b4, #[.bool g.neg, S vi, S vf]), (w3.heap.size, #[.int .i64 p.kind, .int .i64 p.mn, .int .i64 p.mx, .bool p.inc.neg, S p.inc.l, .int .i64 p.inc.e, .int .i64 p.mode, .int .i64 p.mi]), (w.heap.size + 1, #[.int .i64 k0, .int .i64 k1, .int .i64 k2, .int .i64 k3, .int .i64 k4, .int .i64 k5, .int .i64 k6]), (w.heap.size, #[.bool n, .slice a len cap, .int .i64 e])]) wB) := Lib.hid (HeldL.keep HN.out hb)
        clear HN
        have HN := HM
        clear HM
        clear hK hHeld hb
        have hHeld := hHeld2
        clear hHeld2
        try simp only [Act.put, List.setIfInBounds_toArray, List.set_cons_zero, List.set_cons_succ]
        refine wpAnyH_ready (rs := [5]) (by kernel_rfl) (by simp) ?_
        refine (AllReadyH.cons (o := { dst := none, op := Go.Op.store 31 (Go.Operand.tmp 8) (Go.Operand.tmp 31), type := 0, pos := "law.go:91", after := #[{ on := 4, ground := Go.Ground.data }, { on := 3, ground := Go.Ground.data }, { on := 3, ground := Go.Ground.chain }, { on := 0, ground := Go.Ground.phase }, { on := 1, ground := Go.Ground.phase }, { on := 2, ground := Go.Ground.phase }, { on := 3, ground := Go.Ground.phase }, { on := 4, ground := Go.Ground.phase }], guard := none }) rfl (fun KK hK => ?_) AllReadyH.nil)
        obtain ⟨nn0, nn1, nn2, nnz0, nnz1, nnz2, nnl⟩ := (HN.out.f (List.Mem.head _)).three
        go_simp
        refine hK.out _ _ (ALL2.out _ (HeldL.tail (HeldL.store3 [] [(b4, #[.bool g.neg, S vi, S vf]), (w3.heap.size, #[.int .i64 p.kind, .int .i64 p.mn, .int .i64 p.mx, .bool p.inc.neg, S p.inc.l, .int .i64 p.inc.e, .int .i64 p.mode, .int .i64 p.mi]), (w.heap.size + 1, #[.int .i64 k0, .int .i64 k1, .int .i64 k2, .int .i64 k3, .int .i64 k4, .int .i64 k5, .int .i64 k6]), (w.heap.size, #[.bool n, .slice a len cap, .int .i64 e])] HN.out (.bool g.neg) (S g.l) (.int .i64 g.e)))) (fun hHeld2 => ?_)
        clear hK hHeld
        have hHeld := hHeld2
        clear hHeld2
        try simp only [Act.put, List.setIfInBounds_toArray, List.set_cons_zero, List.set_cons_succ]
        refine wpAnyH_done (by kernel_rfl) ?_ _
        go_wp2
        go_meet
        case rel => exact ⟨_, rfl, HeldL.store3 [] [(b4, #[.bool g.neg, S vi, S vf]), (w3.heap.size, #[.int .i64 p.kind, .int .i64 p.mn, .int .i64 p.mx, .bool p.inc.neg, S p.inc.l, .int .i64 p.inc.e, .int .i64 p.mode, .int .i64 p.mi]), (w.heap.size + 1, #[.int .i64 k0, .int .i64 k1, .int .i64 k2, .int .i64 k3, .int .i64 k4, .int .i64 k5, .int .i64 k6]), (w.heap.size, #[.bool n, .slice a len cap, .int .i64 e])] HN.out (.bool g.neg) (S g.l) (.int .i64 g.e)⟩
    ·
      go_simp
      have HN : Hid (HeldL w ((w4.heap.size, #[.bool false, .string ⟨#[]⟩, .int .i64 0]) :: [(b4, #[.bool g.neg, S vi, S vf]), (w3.heap.size, #[.int .i64 p.kind, .int .i64 p.mn, .int .i64 p.mx, .bool p.inc.neg, S p.inc.l, .int .i64 p.inc.e, .int .i64 p.mode, .int .i64 p.mi]), (w.heap.size + 1, #[.int .i64 k0, .int .i64 k1, .int .i64 k2, .int .i64 k3, .int .i64 k4, .int .i64 k5, .int .i64 k6]), (w.heap.size, #[.bool n, .slice a len cap, .int .i64 e])]) _) := Lib.hid (HeldL.alloc (hHeld.2.2.2.2.2.2.2.2.2.2.2) (w4.heap.size) #[.bool false, .string ⟨#[]⟩, .int .i64 0] 31 (by first | rfl | simp))
      refine hK.out _ _ (ALL2.out _ (HeldL.tail HN.out)) (fun hHeld2 => ?_)
      clear hK hHeld
      have hHeld := hHeld2
      clear hHeld2
      try simp only [Act.put, List.setIfInBounds_toArray, List.set_cons_zero, List.set_cons_succ]
      refine wpAnyH_ready (rs := [2]) (by kernel_rfl) (by simp) ?_
      refine (AllReadyH.cons (o := { dst := some 30, op := Go.Op.call { callee := Go.Callee.value (Go.Operand.func 14), args := #[Go.Operand.tmp 29], argTypes := #[24] }, type := 31, pos := "law.go:91", after := #[{ on := 1, ground := Go.Ground.data }], guard := none }) rfl (fun KK hK => ?_) AllReadyH.nil)
      go_simp
      with_reducible refine (make_as n a len cap L e _ (HIN.out.below (hHeld.2.2.2.2.2.2.2.2.2.2.2).bel) (by omega)).mono ?_
      rintro x wA ⟨rfl, hb⟩
      go_wp2_with fail
      refine hK.out _ _ (KEEP2.out _ _ hHeld hb) (fun hHeld2 => ?_)
      have HM : Hid (HeldL w ((w4.heap.size, #[.bool false, .string ⟨#[]⟩, .int .i64 0]) :: [(b4, #[.bool g.neg, S vi, S vf]), (w3.heap.size, #[.int .i64 p.kind, .int .i64 p.mn, .int .i64 p.mx, .bool p.inc.neg, S p.inc.l, .int .i64 p.inc.e, .int .i64 p.mode, .int .i64 p.mi]), (w.heap.size + 1, #[.int .i64 k0, .int .i64 k1, .int .i64 k2, .int .i64 k3, .int .i64 k4, .int .i64 k5, .int .i64 k6]), (w.heap.size, #[.bool n, .slice a len cap, .int .i64 e])]) wA) := Lib.hid (HeldL.keep HN.out hb)
      clear HN
      have HN := HM
      clear HM
      clear hK hHeld hb
      have hHeld := hHeld2
      clear hHeld2
      try simp only [Act.put, List.setIfInBounds_toArray, List.set_cons_zero, List.set_cons_succ]
      refine wpAnyH_ready (rs := [3]) (by kernel_rfl) (by simp) ?_
      refine (AllReadyH.cons (o := { dst := some 31, op := Go.Op.call { callee := Go.Callee.value (Go.Operand.func 15), args := #[Go.Operand.tmp 28, Go.Operand.tmp 30], argTypes := #[34, 31] }, type := 31, pos := "law.go:91", after := #[{ on := 0, ground := Go.Ground.data }, { on := 2, ground := Go.Ground.data }, { on := 2, ground := Go.Ground.chain }], guard := none }) rfl (fun KK hK => ?_) AllReadyH.nil)
      go_simp
      with_reducible refine (HR1.out _ (TAB2.out _ hHeld)).mono ?_
      rintro x wB ⟨rfl, hb⟩
      go_wp2_with fail
      refine hK.out _ _ (KEEP2.out _ _ hHeld hb) (fun hHeld2 => ?_)
      have HM : Hid (HeldL w ((w4.heap.size, #[.bool false, .string ⟨#[]⟩, .int .i64 0]) :: [(b4, #[.bool g.neg, S vi, S vf]), (w3.heap.size, #[.int .i64 p.kind, .int .i64 p.mn, .int .i64 p.mx, .bool p.inc.neg, S p.inc.l, .int .i64 p.inc.e, .int .i64 p.mode, .int .i64 p.mi]), (w.heap.size + 1, #[.int .i64 k0, .int .i64 k1, .int .i64 k2, .int .i64 k3, .int .i64 k4, .int .i64 k5, .int .i64 k6]), (w.heap.size, #[.bool n, .slice a len cap, .int .i64 e])]) wB) := Lib.hid (HeldL.keep HN.out hb)
      clear HN
      have HN := HM
      clear HM
      clear hK hHeld hb
      have hHeld := hHeld2
      clear hHeld2
      try simp only [Act.put, List.setIfInBounds_toArray, List.set_cons_zero, List.set_cons_succ]
      refine wpAnyH_ready (rs := [5]) (by kernel_rfl) (by simp) ?_
      refine (AllReadyH.cons (o := { dst := none, op := Go.Op.store 31 (Go.Operand.tmp 8) (Go.Operand.tmp 31), type := 0, pos := "law.go:91", after := #[{ on := 4, ground := Go.Ground.data }, { on := 3, ground := Go.Ground.data }, { on := 3, ground := Go.Ground.chain }, { on := 0, ground := Go.Ground.phase }, { on := 1, ground := Go.Ground.phase }, { on := 2, ground := Go.Ground.phase }, { on := 3, ground := Go.Ground.phase }, { on := 4, ground := Go.Ground.phase }], guard := none }) rfl (fun KK hK => ?_) AllReadyH.nil)
      obtain ⟨nn0, nn1, nn2, nnz0, nnz1, nnz2, nnl⟩ := (HN.out.f (List.Mem.head _)).three
      go_simp
      refine hK.out _ _ (ALL2.out _ (HeldL.tail (HeldL.store3 [] [(b4, #[.bool g.neg, S vi, S vf]), (w3.heap.size, #[.int .i64 p.kind, .int .i64 p.mn, .int .i64 p.mx, .bool p.inc.neg, S p.inc.l, .int .i64 p.inc.e, .int .i64 p.mode, .int .i64 p.mi]), (w.heap.size + 1, #[.int .i64 k0, .int .i64 k1, .int .i64 k2, .int .i64 k3, .int .i64 k4, .int .i64 k5, .int .i64 k6]), (w.heap.size, #[.bool n, .slice a len cap, .int .i64 e])] HN.out (.bool g.neg) (S g.l) (.int .i64 g.e)))) (fun hHeld2 => ?_)
      clear hK hHeld
      have hHeld := hHeld2
      clear hHeld2
      try simp only [Act.put, List.setIfInBounds_toArray, List.set_cons_zero, List.set_cons_succ]
      refine wpAnyH_done (by kernel_rfl) ?_ _
      go_wp2
      go_meet
      case rel => exact ⟨_, rfl, HeldL.store3 [] [(b4, #[.bool g.neg, S vi, S vf]), (w3.heap.size, #[.int .i64 p.kind, .int .i64 p.mn, .int .i64 p.mx, .bool p.inc.neg, S p.inc.l, .int .i64 p.inc.e, .int .i64 p.mode, .int .i64 p.mi]), (w.heap.size + 1, #[.int .i64 k0, .int .i64 k1, .int .i64 k2, .int .i64 k3, .int .i64 k4, .int .i64 k5, .int .i64 k6]), (w.heap.size, #[.bool n, .slice a len cap, .int .i64 e])] HN.out (.bool g.neg) (S g.l) (.int .i64 g.e)⟩
  case rest =>
  obtain ⟨b5, hvp, hh⟩ := hcut
  subst hvp
  have H5 : Hid (HeldL w ((b5, #[.bool g.neg, S g.l, .int .i64 g.e]) :: [(b4, #[.bool g.neg, S vi, S vf]), (w3.heap.size, #[.int .i64 p.kind, .int .i64 p.mn, .int .i64 p.mx, .bool p.inc.neg, S p.inc.l, .int .i64 p.inc.e, .int .i64 p.mode, .int .i64 p.mi]), (w.heap.size + 1, #[.int .i64 k0, .int .i64 k1, .int .i64 k2, .int .i64 k3, .int .i64 k4, .int .i64 k5, .int .i64 k6]), (w.heap.size, #[.bool n, .slice a len cap, .int .i64 e])]) wc) := Lib.hid hh
  clear hh H4
  generalize wc = w5 at *
  have bv0 : w5.cell? ⟨b4, 0, none⟩ = some (.bool g.neg) := (H5.out.f (List.Mem.tail _ (List.Mem.head _))).cell 0
  have bv1 : w5.cell? ⟨b4, 1, none⟩ = some (S vi) := (H5.out.f (List.Mem.tail _ (List.Mem.head _))).cell 1
  have bv2 : w5.cell? ⟨b4, 2, none⟩ = some (S vf) := (H5.out.f (List.Mem.tail _ (List.Mem.head _))).cell 2
  have bvl : b4 < w5.heap.size := (H5.out.f (List.Mem.tail _ (List.Mem.head _))).lt
  have bg0 : w5.cell? ⟨b5, 0, none⟩ = some (.bool g.neg) := (H5.out.f (List.Mem.head _)).cell 0
  have bg1 : w5.cell? ⟨b5, 1, none⟩ = some (S g.l) := (H5.out.f (List.Mem.head _)).cell 1
  have bg2 : w5.cell? ⟨b5, 2, none⟩ = some (.int .i64 g.e) := (H5.out.f (List.Mem.head _)).cell 2
  have bgl : b5 < w5.heap.size := (H5.out.f (List.Mem.head _)).lt
  have bp0 : w5.cell? ⟨w3.heap.size, 0, none⟩ = some (.int .i64 p.kind) := (H5.out.f (List.Mem.tail _ (List.Mem.tail _ (List.Mem.head _)))).cell 0
  have bp1 : w5.cell? ⟨w3.heap.size, 1, none⟩ = some (.int .i64 p.mn) := (H5.out.f (List.Mem.tail _ (List.Mem.tail _ (List.Mem.head _)))).cell 1
  have bp2 : w5.cell? ⟨w3.heap.size, 2, none⟩ = some (.int .i64 p.mx) := (H5.out.f (List.Mem.tail _ (List.Mem.tail _ (List.Mem.head _)))).cell 2
  have bp3 : w5.cell? ⟨w3.heap.size, 3, none⟩ = some (.bool p.inc.neg) := (H5.out.f (List.Mem.tail _ (List.Mem.tail _ (List.Mem.head _)))).cell 3
  have bp4 : w5.cell? ⟨w3.heap.size, 4, none⟩ = some (S p.inc.l) := (H5.out.f (List.Mem.tail _ (List.Mem.tail _ (List.Mem.head _)))).cell 4
  have bp5 : w5.cell? ⟨w3.heap.size, 5, none⟩ = some (.int .i64 p.inc.e) := (H5.out.f (List.Mem.tail _ (List.Mem.tail _ (List.Mem.head _)))).cell 5
  have bp6 : w5.cell? ⟨w3.heap.size, 6, none⟩ = some (.int .i64 p.mode) := (H5.out.f (List.Mem.tail _ (List.Mem.tail _ (List.Mem.head _)))).cell 6
  have bp7 : w5.cell? ⟨w3.heap.size, 7, none⟩ = some (.int .i64 p.mi) := (H5.out.f (List.Mem.tail _ (List.Mem.tail _ (List.Mem.head _)))).cell 7
  have bpl : w3.heap.size < w5.heap.size := (H5.out.f (List.Mem.tail _ (List.Mem.tail _ (List.Mem.head _)))).lt
  go_wp2_with fail
  with_reducible refine (isS vi _ (by omega) HI1.out).mono ?_
  rintro x wz ⟨rfl, rfl⟩
  go_wp2_with fail
  with_reducible refine (isS vf _ (by omega) HI2.out).mono ?_
  rintro x wz ⟨rfl, rfl⟩
  go_wp2_with fail
  with_reducible refine (HTR.out _).mono ?_
  rintro x wz ⟨rfl, rfl⟩
  go_upto_if 93 with fail
  go_cut [11] from 14 (fun v11 w' => v11 = .int .i64 least ∧ HeldL w [(b5, #[.bool g.neg, S g.l, .int .i64 g.e]), (b4, #[.bool g.neg, S vi, S vf]), (w3.heap.size, #[.int .i64 p.kind, .int .i64 p.mn, .int .i64 p.mx, .bool p.inc.neg, S p.inc.l, .int .i64 p.inc.e, .int .i64 p.mode, .int .i64 p.mi]), (w.heap.size + 1, #[.int .i64 k0, .int .i64 k1, .int .i64 k2, .int .i64 k3, .int .i64 k4, .int .i64 k5, .int .i64 k6]), (w.heap.size, #[.bool n, .slice a len cap, .int .i64 e])] w')
  case first =>
    cases hk : (p.kind == 1) with
    | false =>
      have hl := HL0.out hk
      subst hl
      go_wp2
      go_meet
      case rel => exact ⟨rfl, H5.out⟩
    | true =>
      by_cases ht : t = []
      ·
        subst ht
        cases hz : (made g.neg g.l g.e).l.isEmpty with
        | true =>
          have HGZ := Lib.hid hz
          clear hz
          have hl := HL1.out hk rfl HGZ.out
          subst hl
          go_wp2_with fail
          with_reducible refine (zero_T g true _ gl HGZ.out).mono ?_
          rintro x wz ⟨rfl, hb⟩
          have HZZ : Hid (HeldL w [(b5, #[.bool g.neg, S g.l, .int .i64 g.e]), (b4, #[.bool g.neg, S vi, S vf]), (w3.heap.size, #[.int .i64 p.kind, .int .i64 p.mn, .int .i64 p.mx, .bool p.inc.neg, S p.inc.l, .int .i64 p.inc.e, .int .i64 p.mode, .int .i64 p.mi]), (w.heap.size + 1, #[.int .i64 k0, .int .i64 k1, .int .i64 k2, .int .i64 k3, .int .i64 k4, .int .i64 k5, .int .i64 k6]), (w.heap.size, #[.bool n, .slice a len cap, .int .i64 e])] wz) := Lib.hid (HeldL.keep H5.out hb)
          clear hb
          have y0 : wz.cell? ⟨w3.heap.size, 0, none⟩ = some (.int .i64 p.kind) := (HZZ.out.f (List.Mem.tail _ (List.Mem.tail _ (List.Mem.head _)))).cell 0
          have y1 : wz.cell? ⟨w3.heap.size, 1, none⟩ = some (.int .i64 p.mn) := (HZZ.out.f (List.Mem.tail _ (List.Mem.tail _ (List.Mem.head _)))).cell 1
          have yl : w3.heap.size < wz.heap.size := (HZZ.out.f (List.Mem.tail _ (List.Mem.tail _ (List.Mem.head _)))).lt
          go_wp2
          go_meet
          case rel => exact ⟨rfl, HZZ.out⟩
        | false =>
          have HGZ := Lib.hid hz
          clear hz
          have hl := HL2.out hk rfl HGZ.out
          subst hl
          have kl : kz < vf.length := HKL.out rfl HGZ.out
          go_wp2_with fail
          with_reducible refine (zero_T g false _ gl HGZ.out).mono ?_
          rintro x wz ⟨rfl, hb⟩
          have HZZ : Hid (HeldL w [(b5, #[.bool g.neg, S g.l, .int .i64 g.e]), (b4, #[.bool g.neg, S vi, S vf]), (w3.heap.size, #[.int .i64 p.kind, .int .i64 p.mn, .int .i64 p.mx, .bool p.inc.neg, S p.inc.l, .int .i64 p.inc.e, .int .i64 p.mode, .int .i64 p.mi]), (w.heap.size + 1, #[.int .i64 k0, .int .i64 k1, .int .i64 k2, .int .i64 k3, .int .i64 k4, .int .i64 k5, .int .i64 k6]), (w.heap.size, #[.bool n, .slice a len cap, .int .i64 e])] wz) := Lib.hid (HeldL.keep H5.out hb)
          clear hb
          have v0 : wz.cell? ⟨b4, 0, none⟩ = some (.bool g.neg) := (HZZ.out.f (List.Mem.tail _ (List.Mem.head _))).cell 0
          have v1 : wz.cell? ⟨b4, 1, none⟩ = some (S vi) := (HZZ.out.f (List.Mem.tail _ (List.Mem.head _))).cell 1
          have v2 : wz.cell? ⟨b4, 2, none⟩ = some (S vf) := (HZZ.out.f (List.Mem.tail _ (List.Mem.head _))).cell 2
          have vl : b4 < wz.heap.size := (HZZ.out.f (List.Mem.tail _ (List.Mem.head _))).lt
          have y0 : wz.cell? ⟨w3.heap.size, 0, none⟩ = some (.int .i64 p.kind) := (HZZ.out.f (List.Mem.tail _ (List.Mem.tail _ (List.Mem.head _)))).cell 0
          have y1 : wz.cell? ⟨w3.heap.size, 1, none⟩ = some (.int .i64 p.mn) := (HZZ.out.f (List.Mem.tail _ (List.Mem.tail _ (List.Mem.head _)))).cell 1
          go_wp2
          go_loop [12, 13] (fun v12 v13 => ∃ i : Nat, i ≤ kz ∧ v13 = .int .i64 i ∧ v12 = .int .i64 (1 - (i : Int))) (fun _ v => kz - (intOf v).toNat)
          case atStart => exact ⟨0, Nat.zero_le _, rfl, rfl⟩
          case round =>
            obtain ⟨i, hi, rfl, rfl⟩ := hrel
            by_cases hik : i = kz
            · subst hik
              have f1 := kl
              have f2 : ((((⟨vf.toArray⟩ : ByteArray)[i]'(by rw [arr_size]; exact kl)).toNat : Int) == 48) = false := HZ2.out kl
              go_wp2
              go_meet
              case rel => exact ⟨by first | rfl | (congr 1; omega), HZZ.out⟩
            · have hlt : i < vf.length := by omega
              have f2 : ((((⟨vf.toArray⟩ : ByteArray)[i]'(by rw [arr_size]; exact hlt)).toNat : Int) == 48) = true := HZ1.out i (by omega) hlt
              go_wp2
              go_round
              case rel => exact ⟨i + 1, by omega, by go_num, by congr 1; omega⟩
              case measure => simp [intOf]; omega
      · have tb : ((t.length : Int) == 0) = false := by simp [ht]
        have hl := HL3.out hk ht
        subst hl
        go_wp2
        go_meet
        case rel => exact ⟨rfl, H5.out⟩
  case rest =>
  obtain ⟨hv11, hh⟩ := hcut
  subst hv11
  have H6 : Hid (HeldL w [(b5, #[.bool g.neg, S g.l, .int .i64 g.e]), (b4, #[.bool g.neg, S vi, S vf]), (w3.heap.size, #[.int .i64 p.kind, .int .i64 p.mn, .int .i64 p.mx, .bool p.inc.neg, S p.inc.l, .int .i64 p.inc.e, .int .i64 p.mode, .int .i64 p.mi]), (w.heap.size + 1, #[.int .i64 k0, .int .i64 k1, .int .i64 k2, .int .i64 k3, .int .i64 k4, .int .i64 k5, .int .i64 k6]), (w.heap.size, #[.bool n, .slice a len cap, .int .i64 e])] wc) := Lib.hid hh
  clear hh H5
  have bv0 : wc.cell? ⟨b4, 0, none⟩ = some (.bool g.neg) := (H6.out.f (List.Mem.tail _ (List.Mem.head _))).cell 0
  have bv1 : wc.cell? ⟨b4, 1, none⟩ = some (S vi) := (H6.out.f (List.Mem.tail _ (List.Mem.head _))).cell 1
  have bv2 : wc.cell? ⟨b4, 2, none⟩ = some (S vf) := (H6.out.f (List.Mem.tail _ (List.Mem.head _))).cell 2
  have bvl : b4 < wc.heap.size := (H6.out.f (List.Mem.tail _ (List.Mem.head _))).lt
  have bp0 : wc.cell? ⟨w3.heap.size, 0, none⟩ = some (.int .i64 p.kind) := (H6.out.f (List.Mem.tail _ (List.Mem.tail _ (List.Mem.head _)))).cell 0
  have bp1 : wc.cell? ⟨w3.heap.size, 1, none⟩ = some (.int .i64 p.mn) := (H6.out.f (List.Mem.tail _ (List.Mem.tail _ (List.Mem.head _)))).cell 1
  have bp2 : wc.cell? ⟨w3.heap.size, 2, none⟩ = some (.int .i64 p.mx) := (H6.out.f (List.Mem.tail _ (List.Mem.tail _ (List.Mem.head _)))).cell 2
  have bp3 : wc.cell? ⟨w3.heap.size, 3, none⟩ = some (.bool p.inc.neg) := (H6.out.f (List.Mem.tail _ (List.Mem.tail _ (List.Mem.head _)))).cell 3
  have bp4 : wc.cell? ⟨w3.heap.size, 4, none⟩ = some (S p.inc.l) := (H6.out.f (List.Mem.tail _ (List.Mem.tail _ (List.Mem.head _)))).cell 4
  have bp5 : wc.cell? ⟨w3.heap.size, 5, none⟩ = some (.int .i64 p.inc.e) := (H6.out.f (List.Mem.tail _ (List.Mem.tail _ (List.Mem.head _)))).cell 5
  have bp6 : wc.cell? ⟨w3.heap.size, 6, none⟩ = some (.int .i64 p.mode) := (H6.out.f (List.Mem.tail _ (List.Mem.tail _ (List.Mem.head _)))).cell 6
  have bp7 : wc.cell? ⟨w3.heap.size, 7, none⟩ = some (.int .i64 p.mi) := (H6.out.f (List.Mem.tail _ (List.Mem.tail _ (List.Mem.head _)))).cell 7
  have bpl : w3.heap.size < wc.heap.size := (H6.out.f (List.Mem.tail _ (List.Mem.tail _ (List.Mem.head _)))).lt
  cases hk2 : (p.kind == 2) with
  | true =>
    go_wp2_with fail
    have ALL3 : Hid (∀ w' : World, HeldL w [(b5, #[.bool g.neg, S g.l, .int .i64 g.e]), (b4, #[.bool g.neg, S vi, S vf]), (w3.heap.size, #[.int .i64 p.kind, .int .i64 p.mn, .int .i64 p.mx, .bool p.inc.neg, S p.inc.l, .int .i64 p.inc.e, .int .i64 p.mode, .int .i64 p.mi]), (w.heap.size + 1, #[.int .i64 k0, .int .i64 k1, .int .i64 k2, .int .i64 k3, .int .i64 k4, .int .i64 k5, .int .i64 k6]), (w.heap.size, #[.bool n, .slice a len cap, .int .i64 e])] w' → w'.cell? ⟨b4, 0, none⟩ = some (.bool g.neg) ∧ w'.cell? ⟨b4, 1, none⟩ = some (S vi) ∧ w'.cell? ⟨b4, 2, none⟩ = some (S vf) ∧ w'.cell? ⟨w3.heap.size, 0, none⟩ = some (.int .i64 p.kind) ∧ w'.cell? ⟨w3.heap.size, 1, none⟩ = some (.int .i64 p.mn) ∧ w'.cell? ⟨w3.heap.size, 2, none⟩ = some (.int .i64 p.mx) ∧ w'.cell? ⟨w3.heap.size, 3, none⟩ = some (.bool p.inc.neg) ∧ w'.cell? ⟨w3.heap.size, 4, none⟩ = some (S p.inc.l) ∧ w'.cell? ⟨w3.heap.size, 5, none⟩ = some (.int .i64 p.inc.e) ∧ w'.cell? ⟨w3.heap.size, 6, none⟩ = some (.int .i64 p.mode) ∧ w'.cell? ⟨w3.heap.size, 7, none⟩ = some (.int .i64 p.mi) ∧ HeldL w [(b5, #[.bool g.neg, S g.l, .int .i64 g.e]), (b4, #[.bool g.neg, S vi, S vf]), (w3.heap.size, #[.int .i64 p.kind, .int .i64 p.mn, .int .i64 p.mx, .bool p.inc.neg, S p.inc.l, .int .i64 p.inc.e, .int .i64 p.mode, .int .i64 p.mi]), (w.heap.size + 1, #[.int .i64 k0, .int .i64 k1, .int .i64 k2, .int .i64 k3, .int .i64 k4, .int .i64 k5, .int .i64 k6]), (w.heap.size, #[.bool n, .slice a len cap, .int .i64 e])] w') := Lib.hid (fun w' h => ⟨(h.f (List.Mem.tail _ (List.Mem.head _))).cell 0, (h.f (List.Mem.tail _ (List.Mem.head _))).cell 1, (h.f (List.Mem.tail _ (List.Mem.head _))).cell 2, (h.f (List.Mem.tail _ (List.Mem.tail _ (List.Mem.head _)))).cell 0, (h.f (List.Mem.tail _ (List.Mem.tail _ (List.Mem.head _)))).cell 1, (h.f (List.Mem.tail _ (List.Mem.tail _ (List.Mem.head _)))).cell 2, (h.f (List.Mem.tail _ (List.Mem.tail _ (List.Mem.head _)))).cell 3, (h.f (List.Mem.tail _ (List.Mem.tail _ (List.Mem.head _)))).cell 4, (h.f (List.Mem.tail _ (List.Mem.tail _ (List.Mem.head _)))).cell 5, (h.f (List.Mem.tail _ (List.Mem.tail _ (List.Mem.head _)))).cell 6, (h.f (List.Mem.tail _ (List.Mem.tail _ (List.Mem.head _)))).cell 7, h⟩)
    have KEEP3 : Hid (∀ w' w'' : World, (w'.cell? ⟨b4, 0, none⟩ = some (.bool g.neg) ∧ w'.cell? ⟨b4, 1, none⟩ = some (S vi) ∧ w'.cell? ⟨b4, 2, none⟩ = some (S vf) ∧ w'.cell? ⟨w3.heap.size, 0, none⟩ = some (.int .i64 p.kind) ∧ w'.cell? ⟨w3.heap.size, 1, none⟩ = some (.int .i64 p.mn) ∧ w'.cell? ⟨w3.heap.size, 2, none⟩ = some (.int .i64 p.mx) ∧ w'.cell? ⟨w3.heap.size, 3, none⟩ = some (.bool p.inc.neg) ∧ w'.cell? ⟨w3.heap.size, 4, none⟩ = some (S p.inc.l) ∧ w'.cell? ⟨w3.heap.size, 5, none⟩ = some (.int .i64 p.inc.e) ∧ w'.cell? ⟨w3.heap.size, 6, none⟩ = some (.int .i64 p.mode) ∧ w'.cell? ⟨w3.heap.size, 7, none⟩ = some (.int .i64 p.mi) ∧ HeldL w [(b5, #[.bool g.neg, S g.l, .int .i64 g.e]), (b4, #[.bool g.neg, S vi, S vf]), (w3.heap.size, #[.int .i64 p.kind, .int .i64 p.mn, .int .i64 p.mx, .bool p.inc.neg, S p.inc.l, .int .i64 p.inc.e, .int .i64 p.mode, .int .i64 p.mi]), (w.heap.size + 1, #[.int .i64 k0, .int .i64 k1, .int .i64 k2, .int .i64 k3, .int .i64 k4, .int .i64 k5, .int .i64 k6]), (w.heap.size, #[.bool n, .slice a len cap, .int .i64 e])] w') → Below w'.heap.size w' w'' → (w''.cell? ⟨b4, 0, none⟩ = some (.bool g.neg) ∧ w''.cell? ⟨b4, 1, none⟩ = some (S vi) ∧ w''.cell? ⟨b4, 2, none⟩ = some (S vf) ∧ w''.cell? ⟨w3.heap.size, 0, none⟩ = some (.int .i64 p.kind) ∧ w''.cell? ⟨w3.heap.size, 1, none⟩ = some (.int .i64 p.mn) ∧ w''.cell? ⟨w3.heap.size, 2, none⟩ = some (.int .i64 p.mx) ∧ w''.cell? ⟨w3.heap.size, 3, none⟩ = some (.bool p.inc.neg) ∧ w''.cell? ⟨w3.heap.size, 4, none⟩ = some (S p.inc.l) ∧ w''.cell? ⟨w3.heap.size, 5, none⟩ = some (.int .i64 p.inc.e) ∧ w''.cell? ⟨w3.heap.size, 6, none⟩ = some (.int .i64 p.mode) ∧ w''.cell? ⟨w3.heap.size, 7, none⟩ = some (.int .i64 p.mi) ∧ HeldL w [(b5, #[.bool g.neg, S g.l, .int .i64 g.e]), (b4, #[.bool g.neg, S vi, S vf]), (w3.heap.size, #[.int .i64 p.kind, .int .i64 p.mn, .int .i64 p.mx, .bool p.inc.neg, S p.inc.l, .int .i64 p.inc.e, .int .i64 p.mode, .int .i64 p.mi]), (w.heap.size + 1, #[.int .i64 k0, .int .i64 k1, .int .i64 k2, .int .i64 k3, .int .i64 k4, .int .i64 k5, .int .i64 k6]), (w.heap.size, #[.bool n, .slice a len cap, .int .i64 e])] w'')) := Lib.hid (fun w' w'' h hb => ALL3.out _ (HeldL.keep (h.2.2.2.2.2.2.2.2.2.2.2) hb))
    have HS3 : Hid (HeldL w [(b5, #[.bool g.neg, S g.l, .int .i64 g.e]), (b4, #[.bool g.neg, S vi, S vf]), (w3.heap.size, #[.int .i64 p.kind, .int .i64 p.mn, .int .i64 p.mx, .bool p.inc.neg, S p.inc.l, .int .i64 p.inc.e, .int .i64 p.mode, .int .i64 p.mi]), (w.heap.size + 1, #[.int .i64 k0, .int .i64 k1, .int .i64 k2, .int .i64 k3, .int .i64 k4, .int .i64 k5, .int .i64 k6]), (w.heap.size, #[.bool n, .slice a len cap, .int .i64 e])] _) := Lib.hid H6.out
    have TAB3 : Hid (∀ w' : World, (w'.cell? ⟨b4, 0, none⟩ = some (.bool g.neg) ∧ w'.cell? ⟨b4, 1, none⟩ = some (S vi) ∧ w'.cell? ⟨b4, 2, none⟩ = some (S vf) ∧ w'.cell? ⟨w3.heap.size, 0, none⟩ = some (.int .i64 p.kind) ∧ w'.cell? ⟨w3.heap.size, 1, none⟩ = some (.int .i64 p.mn) ∧ w'.cell? ⟨w3.heap.size, 2, none⟩ = some (.int .i64 p.mx) ∧ w'.cell? ⟨w3.heap.size, 3, none⟩ = some (.bool p.inc.neg) ∧ w'.cell? ⟨w3.heap.size, 4, none⟩ = some (S p.inc.l) ∧ w'.cell? ⟨w3.heap.size, 5, none⟩ = some (.int .i64 p.inc.e) ∧ w'.cell? ⟨w3.heap.size, 6, none⟩ = some (.int .i64 p.mode) ∧ w'.cell? ⟨w3.heap.size, 7, none⟩ = some (.int .i64 p.mi) ∧ HeldL w [(b5, #[.bool g.neg, S g.l, .int .i64 g.e]), (b4, #[.bool g.neg, S vi, S vf]), (w3.heap.size, #[.int .i64 p.kind, .int .i64 p.mn, .int .i64 p.mx, .bool p.inc.neg, S p.inc.l, .int .i64 p.inc.e, .int .i64 p.mode, .int .i64 p.mi]), (w.heap.size + 1, #[.int .i64 k0, .int .i64 k1, .int .i64 k2, .int .i64 k3, .int .i64 k4, .int .i64 k5, .int .i64 k6]), (w.heap.size, #[.bool n, .slice a len cap, .int .i64 e])] w') → Tab w') := Lib.hid (fun w' h => HT.out.below (h.2.2.2.2.2.2.2.2.2.2.2).bel)
    refine wp_region_held_drew (S := fun w' => w'.cell? ⟨b4, 0, none⟩ = some (.bool g.neg) ∧ w'.cell? ⟨b4, 1, none⟩ = some (S vi) ∧ w'.cell? ⟨b4, 2, none⟩ = some (S vf) ∧ w'.cell? ⟨w3.heap.size, 0, none⟩ = some (.int .i64 p.kind) ∧ w'.cell? ⟨w3.heap.size, 1, none⟩ = some (.int .i64 p.mn) ∧ w'.cell? ⟨w3.heap.size, 2, none⟩ = some (.int .i64 p.mx) ∧ w'.cell? ⟨w3.heap.size, 3, none⟩ = some (.bool p.inc.neg) ∧ w'.cell? ⟨w3.heap.size, 4, none⟩ = some (S p.inc.l) ∧ w'.cell? ⟨w3.heap.size, 5, none⟩ = some (.int .i64 p.inc.e) ∧ w'.cell? ⟨w3.heap.size, 6, none⟩ = some (.int .i64 p.mode) ∧ w'.cell? ⟨w3.heap.size, 7, none⟩ = some (.int .i64 p.mi) ∧ HeldL w [(b5, #[.bool g.neg, S g.l, .int .i64 g.e]), (b4, #[.bool g.neg, S vi, S vf]), (w3.heap.size, #[.int .i64 p.kind, .int .i64 p.mn, .int .i64 p.mx, .bool p.inc.neg, S p.inc.l, .int .i64 p.inc.e, .int .i64 p.mode, .int .i64 p.mi]), (w.heap.size + 1, #[.int .i64 k0, .int .i64 k1, .int .i64 k2, .int .i64 k3, .int .i64 k4, .int .i64 k5, .int .i64 k6]), (w.heap.size, #[.bool n, .slice a len cap, .int .i64 e])] w') (by kernel_rfl) (ALL3.out _ (HeldL.drew HS3.out)) (fun hHeld => ?_)
    refine wpAnyH_take (i := 0) (oi := { dst := some 124, op := Go.Op.fieldAddr 37 (Go.Operand.tmp 6) 2, type := 0, pos := "law.go:115", after := #[], guard := none }) (v := ?_) rfl (by kernel_rfl) (by kernel_rfl) (by kernel_rfl) (fun _ _ _ h => h) (Or.inl ⟨by rfl, ?_⟩) hHeld ?_
    case refine_2 => (intro w hSw; (try dsimp only at hSw); go_simp <;> with_reducible rfl)
    try simp only [Act.put, List.setIfInBounds_toArray, List.set_cons_zero, List.set_cons_succ]
    refine wpAnyH_take (i := 1) (oi := { dst := some 125, op := Go.Op.load 9 (Go.Operand.tmp 124), type := 9, pos := "law.go:115", after := #[{ on := 0, ground := Go.Ground.data }], guard := none }) (v := ?_) rfl (by kernel_rfl) (by kernel_rfl) (by kernel_rfl) (fun _ _ _ h => h) (Or.inl ⟨by rfl, ?_⟩) hHeld ?_
    case refine_2 => (intro w hSw; (try dsimp only at hSw); go_simp <;> with_reducible rfl)
    try simp only [Act.put, List.setIfInBounds_toArray, List.set_cons_zero, List.set_cons_succ]
    refine wpAnyH_take (i := 2) (oi := { dst := some 126, op := Go.Op.call { callee := Go.Callee.builtin Go.Builtin.len, args := #[Go.Operand.tmp 125], argTypes := #[9] }, type := 3, pos := "law.go:115", after := #[{ on := 1, ground := Go.Ground.data }], guard := none }) (v := ?_) rfl (by kernel_rfl) (by kernel_rfl) (by kernel_rfl) (fun _ _ _ h => h) (Or.inl ⟨by rfl, ?_⟩) hHeld ?_
    case refine_2 => (intro w hSw; (try dsimp only at hSw); go_simp <;> with_reducible rfl)
    try simp only [Act.put, List.setIfInBounds_toArray, List.set_cons_zero, List.set_cons_succ]
    refine wpAnyH_take (i := 3) (oi := { dst := some 127, op := Go.Op.move (Go.Operand.tmp 11), type := 3, pos := "law.go:115", after := #[], guard := none }) (v := ?_) rfl (by kernel_rfl) (by kernel_rfl) (by kernel_rfl) (fun _ _ _ h => h) (Or.inl ⟨by rfl, ?_⟩) hHeld ?_
    case refine_2 => (intro w hSw; (try dsimp only at hSw); go_simp <;> with_reducible rfl)
    try simp only [Act.put, List.setIfInBounds_toArray, List.set_cons_zero, List.set_cons_succ]
    refine wpAnyH_take (i := 4) (oi := { dst := some 128, op := Go.Op.fieldAddr 37 (Go.Operand.tmp 6) 2, type := 0, pos := "law.go:115", after := #[], guard := none }) (v := ?_) rfl (by kernel_rfl) (by kernel_rfl) (by kernel_rfl) (fun _ _ _ h => h) (Or.inl ⟨by rfl, ?_⟩) hHeld ?_
    case refine_2 => (intro w hSw; (try dsimp only at hSw); go_simp <;> with_reducible rfl)
    try simp only [Act.put, List.setIfInBounds_toArray, List.set_cons_zero, List.set_cons_succ]
    refine wpAnyH_take (i := 5) (oi := { dst := some 129, op := Go.Op.load 9 (Go.Operand.tmp 128), type := 9, pos := "law.go:115", after := #[{ on := 4, ground := Go.Ground.data }], guard := none }) (v := ?_) rfl (by kernel_rfl) (by kernel_rfl) (by kernel_rfl) (fun _ _ _ h => h) (Or.inl ⟨by rfl, ?_⟩) hHeld ?_
    case refine_2 => (intro w hSw; (try dsimp only at hSw); go_simp <;> with_reducible rfl)
    try simp only [Act.put, List.setIfInBounds_toArray, List.set_cons_zero, List.set_cons_succ]
    refine wpAnyH_ready (rs := [6]) (by kernel_rfl) (by simp) ?_
    refine AllReadyH.cons (o := { dst := some 130, op := Go.Op.call { callee := Go.Callee.value (Go.Operand.func 19), args := #[Go.Operand.tmp 129], argTypes := #[9] }, type := 9, pos := "law.go:115", after := #[{ on := 5, ground := Go.Ground.data }], guard := none }) rfl (fun KK hK => ?_) AllReadyH.nil
    go_simp
    with_reducible refine (trimEnd_any ⟨vf.toArray⟩ _ (by rw [arr_size]; omega)).mono ?_
    rintro x wz ⟨rfl, rfl⟩
    go_wp2_with fail
    refine hK.out _ _ hHeld (fun _ => ?_)
    clear hK
    try simp only [Act.put, List.setIfInBounds_toArray, List.set_cons_zero, List.set_cons_succ]
    refine wpAnyH_take (i := 7) (oi := { dst := some 131, op := Go.Op.call { callee := Go.Callee.builtin Go.Builtin.len, args := #[Go.Operand.tmp 130], argTypes := #[9] }, type := 3, pos := "law.go:115", after := #[{ on := 6, ground := Go.Ground.data }], guard := none }) (v := ?_) rfl (by kernel_rfl) (by kernel_rfl) (by kernel_rfl) (fun _ _ _ h => h) (Or.inl ⟨by rfl, ?_⟩) hHeld ?_
    case refine_2 => (intro w hSw; (try dsimp only at hSw); go_simp <;> with_reducible rfl)
    try simp only [Act.put, List.setIfInBounds_toArray, List.set_cons_zero, List.set_cons_succ]
    refine wpAnyH_take (i := 8) (oi := { dst := some 132, op := Go.Op.call { callee := Go.Callee.builtin Go.Builtin.max, args := #[Go.Operand.tmp 127, Go.Operand.tmp 131], argTypes := #[3, 3] }, type := 3, pos := "law.go:115", after := #[{ on := 3, ground := Go.Ground.data }, { on := 7, ground := Go.Ground.data }], guard := none }) (v := ?_) rfl (by kernel_rfl) (by kernel_rfl) (by kernel_rfl) (fun _ _ _ h => h) (Or.inl ⟨by rfl, ?_⟩) hHeld ?_
    case refine_2 => (intro w hSw; (try dsimp only at hSw); go_simp <;> with_reducible rfl)
    try simp only [Act.put, List.setIfInBounds_toArray, List.set_cons_zero, List.set_cons_succ]
    refine wpAnyH_take (i := 9) (oi := { dst := some 133, op := Go.Op.binOp Go.BinOp.eql 3 (Go.Operand.tmp 126) (Go.Operand.tmp 132) 3, type := 4, pos := "law.go:115", after := #[{ on := 2, ground := Go.Ground.data }, { on := 8, ground := Go.Ground.data }], guard := none }) (v := ?_) rfl (by kernel_rfl) (by kernel_rfl) (by kernel_rfl) (fun _ _ _ h => h) (Or.inl ⟨by rfl, ?_⟩) hHeld ?_
    case refine_2 => (intro w hSw; (try dsimp only at hSw); go_simp <;> with_reducible rfl)
    try simp only [Act.put, List.setIfInBounds_toArray, List.set_cons_zero, List.set_cons_succ]
    refine wpAnyH_take (i := 10) (oi := { dst := some 134, op := Go.Op.move (Go.Operand.tmp 133), type := 4, pos := "law.go:115", after := #[{ on := 9, ground := Go.Ground.data }, { on := 6, ground := Go.Ground.chain }], guard := none }) (v := ?_) rfl (by kernel_rfl) (by kernel_rfl) (by kernel_rfl) (fun _ _ _ h => h) (Or.inl ⟨by rfl, ?_⟩) hHeld ?_
    case refine_2 => (intro w hSw; (try dsimp only at hSw); go_simp <;> with_reducible rfl)
    try simp only [Act.put, List.setIfInBounds_toArray, List.set_cons_zero, List.set_cons_succ]
    refine wpAnyH_take (i := 11) (oi := { dst := some 135, op := Go.Op.fieldAddr 34 (Go.Operand.tmp 5) 0, type := 0, pos := "law.go:115", after := #[{ on := 10, ground := Go.Ground.guard }], guard := some (10, true) }) (v := ?_) rfl (by kernel_rfl) (by kernel_rfl) (by kernel_rfl) (fun _ _ _ h => h) (Or.inl ⟨by rfl, ?_⟩) hHeld ?_
    case refine_2 => (intro w hSw; (try dsimp only at hSw); go_simp <;> with_reducible rfl)
    try simp only [Act.put, List.setIfInBounds_toArray, List.set_cons_zero, List.set_cons_succ]
    refine wpAnyH_take (i := 12) (oi := { dst := some 136, op := Go.Op.load 29 (Go.Operand.tmp 135), type := 29, pos := "law.go:115", after := #[{ on := 11, ground := Go.Ground.data }, { on := 10, ground := Go.Ground.guard }], guard := some (10, true) }) (v := ?_) rfl (by kernel_rfl) (by kernel_rfl) (by kernel_rfl) (fun _ _ _ h => h) (Or.inl ⟨by rfl, ?_⟩) hHeld ?_
    case refine_2 => (intro w hSw; (try dsimp only at hSw); go_simp <;> with_reducible rfl)
    try simp only [Act.put, List.setIfInBounds_toArray, List.set_cons_zero, List.set_cons_succ]
    refine wpAnyH_take (i := 13) (oi := { dst := some 137, op := Go.Op.binOp Go.BinOp.eql 29 (Go.Operand.tmp 136) (Go.Operand.const (Go.Value.int Go.IntKind.i64 2)) 29, type := 4, pos := "law.go:115", after := #[{ on := 12, ground := Go.Ground.data }, { on := 10, ground := Go.Ground.guard }], guard := some (10, true) }) (v := ?_) rfl (by kernel_rfl) (by kernel_rfl) (by kernel_rfl) (fun _ _ _ h => h) (Or.inl ⟨by rfl, ?_⟩) hHeld ?_
    case refine_2 => (intro w hSw; (try dsimp only at hSw); go_simp <;> with_reducible rfl)
    try simp only [Act.put, List.setIfInBounds_toArray, List.set_cons_zero, List.set_cons_succ]
    refine wpAnyH_take (i := 14) (oi := { dst := some 138, op := Go.Op.move (Go.Operand.tmp 137), type := 4, pos := "law.go:115", after := #[{ on := 13, ground := Go.Ground.data }, { on := 10, ground := Go.Ground.chain }, { on := 10, ground := Go.Ground.guard }], guard := some (10, true) }) (v := ?_) rfl (by kernel_rfl) (by kernel_rfl) (by kernel_rfl) (fun _ _ _ h => h) (Or.inl ⟨by rfl, ?_⟩) hHeld ?_
    case refine_2 => (intro w hSw; (try dsimp only at hSw); go_simp <;> with_reducible rfl)
    try simp only [Act.put, List.setIfInBounds_toArray, List.set_cons_zero, List.set_cons_succ]
    refine wpAnyH_take (i := 15) (oi := { dst := some 139, op := Go.Op.fieldAddr 37 (Go.Operand.tmp 6) 2, type := 0, pos := "law.go:115", after := #[{ on := 14, ground := Go.Ground.guard }], guard := some (14, false) }) (v := undef) rfl (by kernel_rfl) (by kernel_rfl) (by kernel_rfl) (fun _ _ _ h => h) (Or.inr ⟨by rfl, rfl⟩) hHeld ?_
    try simp only [Act.put, List.setIfInBounds_toArray, List.set_cons_zero, List.set_cons_succ]
    refine wpAnyH_take (i := 16) (oi := { dst := some 140, op := Go.Op.load 9 (Go.Operand.tmp 139), type := 9, pos := "law.go:115", after := #[{ on := 15, ground := Go.Ground.data }, { on := 14, ground := Go.Ground.guard }], guard := some (14, false) }) (v := undef) rfl (by kernel_rfl) (by kernel_rfl) (by kernel_rfl) (fun _ _ _ h => h) (Or.inr ⟨by rfl, rfl⟩) hHeld ?_
    try simp only [Act.put, List.setIfInBounds_toArray, List.set_cons_zero, List.set_cons_succ]
    refine wpAnyH_take (i := 17) (oi := { dst := some 141, op := Go.Op.call { callee := Go.Callee.builtin Go.Builtin.len, args := #[Go.Operand.tmp 140], argTypes := #[9] }, type := 3, pos := "law.go:115", after := #[{ on := 16, ground := Go.Ground.data }, { on := 14, ground := Go.Ground.guard }], guard := some (14, false) }) (v := undef) rfl (by kernel_rfl) (by kernel_rfl) (by kernel_rfl) (fun _ _ _ h => h) (Or.inr ⟨by rfl, rfl⟩) hHeld ?_
    try simp only [Act.put, List.setIfInBounds_toArray, List.set_cons_zero, List.set_cons_succ]
    refine wpAnyH_take (i := 18) (oi := { dst := some 142, op := Go.Op.binOp Go.BinOp.leq 3 (Go.Operand.tmp 141) (Go.Operand.const (Go.Value.int Go.IntKind.i64 200)) 3, type := 4, pos := "law.go:115", after := #[{ on := 17, ground := Go.Ground.data }, { on := 14, ground := Go.Ground.guard }], guard := some (14, false) }) (v := undef) rfl (by kernel_rfl) (by kernel_rfl) (by kernel_rfl) (fun _ _ _ h => h) (Or.inr ⟨by rfl, rfl⟩) hHeld ?_
    try simp only [Act.put, List.setIfInBounds_toArray, List.set_cons_zero, List.set_cons_succ]
    refine wpAnyH_take (i := 19) (oi := { dst := some 143, op := Go.Op.pick (Go.Operand.tmp 138) (Go.Operand.const (Go.Value.bool true)) (Go.Operand.tmp 142), type := 4, pos := "law.go:115", after := #[{ on := 14, ground := Go.Ground.data }, { on := 18, ground := Go.Ground.data }, { on := 10, ground := Go.Ground.guard }], guard := some (10, true) }) (v := ?_) rfl (by kernel_rfl) (by kernel_rfl) (by kernel_rfl) (fun _ _ _ h => h) (Or.inl ⟨by rfl, ?_⟩) hHeld ?_
    case refine_2 => (intro w hSw; (try dsimp only at hSw); go_simp <;> with_reducible rfl)
    try simp only [Act.put, List.setIfInBounds_toArray, List.set_cons_zero, List.set_cons_succ]
    refine wpAnyH_take (i := 20) (oi := { dst := some 144, op := Go.Op.pick (Go.Operand.tmp 134) (Go.Operand.tmp 143) (Go.Operand.const (Go.Value.bool false)), type := 4, pos := "law.go:115", after := #[{ on := 10, ground := Go.Ground.data }, { on := 19, ground := Go.Ground.data }], guard := none }) (v := ?_) rfl (by kernel_rfl) (by kernel_rfl) (by kernel_rfl) (fun _ _ _ h => h) (Or.inl ⟨by rfl, ?_⟩) hHeld ?_
    case refine_2 => (intro w hSw; (try dsimp only at hSw); go_simp <;> with_reducible rfl)
    try simp only [Act.put, List.setIfInBounds_toArray, List.set_cons_zero, List.set_cons_succ]
    refine wpAnyH_take (i := 21) (oi := { dst := some 4, op := Go.Op.assign (Go.Operand.tmp 144), type := 4, pos := "law.go:115", after := #[{ on := 20, ground := Go.Ground.data }, { on := 14, ground := Go.Ground.chain }, { on := 0, ground := Go.Ground.phase }, { on := 1, ground := Go.Ground.phase }, { on := 2, ground := Go.Ground.phase }, { on := 3, ground := Go.Ground.phase }, { on := 4, ground := Go.Ground.phase }, { on := 5, ground := Go.Ground.phase }, { on := 6, ground := Go.Ground.phase }, { on := 7, ground := Go.Ground.phase }, { on := 8, ground := Go.Ground.phase }, { on := 9, ground := Go.Ground.phase }, { on := 10, ground := Go.Ground.phase }, { on := 11, ground := Go.Ground.phase }, { on := 12, ground := Go.Ground.phase }, { on := 13, ground := Go.Ground.phase }, { on := 14, ground := Go.Ground.phase }, { on := 15, ground := Go.Ground.phase }, { on := 16, ground := Go.Ground.phase }, { on := 17, ground := Go.Ground.phase }, { on := 18, ground := Go.Ground.phase }, { on := 19, ground := Go.Ground.phase }, { on := 20, ground := Go.Ground.phase }], guard := none }) (v := ?_) rfl (by kernel_rfl) (by kernel_rfl) (by kernel_rfl) (fun _ _ _ h => h) (Or.inl ⟨by rfl, ?_⟩) hHeld ?_
    case refine_2 => (intro w hSw; (try dsimp only at hSw); go_simp <;> with_reducible rfl)
    try simp only [Act.put, List.setIfInBounds_toArray, List.set_cons_zero, List.set_cons_succ]
    refine wpAnyH_done (by kernel_rfl) ?_ _
    have H7 : Hid (HeldL w [(b5, #[.bool g.neg, S g.l, .int .i64 g.e]), (b4, #[.bool g.neg, S vi, S vf]), (w3.heap.size, #[.int .i64 p.kind, .int .i64 p.mn, .int .i64 p.mx, .bool p.inc.neg, S p.inc.l, .int .i64 p.inc.e, .int .i64 p.mode, .int .i64 p.mi]), (w.heap.size + 1, #[.int .i64 k0, .int .i64 k1, .int .i64 k2, .int .i64 k3, .int .i64 k4, .int .i64 k5, .int .i64 k6]), (w.heap.size, #[.bool n, .slice a len cap, .int .i64 e])] _) := Lib.hid (hHeld.2.2.2.2.2.2.2.2.2.2.2)
    clear hHeld ALL3 KEEP3 HS3 TAB3 H6
    go_wp2
    go_ret
    exact ⟨rfl, H7.out.bel⟩
  | false =>
    go_wp2_with fail
    have ALL3 : Hid (∀ w' : World, HeldL w [(b5, #[.bool g.neg, S g.l, .int .i64 g.e]), (b4, #[.bool g.neg, S vi, S vf]), (w3.heap.size, #[.int .i64 p.kind, .int .i64 p.mn, .int .i64 p.mx, .bool p.inc.neg, S p.inc.l, .int .i64 p.inc.e, .int .i64 p.mode, .int .i64 p.mi]), (w.heap.size + 1, #[.int .i64 k0, .int .i64 k1, .int .i64 k2, .int .i64 k3, .int .i64 k4, .int .i64 k5, .int .i64 k6]), (w.heap.size, #[.bool n, .slice a len cap, .int .i64 e])] w' → w'.cell? ⟨b4, 0, none⟩ = some (.bool g.neg) ∧ w'.cell? ⟨b4, 1, none⟩ = some (S vi) ∧ w'.cell? ⟨b4, 2, none⟩ = some (S vf) ∧ w'.cell? ⟨w3.heap.size, 0, none⟩ = some (.int .i64 p.kind) ∧ w'.cell? ⟨w3.heap.size, 1, none⟩ = some (.int .i64 p.mn) ∧ w'.cell? ⟨w3.heap.size, 2, none⟩ = some (.int .i64 p.mx) ∧ w'.cell? ⟨w3.heap.size, 3, none⟩ = some (.bool p.inc.neg) ∧ w'.cell? ⟨w3.heap.size, 4, none⟩ = some (S p.inc.l) ∧ w'.cell? ⟨w3.heap.size, 5, none⟩ = some (.int .i64 p.inc.e) ∧ w'.cell? ⟨w3.heap.size, 6, none⟩ = some (.int .i64 p.mode) ∧ w'.cell? ⟨w3.heap.size, 7, none⟩ = some (.int .i64 p.mi) ∧ HeldL w [(b5, #[.bool g.neg, S g.l, .int .i64 g.e]), (b4, #[.bool g.neg, S vi, S vf]), (w3.heap.size, #[.int .i64 p.kind, .int .i64 p.mn, .int .i64 p.mx, .bool p.inc.neg, S p.inc.l, .int .i64 p.inc.e, .int .i64 p.mode, .int .i64 p.mi]), (w.heap.size + 1, #[.int .i64 k0, .int .i64 k1, .int .i64 k2, .int .i64 k3, .int .i64 k4, .int .i64 k5, .int .i64 k6]), (w.heap.size, #[.bool n, .slice a len cap, .int .i64 e])] w') := Lib.hid (fun w' h => ⟨(h.f (List.Mem.tail _ (List.Mem.head _))).cell 0, (h.f (List.Mem.tail _ (List.Mem.head _))).cell 1, (h.f (List.Mem.tail _ (List.Mem.head _))).cell 2, (h.f (List.Mem.tail _ (List.Mem.tail _ (List.Mem.head _)))).cell 0, (h.f (List.Mem.tail _ (List.Mem.tail _ (List.Mem.head _)))).cell 1, (h.f (List.Mem.tail _ (List.Mem.tail _ (List.Mem.head _)))).cell 2, (h.f (List.Mem.tail _ (List.Mem.tail _ (List.Mem.head _)))).cell 3, (h.f (List.Mem.tail _ (List.Mem.tail _ (List.Mem.head _)))).cell 4, (h.f (List.Mem.tail _ (List.Mem.tail _ (List.Mem.head _)))).cell 5, (h.f (List.Mem.tail _ (List.Mem.tail _ (List.Mem.head _)))).cell 6, (h.f (List.Mem.tail _ (List.Mem.tail _ (List.Mem.head _)))).cell 7, h⟩)
    have KEEP3 : Hid (∀ w' w'' : World, (w'.cell? ⟨b4, 0, none⟩ = some (.bool g.neg) ∧ w'.cell? ⟨b4, 1, none⟩ = some (S vi) ∧ w'.cell? ⟨b4, 2, none⟩ = some (S vf) ∧ w'.cell? ⟨w3.heap.size, 0, none⟩ = some (.int .i64 p.kind) ∧ w'.cell? ⟨w3.heap.size, 1, none⟩ = some (.int .i64 p.mn) ∧ w'.cell? ⟨w3.heap.size, 2, none⟩ = some (.int .i64 p.mx) ∧ w'.cell? ⟨w3.heap.size, 3, none⟩ = some (.bool p.inc.neg) ∧ w'.cell? ⟨w3.heap.size, 4, none⟩ = some (S p.inc.l) ∧ w'.cell? ⟨w3.heap.size, 5, none⟩ = some (.int .i64 p.inc.e) ∧ w'.cell? ⟨w3.heap.size, 6, none⟩ = some (.int .i64 p.mode) ∧ w'.cell? ⟨w3.heap.size, 7, none⟩ = some (.int .i64 p.mi) ∧ HeldL w [(b5, #[.bool g.neg, S g.l, .int .i64 g.e]), (b4, #[.bool g.neg, S vi, S vf]), (w3.heap.size, #[.int .i64 p.kind, .int .i64 p.mn, .int .i64 p.mx, .bool p.inc.neg, S p.inc.l, .int .i64 p.inc.e, .int .i64 p.mode, .int .i64 p.mi]), (w.heap.size + 1, #[.int .i64 k0, .int .i64 k1, .int .i64 k2, .int .i64 k3, .int .i64 k4, .int .i64 k5, .int .i64 k6]), (w.heap.size, #[.bool n, .slice a len cap, .int .i64 e])] w') → Below w'.heap.size w' w'' → (w''.cell? ⟨b4, 0, none⟩ = some (.bool g.neg) ∧ w''.cell? ⟨b4, 1, none⟩ = some (S vi) ∧ w''.cell? ⟨b4, 2, none⟩ = some (S vf) ∧ w''.cell? ⟨w3.heap.size, 0, none⟩ = some (.int .i64 p.kind) ∧ w''.cell? ⟨w3.heap.size, 1, none⟩ = some (.int .i64 p.mn) ∧ w''.cell? ⟨w3.heap.size, 2, none⟩ = some (.int .i64 p.mx) ∧ w''.cell? ⟨w3.heap.size, 3, none⟩ = some (.bool p.inc.neg) ∧ w''.cell? ⟨w3.heap.size, 4, none⟩ = some (S p.inc.l) ∧ w''.cell? ⟨w3.heap.size, 5, none⟩ = some (.int .i64 p.inc.e) ∧ w''.cell? ⟨w3.heap.size, 6, none⟩ = some (.int .i64 p.mode) ∧ w''.cell? ⟨w3.heap.size, 7, none⟩ = some (.int .i64 p.mi) ∧ HeldL w [(b5, #[.bool g.neg, S g.l, .int .i64 g.e]), (b4, #[.bool g.neg, S vi, S vf]), (w3.heap.size, #[.int .i64 p.kind, .int .i64 p.mn, .int .i64 p.mx, .bool p.inc.neg, S p.inc.l, .int .i64 p.inc.e, .int .i64 p.mode, .int .i64 p.mi]), (w.heap.size + 1, #[.int .i64 k0, .int .i64 k1, .int .i64 k2, .int .i64 k3, .int .i64 k4, .int .i64 k5, .int .i64 k6]), (w.heap.size, #[.bool n, .slice a len cap, .int .i64 e])] w'')) := Lib.hid (fun w' w'' h hb => ALL3.out _ (HeldL.keep (h.2.2.2.2.2.2.2.2.2.2.2) hb))
    have HS3 : Hid (HeldL w [(b5, #[.bool g.neg, S g.l, .int .i64 g.e]), (b4, #[.bool g.neg, S vi, S vf]), (w3.heap.size, #[.int .i64 p.kind, .int .i64 p.mn, .int .i64 p.mx, .bool p.inc.neg, S p.inc.l, .int .i64 p.inc.e, .int .i64 p.mode, .int .i64 p.mi]), (w.heap.size + 1, #[.int .i64 k0, .int .i64 k1, .int .i64 k2, .int .i64 k3, .int .i64 k4, .int .i64 k5, .int .i64 k6]), (w.heap.size, #[.bool n, .slice a len cap, .int .i64 e])] _) := Lib.hid H6.out
    have TAB3 : Hid (∀ w' : World, (w'.cell? ⟨b4, 0, none⟩ = some (.bool g.neg) ∧ w'.cell? ⟨b4, 1, none⟩ = some (S vi) ∧ w'.cell? ⟨b4, 2, none⟩ = some (S vf) ∧ w'.cell? ⟨w3.heap.size, 0, none⟩ = some (.int .i64 p.kind) ∧ w'.cell? ⟨w3.heap.size, 1, none⟩ = some (.int .i64 p.mn) ∧ w'.cell? ⟨w3.heap.size, 2, none⟩ = some (.int .i64 p.mx) ∧ w'.cell? ⟨w3.heap.size, 3, none⟩ = some (.bool p.inc.neg) ∧ w'.cell? ⟨w3.heap.size, 4, none⟩ = some (S p.inc.l) ∧ w'.cell? ⟨w3.heap.size, 5, none⟩ = some (.int .i64 p.inc.e) ∧ w'.cell? ⟨w3.heap.size, 6, none⟩ = some (.int .i64 p.mode) ∧ w'.cell? ⟨w3.heap.size, 7, none⟩ = some (.int .i64 p.mi) ∧ HeldL w [(b5, #[.bool g.neg, S g.l, .int .i64 g.e]), (b4, #[.bool g.neg, S vi, S vf]), (w3.heap.size, #[.int .i64 p.kind, .int .i64 p.mn, .int .i64 p.mx, .bool p.inc.neg, S p.inc.l, .int .i64 p.inc.e, .int .i64 p.mode, .int .i64 p.mi]), (w.heap.size + 1, #[.int .i64 k0, .int .i64 k1, .int .i64 k2, .int .i64 k3, .int .i64 k4, .int .i64 k5, .int .i64 k6]), (w.heap.size, #[.bool n, .slice a len cap, .int .i64 e])] w') → Tab w') := Lib.hid (fun w' h => HT.out.below (h.2.2.2.2.2.2.2.2.2.2.2).bel)
    refine wp_region_held_drew (S := fun w' => w'.cell? ⟨b4, 0, none⟩ = some (.bool g.neg) ∧ w'.cell? ⟨b4, 1, none⟩ = some (S vi) ∧ w'.cell? ⟨b4, 2, none⟩ = some (S vf) ∧ w'.cell? ⟨w3.heap.size, 0, none⟩ = some (.int .i64 p.kind) ∧ w'.cell? ⟨w3.heap.size, 1, none⟩ = some (.int .i64 p.mn) ∧ w'.cell? ⟨w3.heap.size, 2, none⟩ = some (.int .i64 p.mx) ∧ w'.cell? ⟨w3.heap.size, 3, none⟩ = some (.bool p.inc.neg) ∧ w'.cell? ⟨w3.heap.size, 4, none⟩ = some (S p.inc.l) ∧ w'.cell? ⟨w3.heap.size, 5, none⟩ = some (.int .i64 p.inc.e) ∧ w'.cell? ⟨w3.heap.size, 6, none⟩ = some (.int .i64 p.mode) ∧ w'.cell? ⟨w3.heap.size, 7, none⟩ = some (.int .i64 p.mi) ∧ HeldL w [(b5, #[.bool g.neg, S g.l, .int .i64 g.e]), (b4, #[.bool g.neg, S vi, S vf]), (w3.heap.size, #[.int .i64 p.kind, .int .i64 p.mn, .int .i64 p.mx, .bool p.inc.neg, S p.inc.l, .int .i64 p.inc.e, .int .i64 p.mode, .int .i64 p.mi]), (w.heap.size + 1, #[.int .i64 k0, .int .i64 k1, .int .i64 k2, .int .i64 k3, .int .i64 k4, .int .i64 k5, .int .i64 k6]), (w.heap.size, #[.bool n, .slice a len cap, .int .i64 e])] w') (by kernel_rfl) (ALL3.out _ (HeldL.drew HS3.out)) (fun hHeld => ?_)
    refine wpAnyH_take (i := 0) (oi := { dst := some 124, op := Go.Op.fieldAddr 37 (Go.Operand.tmp 6) 2, type := 0, pos := "law.go:115", after := #[], guard := none }) (v := ?_) rfl (by kernel_rfl) (by kernel_rfl) (by kernel_rfl) (fun _ _ _ h => h) (Or.inl ⟨by rfl, ?_⟩) hHeld ?_
    case refine_2 => (intro w hSw; (try dsimp only at hSw); go_simp <;> with_reducible rfl)
    try simp only [Act.put, List.setIfInBounds_toArray, List.set_cons_zero, List.set_cons_succ]
    refine wpAnyH_take (i := 1) (oi := { dst := some 125, op := Go.Op.load 9 (Go.Operand.tmp 124), type := 9, pos := "law.go:115", after := #[{ on := 0, ground := Go.Ground.data }], guard := none }) (v := ?_) rfl (by kernel_rfl) (by kernel_rfl) (by kernel_rfl) (fun _ _ _ h => h) (Or.inl ⟨by rfl, ?_⟩) hHeld ?_
    case refine_2 => (intro w hSw; (try dsimp only at hSw); go_simp <;> with_reducible rfl)
    try simp only [Act.put, List.setIfInBounds_toArray, List.set_cons_zero, List.set_cons_succ]
    refine wpAnyH_take (i := 2) (oi := { dst := some 126, op := Go.Op.call { callee := Go.Callee.builtin Go.Builtin.len, args := #[Go.Operand.tmp 125], argTypes := #[9] }, type := 3, pos := "law.go:115", after := #[{ on := 1, ground := Go.Ground.data }], guard := none }) (v := ?_) rfl (by kernel_rfl) (by kernel_rfl) (by kernel_rfl) (fun _ _ _ h => h) (Or.inl ⟨by rfl, ?_⟩) hHeld ?_
    case refine_2 => (intro w hSw; (try dsimp only at hSw); go_simp <;> with_reducible rfl)
    try simp only [Act.put, List.setIfInBounds_toArray, List.set_cons_zero, List.set_cons_succ]
    refine wpAnyH_take (i := 3) (oi := { dst := some 127, op := Go.Op.move (Go.Operand.tmp 11), type := 3, pos := "law.go:115", after := #[], guard := none }) (v := ?_) rfl (by kernel_rfl) (by kernel_rfl) (by kernel_rfl) (fun _ _ _ h => h) (Or.inl ⟨by rfl, ?_⟩) hHeld ?_
    case refine_2 => (intro w hSw; (try dsimp only at hSw); go_simp <;> with_reducible rfl)
    try simp only [Act.put, List.setIfInBounds_toArray, List.set_cons_zero, List.set_cons_succ]
    refine wpAnyH_take (i := 4) (oi := { dst := some 128, op := Go.Op.fieldAddr 37 (Go.Operand.tmp 6) 2, type := 0, pos := "law.go:115", after := #[], guard := none }) (v := ?_) rfl (by kernel_rfl) (by kernel_rfl) (by kernel_rfl) (fun _ _ _ h => h) (Or.inl ⟨by rfl, ?_⟩) hHeld ?_
    case refine_2 => (intro w hSw; (try dsimp only at hSw); go_simp <;> with_reducible rfl)
    try simp only [Act.put, List.setIfInBounds_toArray, List.set_cons_zero, List.set_cons_succ]
    refine wpAnyH_take (i := 5) (oi := { dst := some 129, op := Go.Op.load 9 (Go.Operand.tmp 128), type := 9, pos := "law.go:115", after := #[{ on := 4, ground := Go.Ground.data }], guard := none }) (v := ?_) rfl (by kernel_rfl) (by kernel_rfl) (by kernel_rfl) (fun _ _ _ h => h) (Or.inl ⟨by rfl, ?_⟩) hHeld ?_
    case refine_2 => (intro w hSw; (try dsimp only at hSw); go_simp <;> with_reducible rfl)
    try simp only [Act.put, List.setIfInBounds_toArray, List.set_cons_zero, List.set_cons_succ]
    refine wpAnyH_ready (rs := [6]) (by kernel_rfl) (by simp) ?_
    refine AllReadyH.cons (o := { dst := some 130, op := Go.Op.call { callee := Go.Callee.value (Go.Operand.func 19), args := #[Go.Operand.tmp 129], argTypes := #[9] }, type := 9, pos := "law.go:115", after := #[{ on := 5, ground := Go.Ground.data }], guard := none }) rfl (fun KK hK => ?_) AllReadyH.nil
    go_simp
    with_reducible refine (trimEnd_any ⟨vf.toArray⟩ _ (by rw [arr_size]; omega)).mono ?_
    rintro x wz ⟨rfl, rfl⟩
    go_wp2_with fail
    refine hK.out _ _ hHeld (fun _ => ?_)
    clear hK
    try simp only [Act.put, List.setIfInBounds_toArray, List.set_cons_zero, List.set_cons_succ]
    refine wpAnyH_take (i := 7) (oi := { dst := some 131, op := Go.Op.call { callee := Go.Callee.builtin Go.Builtin.len, args := #[Go.Operand.tmp 130], argTypes := #[9] }, type := 3, pos := "law.go:115", after := #[{ on := 6, ground := Go.Ground.data }], guard := none }) (v := ?_) rfl (by kernel_rfl) (by kernel_rfl) (by kernel_rfl) (fun _ _ _ h => h) (Or.inl ⟨by rfl, ?_⟩) hHeld ?_
    case refine_2 => (intro w hSw; (try dsimp only at hSw); go_simp <;> with_reducible rfl)
    try simp only [Act.put, List.setIfInBounds_toArray, List.set_cons_zero, List.set_cons_succ]
    refine wpAnyH_take (i := 8) (oi := { dst := some 132, op := Go.Op.call { callee := Go.Callee.builtin Go.Builtin.max, args := #[Go.Operand.tmp 127, Go.Operand.tmp 131], argTypes := #[3, 3] }, type := 3, pos := "law.go:115", after := #[{ on := 3, ground := Go.Ground.data }, { on := 7, ground := Go.Ground.data }], guard := none }) (v := ?_) rfl (by kernel_rfl) (by kernel_rfl) (by kernel_rfl) (fun _ _ _ h => h) (Or.inl ⟨by rfl, ?_⟩) hHeld ?_
    case refine_2 => (intro w hSw; (try dsimp only at hSw); go_simp <;> with_reducible rfl)
    try simp only [Act.put, List.setIfInBounds_toArray, List.set_cons_zero, List.set_cons_succ]
    refine wpAnyH_take (i := 9) (oi := { dst := some 133, op := Go.Op.binOp Go.BinOp.eql 3 (Go.Operand.tmp 126) (Go.Operand.tmp 132) 3, type := 4, pos := "law.go:115", after := #[{ on := 2, ground := Go.Ground.data }, { on := 8, ground := Go.Ground.data }], guard := none }) (v := ?_) rfl (by kernel_rfl) (by kernel_rfl) (by kernel_rfl) (fun _ _ _ h => h) (Or.inl ⟨by rfl, ?_⟩) hHeld ?_
    case refine_2 => (intro w hSw; (try dsimp only at hSw); go_simp <;> with_reducible rfl)
    try simp only [Act.put, List.setIfInBounds_toArray, List.set_cons_zero, List.set_cons_succ]
    refine wpAnyH_take (i := 10) (oi := { dst := some 134, op := Go.Op.move (Go.Operand.tmp 133), type := 4, pos := "law.go:115", after := #[{ on := 9, ground := Go.Ground.data }, { on := 6, ground := Go.Ground.chain }], guard := none }) (v := ?_) rfl (by kernel_rfl) (by kernel_rfl) (by kernel_rfl) (fun _ _ _ h => h) (Or.inl ⟨by rfl, ?_⟩) hHeld ?_
    case refine_2 => (intro w hSw; (try dsimp only at hSw); go_simp <;> with_reducible rfl)
    try simp only [Act.put, List.setIfInBounds_toArray, List.set_cons_zero, List.set_cons_succ]
    refine wpAnyH_take (i := 11) (oi := { dst := some 135, op := Go.Op.fieldAddr 34 (Go.Operand.tmp 5) 0, type := 0, pos := "law.go:115", after := #[{ on := 10, ground := Go.Ground.guard }], guard := some (10, true) }) (v := ?_) rfl (by kernel_rfl) (by kernel_rfl) (by kernel_rfl) (fun _ _ _ h => h) (Or.inl ⟨by rfl, ?_⟩) hHeld ?_
    case refine_2 => (intro w hSw; (try dsimp only at hSw); go_simp <;> with_reducible rfl)
    try simp only [Act.put, List.setIfInBounds_toArray, List.set_cons_zero, List.set_cons_succ]
    refine wpAnyH_take (i := 12) (oi := { dst := some 136, op := Go.Op.load 29 (Go.Operand.tmp 135), type := 29, pos := "law.go:115", after := #[{ on := 11, ground := Go.Ground.data }, { on := 10, ground := Go.Ground.guard }], guard := some (10, true) }) (v := ?_) rfl (by kernel_rfl) (by kernel_rfl) (by kernel_rfl) (fun _ _ _ h => h) (Or.inl ⟨by rfl, ?_⟩) hHeld ?_
    case refine_2 => (intro w hSw; (try dsimp only at hSw); go_simp <;> with_reducible rfl)
    try simp only [Act.put, List.setIfInBounds_toArray, List.set_cons_zero, List.set_cons_succ]
    refine wpAnyH_take (i := 13) (oi := { dst := some 137, op := Go.Op.binOp Go.BinOp.eql 29 (Go.Operand.tmp 136) (Go.Operand.const (Go.Value.int Go.IntKind.i64 2)) 29, type := 4, pos := "law.go:115", after := #[{ on := 12, ground := Go.Ground.data }, { on := 10, ground := Go.Ground.guard }], guard := some (10, true) }) (v := ?_) rfl (by kernel_rfl) (by kernel_rfl) (by kernel_rfl) (fun _ _ _ h => h) (Or.inl ⟨by rfl, ?_⟩) hHeld ?_
    case refine_2 => (intro w hSw; (try dsimp only at hSw); go_simp <;> with_reducible rfl)
    try simp only [Act.put, List.setIfInBounds_toArray, List.set_cons_zero, List.set_cons_succ]
    refine wpAnyH_take (i := 14) (oi := { dst := some 138, op := Go.Op.move (Go.Operand.tmp 137), type := 4, pos := "law.go:115", after := #[{ on := 13, ground := Go.Ground.data }, { on := 10, ground := Go.Ground.chain }, { on := 10, ground := Go.Ground.guard }], guard := some (10, true) }) (v := ?_) rfl (by kernel_rfl) (by kernel_rfl) (by kernel_rfl) (fun _ _ _ h => h) (Or.inl ⟨by rfl, ?_⟩) hHeld ?_
    case refine_2 => (intro w hSw; (try dsimp only at hSw); go_simp <;> with_reducible rfl)
    try simp only [Act.put, List.setIfInBounds_toArray, List.set_cons_zero, List.set_cons_succ]
    refine wpAnyH_take (i := 15) (oi := { dst := some 139, op := Go.Op.fieldAddr 37 (Go.Operand.tmp 6) 2, type := 0, pos := "law.go:115", after := #[{ on := 14, ground := Go.Ground.guard }], guard := some (14, false) }) (v := ?_) rfl (by kernel_rfl) (by kernel_rfl) (by kernel_rfl) (fun _ _ _ h => h) (Or.inl ⟨by rfl, ?_⟩) hHeld ?_
    case refine_2 => (intro w hSw; (try dsimp only at hSw); go_simp <;> with_reducible rfl)
    try simp only [Act.put, List.setIfInBounds_toArray, List.set_cons_zero, List.set_cons_succ]
    refine wpAnyH_take (i := 16) (oi := { dst := some 140, op := Go.Op.load 9 (Go.Operand.tmp 139), type := 9, pos := "law.go:115", after := #[{ on := 15, ground := Go.Ground.data }, { on := 14, ground := Go.Ground.guard }], guard := some (14, false) }) (v := ?_) rfl (by kernel_rfl) (by kernel_rfl) (by kernel_rfl) (fun _ _ _ h => h) (Or.inl ⟨by rfl, ?_⟩) hHeld ?_
    case refine_2 => (intro w hSw; (try dsimp only at hSw); go_simp <;> with_reducible rfl)
    try simp only [Act.put, List.setIfInBounds_toArray, List.set_cons_zero, List.set_cons_succ]
    refine wpAnyH_take (i := 17) (oi := { dst := some 141, op := Go.Op.call { callee := Go.Callee.builtin Go.Builtin.len, args := #[Go.Operand.tmp 140], argTypes := #[9] }, type := 3, pos := "law.go:115", after := #[{ on := 16, ground := Go.Ground.data }, { on := 14, ground := Go.Ground.guard }], guard := some (14, false) }) (v := ?_) rfl (by kernel_rfl) (by kernel_rfl) (by kernel_rfl) (fun _ _ _ h => h) (Or.inl ⟨by rfl, ?_⟩) hHeld ?_
    case refine_2 => (intro w hSw; (try dsimp only at hSw); go_simp <;> with_reducible rfl)
    try simp only [Act.put, List.setIfInBounds_toArray, List.set_cons_zero, List.set_cons_succ]
    refine wpAnyH_take (i := 18) (oi := { dst := some 142, op := Go.Op.binOp Go.BinOp.leq 3 (Go.Operand.tmp 141) (Go.Operand.const (Go.Value.int Go.IntKind.i64 200)) 3, type := 4, pos := "law.go:115", after := #[{ on := 17, ground := Go.Ground.data }, { on := 14, ground := Go.Ground.guard }], guard := some (14, false) }) (v := ?_) rfl (by kernel_rfl) (by kernel_rfl) (by kernel_rfl) (fun _ _ _ h => h) (Or.inl ⟨by rfl, ?_⟩) hHeld ?_
    case refine_2 => (intro w hSw; (try dsimp only at hSw); go_simp <;> with_reducible rfl)
    try simp only [Act.put, List.setIfInBounds_toArray, List.set_cons_zero, List.set_cons_succ]
    refine wpAnyH_take (i := 19) (oi := { dst := some 143, op := Go.Op.pick (Go.Operand.tmp 138) (Go.Operand.const (Go.Value.bool true)) (Go.Operand.tmp 142), type := 4, pos := "law.go:115", after := #[{ on := 14, ground := Go.Ground.data }, { on := 18, ground := Go.Ground.data }, { on := 10, ground := Go.Ground.guard }], guard := some (10, true) }) (v := ?_) rfl (by kernel_rfl) (by kernel_rfl) (by kernel_rfl) (fun _ _ _ h => h) (Or.inl ⟨by rfl, ?_⟩) hHeld ?_
    case refine_2 => (intro w hSw; (try dsimp only at hSw); go_simp <;> with_reducible rfl)
    try simp only [Act.put, List.setIfInBounds_toArray, List.set_cons_zero, List.set_cons_succ]
    refine wpAnyH_take (i := 20) (oi := { dst := some 144, op := Go.Op.pick (Go.Operand.tmp 134) (Go.Operand.tmp 143) (Go.Operand.const (Go.Value.bool false)), type := 4, pos := "law.go:115", after := #[{ on := 10, ground := Go.Ground.data }, { on := 19, ground := Go.Ground.data }], guard := none }) (v := ?_) rfl (by kernel_rfl) (by kernel_rfl) (by kernel_rfl) (fun _ _ _ h => h) (Or.inl ⟨by rfl, ?_⟩) hHeld ?_
    case refine_2 => (intro w hSw; (try dsimp only at hSw); go_simp <;> with_reducible rfl)
    try simp only [Act.put, List.setIfInBounds_toArray, List.set_cons_zero, List.set_cons_succ]
    refine wpAnyH_take (i := 21) (oi := { dst := some 4, op := Go.Op.assign (Go.Operand.tmp 144), type := 4, pos := "law.go:115", after := #[{ on := 20, ground := Go.Ground.data }, { on := 14, ground := Go.Ground.chain }, { on := 0, ground := Go.Ground.phase }, { on := 1, ground := Go.Ground.phase }, { on := 2, ground := Go.Ground.phase }, { on := 3, ground := Go.Ground.phase }, { on := 4, ground := Go.Ground.phase }, { on := 5, ground := Go.Ground.phase }, { on := 6, ground := Go.Ground.phase }, { on := 7, ground := Go.Ground.phase }, { on := 8, ground := Go.Ground.phase }, { on := 9, ground := Go.Ground.phase }, { on := 10, ground := Go.Ground.phase }, { on := 11, ground := Go.Ground.phase }, { on := 12, ground := Go.Ground.phase }, { on := 13, ground := Go.Ground.phase }, { on := 14, ground := Go.Ground.phase }, { on := 15, ground := Go.Ground.phase }, { on := 16, ground := Go.Ground.phase }, { on := 17, ground := Go.Ground.phase }, { on := 18, ground := Go.Ground.phase }, { on := 19, ground := Go.Ground.phase }, { on := 20, ground := Go.Ground.phase }], guard := none }) (v := ?_) rfl (by kernel_rfl) (by kernel_rfl) (by kernel_rfl) (fun _ _ _ h => h) (Or.inl ⟨by rfl, ?_⟩) hHeld ?_
    case refine_2 => (intro w hSw; (try dsimp only at hSw); go_simp <;> with_reducible rfl)
    try simp only [Act.put, List.setIfInBounds_toArray, List.set_cons_zero, List.set_cons_succ]
    refine wpAnyH_done (by kernel_rfl) ?_ _
    have H7 : Hid (HeldL w [(b5, #[.bool g.neg, S g.l, .int .i64 g.e]), (b4, #[.bool g.neg, S vi, S vf]), (w3.heap.size, #[.int .i64 p.kind, .int .i64 p.mn, .int .i64 p.mx, .bool p.inc.neg, S p.inc.l, .int .i64 p.inc.e, .int .i64 p.mode, .int .i64 p.mi]), (w.heap.size + 1, #[.int .i64 k0, .int .i64 k1, .int .i64 k2, .int .i64 k3, .int .i64 k4, .int .i64 k5, .int .i64 k6]), (w.heap.size, #[.bool n, .slice a len cap, .int .i64 e])] _) := Lib.hid (hHeld.2.2.2.2.2.2.2.2.2.2.2)
    clear hHeld ALL3 KEEP3 HS3 TAB3 H6
    go_wp2
    go_ret
    exact ⟨rfl, H7.out.bel⟩

end Go.Proofs.YtegekkifgdakgaaDoor

namespace Go.Proofs.YtegekkifgdakgaaDoor
open Go.RowKit Florin
set_option linter.unusedVariables false
set_option linter.unusedSimpArgs false
attribute [local go_sem ↓] Go.wp_at_zero Go.wp_at_succ eq_V ne_V eq_VV

theorem trim48 (w : World) : Calls Tryd.prog 17 #[.string ⟨#[48]⟩] w fun z w' => z = .returned (.string ⟨#[]⟩) ∧ w = w' := trim_bare_nil ⟨#[48]⟩ w (by decide) (by decide)

set_option maxRecDepth 100000 in
set_option maxHeartbeats 12800000 in
theorem digits_z (n : Bool) (a : Option Addr) (len cap : Nat) (L : List UInt8) (e : Int) (k0 k1 k2 k3 k4 k5 k6 : Int) (w : World) (hin : InB w a len cap L) (htab : Tab w) (h1 : len ≤ 30) (h2 : -30 ≤ e) (h3 : e ≤ 30) (p : Prc) (hpr : (∀ w : World, Tab w → Calls Tryd.prog 12 #[.agg #[.int .i64 k0, .int .i64 k1, .int .i64 k2, .int .i64 k3, .int .i64 k4, .int .i64 k5, .int .i64 k6]] w fun z w' => z = .returned (PV p) ∧ Below w.heap.size w w')) (g : Tri) (gl : g.l.length ≤ 100000) (least : Int) (ha1 : (∀ w : World, Tab w → Calls Tryd.prog 13 #[PV p, V ⟨n, dgs L, e⟩] w fun z w' => z = .returned (.tuple #[VV ⟨g.neg, [48], []⟩, .int .i64 0]) ∧ Below w.heap.size w w')) (hr1 : (∀ w : World, Tab w → Calls Tryd.prog 15 #[PV p, V ⟨n, dgs L, e⟩] w fun z w' => z = .returned (V g) ∧ Below w.heap.size w w')) (b1 : 0 ≤ p.mn) (b2 : p.mn ≤ 100) (hl0 : (p.kind == 1) = false → p.mn = least) (hmx : max (0 : Int) p.mi = 0) (hl1 : (p.kind == 1) = true → (made g.neg g.l g.e).l.isEmpty = true → max (p.mn - 1) 0 = least) (hl2 : True) (hgi : (made g.neg g.l g.e).l.isEmpty = true) (hfb : ((0 : Int) == max least 0) = true) :
    Calls Tryd.prog 3 #[RV n a len cap e, .agg #[.int .i64 k0, .int .i64 k1, .int .i64 k2, .int .i64 k3, .int .i64 k4, .int .i64 k5, .int .i64 k6]] w fun x w' => x = .returned (.bool true) ∧ Below w.heap.size w w' := by
  have hcA := hin.2.1
  have hmA := hin.2.2.1
  have HT := Lib.hid htab
  have HIN := Lib.hid hin
  have HPR := Lib.hid hpr
  have HA1 := Lib.hid ha1
  have HR1 := Lib.hid hr1
  have HL0 := Lib.hid hl0
  have HL1 := Lib.hid hl1
  have HL2 := Lib.hid hl2
  have HGI := Lib.hid hgi
  clear htab hin hpr ha1 hr1 hl0 hl1 hl2 hgi
  have eC : ((⟨#[48]⟩ : ByteArray) ++ (⟨#[]⟩ : ByteArray)).toList.isEmpty = false := by
    show ((⟨([48] : List UInt8).toArray⟩ : ByteArray) ++ (⟨([] : List UInt8).toArray⟩ : ByteArray)).toList.isEmpty = false
    rw [arr_append]; exact empty_of (ne_empty (by simp))
  have hfb2 : ((0 : Int) == max least ((rt ([] : List UInt8)).length : Int)) = true := hfb
  go_enter Tryd.func3, Tryd.ntmps3
  go_wp2_with fail
  with_reducible refine (head4 _ (HT.out.below (HeldL.alloc (HeldL.alloc (HeldL.refl w) (w.heap.size) #[.bool n, .slice a len cap, .int .i64 e] 24 (by simp)) (w.heap.size + 1) #[.int .i64 k0, .int .i64 k1, .int .i64 k2, .int .i64 k3, .int .i64 k4, .int .i64 k5, .int .i64 k6] 26 (by simp)).bel)).mono ?_
  rintro x w1 ⟨rfl, hb⟩
  have H1 : Hid (HeldL w [(w.heap.size + 1, #[.int .i64 k0, .int .i64 k1, .int .i64 k2, .int .i64 k3, .int .i64 k4, .int .i64 k5, .int .i64 k6]), (w.heap.size, #[.bool n, .slice a len cap, .int .i64 e])] w1) := Lib.hid (HeldL.keep (HeldL.alloc (HeldL.alloc (HeldL.refl w) (w.heap.size) #[.bool n, .slice a len cap, .int .i64 e] 24 (by simp)) (w.heap.size + 1) #[.int .i64 k0, .int .i64 k1, .int .i64 k2, .int .i64 k3, .int .i64 k4, .int .i64 k5, .int .i64 k6] 26 (by simp)) hb)
  clear hb
  have q0 : w1.cell? ⟨w.heap.size, 0, none⟩ = some (.bool n) := (H1.out.f (List.Mem.tail _ (List.Mem.head _))).cell 0
  have q1 : w1.cell? ⟨w.heap.size, 1, none⟩ = some (.slice a len cap) := (H1.out.f (List.Mem.tail _ (List.Mem.head _))).cell 1
  have q2 : w1.cell? ⟨w.heap.size, 2, none⟩ = some (.int .i64 e) := (H1.out.f (List.Mem.tail _ (List.Mem.head _))).cell 2
  have ql : w.heap.size < w1.heap.size := (H1.out.f (List.Mem.tail _ (List.Mem.head _))).lt
  have k0 : w1.cell? ⟨w.heap.size + 1, 0, none⟩ = some (.int .i64 k0) := (H1.out.f (List.Mem.head _)).cell 0
  have k1 : w1.cell? ⟨w.heap.size + 1, 1, none⟩ = some (.int .i64 k1) := (H1.out.f (List.Mem.head _)).cell 1
  have k2 : w1.cell? ⟨w.heap.size + 1, 2, none⟩ = some (.int .i64 k2) := (H1.out.f (List.Mem.head _)).cell 2
  have k3 : w1.cell? ⟨w.heap.size + 1, 3, none⟩ = some (.int .i64 k3) := (H1.out.f (List.Mem.head _)).cell 3
  have k4 : w1.cell? ⟨w.heap.size + 1, 4, none⟩ = some (.int .i64 k4) := (H1.out.f (List.Mem.head _)).cell 4
  have k5 : w1.cell? ⟨w.heap.size + 1, 5, none⟩ = some (.int .i64 k5) := (H1.out.f (List.Mem.head _)).cell 5
  have k6 : w1.cell? ⟨w.heap.size + 1, 6, none⟩ = some (.int .i64 k6) := (H1.out.f (List.Mem.head _)).cell 6
  have kl : w.heap.size + 1 < w1.heap.size := (H1.out.f (List.Mem.head _)).lt
  go_wp2_with fail
  with_reducible refine (few_yes n a len cap e 30 _ hcA hmA (by decide) (by decide) (by omega) h2 h3).mono ?_
  rintro x w2 ⟨rfl, hb⟩
  clear q0 q1 q2 ql k0 k1 k2 k3 k4 k5 k6 kl
  have H2 : Hid (HeldL w [(w.heap.size + 1, #[.int .i64 k0, .int .i64 k1, .int .i64 k2, .int .i64 k3, .int .i64 k4, .int .i64 k5, .int .i64 k6]), (w.heap.size, #[.bool n, .slice a len cap, .int .i64 e])] w2) := Lib.hid (HeldL.keep H1.out hb)
  clear H1
  clear hb
  have q0 : w2.cell? ⟨w.heap.size, 0, none⟩ = some (.bool n) := (H2.out.f (List.Mem.tail _ (List.Mem.head _))).cell 0
  have q1 : w2.cell? ⟨w.heap.size, 1, none⟩ = some (.slice a len cap) := (H2.out.f (List.Mem.tail _ (List.Mem.head _))).cell 1
  have q2 : w2.cell? ⟨w.heap.size, 2, none⟩ = some (.int .i64 e) := (H2.out.f (List.Mem.tail _ (List.Mem.head _))).cell 2
  have ql : w.heap.size < w2.heap.size := (H2.out.f (List.Mem.tail _ (List.Mem.head _))).lt
  have k0 : w2.cell? ⟨w.heap.size + 1, 0, none⟩ = some (.int .i64 k0) := (H2.out.f (List.Mem.head _)).cell 0
  have k1 : w2.cell? ⟨w.heap.size + 1, 1, none⟩ = some (.int .i64 k1) := (H2.out.f (List.Mem.head _)).cell 1
  have k2 : w2.cell? ⟨w.heap.size + 1, 2, none⟩ = some (.int .i64 k2) := (H2.out.f (List.Mem.head _)).cell 2
  have k3 : w2.cell? ⟨w.heap.size + 1, 3, none⟩ = some (.int .i64 k3) := (H2.out.f (List.Mem.head _)).cell 3
  have k4 : w2.cell? ⟨w.heap.size + 1, 4, none⟩ = some (.int .i64 k4) := (H2.out.f (List.Mem.head _)).cell 4
  have k5 : w2.cell? ⟨w.heap.size + 1, 5, none⟩ = some (.int .i64 k5) := (H2.out.f (List.Mem.head _)).cell 5
  have k6 : w2.cell? ⟨w.heap.size + 1, 6, none⟩ = some (.int .i64 k6) := (H2.out.f (List.Mem.head _)).cell 6
  have kl : w.heap.size + 1 < w2.heap.size := (H2.out.f (List.Mem.head _)).lt
  go_wp2_with fail
  with_reducible refine (HPR.out _ (HT.out.below H2.out.bel)).mono ?_
  rintro x w3 ⟨rfl, hb⟩
  clear q0 q1 q2 ql k0 k1 k2 k3 k4 k5 k6 kl
  have H3 : Hid (HeldL w [(w.heap.size + 1, #[.int .i64 k0, .int .i64 k1, .int .i64 k2, .int .i64 k3, .int .i64 k4, .int .i64 k5, .int .i64 k6]), (w.heap.size, #[.bool n, .slice a len cap, .int .i64 e])] w3) := Lib.hid (HeldL.keep H2.out hb)
  clear H2
  clear hb
  have q0 : w3.cell? ⟨w.heap.size, 0, none⟩ = some (.bool n) := (H3.out.f (List.Mem.tail _ (List.Mem.head _))).cell 0
  have q1 : w3.cell? ⟨w.heap.size, 1, none⟩ = some (.slice a len cap) := (H3.out.f (List.Mem.tail _ (List.Mem.head _))).cell 1
  have q2 : w3.cell? ⟨w.heap.size, 2, none⟩ = some (.int .i64 e) := (H3.out.f (List.Mem.tail _ (List.Mem.head _))).cell 2
  have ql : w.heap.size < w3.heap.size := (H3.out.f (List.Mem.tail _ (List.Mem.head _))).lt
  go_upto_region 6 with fail
  go_cut [6, 7] from 14 (fun vp ve w' => ∃ b : Nat, vp = .pointer (some ⟨b, 0, none⟩) ∧ ve = .int .i64 0 ∧ HeldL w ((b, #[.bool g.neg, .string ⟨#[48]⟩, .string ⟨#[]⟩]) :: [(w3.heap.size, #[.int .i64 p.kind, .int .i64 p.mn, .int .i64 p.mx, .bool p.inc.neg, S p.inc.l, .int .i64 p.inc.e, .int .i64 p.mode, .int .i64 p.mi]), (w.heap.size + 1, #[.int .i64 k0, .int .i64 k1, .int .i64 k2, .int .i64 k3, .int .i64 k4, .int .i64 k5, .int .i64 k6]), (w.heap.size, #[.bool n, .slice a len cap, .int .i64 e])]) w')
  case first =>
    have ALL1 : Hid (∀ w' : World, HeldL w [(w3.heap.size, #[.int .i64 p.kind, .int .i64 p.mn, .int .i64 p.mx, .bool p.inc.neg, S p.inc.l, .int .i64 p.inc.e, .int .i64 p.mode, .int .i64 p.mi]), (w.heap.size + 1, #[.int .i64 k0, .int .i64 k1, .int .i64 k2, .int .i64 k3, .int .i64 k4, .int .i64 k5, .int .i64 k6]), (w.heap.size, #[.bool n, .slice a len cap, .int .i64 e])] w' → w'.cell? ⟨w3.heap.size, 0, none⟩ = some (.int .i64 p.kind) ∧ w'.cell? ⟨w3.heap.size, 1, none⟩ = some (.int .i64 p.mn) ∧ w'.cell? ⟨w3.heap.size, 2, none⟩ = some (.int .i64 p.mx) ∧ w'.cell? ⟨w3.heap.size, 3, none⟩ = some (.bool p.inc.neg) ∧ w'.cell? ⟨w3.heap.size, 4, none⟩ = some (S p.inc.l) ∧ w'.cell? ⟨w3.heap.size, 5, none⟩ = some (.int .i64 p.inc.e) ∧ w'.cell? ⟨w3.heap.size, 6, none⟩ = some (.int .i64 p.mode) ∧ w'.cell? ⟨w3.heap.size, 7, none⟩ = some (.int .i64 p.mi) ∧ w'.cell? ⟨w.heap.size, 0, none⟩ = some (.bool n) ∧ w'.cell? ⟨w.heap.size, 1, none⟩ = some (.slice a len cap) ∧ w'.cell? ⟨w.heap.size, 2, none⟩ = some (.int .i64 e) ∧ HeldL w [(w3.heap.size, #[.int .i64 p.kind, .int .i64 p.mn, .int .i64 p.mx, .bool p.inc.neg, S p.inc.l, .int .i64 p.inc.e, .int .i64 p.mode, .int .i64 p.mi]), (w.heap.size + 1, #[.int .i64 k0, .int .i64 k1, .int .i64 k2, .int .i64 k3, .int .i64 k4, .int .i64 k5, .int .i64 k6]), (w.heap.size, #[.bool n, .slice a len cap, .int .i64 e])] w') := Lib.hid (fun w' h => ⟨(h.f (List.Mem.head _)).cell 0, (h.f (List.Mem.head _)).cell 1, (h.f (List.Mem.head _)).cell 2, (h.f (List.Mem.head _)).cell 3, (h.f (List.Mem.head _)).cell 4, (h.f (List.Mem.head _)).cell 5, (h.f (List.Mem.head _)).cell 6, (h.f (List.Mem.head _)).cell 7, (h.f (List.Mem.tail _ (List.Mem.tail _ (List.Mem.head _)))).cell 0, (h.f (List.Mem.tail _ (List.Mem.tail _ (List.Mem.head _)))).cell 1, (h.f (List.Mem.tail _ (List.Mem.tail _ (List.Mem.head _)))).cell 2, h⟩)
    have KEEP1 : Hid (∀ w' w'' : World, (w'.cell? ⟨w3.heap.size, 0, none⟩ = some (.int .i64 p.kind) ∧ w'.cell? ⟨w3.heap.size, 1, none⟩ = some (.int .i64 p.mn) ∧ w'.cell? ⟨w3.heap.size, 2, none⟩ = some (.int .i64 p.mx) ∧ w'.cell? ⟨w3.heap.size, 3, none⟩ = some (.bool p.inc.neg) ∧ w'.cell? ⟨w3.heap.size, 4, none⟩ = some (S p.inc.l) ∧ w'.cell? ⟨w3.heap.size, 5, none⟩ = some (.int .i64 p.inc.e) ∧ w'.cell? ⟨w3.heap.size, 6, none⟩ = some (.int .i64 p.mode) ∧ w'.cell? ⟨w3.heap.size, 7, none⟩ = some (.int .i64 p.mi) ∧ w'.cell? ⟨w.heap.size, 0, none⟩ = some (.bool n) ∧ w'.cell? ⟨w.heap.size, 1, none⟩ = some (.slice a len cap) ∧ w'.cell? ⟨w.heap.size, 2, none⟩ = some (.int .i64 e) ∧ HeldL w [(w3.heap.size, #[.int .i64 p.kind, .int .i64 p.mn, .int .i64 p.mx, .bool p.inc.neg, S p.inc.l, .int .i64 p.inc.e, .int .i64 p.mode, .int .i64 p.mi]), (w.heap.size + 1, #[.int .i64 k0, .int .i64 k1, .int .i64 k2, .int .i64 k3, .int .i64 k4, .int .i64 k5, .int .i64 k6]), (w.heap.size, #[.bool n, .slice a len cap, .int .i64 e])] w') → Below w'.heap.size w' w'' → (w''.cell? ⟨w3.heap.size, 0, none⟩ = some (.int .i64 p.kind) ∧ w''.cell? ⟨w3.heap.size, 1, none⟩ = some (.int .i64 p.mn) ∧ w''.cell? ⟨w3.heap.size, 2, none⟩ = some (.int .i64 p.mx) ∧ w''.cell? ⟨w3.heap.size, 3, none⟩ = some (.bool p.inc.neg) ∧ w''.cell? ⟨w3.heap.size, 4, none⟩ = some (S p.inc.l) ∧ w''.cell? ⟨w3.heap.size, 5, none⟩ = some (.int .i64 p.inc.e) ∧ w''.cell? ⟨w3.heap.size, 6, none⟩ = some (.int .i64 p.mode) ∧ w''.cell? ⟨w3.heap.size, 7, none⟩ = some (.int .i64 p.mi) ∧ w''.cell? ⟨w.heap.size, 0, none⟩ = some (.bool n) ∧ w''.cell? ⟨w.heap.size, 1, none⟩ = some (.slice a len cap) ∧ w''.cell? ⟨w.heap.size, 2, none⟩ = some (.int .i64 e) ∧ HeldL w [(w3.heap.size, #[.int .i64 p.kind, .int .i64 p.mn, .int .i64 p.mx, .bool p.inc.neg, S p.inc.l, .int .i64 p.inc.e, .int .i64 p.mode, .int .i64 p.mi]), (w.heap.size + 1, #[.int .i64 k0, .int .i64 k1, .int .i64 k2, .int .i64 k3, .int .i64 k4, .int .i64 k5, .int .i64 k6]), (w.heap.size, #[.bool n, .slice a len cap, .int .i64 e])] w'')) := Lib.hid (fun w' w'' h hb => ALL1.out _ (HeldL.keep (h.2.2.2.2.2.2.2.2.2.2.2) hb))
    have TAB1 : Hid (∀ w' : World, (w'.cell? ⟨w3.heap.size, 0, none⟩ = some (.int .i64 p.kind) ∧ w'.cell? ⟨w3.heap.size, 1, none⟩ = some (.int .i64 p.mn) ∧ w'.cell? ⟨w3.heap.size, 2, none⟩ = some (.int .i64 p.mx) ∧ w'.cell? ⟨w3.heap.size, 3, none⟩ = some (.bool p.inc.neg) ∧ w'.cell? ⟨w3.heap.size, 4, none⟩ = some (S p.inc.l) ∧ w'.cell? ⟨w3.heap.size, 5, none⟩ = some (.int .i64 p.inc.e) ∧ w'.cell? ⟨w3.heap.size, 6, none⟩ = some (.int .i64 p.mode) ∧ w'.cell? ⟨w3.heap.size, 7, none⟩ = some (.int .i64 p.mi) ∧ w'.cell? ⟨w.heap.size, 0, none⟩ = some (.bool n) ∧ w'.cell? ⟨w.heap.size, 1, none⟩ = some (.slice a len cap) ∧ w'.cell? ⟨w.heap.size, 2, none⟩ = some (.int .i64 e) ∧ HeldL w [(w3.heap.size, #[.int .i64 p.kind, .int .i64 p.mn, .int .i64 p.mx, .bool p.inc.neg, S p.inc.l, .int .i64 p.inc.e, .int .i64 p.mode, .int .i64 p.mi]), (w.heap.size + 1, #[.int .i64 k0, .int .i64 k1, .int .i64 k2, .int .i64 k3, .int .i64 k4, .int .i64 k5, .int .i64 k6]), (w.heap.size, #[.bool n, .slice a len cap, .int .i64 e])] w') → Tab w') := Lib.hid (fun w' h => HT.out.below (h.2.2.2.2.2.2.2.2.2.2.2).bel)
    have HS1 : Hid (HeldL w [(w3.heap.size, #[.int .i64 p.kind, .int .i64 p.mn, .int .i64 p.mx, .bool p.inc.neg, S p.inc.l, .int .i64 p.inc.e, .int .i64 p.mode, .int .i64 p.mi]), (w.heap.size + 1, #[.int .i64 k0, .int .i64 k1, .int .i64 k2, .int .i64 k3, .int .i64 k4, .int .i64 k5, .int .i64 k6]), (w.heap.size, #[.bool n, .slice a len cap, .int .i64 e])] _) := Lib.hid (HeldL.alloc H3.out (w3.heap.size) #[.int .i64 p.kind, .int .i64 p.mn, .int .i64 p.mx, .bool p.inc.neg, S p.inc.l, .int .i64 p.inc.e, .int .i64 p.mode, .int .i64 p.mi] 34 (by simp))
    refine wp_region_held_drew (S := fun w' => w'.cell? ⟨w3.heap.size, 0, none⟩ = some (.int .i64 p.kind) ∧ w'.cell? ⟨w3.heap.size, 1, none⟩ = some (.int .i64 p.mn) ∧ w'.cell? ⟨w3.heap.size, 2, none⟩ = some (.int .i64 p.mx) ∧ w'.cell? ⟨w3.heap.size, 3, none⟩ = some (.bool p.inc.neg) ∧ w'.cell? ⟨w3.heap.size, 4, none⟩ = some (S p.inc.l) ∧ w'.cell? ⟨w3.heap.size, 5, none⟩ = some (.int .i64 p.inc.e) ∧ w'.cell? ⟨w3.heap.size, 6, none⟩ = some (.int .i64 p.mode) ∧ w'.cell? ⟨w3.heap.size, 7, none⟩ = some (.int .i64 p.mi) ∧ w'.cell? ⟨w.heap.size, 0, none⟩ = some (.bool n) ∧ w'.cell? ⟨w.heap.size, 1, none⟩ = some (.slice a len cap) ∧ w'.cell? ⟨w.heap.size, 2, none⟩ = some (.int .i64 e) ∧ HeldL w [(w3.heap.size, #[.int .i64 p.kind, .int .i64 p.mn, .int .i64 p.mx, .bool p.inc.neg, S p.inc.l, .int .i64 p.inc.e, .int .i64 p.mode, .int .i64 p.mi]), (w.heap.size + 1, #[.int .i64 k0, .int .i64 k1, .int .i64 k2, .int .i64 k3, .int .i64 k4, .int .i64 k5, .int .i64 k6]), (w.heap.size, #[.bool n, .slice a len cap, .int .i64 e])] w') (by kernel_rfl) (ALL1.out _ (HeldL.drew HS1.out)) (fun hHeld => ?_)
    refine wpAnyH_take (i := 0) (oi := { dst := some 22, op := Go.Op.load 34 (Go.Operand.tmp 5), type := 34, pos := "law.go:90", after := #[], guard := none }) (v := ?_) rfl (by kernel_rfl) (by kernel_rfl) (by kernel_rfl) (fun _ _ _ h => h) (Or.inl ⟨by rfl, ?_⟩) hHeld ?_
    case refine_2 => (intro w hSw; (try dsimp only at hSw); go_simp <;> with_reducible rfl)
    try simp only [Act.put, List.setIfInBounds_toArray, List.set_cons_zero, List.set_cons_succ]
    refine wpAnyH_take (i := 1) (oi := { dst := some 23, op := Go.Op.load 24 (Go.Operand.tmp 2), type := 24, pos := "law.go:90", after := #[], guard := none }) (v := ?_) rfl (by kernel_rfl) (by kernel_rfl) (by kernel_rfl) (fun _ _ _ h => h) (Or.inl ⟨by rfl, ?_⟩) hHeld ?_
    case refine_2 => (intro w hSw; (try dsimp only at hSw); go_simp <;> with_reducible rfl)
    try simp only [Act.put, List.setIfInBounds_toArray, List.set_cons_zero, List.set_cons_succ]
    refine wpAnyH_ready (rs := [2, 7]) (by kernel_rfl) (by simp) ?_
    refine (AllReadyH.cons (o := { dst := some 24, op := Go.Op.call { callee := Go.Callee.value (Go.Operand.func 14), args := #[Go.Operand.tmp 23], argTypes := #[24] }, type := 31, pos := "law.go:90", after := #[{ on := 1, ground := Go.Ground.data }], guard := none }) rfl (fun KK hK => ?_) (AllReadyH.cons (o := { dst := some 6, op := Go.Op.alloc 37, type := 0, pos := "law.go:90", after := #[], guard := none }) rfl (fun KK hK => ?_) AllReadyH.nil))
    ·
      go_simp
      with_reducible refine (make_as n a len cap L e _ (HIN.out.below (hHeld.2.2.2.2.2.2.2.2.2.2.2).bel) (by omega)).mono ?_
      rintro x wA ⟨rfl, hb⟩
      go_wp2_with fail
      refine hK.out _ _ (KEEP1.out _ _ hHeld hb) (fun hHeld2 => ?_)
      clear hK hHeld hb
      have hHeld := hHeld2
      clear hHeld2
      try simp only [Act.put, List.setIfInBounds_toArray, List.set_cons_zero, List.set_cons_succ]
      refine wpAnyH_ready (rs := [3, 7]) (by kernel_rfl) (by simp) ?_
      refine (AllReadyH.cons (o := { dst := some 25, op := Go.Op.call { callee := Go.Callee.value (Go.Operand.func 13), args := #[Go.Operand.tmp 22, Go.Operand.tmp 24], argTypes := #[34, 31] }, type := 39, pos := "law.go:90", after := #[{ on := 0, ground := Go.Ground.data }, { on := 2, ground := Go.Ground.data }, { on := 2, ground := Go.Ground.chain }], guard := none }) rfl (fun KK hK => ?_) (AllReadyH.cons (o := { dst := some 6, op := Go.Op.alloc 37, type := 0, pos := "law.go:90", after := #[], guard := none }) rfl (fun KK hK => ?_) AllReadyH.nil))
      ·
        go_simp
        with_reducible refine (HA1.out _ (TAB1.out _ hHeld)).mono ?_
        rintro x wB ⟨rfl, hb⟩
        go_wp2_with fail
        refine hK.out _ _ (KEEP1.out _ _ hHeld hb) (fun hHeld2 => ?_)
        clear hK hHeld hb
        have hHeld := hHeld2
        clear hHeld2
        try simp only [Act.put, List.setIfInBounds_toArray, List.set_cons_zero, List.set_cons_succ]
        refine wpAnyH_take (i := 4) (oi := { dst := some 21, op := Go.Op.move (Go.Operand.tmp 25), type := 39, pos := "law.go:90", after := #[{ on := 3, ground := Go.Ground.data }], guard := none }) (v := ?_) rfl (by kernel_rfl) (by kernel_rfl) (by kernel_rfl) (fun _ _ _ h => h) (Or.inl ⟨by rfl, ?_⟩) hHeld ?_
        case refine_2 => (intro w hSw; (try dsimp only at hSw); go_simp <;> with_reducible rfl)
        try simp only [Act.put, List.setIfInBounds_toArray, List.set_cons_zero, List.set_cons_succ]
        refine wpAnyH_take (i := 5) (oi := { dst := some 26, op := Go.Op.extract (Go.Operand.tmp 21) 0, type := 37, pos := "law.go:90", after := #[{ on := 4, ground := Go.Ground.data }], guard := none }) (v := ?_) rfl (by kernel_rfl) (by kernel_rfl) (by kernel_rfl) (fun _ _ _ h => h) (Or.inl ⟨by rfl, ?_⟩) hHeld ?_
        case refine_2 => (intro w hSw; (try dsimp only at hSw); go_simp <;> with_reducible rfl)
        try simp only [Act.put, List.setIfInBounds_toArray, List.set_cons_zero, List.set_cons_succ]
        refine wpAnyH_take (i := 6) (oi := { dst := some 27, op := Go.Op.extract (Go.Operand.tmp 21) 1, type := 38, pos := "law.go:90", after := #[{ on := 4, ground := Go.Ground.data }, { on := 8, ground := Go.Ground.gcOnly Go.Departure.lateStores }], guard := none }) (v := ?_) rfl (by kernel_rfl) (by kernel_rfl) (by kernel_rfl) (fun _ _ _ h => h) (Or.inl ⟨by rfl, ?_⟩) hHeld ?_
        case refine_2 => (intro w hSw; (try dsimp only at hSw); go_simp <;> with_reducible rfl)
        try simp only [Act.put, List.setIfInBounds_toArray, List.set_cons_zero, List.set_cons_succ]
        refine wpAnyH_ready (rs := [7]) (by kernel_rfl) (by simp) ?_
        refine (AllReadyH.cons (o := { dst := some 6, op := Go.Op.alloc 37, type := 0, pos := "law.go:90", after := #[], guard := none }) rfl (fun KK hK => ?_) AllReadyH.nil)
        have hH0 := hHeld
        go_simp
        refine hK.out _ _ (ALL1.out _ (HeldL.skip (hHeld.2.2.2.2.2.2.2.2.2.2.2) _)) (fun hHeld2 => ?_)
        clear hK hHeld
        have hHeld := hHeld2
        clear hHeld2
        try simp only [Act.put, List.setIfInBounds_toArray, List.set_cons_zero, List.set_cons_succ]
        refine wpAnyH_ready (rs := [8]) (by kernel_rfl) (by simp) ?_
        refine (AllReadyH.cons (o := { dst := none, op := Go.Op.store 37 (Go.Operand.tmp 6) (Go.Operand.tmp 26), type := 0, pos := "law.go:90", after := #[{ on := 7, ground := Go.Ground.data }, { on := 5, ground := Go.Ground.data }, { on := 3, ground := Go.Ground.chain }, { on := 0, ground := Go.Ground.phase }, { on := 1, ground := Go.Ground.phase }, { on := 2, ground := Go.Ground.phase }, { on := 3, ground := Go.Ground.phase }, { on := 4, ground := Go.Ground.phase }, { on := 5, ground := Go.Ground.phase }, { on := 6, ground := Go.Ground.textOnly Go.Departure.lateStores }, { on := 7, ground := Go.Ground.phase }], guard := none }) rfl (fun KK hK => ?_) AllReadyH.nil)
        go_simp
        refine hK.out _ _ (ALL1.out _ (HeldL.skip (hH0.2.2.2.2.2.2.2.2.2.2.2) _)) (fun hHeld2 => ?_)
        clear hK hHeld
        have hHeld := hHeld2
        clear hHeld2
        try simp only [Act.put, List.setIfInBounds_toArray, List.set_cons_zero, List.set_cons_succ]
        refine wpAnyH_take (i := 9) (oi := { dst := some 7, op := Go.Op.assign (Go.Operand.tmp 27), type := 38, pos := "law.go:90", after := #[{ on := 6, ground := Go.Ground.data }, { on := 8, ground := Go.Ground.chain }, { on := 0, ground := Go.Ground.phase }, { on := 1, ground := Go.Ground.phase }, { on := 2, ground := Go.Ground.phase }, { on := 3, ground := Go.Ground.phase }, { on := 4, ground := Go.Ground.phase }, { on := 5, ground := Go.Ground.phase }, { on := 6, ground := Go.Ground.phase }, { on := 7, ground := Go.Ground.phase }, { on := 8, ground := Go.Ground.phase }], guard := none }) (v := ?_) rfl (by kernel_rfl) (by kernel_rfl) (by kernel_rfl) (fun _ _ _ h => h) (Or.inl ⟨by rfl, ?_⟩) hHeld ?_
        case refine_2 => (intro w hSw; (try dsimp only at hSw); go_simp <;> with_reducible rfl)
        try simp only [Act.put, List.setIfInBounds_toArray, List.set_cons_zero, List.set_cons_succ]
        refine wpAnyH_done (by kernel_rfl) ?_ _
        go_wp2
        go_meet
        case rel => exact ⟨_, rfl, rfl, HeldL.alloc (hH0.2.2.2.2.2.2.2.2.2.2.2) _ _ _ rfl⟩
      ·
        go_simp
        have HN : Hid (HeldL w ((wA.heap.size, #[.bool false, .string ⟨#[]⟩, .string ⟨#[]⟩]) :: [(w3.heap.size, #[.int .i64 p.kind, .int .i64 p.mn, .int .i64 p.mx, .bool p.inc.neg, S p.inc.l, .int .i64 p.inc.e, .int .i64 p.mode, .int .i64 p.mi]), (w.heap.size + 1, #[.int .i64 k0, .int .i64 k1, .int .i64 k2, .int .i64 k3, .int .i64 k4, .int .i64 k5, .int .i64 k6]), (w.heap.size, #[.bool n, .slice a len cap, .int .i64 e])]) _) := Lib.hid (HeldL.alloc (hHeld.2.2.2.2.2.2.2.2.2.2.2) (wA.heap.size) #[.bool false, .string ⟨#[]⟩, .string ⟨#[]⟩] 37 (by first | rfl | simp))
        refine hK.out _ _ (ALL1.out _ (HeldL.tail HN.out)) (fun hHeld2 => ?_)
        clear hK hHeld
        have hHeld := hHeld2
        clear hHeld2
        try simp only [Act.put, List.setIfInBounds_toArray, List.set_cons_zero, List.set_cons_succ]
        refine wpAnyH_ready (rs := [3]) (by kernel_rfl) (by simp) ?_
        refine (AllReadyH.cons (o := { dst := some 25, op := Go.Op.call { callee := Go.Callee.value (Go.Operand.func 13), args := #[Go.Operand.tmp 22, Go.Operand.tmp 24], argTypes := #[34, 31] }, type := 39, pos := "law.go:90", after := #[{ on := 0, ground := Go.Ground.data }, { on := 2, ground := Go.Ground.data }, { on := 2, ground := Go.Ground.chain }], guard := none }) rfl (fun KK hK => ?_) AllReadyH.nil)
        go_simp
        with_reducible refine (HA1.out _ (TAB1.out _ hHeld)).mono ?_
        rintro x wB ⟨rfl, hb⟩
        go_wp2_with fail
        refine hK.out _ _ (KEEP1.out _ _ hHeld hb) (fun hHeld2 => ?_)
        have HM : Hid (HeldL w ((wA.heap.size, #[.bool false, .string ⟨#[]⟩, .string ⟨#[]⟩]) :: [(w3.heap.size, #[.int .i64 p.kind, .int .i64 p.mn, .int .i64 p.mx, .bool p.inc.neg, S p.inc.l, .int .i64 p.inc.e, .int .i64 p.mode, .int .i64 p.mi]), (w.heap.size + 1, #[.int .i64 k0, .int .i64 k1, .int .i64 k2, .int .i64 k3, .int .i64 k4, .int .i64 k5, .int .i64 k6]), (w.heap.size, #[.bool n, .slice a len cap, .int .i64 e])]) wB) := Lib.hid (HeldL.keep HN.out hb)
        clear HN
        have HN := HM
        clear HM
        clear hK hHeld hb
        have hHeld := hHeld2
        clear hHeld2
        try simp only [Act.put, List.setIfInBounds_toArray, List.set_cons_zero, List.set_cons_succ]
        refine wpAnyH_take (i := 4) (oi := { dst := some 21, op := Go.Op.move (Go.Operand.tmp 25), type := 39, pos := "law.go:90", after := #[{ on := 3, ground := Go.Ground.data }], guard := none }) (v := ?_) rfl (by kernel_rfl) (by kernel_rfl) (by kernel_rfl) (fun _ _ _ h => h) (Or.inl ⟨by rfl, ?_⟩) hHeld ?_
        case refine_2 => (intro w hSw; (try dsimp only at hSw); go_simp <;> with_reducible rfl)
        try simp only [Act.put, List.setIfInBounds_toArray, List.set_cons_zero, List.set_cons_succ]
        refine wpAnyH_take (i := 5) (oi := { dst := some 26, op := Go.Op.extract (Go.Operand.tmp 21) 0, type := 37, pos := "law.go:90", after := #[{ on := 4, ground := Go.Ground.data }], guard := none }) (v := ?_) rfl (by kernel_rfl) (by kernel_rfl) (by kernel_rfl) (fun _ _ _ h => h) (Or.inl ⟨by rfl, ?_⟩) hHeld ?_
        case refine_2 => (intro w hSw; (try dsimp only at hSw); go_simp <;> with_reducible rfl)
        try simp only [Act.put, List.setIfInBounds_toArray, List.set_cons_zero, List.set_cons_succ]
        refine wpAnyH_take (i := 6) (oi := { dst := some 27, op := Go.Op.extract (Go.Operand.tmp 21) 1, type := 38, pos := "law.go:90", after := #[{ on := 4, ground := Go.Ground.data }, { on := 8, ground := Go.Ground.gcOnly Go.Departure.lateStores }], guard := none }) (v := ?_) rfl (by kernel_rfl) (by kernel_rfl) (by kernel_rfl) (fun _ _ _ h => h) (Or.inl ⟨by rfl, ?_⟩) hHeld ?_
        case refine_2 => (intro w hSw; (try dsimp only at hSw); go_simp <;> with_reducible rfl)
        try simp only [Act.put, List.setIfInBounds_toArray, List.set_cons_zero, List.set_cons_succ]
        refine wpAnyH_ready (rs := [8]) (by kernel_rfl) (by simp) ?_
        refine (AllReadyH.cons (o := { dst := none, op := Go.Op.store 37 (Go.Operand.tmp 6) (Go.Operand.tmp 26), type := 0, pos := "law.go:90", after := #[{ on := 7, ground := Go.Ground.data }, { on := 5, ground := Go.Ground.data }, { on := 3, ground := Go.Ground.chain }, { on := 0, ground := Go.Ground.phase }, { on := 1, ground := Go.Ground.phase }, { on := 2, ground := Go.Ground.phase }, { on := 3, ground := Go.Ground.phase }, { on := 4, ground := Go.Ground.phase }, { on := 5, ground := Go.Ground.phase }, { on := 6, ground := Go.Ground.textOnly Go.Departure.lateStores }, { on := 7, ground := Go.Ground.phase }], guard := none }) rfl (fun KK hK => ?_) AllReadyH.nil)
        obtain ⟨nn0, nn1, nn2, nnz0, nnz1, nnz2, nnl⟩ := (HN.out.f (List.Mem.head _)).three
        go_simp
        refine hK.out _ _ (ALL1.out _ (HeldL.tail (HeldL.store3 [] [(w3.heap.size, #[.int .i64 p.kind, .int .i64 p.mn, .int .i64 p.mx, .bool p.inc.neg, S p.inc.l, .int .i64 p.inc.e, .int .i64 p.mode, .int .i64 p.mi]), (w.heap.size + 1, #[.int .i64 k0, .int .i64 k1, .int .i64 k2, .int .i64 k3, .int .i64 k4, .int .i64 k5, .int .i64 k6]), (w.heap.size, #[.bool n, .slice a len cap, .int .i64 e])] HN.out (.bool g.neg) (.string ⟨#[48]⟩) (.string ⟨#[]⟩)))) (fun hHeld2 => ?_)
        clear hK hHeld
        have hHeld := hHeld2
        clear hHeld2
        try simp only [Act.put, List.setIfInBounds_toArray, List.set_cons_zero, List.set_cons_succ]
        refine wpAnyH_take (i := 9) (oi := { dst := some 7, op := Go.Op.assign (Go.Operand.tmp 27), type := 38, pos := "law.go:90", after := #[{ on := 6, ground := Go.Ground.data }, { on := 8, ground := Go.Ground.chain }, { on := 0, ground := Go.Ground.phase }, { on := 1, ground := Go.Ground.phase }, { on := 2, ground := Go.Ground.phase }, { on := 3, ground := Go.Ground.phase }, { on := 4, ground := Go.Ground.phase }, { on := 5, ground := Go.Ground.phase }, { on := 6, ground := Go.Ground.phase }, { on := 7, ground := Go.Ground.phase }, { on := 8, ground := Go.Ground.phase }], guard := none }) (v := ?_) rfl (by kernel_rfl) (by kernel_rfl) (by kernel_rfl) (fun _ _ _ h => h) (Or.inl ⟨by rfl, ?_⟩) hHeld ?_
        case refine_2 => (intro w hSw; (try dsimp only at hSw); go_simp <;> with_reducible rfl)
        try simp only [Act.put, List.setIfInBounds_toArray, List.set_cons_zero, List.set_cons_succ]
        refine wpAnyH_done (by kernel_rfl) ?_ _
        go_wp2
        go_meet
        case rel => exact ⟨_, rfl, rfl, HeldL.store3 [] [(w3.heap.size, #[.int .i64 p.kind, .int .i64 p.mn, .int .i64 p.mx, .bool p.inc.neg, S p.inc.l, .int .i64 p.inc.e, .int .i64 p.mode, .int .i64 p.mi]), (w.heap.size + 1, #[.int .i64 k0, .int .i64 k1, .int .i64 k2, .int .i64 k3, .int .i64 k4, .int .i64 k5, .int .i64 k6]), (w.heap.size, #[.bool n, .slice a len cap, .int .i64 e])] HN.out (.bool g.neg) (.string ⟨#[48]⟩) (.string ⟨#[]⟩)⟩
    ·
      go_simp
      have HN : Hid (HeldL w ((w3.heap.size + 1, #[.bool false, .string ⟨#[]⟩, .string ⟨#[]⟩]) :: [(w3.heap.size, #[.int .i64 p.kind, .int .i64 p.mn, .int .i64 p.mx, .bool p.inc.neg, S p.inc.l, .int .i64 p.inc.e, .int .i64 p.mode, .int .i64 p.mi]), (w.heap.size + 1, #[.int .i64 k0, .int .i64 k1, .int .i64 k2, .int .i64 k3, .int .i64 k4, .int .i64 k5, .int .i64 k6]), (w.heap.size, #[.bool n, .slice a len cap, .int .i64 e])]) _) := Lib.hid (HeldL.alloc (hHeld.2.2.2.2.2.2.2.2.2.2.2) (w3.heap.size + 1) #[.bool false, .string ⟨#[]⟩, .string ⟨#[]⟩] 37 (by first | rfl | simp))
      refine hK.out _ _ (ALL1.out _ (HeldL.tail HN.out)) (fun hHeld2 => ?_)
      clear hK hHeld
      have hHeld := hHeld2
      clear hHeld2
      try simp only [Act.put, List.setIfInBounds_toArray, List.set_cons_zero, List.set_cons_succ]
      refine wpAnyH_ready (rs := [2]) (by kernel_rfl) (by simp) ?_
      refine (AllReadyH.cons (o := { dst := some 24, op := Go.Op.call { callee := Go.Callee.value (Go.Operand.func 14), args := #[Go.Operand.tmp 23], argTypes := #[24] }, type := 31, pos := "law.go:90", after := #[{ on := 1, ground := Go.Ground.data }], guard := none }) rfl (fun KK hK => ?_) AllReadyH.nil)
      go_simp
      with_reducible refine (make_as n a len cap L e _ (HIN.out.below (hHeld.2.2.2.2.2.2.2.2.2.2.2).bel) (by omega)).mono ?_
      rintro x wA ⟨rfl, hb⟩
      go_wp2_with fail
      refine hK.out _ _ (KEEP1.out _ _ hHeld hb) (fun hHeld2 => ?_)
      have HM : Hid (HeldL w ((w3.heap.size + 1, #[.bool false, .string ⟨#[]⟩, .string ⟨#[]⟩]) :: [(w3.heap.size, #[.int .i64 p.kind, .int .i64 p.mn, .int .i64 p.mx, .bool p.inc.neg, S p.inc.l, .int .i64 p.inc.e, .int .i64 p.mode, .int .i64 p.mi]), (w.heap.size + 1, #[.int .i64 k0, .int .i64 k1, .int .i64 k2, .int .i64 k3, .int .i64 k4, .int .i64 k5, .int .i64 k6]), (w.heap.size, #[.bool n, .slice a len cap, .int .i64 e])]) wA) := Lib.hid (HeldL.keep HN.out hb)
      clear HN
      have HN := HM
      clear HM
      clear hK hHeld hb
      have hHeld := hHeld2
      clear hHeld2
      try simp only [Act.put, List.setIfInBounds_toArray, List.set_cons_zero, List.set_cons_succ]
      refine wpAnyH_ready (rs := [3]) (by kernel_rfl) (by simp) ?_
      refine (AllReadyH.cons (o := { dst := some 25, op := Go.Op.call { callee := Go.Callee.value (Go.Operand.func 13), args := #[Go.Operand.tmp 22, Go.Operand.tmp 24], argTypes := #[34, 31] }, type := 39, pos := "law.go:90", after := #[{ on := 0, ground := Go.Ground.data }, { on := 2, ground := Go.Ground.data }, { on := 2, ground := Go.Ground.chain }], guard := none }) rfl (fun KK hK => ?_) AllReadyH.nil)
      go_simp
      with_reducible refine (HA1.out _ (TAB1.out _ hHeld)).mono ?_
      rintro x wB ⟨rfl, hb⟩
      go_wp2_with fail
      refine hK.out _ _ (KEEP1.out _ _ hHeld hb) (fun hHeld2 => ?_)
      have HM : Hid (HeldL w ((w3.heap.size + 1, #[.bool false, .string ⟨#[]⟩, .string ⟨#[]⟩]) :: [(w3.heap.size, #[.int .i64 p.kind, .int .i64 p.mn, .int .i64 p.mx, .bool p.inc.neg, S p.inc.l, .int .i64 p.inc.e, .int .i64 p.mode, .int .i64 p.mi]), (w.heap.size + 1, #[.int .i64 k0, .int .i64 k1, .int .i64 k2, .int .i64 k3, .int .i64 k4, .int .i64 k5, .int .i64 k6]), (w.heap.size, #[.bool n, .slice a len cap, .int .i64 e])]) wB) := Lib.hid (HeldL.keep HN.out hb)
      clear HN
      have HN := HM
      clear HM
      clear hK hHeld hb
      have hHeld := hHeld2
      clear hHeld2
      try simp only [Act.put, List.setIfInBounds_toArray, List.set_cons_zero, List.set_cons_succ]
      refine wpAnyH_take (i := 4) (oi := { dst := some 21, op := Go.Op.move (Go.Operand.tmp 25), type := 39, pos := "law.go:90", after := #[{ on := 3, ground := Go.Ground.data }], guard := none }) (v := ?_) rfl (by kernel_rfl) (by kernel_rfl) (by kernel_rfl) (fun _ _ _ h => h) (Or.inl ⟨by rfl, ?_⟩) hHeld ?_
      case refine_2 => (intro w hSw; (try dsimp only at hSw); go_simp <;> with_reducible rfl)
      try simp only [Act.put, List.setIfInBounds_toArray, List.set_cons_zero, List.set_cons_succ]
      refine wpAnyH_take (i := 5) (oi := { dst := some 26, op := Go.Op.extract (Go.Operand.tmp 21) 0, type := 37, pos := "law.go:90", after := #[{ on := 4, ground := Go.Ground.data }], guard := none }) (v := ?_) rfl (by kernel_rfl) (by kernel_rfl) (by kernel_rfl) (fun _ _ _ h => h) (Or.inl ⟨by rfl, ?_⟩) hHeld ?_
      case refine_2 => (intro w hSw; (try dsimp only at hSw); go_simp <;> with_reducible rfl)
      try simp only [Act.put, List.setIfInBounds_toArray, List.set_cons_zero, List.set_cons_succ]
      refine wpAnyH_take (i := 6) (oi := { dst := some 27, op := Go.Op.extract (Go.Operand.tmp 21) 1, type := 38, pos := "law.go:90", after := #[{ on := 4, ground := Go.Ground.data }, { on := 8, ground := Go.Ground.gcOnly Go.Departure.lateStores }], guard := none }) (v := ?_) rfl (by kernel_rfl) (by kernel_rfl) (by kernel_rfl) (fun _ _ _ h => h) (Or.inl ⟨by rfl, ?_⟩) hHeld ?_
      case refine_2 => (intro w hSw; (try dsimp only at hSw); go_simp <;> with_reducible rfl)
      try simp only [Act.put, List.setIfInBounds_toArray, List.set_cons_zero, List.set_cons_succ]
      refine wpAnyH_ready (rs := [8]) (by kernel_rfl) (by simp) ?_
      refine (AllReadyH.cons (o := { dst := none, op := Go.Op.store 37 (Go.Operand.tmp 6) (Go.Operand.tmp 26), type := 0, pos := "law.go:90", after := #[{ on := 7, ground := Go.Ground.data }, { on := 5, ground := Go.Ground.data }, { on := 3, ground := Go.Ground.chain }, { on := 0, ground := Go.Ground.phase }, { on := 1, ground := Go.Ground.phase }, { on := 2, ground := Go.Ground.phase }, { on := 3, ground := Go.Ground.phase }, { on := 4, ground := Go.Ground.phase }, { on := 5, ground := Go.Ground.phase }, { on := 6, ground := Go.Ground.textOnly Go.Departure.lateStores }, { on := 7, ground := Go.Ground.phase }], guard := none }) rfl (fun KK hK => ?_) AllReadyH.nil)
      obtain ⟨nn0, nn1, nn2, nnz0, nnz1, nnz2, nnl⟩ := (HN.out.f (List.Mem.head _)).three
      go_simp
      refine hK.out _ _ (ALL1.out _ (HeldL.tail (HeldL.store3 [] [(w3.heap.size, #[.int .i64 p.kind, .int .i64 p.mn, .int .i64 p.mx, .bool p.inc.neg, S p.inc.l, .int .i64 p.inc.e, .int .i64 p.mode, .int .i64 p.mi]), (w.heap.size + 1, #[.int .i64 k0, .int .i64 k1, .int .i64 k2, .int .i64 k3, .int .i64 k4, .int .i64 k5, .int .i64 k6]), (w.heap.size, #[.bool n, .slice a len cap, .int .i64 e])] HN.out (.bool g.neg) (.string ⟨#[48]⟩) (.string ⟨#[]⟩)))) (fun hHeld2 => ?_)
      clear hK hHeld
      have hHeld := hHeld2
      clear hHeld2
      try simp only [Act.put, List.setIfInBounds_toArray, List.set_cons_zero, List.set_cons_succ]
      refine wpAnyH_take (i := 9) (oi := { dst := some 7, op := Go.Op.assign (Go.Operand.tmp 27), type := 38, pos := "law.go:90", after := #[{ on := 6, ground := Go.Ground.data }, { on := 8, ground := Go.Ground.chain }, { on := 0, ground := Go.Ground.phase }, { on := 1, ground := Go.Ground.phase }, { on := 2, ground := Go.Ground.phase }, { on := 3, ground := Go.Ground.phase }, { on := 4, ground := Go.Ground.phase }, { on := 5, ground := Go.Ground.phase }, { on := 6, ground := Go.Ground.phase }, { on := 7, ground := Go.Ground.phase }, { on := 8, ground := Go.Ground.phase }], guard := none }) (v := ?_) rfl (by kernel_rfl) (by kernel_rfl) (by kernel_rfl) (fun _ _ _ h => h) (Or.inl ⟨by rfl, ?_⟩) hHeld ?_
      case refine_2 => (intro w hSw; (try dsimp only at hSw); go_simp <;> with_reducible rfl)
      try simp only [Act.put, List.setIfInBounds_toArray, List.set_cons_zero, List.set_cons_succ]
      refine wpAnyH_done (by kernel_rfl) ?_ _
      go_wp2
      go_meet
      case rel => exact ⟨_, rfl, rfl, HeldL.store3 [] [(w3.heap.size, #[.int .i64 p.kind, .int .i64 p.mn, .int .i64 p.mx, .bool p.inc.neg, S p.inc.l, .int .i64 p.inc.e, .int .i64 p.mode, .int .i64 p.mi]), (w.heap.size + 1, #[.int .i64 k0, .int .i64 k1, .int .i64 k2, .int .i64 k3, .int .i64 k4, .int .i64 k5, .int .i64 k6]), (w.heap.size, #[.bool n, .slice a len cap, .int .i64 e])] HN.out (.bool g.neg) (.string ⟨#[48]⟩) (.string ⟨#[]⟩)⟩
  case rest =>
  clear q0 q1 q2 ql
  obtain ⟨b4, hvp, hve, hh⟩ := hcut
  subst hvp hve
  have H4 : Hid (HeldL w ((b4, #[.bool g.neg, .string ⟨#[48]⟩, .string ⟨#[]⟩]) :: [(w3.heap.size, #[.int .i64 p.kind, .int .i64 p.mn, .int .i64 p.mx, .bool p.inc.neg, S p.inc.l, .int .i64 p.inc.e, .int .i64 p.mode, .int .i64 p.mi]), (w.heap.size + 1, #[.int .i64 k0, .int .i64 k1, .int .i64 k2, .int .i64 k3, .int .i64 k4, .int .i64 k5, .int .i64 k6]), (w.heap.size, #[.bool n, .slice a len cap, .int .i64 e])]) wc) := Lib.hid hh
  clear hh H3
  generalize wc = w4 at *
  go_upto_region 7 with fail
  go_cut [8] from 14 (fun vp w' => ∃ b : Nat, vp = .pointer (some ⟨b, 0, none⟩) ∧ HeldL w ((b, #[.bool g.neg, S g.l, .int .i64 g.e]) :: [(b4, #[.bool g.neg, .string ⟨#[48]⟩, .string ⟨#[]⟩]), (w3.heap.size, #[.int .i64 p.kind, .int .i64 p.mn, .int .i64 p.mx, .bool p.inc.neg, S p.inc.l, .int .i64 p.inc.e, .int .i64 p.mode, .int .i64 p.mi]), (w.heap.size + 1, #[.int .i64 k0, .int .i64 k1, .int .i64 k2, .int .i64 k3, .int .i64 k4, .int .i64 k5, .int .i64 k6]), (w.heap.size, #[.bool n, .slice a len cap, .int .i64 e])]) w')
  case first =>
    have ALL2 : Hid (∀ w' : World, HeldL w [(b4, #[.bool g.neg, .string ⟨#[48]⟩, .string ⟨#[]⟩]), (w3.heap.size, #[.int .i64 p.kind, .int .i64 p.mn, .int .i64 p.mx, .bool p.inc.neg, S p.inc.l, .int .i64 p.inc.e, .int .i64 p.mode, .int .i64 p.mi]), (w.heap.size + 1, #[.int .i64 k0, .int .i64 k1, .int .i64 k2, .int .i64 k3, .int .i64 k4, .int .i64 k5, .int .i64 k6]), (w.heap.size, #[.bool n, .slice a len cap, .int .i64 e])] w' → w'.cell? ⟨w3.heap.size, 0, none⟩ = some (.int .i64 p.kind) ∧ w'.cell? ⟨w3.heap.size, 1, none⟩ = some (.int .i64 p.mn) ∧ w'.cell? ⟨w3.heap.size, 2, none⟩ = some (.int .i64 p.mx) ∧ w'.cell? ⟨w3.heap.size, 3, none⟩ = some (.bool p.inc.neg) ∧ w'.cell? ⟨w3.heap.size, 4, none⟩ = some (S p.inc.l) ∧ w'.cell? ⟨w3.heap.size, 5, none⟩ = some (.int .i64 p.inc.e) ∧ w'.cell? ⟨w3.heap.size, 6, none⟩ = some (.int .i64 p.mode) ∧ w'.cell? ⟨w3.heap.size, 7, none⟩ = some (.int .i64 p.mi) ∧ w'.cell? ⟨w.heap.size, 0, none⟩ = some (.bool n) ∧ w'.cell? ⟨w.heap.size, 1, none⟩ = some (.slice a len cap) ∧ w'.cell? ⟨w.heap.size, 2, none⟩ = some (.int .i64 e) ∧ HeldL w [(b4, #[.bool g.neg, .string ⟨#[48]⟩, .string ⟨#[]⟩]), (w3.heap.size, #[.int .i64 p.kind, .int .i64 p.mn, .int .i64 p.mx, .bool p.inc.neg, S p.inc.l, .int .i64 p.inc.e, .int .i64 p.mode, .int .i64 p.mi]), (w.heap.size + 1, #[.int .i64 k0, .int .i64 k1, .int .i64 k2, .int .i64 k3, .int .i64 k4, .int .i64 k5, .int .i64 k6]), (w.heap.size, #[.bool n, .slice a len cap, .int .i64 e])] w') := Lib.hid (fun w' h => ⟨(h.f (List.Mem.tail _ (List.Mem.head _))).cell 0, (h.f (List.Mem.tail _ (List.Mem.head _))).cell 1, (h.f (List.Mem.tail _ (List.Mem.head _))).cell 2, (h.f (List.Mem.tail _ (List.Mem.head _))).cell 3, (h.f (List.Mem.tail _ (List.Mem.head _))).cell 4, (h.f (List.Mem.tail _ (List.Mem.head _))).cell 5, (h.f (List.Mem.tail _ (List.Mem.head _))).cell 6, (h.f (List.Mem.tail _ (List.Mem.head _))).cell 7, (h.f (List.Mem.tail _ (List.Mem.tail _ (List.Mem.tail _ (List.Mem.head _))))).cell 0, (h.f (List.Mem.tail _ (List.Mem.tail _ (List.Mem.tail _ (List.Mem.head _))))).cell 1, (h.f (List.Mem.tail _ (List.Mem.tail _ (List.Mem.tail _ (List.Mem.head _))))).cell 2, h⟩)
    have KEEP2 : Hid (∀ w' w'' : World, (w'.cell? ⟨w3.heap.size, 0, none⟩ = some (.int .i64 p.kind) ∧ w'.cell? ⟨w3.heap.size, 1, none⟩ = some (.int .i64 p.mn) ∧ w'.cell? ⟨w3.heap.size, 2, none⟩ = some (.int .i64 p.mx) ∧ w'.cell? ⟨w3.heap.size, 3, none⟩ = some (.bool p.inc.neg) ∧ w'.cell? ⟨w3.heap.size, 4, none⟩ = some (S p.inc.l) ∧ w'.cell? ⟨w3.heap.size, 5, none⟩ = some (.int .i64 p.inc.e) ∧ w'.cell? ⟨w3.heap.size, 6, none⟩ = some (.int .i64 p.mode) ∧ w'.cell? ⟨w3.heap.size, 7, none⟩ = some (.int .i64 p.mi) ∧ w'.cell? ⟨w.heap.size, 0, none⟩ = some (.bool n) ∧ w'.cell? ⟨w.heap.size, 1, none⟩ = some (.slice a len cap) ∧ w'.cell? ⟨w.heap.size, 2, none⟩ = some (.int .i64 e) ∧ HeldL w [(b4, #[.bool g.neg, .string ⟨#[48]⟩, .string ⟨#[]⟩]), (w3.heap.size, #[.int .i64 p.kind, .int .i64 p.mn, .int .i64 p.mx, .bool p.inc.neg, S p.inc.l, .int .i64 p.inc.e, .int .i64 p.mode, .int .i64 p.mi]), (w.heap.size + 1, #[.int .i64 k0, .int .i64 k1, .int .i64 k2, .int .i64 k3, .int .i64 k4, .int .i64 k5, .int .i64 k6]), (w.heap.size, #[.bool n, .slice a len cap, .int .i64 e])] w') → Below w'.heap.size w' w'' → (w''.cell? ⟨w3.heap.size, 0, none⟩ = some (.int .i64 p.kind) ∧ w''.cell? ⟨w3.heap.size, 1, none⟩ = some (.int .i64 p.mn) ∧ w''.cell? ⟨w3.heap.size, 2, none⟩ = some (.int .i64 p.mx) ∧ w''.cell? ⟨w3.heap.size, 3, none⟩ = some (.bool p.inc.neg) ∧ w''.cell? ⟨w3.heap.size, 4, none⟩ = some (S p.inc.l) ∧ w''.cell? ⟨w3.heap.size, 5, none⟩ = some (.int .i64 p.inc.e) ∧ w''.cell? ⟨w3.heap.size, 6, none⟩ = some (.int .i64 p.mode) ∧ w''.cell? ⟨w3.heap.size, 7, none⟩ = some (.int .i64 p.mi) ∧ w''.cell? ⟨w.heap.size, 0, none⟩ = some (.bool n) ∧ w''.cell? ⟨w.heap.size, 1, none⟩ = some (.slice a len cap) ∧ w''.cell? ⟨w.heap.size, 2, none⟩ = some (.int .i64 e) ∧ HeldL w [(b4, #[.bool g.neg, .string ⟨#[48]⟩, .string ⟨#[]⟩]), (w3.heap.size, #[.int .i64 p.kind, .int .i64 p.mn, .int .i64 p.mx, .bool p.inc.neg, S p.inc.l, .int .i64 p.inc.e, .int .i64 p.mode, .int .i64 p.mi]), (w.heap.size + 1, #[.int .i64 k0, .int .i64 k1, .int .i64 k2, .int .i64 k3, .int .i64 k4, .int .i64 k5, .int .i64 k6]), (w.heap.size, #[.bool n, .slice a len cap, .int .i64 e])] w'')) := Lib.hid (fun w' w'' h hb => ALL2.out _ (HeldL.keep (h.2.2.2.2.2.2.2.2.2.2.2) hb))
    have TAB2 : Hid (∀ w' : World, (w'.cell? ⟨w3.heap.size, 0, none⟩ = some (.int .i64 p.kind) ∧ w'.cell? ⟨w3.heap.size, 1, none⟩ = some (.int .i64 p.mn) ∧ w'.cell? ⟨w3.heap.size, 2, none⟩ = some (.int .i64 p.mx) ∧ w'.cell? ⟨w3.heap.size, 3, none⟩ = some (.bool p.inc.neg) ∧ w'.cell? ⟨w3.heap.size, 4, none⟩ = some (S p.inc.l) ∧ w'.cell? ⟨w3.heap.size, 5, none⟩ = some (.int .i64 p.inc.e) ∧ w'.cell? ⟨w3.heap.size, 6, none⟩ = some (.int .i64 p.mode) ∧ w'.cell? ⟨w3.heap.size, 7, none⟩ = some (.int .i64 p.mi) ∧ w'.cell? ⟨w.heap.size, 0, none⟩ = some (.bool n) ∧ w'.cell? ⟨w.heap.size, 1, none⟩ = some (.slice a len cap) ∧ w'.cell? ⟨w.heap.size, 2, none⟩ = some (.int .i64 e) ∧ HeldL w [(b4, #[.bool g.neg, .string ⟨#[48]⟩, .string ⟨#[]⟩]), (w3.heap.size, #[.int .i64 p.kind, .int .i64 p.mn, .int .i64 p.mx, .bool p.inc.neg, S p.inc.l, .int .i64 p.inc.e, .int .i64 p.mode, .int .i64 p.mi]), (w.heap.size + 1, #[.int .i64 k0, .int .i64 k1, .int .i64 k2, .int .i64 k3, .int .i64 k4, .int .i64 k5, .int .i64 k6]), (w.heap.size, #[.bool n, .slice a len cap, .int .i64 e])] w') → Tab w') := Lib.hid (fun w' h => HT.out.below (h.2.2.2.2.2.2.2.2.2.2.2).bel)
    have HS2 : Hid (HeldL w [(b4, #[.bool g.neg, .string ⟨#[48]⟩, .string ⟨#[]⟩]), (w3.heap.size, #[.int .i64 p.kind, .int .i64 p.mn, .int .i64 p.mx, .bool p.inc.neg, S p.inc.l, .int .i64 p.inc.e, .int .i64 p.mode, .int .i64 p.mi]), (w.heap.size + 1, #[.int .i64 k0, .int .i64 k1, .int .i64 k2, .int .i64 k3, .int .i64 k4, .int .i64 k5, .int .i64 k6]), (w.heap.size, #[.bool n, .slice a len cap, .int .i64 e])] _) := Lib.hid H4.out
    refine wp_region_held_drew (S := fun w' => w'.cell? ⟨w3.heap.size, 0, none⟩ = some (.int .i64 p.kind) ∧ w'.cell? ⟨w3.heap.size, 1, none⟩ = some (.int .i64 p.mn) ∧ w'.cell? ⟨w3.heap.size, 2, none⟩ = some (.int .i64 p.mx) ∧ w'.cell? ⟨w3.heap.size, 3, none⟩ = some (.bool p.inc.neg) ∧ w'.cell? ⟨w3.heap.size, 4, none⟩ = some (S p.inc.l) ∧ w'.cell? ⟨w3.heap.size, 5, none⟩ = some (.int .i64 p.inc.e) ∧ w'.cell? ⟨w3.heap.size, 6, none⟩ = some (.int .i64 p.mode) ∧ w'.cell? ⟨w3.heap.size, 7, none⟩ = some (.int .i64 p.mi) ∧ w'.cell? ⟨w.heap.size, 0, none⟩ = some (.bool n) ∧ w'.cell? ⟨w.heap.size, 1, none⟩ = some (.slice a len cap) ∧ w'.cell? ⟨w.heap.size, 2, none⟩ = some (.int .i64 e) ∧ HeldL w [(b4, #[.bool g.neg, .string ⟨#[48]⟩, .string ⟨#[]⟩]), (w3.heap.size, #[.int .i64 p.kind, .int .i64 p.mn, .int .i64 p.mx, .bool p.inc.neg, S p.inc.l, .int .i64 p.inc.e, .int .i64 p.mode, .int .i64 p.mi]), (w.heap.size + 1, #[.int .i64 k0, .int .i64 k1, .int .i64 k2, .int .i64 k3, .int .i64 k4, .int .i64 k5, .int .i64 k6]), (w.heap.size, #[.bool n, .slice a len cap, .int .i64 e])] w') (by kernel_rfl) (ALL2.out _ (HeldL.drew HS2.out)) (fun hHeld => ?_)
    refine wpAnyH_take (i := 0) (oi := { dst := some 28, op := Go.Op.load 34 (Go.Operand.tmp 5), type := 34, pos := "law.go:91", after := #[], guard := none }) (v := ?_) rfl (by kernel_rfl) (by kernel_rfl) (by kernel_rfl) (fun _ _ _ h => h) (Or.inl ⟨by rfl, ?_⟩) hHeld ?_
    case refine_2 => (intro w hSw; (try dsimp only at hSw); go_simp <;> with_reducible rfl)
    try simp only [Act.put, List.setIfInBounds_toArray, List.set_cons_zero, List.set_cons_succ]
    refine wpAnyH_take (i := 1) (oi := { dst := some 29, op := Go.Op.load 24 (Go.Operand.tmp 2), type := 24, pos := "law.go:91", after := #[], guard := none }) (v := ?_) rfl (by kernel_rfl) (by kernel_rfl) (by kernel_rfl) (fun _ _ _ h => h) (Or.inl ⟨by rfl, ?_⟩) hHeld ?_
    case refine_2 => (intro w hSw; (try dsimp only at hSw); go_simp <;> with_reducible rfl)
    try simp only [Act.put, List.setIfInBounds_toArray, List.set_cons_zero, List.set_cons_succ]
    refine wpAnyH_ready (rs := [2, 4]) (by kernel_rfl) (by simp) ?_
    refine (AllReadyH.cons (o := { dst := some 30, op := Go.Op.call { callee := Go.Callee.value (Go.Operand.func 14), args := #[Go.Operand.tmp 29], argTypes := #[24] }, type := 31, pos := "law.go:91", after := #[{ on := 1, ground := Go.Ground.data }], guard := none }) rfl (fun KK hK => ?_) (AllReadyH.cons (o := { dst := some 8, op := Go.Op.alloc 31, type := 0, pos := "law.go:91", after := #[], guard := none }) rfl (fun KK hK => ?_) AllReadyH.nil))
    ·
      go_simp
      with_reducible refine (make_as n a len cap L e _ (HIN.out.below (hHeld.2.2.2.2.2.2.2.2.2.2.2).bel) (by omega)).mono ?_
      rintro x wA ⟨rfl, hb⟩
      go_wp2_with fail
      refine hK.out _ _ (KEEP2.out _ _ hHeld hb) (fun hHeld2 => ?_)
      clear hK hHeld hb
      have hHeld := hHeld2
      clear hHeld2
      try simp only [Act.put, List.setIfInBounds_toArray, List.set_cons_zero, List.set_cons_succ]
      refine wpAnyH_ready (rs := [3, 4]) (by kernel_rfl) (by simp) ?_
      refine (AllReadyH.cons (o := { dst := some 31, op := Go.Op.call { callee := Go.Callee.value (Go.Operand.func 15), args := #[Go.Operand.tmp 28, Go.Operand.tmp 30], argTypes := #[34, 31] }, type := 31, pos := "law.go:91", after := #[{ on := 0, ground := Go.Ground.data }, { on := 2, ground := Go.Ground.data }, { on := 2, ground := Go.Ground.chain }], guard := none }) rfl (fun KK hK => ?_) (AllReadyH.cons (o := { dst := some 8, op := Go.Op.alloc 31, type := 0, pos := "law.go:91", after := #[], guard := none }) rfl (fun KK hK => ?_) AllReadyH.nil))
      ·
        go_simp
        with_reducible refine (HR1.out _ (TAB2.out _ hHeld)).mono ?_
        rintro x wB ⟨rfl, hb⟩
        go_wp2_with fail
        refine hK.out _ _ (KEEP2.out _ _ hHeld hb) (fun hHeld2 => ?_)
        clear hK hHeld hb
        have hHeld := hHeld2
        clear hHeld2
        try simp only [Act.put, List.setIfInBounds_toArray, List.set_cons_zero, List.set_cons_succ]
        refine wpAnyH_ready (rs := [4]) (by kernel_rfl) (by simp) ?_
        refine (AllReadyH.cons (o := { dst := some 8, op := Go.Op.alloc 31, type := 0, pos := "law.go:91", after := #[], guard := none }) rfl (fun KK hK => ?_) AllReadyH.nil)
        have hH0 := hHeld
        go_simp
        refine hK.out _ _ (ALL2.out _ (HeldL.skip (hHeld.2.2.2.2.2.2.2.2.2.2.2) _)) (fun hHeld2 => ?_)
        clear hK hHeld
        have hHeld := hHeld2
        clear hHeld2
        try simp only [Act.put, List.setIfInBounds_toArray, List.set_cons_zero, List.set_cons_succ]
        refine wpAnyH_ready (rs := [5]) (by kernel_rfl) (by simp) ?_
        refine (AllReadyH.cons (o := { dst := none, op := Go.Op.store 31 (Go.Operand.tmp 8) (Go.Operand.tmp 31), type := 0, pos := "law.go:91", after := #[{ on := 4, ground := Go.Ground.data }, { on := 3, ground := Go.Ground.data }, { on := 3, ground := Go.Ground.chain }, { on := 0, ground := Go.Ground.phase }, { on := 1, ground := Go.Ground.phase }, { on := 2, ground := Go.Ground.phase }, { on := 3, ground := Go.Ground.phase }, { on := 4, ground := Go.Ground.phase }], guard := none }) rfl (fun KK hK => ?_) AllReadyH.nil)
        go_simp
        refine hK.out _ _ (ALL2.out _ (HeldL.skip (hH0.2.2.2.2.2.2.2.2.2.2.2) _)) (fun hHeld2 => ?_)
        clear hK hHeld
        have hHeld := hHeld2
        clear hHeld2
        try simp only [Act.put, List.setIfInBounds_toArray, List.set_cons_zero, List.set_cons_succ]
        refine wpAnyH_done (by kernel_rfl) ?_ _
        go_wp2
        go_meet
        case rel => exact ⟨_, rfl, HeldL.alloc (hH0.2.2.2.2.2.2.2.2.2.2.2) _ _ _ rfl⟩
      ·
        go_simp
        have HN : Hid (HeldL w ((wA.heap.size, #[.bool false, .string ⟨#[]⟩, .int .i64 0]) :: [(b4, #[.bool g.neg, .string ⟨#[48]⟩, .string ⟨#[]⟩]), (w3.heap.size, #[.int .i64 p.kind, .int .i64 p.mn, .int .i64 p.mx, .bool p.inc.neg, S p.inc.l, .int .i64 p.inc.e, .int .i64 p.mode, .int .i64 p.mi]), (w.heap.size + 1, #[.int .i64 k0, .int .i64 k1, .int .i64 k2, .int .i64 k3, .int .i64 k4, .int .i64 k5, .int .i64 k6]), (w.heap.size, #[.bool n, .slice a len cap, .int .i64 e])]) _) := Lib.hid (HeldL.alloc (hHeld.2.2.2.2.2.2.2.2.2.2.2) (wA.heap.size) #[.bool false, .string ⟨#[]⟩, .int .i64 0] 31 (by first | rfl | simp))
        refine hK.out _ _ (ALL2.out _ (HeldL.tail HN.out)) (fun hHeld2 => ?_)
        clear hK hHeld
        have hHeld := hHeld2
        clear hHeld2
        try simp only [Act.put, List.setIfInBounds_toArray, List.set_cons_zero, List.set_cons_succ]
        refine wpAnyH_ready (rs := [3]) (by kernel_rfl) (by simp) ?_
        refine (AllReadyH.cons (o := { dst := some 31, op := Go.Op.call { callee := Go.Callee.value (Go.Operand.func 15), args := #[Go.Operand.tmp 28, Go.Operand.tmp 30], argTypes := #[34, 31] }, type := 31, pos := "law.go:91", after := #[{ on := 0, ground := Go.Ground.data }, { on := 2, ground := Go.Ground.data }, { on := 2, ground := Go.Ground.chain }], guard := none }) rfl (fun KK hK => ?_) AllReadyH.nil)
        go_simp
        with_reducible refine (HR1.out _ (TAB2.out _ hHeld)).mono ?_
        rintro x wB ⟨rfl, hb⟩
        go_wp2_with fail
        refine hK.out _ _ (KEEP2.out _ _ hHeld hb) (fun hHeld2 => ?_)
        have HM : Hid (HeldL w ((wA.heap.size, #[.bool false, .string ⟨#[]⟩, .int .i64 0]) :: [(b4, #[.bool g.neg, .string ⟨#[48]⟩, .string ⟨#[]⟩]), (w3.heap.size, #[.int .i64 p.kind, .int .i64 p.mn, .int .i64 p.mx, .bool p.inc.neg, S p.inc.l, .int .i64 p.inc.e, .int .i64 p.mode, .int .i64 p.mi]), (w.heap.size + 1, #[.int .i64 k0, .int .i64 k1, .int .i64 k2, .int .i64 k3, .int .i64 k4, .int .i64 k5, .int .i64 k6]), (w.heap.size, #[.bool n, .slice a len cap, .int .i64 e])]) wB) := Lib.hid (HeldL.keep HN.out hb)
        clear HN
        have HN := HM
        clear HM
        clear hK hHeld hb
        have hHeld := hHeld2
        clear hHeld2
        try simp only [Act.put, List.setIfInBounds_toArray, List.set_cons_zero, List.set_cons_succ]
        refine wpAnyH_ready (rs := [5]) (by kernel_rfl) (by simp) ?_
        refine (AllReadyH.cons (o := { dst := none, op := Go.Op.store 31 (Go.Operand.tmp 8) (Go.Operand.tmp 31), type := 0, pos := "law.go:91", after := #[{ on := 4, ground := Go.Ground.data }, { on := 3, ground := Go.Ground.data }, { on := 3, ground := Go.Ground.chain }, { on := 0, ground := Go.Ground.phase }, { on := 1, ground := Go.Ground.phase }, { on := 2, ground := Go.Ground.phase }, { on := 3, ground := Go.Ground.phase }, { on := 4, ground := Go.Ground.phase }], guard := none }) rfl (fun KK hK => ?_) AllReadyH.nil)
        obtain ⟨nn0, nn1, nn2, nnz0, nnz1, nnz2, nnl⟩ := (HN.out.f (List.Mem.head _)).three
        go_simp
        refine hK.out _ _ (ALL2.out _ (HeldL.tail (HeldL.store3 [] [(b4, #[.bool g.neg, .string ⟨#[48]⟩, .string ⟨#[]⟩]), (w3.heap.size, #[.int .i64 p.kind, .int .i64 p.mn, .int .i64 p.mx, .bool p.inc.neg, S p.inc.l, .int .i64 p.inc.e, .int .i64 p.mode, .int .i64 p.mi]), (w.heap.size + 1, #[.int .i64 k0, .int .i64 k1, .int .i64 k2, .int .i64 k3, .int .i64 k4, .int .i64 k5, .int .i64 k6]), (w.heap.size, #[.bool n, .slice a len cap, .int .i64 e])] HN.out (.bool g.neg) (S g.l) (.int .i64 g.e)))) (fun hHeld2 => ?_)
        clear hK hHeld
        have hHeld := hHeld2
        clear hHeld2
        try simp only [Act.put, List.setIfInBounds_toArray, List.set_cons_zero, List.set_cons_succ]
        refine wpAnyH_done (by kernel_rfl) ?_ _
        go_wp2
        go_meet
        case rel => exact ⟨_, rfl, HeldL.store3 [] [(b4, #[.bool g.neg, .string ⟨#[48]⟩, .string ⟨#[]⟩]), (w3.heap.size, #[.int .i64 p.kind, .int .i64 p.mn, .int .i64 p.mx, .bool p.inc.neg, S p.inc.l, .int .i64 p.inc.e, .int .i64 p.mode, .int .i64 p.mi]), (w.heap.size + 1, #[.int .i64 k0, .int .i64 k1, .int .i64 k2, .int .i64 k3, .int .i64 k4, .int .i64 k5, .int .i64 k6]), (w.heap.size, #[.bool n, .slice a len cap, .int .i64 e])] HN.out (.bool g.neg) (S g.l) (.int .i64 g.e)⟩
    ·
      go_simp
      have HN : Hid (HeldL w ((w4.heap.size, #[.bool false, .string ⟨#[]⟩, .int .i64 0]) :: [(b4, #[.bool g.neg, .string ⟨#[48]⟩, .string ⟨#[]⟩]), (w3.heap.size, #[.int .i64 p.kind, .int .i64 p.mn, .int .i64 p.mx, .bool p.inc.neg, S p.inc.l, .int .i64 p.inc.e, .int .i64 p.mode, .int .i64 p.mi]), (w.heap.size + 1, #[.int .i64 k0, .int .i64 k1, .int .i64 k2, .int .i64 k3, .int .i64 k4, .int .i64 k5, .int .i64 k6]), (w.heap.size, #[.bool n, .slice a len cap, .int .i64 e])]) _) := Lib.hid (HeldL.alloc (hHeld.2.2.2.2.2.2.2.2.2.2.2) (w4.heap.size) #[.bool false, .string ⟨#[]⟩, .int .i64 0] 31 (by first | rfl | simp))
      refine hK.out _ _ (ALL2.out _ (HeldL.tail HN.out)) (fun hHeld2 => ?_)
      clear hK hHeld
      have hHeld := hHeld2
      clear hHeld2
      try simp only [Act.put, List.setIfInBounds_toArray, List.set_cons_zero, List.set_cons_succ]
      refine wpAnyH_ready (rs := [2]) (by kernel_rfl) (by simp) ?_
      refine (AllReadyH.cons (o := { dst := some 30, op := Go.Op.call { callee := Go.Callee.value (Go.Operand.func 14), args := #[Go.Operand.tmp 29], argTypes := #[24] }, type := 31, pos := "law.go:91", after := #[{ on := 1, ground := Go.Ground.data }], guard := none }) rfl (fun KK hK => ?_) AllReadyH.nil)
      go_simp
      with_reducible refine (make_as n a len cap L e _ (HIN.out.below (hHeld.2.2.2.2.2.2.2.2.2.2.2).bel) (by omega)).mono ?_
      rintro x wA ⟨rfl, hb⟩
      go_wp2_with fail
      refine hK.out _ _ (KEEP2.out _ _ hHeld hb) (fun hHeld2 => ?_)
      have HM : Hid (HeldL w ((w4.heap.size, #[.bool false, .string ⟨#[]⟩, .int .i64 0]) :: [(b4, #[.bool g.neg, .string ⟨#[48]⟩, .string ⟨#[]⟩]), (w3.heap.size, #[.int .i64 p.kind, .int .i64 p.mn, .int .i64 p.mx, .bool p.inc.neg, S p.inc.l, .int .i64 p.inc.e, .int .i64 p.mode, .int .i64 p.mi]), (w.heap.size + 1, #[.int .i64 k0, .int .i64 k1, .int .i64 k2, .int .i64 k3, .int .i64 k4, .int .i64 k5, .int .i64 k6]), (w.heap.size, #[.bool n, .slice a len cap, .int .i64 e])]) wA) := Lib.hid (HeldL.keep HN.out hb)
      clear HN
      have HN := HM
      clear HM
      clear hK hHeld hb
      have hHeld := hHeld2
      clear hHeld2
      try simp only [Act.put, List.setIfInBounds_toArray, List.set_cons_zero, List.set_cons_succ]
      refine wpAnyH_ready (rs := [3]) (by kernel_rfl) (by simp) ?_
      refine (AllReadyH.cons (o := { dst := some 31, op := Go.Op.call { callee := Go.Callee.value (Go.Operand.func 15), args := #[Go.Operand.tmp 28, Go.Operand.tmp 30], argTypes := #[34, 31] }, type := 31, pos := "law.go:91", after := #[{ on := 0, ground := Go.Ground.data }, { on := 2, ground := Go.Ground.data }, { on := 2, ground := Go.Ground.chain }], guard := none }) rfl (fun KK hK => ?_) AllReadyH.nil)
      go_simp
      with_reducible refine (HR1.out _ (TAB2.out _ hHeld)).mono ?_
      rintro x wB ⟨rfl, hb⟩
      go_wp2_with fail
      refine hK.out _ _ (KEEP2.out _ _ hHeld hb) (fun hHeld2 => ?_)
      have HM : Hid (HeldL w ((w4.heap.size, #[.bool false, .string ⟨#[]⟩, .int .i64 0]) :: [(b4, #[.bool g.neg, .string ⟨#[48]⟩, .string ⟨#[]⟩]), (w3.heap.size, #[.int .i64 p.kind, .int .i64 p.mn, .int .i64 p.mx, .bool p.inc.neg, S p.inc.l, .int .i64 p.inc.e, .int .i64 p.mode, .int .i64 p.mi]), (w.heap.size + 1, #[.int .i64 k0, .int .i64 k1, .int .i64 k2, .int .i64 k3, .int .i64 k4, .int .i64 k5, .int .i64 k6]), (w.heap.size, #[.bool n, .slice a len cap, .int .i64 e])]) wB) := Lib.hid (HeldL.keep HN.out hb)
      clear HN
      have HN := HM
      clear HM
      clear hK hHeld hb
      have hHeld := hHeld2
      clear hHeld2
      try simp only [Act.put, List.setIfInBounds_toArray, List.set_cons_zero, List.set_cons_succ]
      refine wpAnyH_ready (rs := [5]) (by kernel_rfl) (by simp) ?_
      refine (AllReadyH.cons (o := { dst := none, op := Go.Op.store 31 (Go.Operand.tmp 8) (Go.Operand.tmp 31), type := 0, pos := "law.go:91", after := #[{ on := 4, ground := Go.Ground.data }, { on := 3, ground := Go.Ground.data }, { on := 3, ground := Go.Ground.chain }, { on := 0, ground := Go.Ground.phase }, { on := 1, ground := Go.Ground.phase }, { on := 2, ground := Go.Ground.phase }, { on := 3, ground := Go.Ground.phase }, { on := 4, ground := Go.Ground.phase }], guard := none }) rfl (fun KK hK => ?_) AllReadyH.nil)
      obtain ⟨nn0, nn1, nn2, nnz0, nnz1, nnz2, nnl⟩ := (HN.out.f (List.Mem.head _)).three
      go_simp
      refine hK.out _ _ (ALL2.out _ (HeldL.tail (HeldL.store3 [] [(b4, #[.bool g.neg, .string ⟨#[48]⟩, .string ⟨#[]⟩]), (w3.heap.size, #[.int .i64 p.kind, .int .i64 p.mn, .int .i64 p.mx, .bool p.inc.neg, S p.inc.l, .int .i64 p.inc.e, .int .i64 p.mode, .int .i64 p.mi]), (w.heap.size + 1, #[.int .i64 k0, .int .i64 k1, .int .i64 k2, .int .i64 k3, .int .i64 k4, .int .i64 k5, .int .i64 k6]), (w.heap.size, #[.bool n, .slice a len cap, .int .i64 e])] HN.out (.bool g.neg) (S g.l) (.int .i64 g.e)))) (fun hHeld2 => ?_)
      clear hK hHeld
      have hHeld := hHeld2
      clear hHeld2
      try simp only [Act.put, List.setIfInBounds_toArray, List.set_cons_zero, List.set_cons_succ]
      refine wpAnyH_done (by kernel_rfl) ?_ _
      go_wp2
      go_meet
      case rel => exact ⟨_, rfl, HeldL.store3 [] [(b4, #[.bool g.neg, .string ⟨#[48]⟩, .string ⟨#[]⟩]), (w3.heap.size, #[.int .i64 p.kind, .int .i64 p.mn, .int .i64 p.mx, .bool p.inc.neg, S p.inc.l, .int .i64 p.inc.e, .int .i64 p.mode, .int .i64 p.mi]), (w.heap.size + 1, #[.int .i64 k0, .int .i64 k1, .int .i64 k2, .int .i64 k3, .int .i64 k4, .int .i64 k5, .int .i64 k6]), (w.heap.size, #[.bool n, .slice a len cap, .int .i64 e])] HN.out (.bool g.neg) (S g.l) (.int .i64 g.e)⟩
  case rest =>
  obtain ⟨b5, hvp, hh⟩ := hcut
  subst hvp
  have H5 : Hid (HeldL w ((b5, #[.bool g.neg, S g.l, .int .i64 g.e]) :: [(b4, #[.bool g.neg, .string ⟨#[48]⟩, .string ⟨#[]⟩]), (w3.heap.size, #[.int .i64 p.kind, .int .i64 p.mn, .int .i64 p.mx, .bool p.inc.neg, S p.inc.l, .int .i64 p.inc.e, .int .i64 p.mode, .int .i64 p.mi]), (w.heap.size + 1, #[.int .i64 k0, .int .i64 k1, .int .i64 k2, .int .i64 k3, .int .i64 k4, .int .i64 k5, .int .i64 k6]), (w.heap.size, #[.bool n, .slice a len cap, .int .i64 e])]) wc) := Lib.hid hh
  clear hh H4
  generalize wc = w5 at *
  have bv0 : w5.cell? ⟨b4, 0, none⟩ = some (.bool g.neg) := (H5.out.f (List.Mem.tail _ (List.Mem.head _))).cell 0
  have bv1 : w5.cell? ⟨b4, 1, none⟩ = some (.string ⟨#[48]⟩) := (H5.out.f (List.Mem.tail _ (List.Mem.head _))).cell 1
  have bv2 : w5.cell? ⟨b4, 2, none⟩ = some (.string ⟨#[]⟩) := (H5.out.f (List.Mem.tail _ (List.Mem.head _))).cell 2
  have bvl : b4 < w5.heap.size := (H5.out.f (List.Mem.tail _ (List.Mem.head _))).lt
  have bg0 : w5.cell? ⟨b5, 0, none⟩ = some (.bool g.neg) := (H5.out.f (List.Mem.head _)).cell 0
  have bg1 : w5.cell? ⟨b5, 1, none⟩ = some (S g.l) := (H5.out.f (List.Mem.head _)).cell 1
  have bg2 : w5.cell? ⟨b5, 2, none⟩ = some (.int .i64 g.e) := (H5.out.f (List.Mem.head _)).cell 2
  have bgl : b5 < w5.heap.size := (H5.out.f (List.Mem.head _)).lt
  have bp0 : w5.cell? ⟨w3.heap.size, 0, none⟩ = some (.int .i64 p.kind) := (H5.out.f (List.Mem.tail _ (List.Mem.tail _ (List.Mem.head _)))).cell 0
  have bp1 : w5.cell? ⟨w3.heap.size, 1, none⟩ = some (.int .i64 p.mn) := (H5.out.f (List.Mem.tail _ (List.Mem.tail _ (List.Mem.head _)))).cell 1
  have bp2 : w5.cell? ⟨w3.heap.size, 2, none⟩ = some (.int .i64 p.mx) := (H5.out.f (List.Mem.tail _ (List.Mem.tail _ (List.Mem.head _)))).cell 2
  have bp3 : w5.cell? ⟨w3.heap.size, 3, none⟩ = some (.bool p.inc.neg) := (H5.out.f (List.Mem.tail _ (List.Mem.tail _ (List.Mem.head _)))).cell 3
  have bp4 : w5.cell? ⟨w3.heap.size, 4, none⟩ = some (S p.inc.l) := (H5.out.f (List.Mem.tail _ (List.Mem.tail _ (List.Mem.head _)))).cell 4
  have bp5 : w5.cell? ⟨w3.heap.size, 5, none⟩ = some (.int .i64 p.inc.e) := (H5.out.f (List.Mem.tail _ (List.Mem.tail _ (List.Mem.head _)))).cell 5
  have bp6 : w5.cell? ⟨w3.heap.size, 6, none⟩ = some (.int .i64 p.mode) := (H5.out.f (List.Mem.tail _ (List.Mem.tail _ (List.Mem.head _)))).cell 6
  have bp7 : w5.cell? ⟨w3.heap.size, 7, none⟩ = some (.int .i64 p.mi) := (H5.out.f (List.Mem.tail _ (List.Mem.tail _ (List.Mem.head _)))).cell 7
  have bpl : w3.heap.size < w5.heap.size := (H5.out.f (List.Mem.tail _ (List.Mem.tail _ (List.Mem.head _)))).lt
  go_wp2_with fail
  with_reducible refine (isS [48] _ (by decide) (by decide)).mono ?_
  rintro x wz ⟨rfl, rfl⟩
  go_wp2_with fail
  with_reducible refine (isS [] _ (by decide) (by decide)).mono ?_
  rintro x wz ⟨rfl, rfl⟩
  go_wp2_with fail
  with_reducible refine (trim48 _).mono ?_
  rintro x wz ⟨rfl, rfl⟩
  go_upto_if 93 with fail
  go_cut [11] from 14 (fun v11 w' => v11 = .int .i64 least ∧ HeldL w [(b5, #[.bool g.neg, S g.l, .int .i64 g.e]), (b4, #[.bool g.neg, .string ⟨#[48]⟩, .string ⟨#[]⟩]), (w3.heap.size, #[.int .i64 p.kind, .int .i64 p.mn, .int .i64 p.mx, .bool p.inc.neg, S p.inc.l, .int .i64 p.inc.e, .int .i64 p.mode, .int .i64 p.mi]), (w.heap.size + 1, #[.int .i64 k0, .int .i64 k1, .int .i64 k2, .int .i64 k3, .int .i64 k4, .int .i64 k5, .int .i64 k6]), (w.heap.size, #[.bool n, .slice a len cap, .int .i64 e])] w')
  case first =>
    cases hk : (p.kind == 1) with
    | false =>
      have hl := HL0.out hk
      subst hl
      go_wp2
      go_meet
      case rel => exact ⟨rfl, H5.out⟩
    | true =>
      cases hz : (made g.neg g.l g.e).l.isEmpty with
      | true =>
        have HGZ := Lib.hid hz
        clear hz
        have hl := HL1.out hk HGZ.out
        subst hl
        go_wp2_with fail
        with_reducible refine (zero_T g true _ gl HGZ.out).mono ?_
        rintro x wz ⟨rfl, hb⟩
        have HZZ : Hid (HeldL w [(b5, #[.bool g.neg, S g.l, .int .i64 g.e]), (b4, #[.bool g.neg, .string ⟨#[48]⟩, .string ⟨#[]⟩]), (w3.heap.size, #[.int .i64 p.kind, .int .i64 p.mn, .int .i64 p.mx, .bool p.inc.neg, S p.inc.l, .int .i64 p.inc.e, .int .i64 p.mode, .int .i64 p.mi]), (w.heap.size + 1, #[.int .i64 k0, .int .i64 k1, .int .i64 k2, .int .i64 k3, .int .i64 k4, .int .i64 k5, .int .i64 k6]), (w.heap.size, #[.bool n, .slice a len cap, .int .i64 e])] wz) := Lib.hid (HeldL.keep H5.out hb)
        clear hb
        have y0 : wz.cell? ⟨w3.heap.size, 0, none⟩ = some (.int .i64 p.kind) := (HZZ.out.f (List.Mem.tail _ (List.Mem.tail _ (List.Mem.head _)))).cell 0
        have y1 : wz.cell? ⟨w3.heap.size, 1, none⟩ = some (.int .i64 p.mn) := (HZZ.out.f (List.Mem.tail _ (List.Mem.tail _ (List.Mem.head _)))).cell 1
        have yl : w3.heap.size < wz.heap.size := (HZZ.out.f (List.Mem.tail _ (List.Mem.tail _ (List.Mem.head _)))).lt
        go_wp2
        go_meet
        case rel => exact ⟨rfl, HZZ.out⟩
      | false =>
        rw [HGI.out] at hz
        cases hz
  case rest =>
  obtain ⟨hv11, hh⟩ := hcut
  subst hv11
  have H6 : Hid (HeldL w [(b5, #[.bool g.neg, S g.l, .int .i64 g.e]), (b4, #[.bool g.neg, .string ⟨#[48]⟩, .string ⟨#[]⟩]), (w3.heap.size, #[.int .i64 p.kind, .int .i64 p.mn, .int .i64 p.mx, .bool p.inc.neg, S p.inc.l, .int .i64 p.inc.e, .int .i64 p.mode, .int .i64 p.mi]), (w.heap.size + 1, #[.int .i64 k0, .int .i64 k1, .int .i64 k2, .int .i64 k3, .int .i64 k4, .int .i64 k5, .int .i64 k6]), (w.heap.size, #[.bool n, .slice a len cap, .int .i64 e])] wc) := Lib.hid hh
  clear hh H5
  have bv0 : wc.cell? ⟨b4, 0, none⟩ = some (.bool g.neg) := (H6.out.f (List.Mem.tail _ (List.Mem.head _))).cell 0
  have bv1 : wc.cell? ⟨b4, 1, none⟩ = some (.string ⟨#[48]⟩) := (H6.out.f (List.Mem.tail _ (List.Mem.head _))).cell 1
  have bv2 : wc.cell? ⟨b4, 2, none⟩ = some (.string ⟨#[]⟩) := (H6.out.f (List.Mem.tail _ (List.Mem.head _))).cell 2
  have bvl : b4 < wc.heap.size := (H6.out.f (List.Mem.tail _ (List.Mem.head _))).lt
  have bp0 : wc.cell? ⟨w3.heap.size, 0, none⟩ = some (.int .i64 p.kind) := (H6.out.f (List.Mem.tail _ (List.Mem.tail _ (List.Mem.head _)))).cell 0
  have bp1 : wc.cell? ⟨w3.heap.size, 1, none⟩ = some (.int .i64 p.mn) := (H6.out.f (List.Mem.tail _ (List.Mem.tail _ (List.Mem.head _)))).cell 1
  have bp2 : wc.cell? ⟨w3.heap.size, 2, none⟩ = some (.int .i64 p.mx) := (H6.out.f (List.Mem.tail _ (List.Mem.tail _ (List.Mem.head _)))).cell 2
  have bp3 : wc.cell? ⟨w3.heap.size, 3, none⟩ = some (.bool p.inc.neg) := (H6.out.f (List.Mem.tail _ (List.Mem.tail _ (List.Mem.head _)))).cell 3
  have bp4 : wc.cell? ⟨w3.heap.size, 4, none⟩ = some (S p.inc.l) := (H6.out.f (List.Mem.tail _ (List.Mem.tail _ (List.Mem.head _)))).cell 4
  have bp5 : wc.cell? ⟨w3.heap.size, 5, none⟩ = some (.int .i64 p.inc.e) := (H6.out.f (List.Mem.tail _ (List.Mem.tail _ (List.Mem.head _)))).cell 5
  have bp6 : wc.cell? ⟨w3.heap.size, 6, none⟩ = some (.int .i64 p.mode) := (H6.out.f (List.Mem.tail _ (List.Mem.tail _ (List.Mem.head _)))).cell 6
  have bp7 : wc.cell? ⟨w3.heap.size, 7, none⟩ = some (.int .i64 p.mi) := (H6.out.f (List.Mem.tail _ (List.Mem.tail _ (List.Mem.head _)))).cell 7
  have bpl : w3.heap.size < wc.heap.size := (H6.out.f (List.Mem.tail _ (List.Mem.tail _ (List.Mem.head _)))).lt
  cases hk2 : (p.kind == 2) with
  | true =>
    go_wp2_with fail
    have ALL3 : Hid (∀ w' : World, HeldL w [(b5, #[.bool g.neg, S g.l, .int .i64 g.e]), (b4, #[.bool g.neg, .string ⟨#[48]⟩, .string ⟨#[]⟩]), (w3.heap.size, #[.int .i64 p.kind, .int .i64 p.mn, .int .i64 p.mx, .bool p.inc.neg, S p.inc.l, .int .i64 p.inc.e, .int .i64 p.mode, .int .i64 p.mi]), (w.heap.size + 1, #[.int .i64 k0, .int .i64 k1, .int .i64 k2, .int .i64 k3, .int .i64 k4, .int .i64 k5, .int .i64 k6]), (w.heap.size, #[.bool n, .slice a len cap, .int .i64 e])] w' → w'.cell? ⟨b4, 0, none⟩ = some (.bool g.neg) ∧ w'.cell? ⟨b4, 1, none⟩ = some (.string ⟨#[48]⟩) ∧ w'.cell? ⟨b4, 2, none⟩ = some (.string ⟨#[]⟩) ∧ w'.cell? ⟨w3.heap.size, 0, none⟩ = some (.int .i64 p.kind) ∧ w'.cell? ⟨w3.heap.size, 1, none⟩ = some (.int .i64 p.mn) ∧ w'.cell? ⟨w3.heap.size, 2, none⟩ = some (.int .i64 p.mx) ∧ w'.cell? ⟨w3.heap.size, 3, none⟩ = some (.bool p.inc.neg) ∧ w'.cell? ⟨w3.heap.size, 4, none⟩ = some (S p.inc.l) ∧ w'.cell? ⟨w3.heap.size, 5, none⟩ = some (.int .i64 p.inc.e) ∧ w'.cell? ⟨w3.heap.size, 6, none⟩ = some (.int .i64 p.mode) ∧ w'.cell? ⟨w3.heap.size, 7, none⟩ = some (.int .i64 p.mi) ∧ HeldL w [(b5, #[.bool g.neg, S g.l, .int .i64 g.e]), (b4, #[.bool g.neg, .string ⟨#[48]⟩, .string ⟨#[]⟩]), (w3.heap.size, #[.int .i64 p.kind, .int .i64 p.mn, .int .i64 p.mx, .bool p.inc.neg, S p.inc.l, .int .i64 p.inc.e, .int .i64 p.mode, .int .i64 p.mi]), (w.heap.size + 1, #[.int .i64 k0, .int .i64 k1, .int .i64 k2, .int .i64 k3, .int .i64 k4, .int .i64 k5, .int .i64 k6]), (w.heap.size, #[.bool n, .slice a len cap, .int .i64 e])] w') := Lib.hid (fun w' h => ⟨(h.f (List.Mem.tail _ (List.Mem.head _))).cell 0, (h.f (List.Mem.tail _ (List.Mem.head _))).cell 1, (h.f (List.Mem.tail _ (List.Mem.head _))).cell 2, (h.f (List.Mem.tail _ (List.Mem.tail _ (List.Mem.head _)))).cell 0, (h.f (List.Mem.tail _ (List.Mem.tail _ (List.Mem.head _)))).cell 1, (h.f (List.Mem.tail _ (List.Mem.tail _ (List.Mem.head _)))).cell 2, (h.f (List.Mem.tail _ (List.Mem.tail _ (List.Mem.head _)))).cell 3, (h.f (List.Mem.tail _ (List.Mem.tail _ (List.Mem.head _)))).cell 4, (h.f (List.Mem.tail _ (List.Mem.tail _ (List.Mem.head _)))).cell 5, (h.f (List.Mem.tail _ (List.Mem.tail _ (List.Mem.head _)))).cell 6, (h.f (List.Mem.tail _ (List.Mem.tail _ (List.Mem.head _)))).cell 7, h⟩)
    have KEEP3 : Hid (∀ w' w'' : World, (w'.cell? ⟨b4, 0, none⟩ = some (.bool g.neg) ∧ w'.cell? ⟨b4, 1, none⟩ = some (.string ⟨#[48]⟩) ∧ w'.cell? ⟨b4, 2, none⟩ = some (.string ⟨#[]⟩) ∧ w'.cell? ⟨w3.heap.size, 0, none⟩ = some (.int .i64 p.kind) ∧ w'.cell? ⟨w3.heap.size, 1, none⟩ = some (.int .i64 p.mn) ∧ w'.cell? ⟨w3.heap.size, 2, none⟩ = some (.int .i64 p.mx) ∧ w'.cell? ⟨w3.heap.size, 3, none⟩ = some (.bool p.inc.neg) ∧ w'.cell? ⟨w3.heap.size, 4, none⟩ = some (S p.inc.l) ∧ w'.cell? ⟨w3.heap.size, 5, none⟩ = some (.int .i64 p.inc.e) ∧ w'.cell? ⟨w3.heap.size, 6, none⟩ = some (.int .i64 p.mode) ∧ w'.cell? ⟨w3.heap.size, 7, none⟩ = some (.int .i64 p.mi) ∧ HeldL w [(b5, #[.bool g.neg, S g.l, .int .i64 g.e]), (b4, #[.bool g.neg, .string ⟨#[48]⟩, .string ⟨#[]⟩]), (w3.heap.size, #[.int .i64 p.kind, .int .i64 p.mn, .int .i64 p.mx, .bool p.inc.neg, S p.inc.l, .int .i64 p.inc.e, .int .i64 p.mode, .int .i64 p.mi]), (w.heap.size + 1, #[.int .i64 k0, .int .i64 k1, .int .i64 k2, .int .i64 k3, .int .i64 k4, .int .i64 k5, .int .i64 k6]), (w.heap.size, #[.bool n, .slice a len cap, .int .i64 e])] w') → Below w'.heap.size w' w'' → (w''.cell? ⟨b4, 0, none⟩ = some (.bool g.neg) ∧ w''.cell? ⟨b4, 1, none⟩ = some (.string ⟨#[48]⟩) ∧ w''.cell? ⟨b4, 2, none⟩ = some (.string ⟨#[]⟩) ∧ w''.cell? ⟨w3.heap.size, 0, none⟩ = some (.int .i64 p.kind) ∧ w''.cell? ⟨w3.heap.size, 1, none⟩ = some (.int .i64 p.mn) ∧ w''.cell? ⟨w3.heap.size, 2, none⟩ = some (.int .i64 p.mx) ∧ w''.cell? ⟨w3.heap.size, 3, none⟩ = some (.bool p.inc.neg) ∧ w''.cell? ⟨w3.heap.size, 4, none⟩ = some (S p.inc.l) ∧ w''.cell? ⟨w3.heap.size, 5, none⟩ = some (.int .i64 p.inc.e) ∧ w''.cell? ⟨w3.heap.size, 6, none⟩ = some (.int .i64 p.mode) ∧ w''.cell? ⟨w3.heap.size, 7, none⟩ = some (.int .i64 p.mi) ∧ HeldL w [(b5, #[.bool g.neg, S g.l, .int .i64 g.e]), (b4, #[.bool g.neg, .string ⟨#[48]⟩, .string ⟨#[]⟩]), (w3.heap.size, #[.int .i64 p.kind, .int .i64 p.mn, .int .i64 p.mx, .bool p.inc.neg, S p.inc.l, .int .i64 p.inc.e, .int .i64 p.mode, .int .i64 p.mi]), (w.heap.size + 1, #[.int .i64 k0, .int .i64 k1, .int .i64 k2, .int .i64 k3, .int .i64 k4, .int .i64 k5, .int .i64 k6]), (w.heap.size, #[.bool n, .slice a len cap, .int .i64 e])] w'')) := Lib.hid (fun w' w'' h hb => ALL3.out _ (HeldL.keep (h.2.2.2.2.2.2.2.2.2.2.2) hb))
    have HS3 : Hid (HeldL w [(b5, #[.bool g.neg, S g.l, .int .i64 g.e]), (b4, #[.bool g.neg, .string ⟨#[48]⟩, .string ⟨#[]⟩]), (w3.heap.size, #[.int .i64 p.kind, .int .i64 p.mn, .int .i64 p.mx, .bool p.inc.neg, S p.inc.l, .int .i64 p.inc.e, .int .i64 p.mode, .int .i64 p.mi]), (w.heap.size + 1, #[.int .i64 k0, .int .i64 k1, .int .i64 k2, .int .i64 k3, .int .i64 k4, .int .i64 k5, .int .i64 k6]), (w.heap.size, #[.bool n, .slice a len cap, .int .i64 e])] _) := Lib.hid H6.out
    have TAB3 : Hid (∀ w' : World, (w'.cell? ⟨b4, 0, none⟩ = some (.bool g.neg) ∧ w'.cell? ⟨b4, 1, none⟩ = some (.string ⟨#[48]⟩) ∧ w'.cell? ⟨b4, 2, none⟩ = some (.string ⟨#[]⟩) ∧ w'.cell? ⟨w3.heap.size, 0, none⟩ = some (.int .i64 p.kind) ∧ w'.cell? ⟨w3.heap.size, 1, none⟩ = some (.int .i64 p.mn) ∧ w'.cell? ⟨w3.heap.size, 2, none⟩ = some (.int .i64 p.mx) ∧ w'.cell? ⟨w3.heap.size, 3, none⟩ = some (.bool p.inc.neg) ∧ w'.cell? ⟨w3.heap.size, 4, none⟩ = some (S p.inc.l) ∧ w'.cell? ⟨w3.heap.size, 5, none⟩ = some (.int .i64 p.inc.e) ∧ w'.cell? ⟨w3.heap.size, 6, none⟩ = some (.int .i64 p.mode) ∧ w'.cell? ⟨w3.heap.size, 7, none⟩ = some (.int .i64 p.mi) ∧ HeldL w [(b5, #[.bool g.neg, S g.l, .int .i64 g.e]), (b4, #[.bool g.neg, .string ⟨#[48]⟩, .string ⟨#[]⟩]), (w3.heap.size, #[.int .i64 p.kind, .int .i64 p.mn, .int .i64 p.mx, .bool p.inc.neg, S p.inc.l, .int .i64 p.inc.e, .int .i64 p.mode, .int .i64 p.mi]), (w.heap.size + 1, #[.int .i64 k0, .int .i64 k1, .int .i64 k2, .int .i64 k3, .int .i64 k4, .int .i64 k5, .int .i64 k6]), (w.heap.size, #[.bool n, .slice a len cap, .int .i64 e])] w') → Tab w') := Lib.hid (fun w' h => HT.out.below (h.2.2.2.2.2.2.2.2.2.2.2).bel)
    refine wp_region_held_drew (S := fun w' => w'.cell? ⟨b4, 0, none⟩ = some (.bool g.neg) ∧ w'.cell? ⟨b4, 1, none⟩ = some (.string ⟨#[48]⟩) ∧ w'.cell? ⟨b4, 2, none⟩ = some (.string ⟨#[]⟩) ∧ w'.cell? ⟨w3.heap.size, 0, none⟩ = some (.int .i64 p.kind) ∧ w'.cell? ⟨w3.heap.size, 1, none⟩ = some (.int .i64 p.mn) ∧ w'.cell? ⟨w3.heap.size, 2, none⟩ = some (.int .i64 p.mx) ∧ w'.cell? ⟨w3.heap.size, 3, none⟩ = some (.bool p.inc.neg) ∧ w'.cell? ⟨w3.heap.size, 4, none⟩ = some (S p.inc.l) ∧ w'.cell? ⟨w3.heap.size, 5, none⟩ = some (.int .i64 p.inc.e) ∧ w'.cell? ⟨w3.heap.size, 6, none⟩ = some (.int .i64 p.mode) ∧ w'.cell? ⟨w3.heap.size, 7, none⟩ = some (.int .i64 p.mi) ∧ HeldL w [(b5, #[.bool g.neg, S g.l, .int .i64 g.e]), (b4, #[.bool g.neg, .string ⟨#[48]⟩, .string ⟨#[]⟩]), (w3.heap.size, #[.int .i64 p.kind, .int .i64 p.mn, .int .i64 p.mx, .bool p.inc.neg, S p.inc.l, .int .i64 p.inc.e, .int .i64 p.mode, .int .i64 p.mi]), (w.heap.size + 1, #[.int .i64 k0, .int .i64 k1, .int .i64 k2, .int .i64 k3, .int .i64 k4, .int .i64 k5, .int .i64 k6]), (w.heap.size, #[.bool n, .slice a len cap, .int .i64 e])] w') (by kernel_rfl) (ALL3.out _ (HeldL.drew HS3.out)) (fun hHeld => ?_)
    refine wpAnyH_take (i := 0) (oi := { dst := some 124, op := Go.Op.fieldAddr 37 (Go.Operand.tmp 6) 2, type := 0, pos := "law.go:115", after := #[], guard := none }) (v := ?_) rfl (by kernel_rfl) (by kernel_rfl) (by kernel_rfl) (fun _ _ _ h => h) (Or.inl ⟨by rfl, ?_⟩) hHeld ?_
    case refine_2 => (intro w hSw; (try dsimp only at hSw); go_simp <;> with_reducible rfl)
    try simp only [Act.put, List.setIfInBounds_toArray, List.set_cons_zero, List.set_cons_succ]
    refine wpAnyH_take (i := 1) (oi := { dst := some 125, op := Go.Op.load 9 (Go.Operand.tmp 124), type := 9, pos := "law.go:115", after := #[{ on := 0, ground := Go.Ground.data }], guard := none }) (v := ?_) rfl (by kernel_rfl) (by kernel_rfl) (by kernel_rfl) (fun _ _ _ h => h) (Or.inl ⟨by rfl, ?_⟩) hHeld ?_
    case refine_2 => (intro w hSw; (try dsimp only at hSw); go_simp <;> with_reducible rfl)
    try simp only [Act.put, List.setIfInBounds_toArray, List.set_cons_zero, List.set_cons_succ]
    refine wpAnyH_take (i := 2) (oi := { dst := some 126, op := Go.Op.call { callee := Go.Callee.builtin Go.Builtin.len, args := #[Go.Operand.tmp 125], argTypes := #[9] }, type := 3, pos := "law.go:115", after := #[{ on := 1, ground := Go.Ground.data }], guard := none }) (v := ?_) rfl (by kernel_rfl) (by kernel_rfl) (by kernel_rfl) (fun _ _ _ h => h) (Or.inl ⟨by rfl, ?_⟩) hHeld ?_
    case refine_2 => (intro w hSw; (try dsimp only at hSw); go_simp <;> with_reducible rfl)
    try simp only [Act.put, List.setIfInBounds_toArray, List.set_cons_zero, List.set_cons_succ]
    refine wpAnyH_take (i := 3) (oi := { dst := some 127, op := Go.Op.move (Go.Operand.tmp 11), type := 3, pos := "law.go:115", after := #[], guard := none }) (v := ?_) rfl (by kernel_rfl) (by kernel_rfl) (by kernel_rfl) (fun _ _ _ h => h) (Or.inl ⟨by rfl, ?_⟩) hHeld ?_
    case refine_2 => (intro w hSw; (try dsimp only at hSw); go_simp <;> with_reducible rfl)
    try simp only [Act.put, List.setIfInBounds_toArray, List.set_cons_zero, List.set_cons_succ]
    refine wpAnyH_take (i := 4) (oi := { dst := some 128, op := Go.Op.fieldAddr 37 (Go.Operand.tmp 6) 2, type := 0, pos := "law.go:115", after := #[], guard := none }) (v := ?_) rfl (by kernel_rfl) (by kernel_rfl) (by kernel_rfl) (fun _ _ _ h => h) (Or.inl ⟨by rfl, ?_⟩) hHeld ?_
    case refine_2 => (intro w hSw; (try dsimp only at hSw); go_simp <;> with_reducible rfl)
    try simp only [Act.put, List.setIfInBounds_toArray, List.set_cons_zero, List.set_cons_succ]
    refine wpAnyH_take (i := 5) (oi := { dst := some 129, op := Go.Op.load 9 (Go.Operand.tmp 128), type := 9, pos := "law.go:115", after := #[{ on := 4, ground := Go.Ground.data }], guard := none }) (v := ?_) rfl (by kernel_rfl) (by kernel_rfl) (by kernel_rfl) (fun _ _ _ h => h) (Or.inl ⟨by rfl, ?_⟩) hHeld ?_
    case refine_2 => (intro w hSw; (try dsimp only at hSw); go_simp <;> with_reducible rfl)
    try simp only [Act.put, List.setIfInBounds_toArray, List.set_cons_zero, List.set_cons_succ]
    refine wpAnyH_ready (rs := [6]) (by kernel_rfl) (by simp) ?_
    refine AllReadyH.cons (o := { dst := some 130, op := Go.Op.call { callee := Go.Callee.value (Go.Operand.func 19), args := #[Go.Operand.tmp 129], argTypes := #[9] }, type := 9, pos := "law.go:115", after := #[{ on := 5, ground := Go.Ground.data }], guard := none }) rfl (fun KK hK => ?_) AllReadyH.nil
    go_simp
    with_reducible refine (trimEnd_any ⟨#[]⟩ _ (by decide)).mono ?_
    rintro x wz ⟨rfl, rfl⟩
    go_wp2_with fail
    refine hK.out _ _ hHeld (fun _ => ?_)
    clear hK
    try simp only [Act.put, List.setIfInBounds_toArray, List.set_cons_zero, List.set_cons_succ]
    refine wpAnyH_take (i := 7) (oi := { dst := some 131, op := Go.Op.call { callee := Go.Callee.builtin Go.Builtin.len, args := #[Go.Operand.tmp 130], argTypes := #[9] }, type := 3, pos := "law.go:115", after := #[{ on := 6, ground := Go.Ground.data }], guard := none }) (v := ?_) rfl (by kernel_rfl) (by kernel_rfl) (by kernel_rfl) (fun _ _ _ h => h) (Or.inl ⟨by rfl, ?_⟩) hHeld ?_
    case refine_2 => (intro w hSw; (try dsimp only at hSw); go_simp <;> with_reducible rfl)
    try simp only [Act.put, List.setIfInBounds_toArray, List.set_cons_zero, List.set_cons_succ]
    refine wpAnyH_take (i := 8) (oi := { dst := some 132, op := Go.Op.call { callee := Go.Callee.builtin Go.Builtin.max, args := #[Go.Operand.tmp 127, Go.Operand.tmp 131], argTypes := #[3, 3] }, type := 3, pos := "law.go:115", after := #[{ on := 3, ground := Go.Ground.data }, { on := 7, ground := Go.Ground.data }], guard := none }) (v := ?_) rfl (by kernel_rfl) (by kernel_rfl) (by kernel_rfl) (fun _ _ _ h => h) (Or.inl ⟨by rfl, ?_⟩) hHeld ?_
    case refine_2 => (intro w hSw; (try dsimp only at hSw); go_simp <;> with_reducible rfl)
    try simp only [Act.put, List.setIfInBounds_toArray, List.set_cons_zero, List.set_cons_succ]
    refine wpAnyH_take (i := 9) (oi := { dst := some 133, op := Go.Op.binOp Go.BinOp.eql 3 (Go.Operand.tmp 126) (Go.Operand.tmp 132) 3, type := 4, pos := "law.go:115", after := #[{ on := 2, ground := Go.Ground.data }, { on := 8, ground := Go.Ground.data }], guard := none }) (v := ?_) rfl (by kernel_rfl) (by kernel_rfl) (by kernel_rfl) (fun _ _ _ h => h) (Or.inl ⟨by rfl, ?_⟩) hHeld ?_
    case refine_2 => (intro w hSw; (try dsimp only at hSw); go_simp <;> with_reducible rfl)
    try simp only [Act.put, List.setIfInBounds_toArray, List.set_cons_zero, List.set_cons_succ]
    refine wpAnyH_take (i := 10) (oi := { dst := some 134, op := Go.Op.move (Go.Operand.tmp 133), type := 4, pos := "law.go:115", after := #[{ on := 9, ground := Go.Ground.data }, { on := 6, ground := Go.Ground.chain }], guard := none }) (v := ?_) rfl (by kernel_rfl) (by kernel_rfl) (by kernel_rfl) (fun _ _ _ h => h) (Or.inl ⟨by rfl, ?_⟩) hHeld ?_
    case refine_2 => (intro w hSw; (try dsimp only at hSw); go_simp <;> with_reducible rfl)
    try simp only [Act.put, List.setIfInBounds_toArray, List.set_cons_zero, List.set_cons_succ]
    refine wpAnyH_take (i := 11) (oi := { dst := some 135, op := Go.Op.fieldAddr 34 (Go.Operand.tmp 5) 0, type := 0, pos := "law.go:115", after := #[{ on := 10, ground := Go.Ground.guard }], guard := some (10, true) }) (v := ?_) rfl (by kernel_rfl) (by kernel_rfl) (by kernel_rfl) (fun _ _ _ h => h) (Or.inl ⟨by rfl, ?_⟩) hHeld ?_
    case refine_2 => (intro w hSw; (try dsimp only at hSw); go_simp <;> with_reducible rfl)
    try simp only [Act.put, List.setIfInBounds_toArray, List.set_cons_zero, List.set_cons_succ]
    refine wpAnyH_take (i := 12) (oi := { dst := some 136, op := Go.Op.load 29 (Go.Operand.tmp 135), type := 29, pos := "law.go:115", after := #[{ on := 11, ground := Go.Ground.data }, { on := 10, ground := Go.Ground.guard }], guard := some (10, true) }) (v := ?_) rfl (by kernel_rfl) (by kernel_rfl) (by kernel_rfl) (fun _ _ _ h => h) (Or.inl ⟨by rfl, ?_⟩) hHeld ?_
    case refine_2 => (intro w hSw; (try dsimp only at hSw); go_simp <;> with_reducible rfl)
    try simp only [Act.put, List.setIfInBounds_toArray, List.set_cons_zero, List.set_cons_succ]
    refine wpAnyH_take (i := 13) (oi := { dst := some 137, op := Go.Op.binOp Go.BinOp.eql 29 (Go.Operand.tmp 136) (Go.Operand.const (Go.Value.int Go.IntKind.i64 2)) 29, type := 4, pos := "law.go:115", after := #[{ on := 12, ground := Go.Ground.data }, { on := 10, ground := Go.Ground.guard }], guard := some (10, true) }) (v := ?_) rfl (by kernel_rfl) (by kernel_rfl) (by kernel_rfl) (fun _ _ _ h => h) (Or.inl ⟨by rfl, ?_⟩) hHeld ?_
    case refine_2 => (intro w hSw; (try dsimp only at hSw); go_simp <;> with_reducible rfl)
    try simp only [Act.put, List.setIfInBounds_toArray, List.set_cons_zero, List.set_cons_succ]
    refine wpAnyH_take (i := 14) (oi := { dst := some 138, op := Go.Op.move (Go.Operand.tmp 137), type := 4, pos := "law.go:115", after := #[{ on := 13, ground := Go.Ground.data }, { on := 10, ground := Go.Ground.chain }, { on := 10, ground := Go.Ground.guard }], guard := some (10, true) }) (v := ?_) rfl (by kernel_rfl) (by kernel_rfl) (by kernel_rfl) (fun _ _ _ h => h) (Or.inl ⟨by rfl, ?_⟩) hHeld ?_
    case refine_2 => (intro w hSw; (try dsimp only at hSw); go_simp <;> with_reducible rfl)
    try simp only [Act.put, List.setIfInBounds_toArray, List.set_cons_zero, List.set_cons_succ]
    refine wpAnyH_take (i := 15) (oi := { dst := some 139, op := Go.Op.fieldAddr 37 (Go.Operand.tmp 6) 2, type := 0, pos := "law.go:115", after := #[{ on := 14, ground := Go.Ground.guard }], guard := some (14, false) }) (v := undef) rfl (by kernel_rfl) (by kernel_rfl) (by kernel_rfl) (fun _ _ _ h => h) (Or.inr ⟨by rfl, rfl⟩) hHeld ?_
    try simp only [Act.put, List.setIfInBounds_toArray, List.set_cons_zero, List.set_cons_succ]
    refine wpAnyH_take (i := 16) (oi := { dst := some 140, op := Go.Op.load 9 (Go.Operand.tmp 139), type := 9, pos := "law.go:115", after := #[{ on := 15, ground := Go.Ground.data }, { on := 14, ground := Go.Ground.guard }], guard := some (14, false) }) (v := undef) rfl (by kernel_rfl) (by kernel_rfl) (by kernel_rfl) (fun _ _ _ h => h) (Or.inr ⟨by rfl, rfl⟩) hHeld ?_
    try simp only [Act.put, List.setIfInBounds_toArray, List.set_cons_zero, List.set_cons_succ]
    refine wpAnyH_take (i := 17) (oi := { dst := some 141, op := Go.Op.call { callee := Go.Callee.builtin Go.Builtin.len, args := #[Go.Operand.tmp 140], argTypes := #[9] }, type := 3, pos := "law.go:115", after := #[{ on := 16, ground := Go.Ground.data }, { on := 14, ground := Go.Ground.guard }], guard := some (14, false) }) (v := undef) rfl (by kernel_rfl) (by kernel_rfl) (by kernel_rfl) (fun _ _ _ h => h) (Or.inr ⟨by rfl, rfl⟩) hHeld ?_
    try simp only [Act.put, List.setIfInBounds_toArray, List.set_cons_zero, List.set_cons_succ]
    refine wpAnyH_take (i := 18) (oi := { dst := some 142, op := Go.Op.binOp Go.BinOp.leq 3 (Go.Operand.tmp 141) (Go.Operand.const (Go.Value.int Go.IntKind.i64 200)) 3, type := 4, pos := "law.go:115", after := #[{ on := 17, ground := Go.Ground.data }, { on := 14, ground := Go.Ground.guard }], guard := some (14, false) }) (v := undef) rfl (by kernel_rfl) (by kernel_rfl) (by kernel_rfl) (fun _ _ _ h => h) (Or.inr ⟨by rfl, rfl⟩) hHeld ?_
    try simp only [Act.put, List.setIfInBounds_toArray, List.set_cons_zero, List.set_cons_succ]
    refine wpAnyH_take (i := 19) (oi := { dst := some 143, op := Go.Op.pick (Go.Operand.tmp 138) (Go.Operand.const (Go.Value.bool true)) (Go.Operand.tmp 142), type := 4, pos := "law.go:115", after := #[{ on := 14, ground := Go.Ground.data }, { on := 18, ground := Go.Ground.data }, { on := 10, ground := Go.Ground.guard }], guard := some (10, true) }) (v := ?_) rfl (by kernel_rfl) (by kernel_rfl) (by kernel_rfl) (fun _ _ _ h => h) (Or.inl ⟨by rfl, ?_⟩) hHeld ?_
    case refine_2 => (intro w hSw; (try dsimp only at hSw); go_simp <;> with_reducible rfl)
    try simp only [Act.put, List.setIfInBounds_toArray, List.set_cons_zero, List.set_cons_succ]
    refine wpAnyH_take (i := 20) (oi := { dst := some 144, op := Go.Op.pick (Go.Operand.tmp 134) (Go.Operand.tmp 143) (Go.Operand.const (Go.Value.bool false)), type := 4, pos := "law.go:115", after := #[{ on := 10, ground := Go.Ground.data }, { on := 19, ground := Go.Ground.data }], guard := none }) (v := ?_) rfl (by kernel_rfl) (by kernel_rfl) (by kernel_rfl) (fun _ _ _ h => h) (Or.inl ⟨by rfl, ?_⟩) hHeld ?_
    case refine_2 => (intro w hSw; (try dsimp only at hSw); go_simp <;> with_reducible rfl)
    try simp only [Act.put, List.setIfInBounds_toArray, List.set_cons_zero, List.set_cons_succ]
    refine wpAnyH_take (i := 21) (oi := { dst := some 4, op := Go.Op.assign (Go.Operand.tmp 144), type := 4, pos := "law.go:115", after := #[{ on := 20, ground := Go.Ground.data }, { on := 14, ground := Go.Ground.chain }, { on := 0, ground := Go.Ground.phase }, { on := 1, ground := Go.Ground.phase }, { on := 2, ground := Go.Ground.phase }, { on := 3, ground := Go.Ground.phase }, { on := 4, ground := Go.Ground.phase }, { on := 5, ground := Go.Ground.phase }, { on := 6, ground := Go.Ground.phase }, { on := 7, ground := Go.Ground.phase }, { on := 8, ground := Go.Ground.phase }, { on := 9, ground := Go.Ground.phase }, { on := 10, ground := Go.Ground.phase }, { on := 11, ground := Go.Ground.phase }, { on := 12, ground := Go.Ground.phase }, { on := 13, ground := Go.Ground.phase }, { on := 14, ground := Go.Ground.phase }, { on := 15, ground := Go.Ground.phase }, { on := 16, ground := Go.Ground.phase }, { on := 17, ground := Go.Ground.phase }, { on := 18, ground := Go.Ground.phase }, { on := 19, ground := Go.Ground.phase }, { on := 20, ground := Go.Ground.phase }], guard := none }) (v := ?_) rfl (by kernel_rfl) (by kernel_rfl) (by kernel_rfl) (fun _ _ _ h => h) (Or.inl ⟨by rfl, ?_⟩) hHeld ?_
    case refine_2 => (intro w hSw; (try dsimp only at hSw); go_simp <;> with_reducible rfl)
    try simp only [Act.put, List.setIfInBounds_toArray, List.set_cons_zero, List.set_cons_succ]
    refine wpAnyH_done (by kernel_rfl) ?_ _
    have H7 : Hid (HeldL w [(b5, #[.bool g.neg, S g.l, .int .i64 g.e]), (b4, #[.bool g.neg, .string ⟨#[48]⟩, .string ⟨#[]⟩]), (w3.heap.size, #[.int .i64 p.kind, .int .i64 p.mn, .int .i64 p.mx, .bool p.inc.neg, S p.inc.l, .int .i64 p.inc.e, .int .i64 p.mode, .int .i64 p.mi]), (w.heap.size + 1, #[.int .i64 k0, .int .i64 k1, .int .i64 k2, .int .i64 k3, .int .i64 k4, .int .i64 k5, .int .i64 k6]), (w.heap.size, #[.bool n, .slice a len cap, .int .i64 e])] _) := Lib.hid (hHeld.2.2.2.2.2.2.2.2.2.2.2)
    clear hHeld ALL3 KEEP3 HS3 TAB3 H6
    go_wp2
    go_ret
    exact ⟨rfl, H7.out.bel⟩
  | false =>
    go_wp2_with fail
    have ALL3 : Hid (∀ w' : World, HeldL w [(b5, #[.bool g.neg, S g.l, .int .i64 g.e]), (b4, #[.bool g.neg, .string ⟨#[48]⟩, .string ⟨#[]⟩]), (w3.heap.size, #[.int .i64 p.kind, .int .i64 p.mn, .int .i64 p.mx, .bool p.inc.neg, S p.inc.l, .int .i64 p.inc.e, .int .i64 p.mode, .int .i64 p.mi]), (w.heap.size + 1, #[.int .i64 k0, .int .i64 k1, .int .i64 k2, .int .i64 k3, .int .i64 k4, .int .i64 k5, .int .i64 k6]), (w.heap.size, #[.bool n, .slice a len cap, .int .i64 e])] w' → w'.cell? ⟨b4, 0, none⟩ = some (.bool g.neg) ∧ w'.cell? ⟨b4, 1, none⟩ = some (.string ⟨#[48]⟩) ∧ w'.cell? ⟨b4, 2, none⟩ = some (.string ⟨#[]⟩) ∧ w'.cell? ⟨w3.heap.size, 0, none⟩ = some (.int .i64 p.kind) ∧ w'.cell? ⟨w3.heap.size, 1, none⟩ = some (.int .i64 p.mn) ∧ w'.cell? ⟨w3.heap.size, 2, none⟩ = some (.int .i64 p.mx) ∧ w'.cell? ⟨w3.heap.size, 3, none⟩ = some (.bool p.inc.neg) ∧ w'.cell? ⟨w3.heap.size, 4, none⟩ = some (S p.inc.l) ∧ w'.cell? ⟨w3.heap.size, 5, none⟩ = some (.int .i64 p.inc.e) ∧ w'.cell? ⟨w3.heap.size, 6, none⟩ = some (.int .i64 p.mode) ∧ w'.cell? ⟨w3.heap.size, 7, none⟩ = some (.int .i64 p.mi) ∧ HeldL w [(b5, #[.bool g.neg, S g.l, .int .i64 g.e]), (b4, #[.bool g.neg, .string ⟨#[48]⟩, .string ⟨#[]⟩]), (w3.heap.size, #[.int .i64 p.kind, .int .i64 p.mn, .int .i64 p.mx, .bool p.inc.neg, S p.inc.l, .int .i64 p.inc.e, .int .i64 p.mode, .int .i64 p.mi]), (w.heap.size + 1, #[.int .i64 k0, .int .i64 k1, .int .i64 k2, .int .i64 k3, .int .i64 k4, .int .i64 k5, .int .i64 k6]), (w.heap.size, #[.bool n, .slice a len cap, .int .i64 e])] w') := Lib.hid (fun w' h => ⟨(h.f (List.Mem.tail _ (List.Mem.head _))).cell 0, (h.f (List.Mem.tail _ (List.Mem.head _))).cell 1, (h.f (List.Mem.tail _ (List.Mem.head _))).cell 2, (h.f (List.Mem.tail _ (List.Mem.tail _ (List.Mem.head _)))).cell 0, (h.f (List.Mem.tail _ (List.Mem.tail _ (List.Mem.head _)))).cell 1, (h.f (List.Mem.tail _ (List.Mem.tail _ (List.Mem.head _)))).cell 2, (h.f (List.Mem.tail _ (List.Mem.tail _ (List.Mem.head _)))).cell 3, (h.f (List.Mem.tail _ (List.Mem.tail _ (List.Mem.head _)))).cell 4, (h.f (List.Mem.tail _ (List.Mem.tail _ (List.Mem.head _)))).cell 5, (h.f (List.Mem.tail _ (List.Mem.tail _ (List.Mem.head _)))).cell 6, (h.f (List.Mem.tail _ (List.Mem.tail _ (List.Mem.head _)))).cell 7, h⟩)
    have KEEP3 : Hid (∀ w' w'' : World, (w'.cell? ⟨b4, 0, none⟩ = some (.bool g.neg) ∧ w'.cell? ⟨b4, 1, none⟩ = some (.string ⟨#[48]⟩) ∧ w'.cell? ⟨b4, 2, none⟩ = some (.string ⟨#[]⟩) ∧ w'.cell? ⟨w3.heap.size, 0, none⟩ = some (.int .i64 p.kind) ∧ w'.cell? ⟨w3.heap.size, 1, none⟩ = some (.int .i64 p.mn) ∧ w'.cell? ⟨w3.heap.size, 2, none⟩ = some (.int .i64 p.mx) ∧ w'.cell? ⟨w3.heap.size, 3, none⟩ = some (.bool p.inc.neg) ∧ w'.cell? ⟨w3.heap.size, 4, none⟩ = some (S p.inc.l) ∧ w'.cell? ⟨w3.heap.size, 5, none⟩ = some (.int .i64 p.inc.e) ∧ w'.cell? ⟨w3.heap.size, 6, none⟩ = some (.int .i64 p.mode) ∧ w'.cell? ⟨w3.heap.size, 7, none⟩ = some (.int .i64 p.mi) ∧ HeldL w [(b5, #[.bool g.neg, S g.l, .int .i64 g.e]), (b4, #[.bool g.neg, .string ⟨#[48]⟩, .string ⟨#[]⟩]), (w3.heap.size, #[.int .i64 p.kind, .int .i64 p.mn, .int .i64 p.mx, .bool p.inc.neg, S p.inc.l, .int .i64 p.inc.e, .int .i64 p.mode, .int .i64 p.mi]), (w.heap.size + 1, #[.int .i64 k0, .int .i64 k1, .int .i64 k2, .int .i64 k3, .int .i64 k4, .int .i64 k5, .int .i64 k6]), (w.heap.size, #[.bool n, .slice a len cap, .int .i64 e])] w') → Below w'.heap.size w' w'' → (w''.cell? ⟨b4, 0, none⟩ = some (.bool g.neg) ∧ w''.cell? ⟨b4, 1, none⟩ = some (.string ⟨#[48]⟩) ∧ w''.cell? ⟨b4, 2, none⟩ = some (.string ⟨#[]⟩) ∧ w''.cell? ⟨w3.heap.size, 0, none⟩ = some (.int .i64 p.kind) ∧ w''.cell? ⟨w3.heap.size, 1, none⟩ = some (.int .i64 p.mn) ∧ w''.cell? ⟨w3.heap.size, 2, none⟩ = some (.int .i64 p.mx) ∧ w''.cell? ⟨w3.heap.size, 3, none⟩ = some (.bool p.inc.neg) ∧ w''.cell? ⟨w3.heap.size, 4, none⟩ = some (S p.inc.l) ∧ w''.cell? ⟨w3.heap.size, 5, none⟩ = some (.int .i64 p.inc.e) ∧ w''.cell? ⟨w3.heap.size, 6, none⟩ = some (.int .i64 p.mode) ∧ w''.cell? ⟨w3.heap.size, 7, none⟩ = some (.int .i64 p.mi) ∧ HeldL w [(b5, #[.bool g.neg, S g.l, .int .i64 g.e]), (b4, #[.bool g.neg, .string ⟨#[48]⟩, .string ⟨#[]⟩]), (w3.heap.size, #[.int .i64 p.kind, .int .i64 p.mn, .int .i64 p.mx, .bool p.inc.neg, S p.inc.l, .int .i64 p.inc.e, .int .i64 p.mode, .int .i64 p.mi]), (w.heap.size + 1, #[.int .i64 k0, .int .i64 k1, .int .i64 k2, .int .i64 k3, .int .i64 k4, .int .i64 k5, .int .i64 k6]), (w.heap.size, #[.bool n, .slice a len cap, .int .i64 e])] w'')) := Lib.hid (fun w' w'' h hb => ALL3.out _ (HeldL.keep (h.2.2.2.2.2.2.2.2.2.2.2) hb))
    have HS3 : Hid (HeldL w [(b5, #[.bool g.neg, S g.l, .int .i64 g.e]), (b4, #[.bool g.neg, .string ⟨#[48]⟩, .string ⟨#[]⟩]), (w3.heap.size, #[.int .i64 p.kind, .int .i64 p.mn, .int .i64 p.mx, .bool p.inc.neg, S p.inc.l, .int .i64 p.inc.e, .int .i64 p.mode, .int .i64 p.mi]), (w.heap.size + 1, #[.int .i64 k0, .int .i64 k1, .int .i64 k2, .int .i64 k3, .int .i64 k4, .int .i64 k5, .int .i64 k6]), (w.heap.size, #[.bool n, .slice a len cap, .int .i64 e])] _) := Lib.hid H6.out
    have TAB3 : Hid (∀ w' : World, (w'.cell? ⟨b4, 0, none⟩ = some (.bool g.neg) ∧ w'.cell? ⟨b4, 1, none⟩ = some (.string ⟨#[48]⟩) ∧ w'.cell? ⟨b4, 2, none⟩ = some (.string ⟨#[]⟩) ∧ w'.cell? ⟨w3.heap.size, 0, none⟩ = some (.int .i64 p.kind) ∧ w'.cell? ⟨w3.heap.size, 1, none⟩ = some (.int .i64 p.mn) ∧ w'.cell? ⟨w3.heap.size, 2, none⟩ = some (.int .i64 p.mx) ∧ w'.cell? ⟨w3.heap.size, 3, none⟩ = some (.bool p.inc.neg) ∧ w'.cell? ⟨w3.heap.size, 4, none⟩ = some (S p.inc.l) ∧ w'.cell? ⟨w3.heap.size, 5, none⟩ = some (.int .i64 p.inc.e) ∧ w'.cell? ⟨w3.heap.size, 6, none⟩ = some (.int .i64 p.mode) ∧ w'.cell? ⟨w3.heap.size, 7, none⟩ = some (.int .i64 p.mi) ∧ HeldL w [(b5, #[.bool g.neg, S g.l, .int .i64 g.e]), (b4, #[.bool g.neg, .string ⟨#[48]⟩, .string ⟨#[]⟩]), (w3.heap.size, #[.int .i64 p.kind, .int .i64 p.mn, .int .i64 p.mx, .bool p.inc.neg, S p.inc.l, .int .i64 p.inc.e, .int .i64 p.mode, .int .i64 p.mi]), (w.heap.size + 1, #[.int .i64 k0, .int .i64 k1, .int .i64 k2, .int .i64 k3, .int .i64 k4, .int .i64 k5, .int .i64 k6]), (w.heap.size, #[.bool n, .slice a len cap, .int .i64 e])] w') → Tab w') := Lib.hid (fun w' h => HT.out.below (h.2.2.2.2.2.2.2.2.2.2.2).bel)
    refine wp_region_held_drew (S := fun w' => w'.cell? ⟨b4, 0, none⟩ = some (.bool g.neg) ∧ w'.cell? ⟨b4, 1, none⟩ = some (.string ⟨#[48]⟩) ∧ w'.cell? ⟨b4, 2, none⟩ = some (.string ⟨#[]⟩) ∧ w'.cell? ⟨w3.heap.size, 0, none⟩ = some (.int .i64 p.kind) ∧ w'.cell? ⟨w3.heap.size, 1, none⟩ = some (.int .i64 p.mn) ∧ w'.cell? ⟨w3.heap.size, 2, none⟩ = some (.int .i64 p.mx) ∧ w'.cell? ⟨w3.heap.size, 3, none⟩ = some (.bool p.inc.neg) ∧ w'.cell? ⟨w3.heap.size, 4, none⟩ = some (S p.inc.l) ∧ w'.cell? ⟨w3.heap.size, 5, none⟩ = some (.int .i64 p.inc.e) ∧ w'.cell? ⟨w3.heap.size, 6, none⟩ = some (.int .i64 p.mode) ∧ w'.cell? ⟨w3.heap.size, 7, none⟩ = some (.int .i64 p.mi) ∧ HeldL w [(b5, #[.bool g.neg, S g.l, .int .i64 g.e]), (b4, #[.bool g.neg, .string ⟨#[48]⟩, .string ⟨#[]⟩]), (w3.heap.size, #[.int .i64 p.kind, .int .i64 p.mn, .int .i64 p.mx, .bool p.inc.neg, S p.inc.l, .int .i64 p.inc.e, .int .i64 p.mode, .int .i64 p.mi]), (w.heap.size + 1, #[.int .i64 k0, .int .i64 k1, .int .i64 k2, .int .i64 k3, .int .i64 k4, .int .i64 k5, .int .i64 k6]), (w.heap.size, #[.bool n, .slice a len cap, .int .i64 e])] w') (by kernel_rfl) (ALL3.out _ (HeldL.drew HS3.out)) (fun hHeld => ?_)
    refine wpAnyH_take (i := 0) (oi := { dst := some 124, op := Go.Op.fieldAddr 37 (Go.Operand.tmp 6) 2, type := 0, pos := "law.go:115", after := #[], guard := none }) (v := ?_) rfl (by kernel_rfl) (by kernel_rfl) (by kernel_rfl) (fun _ _ _ h => h) (Or.inl ⟨by rfl, ?_⟩) hHeld ?_
    case refine_2 => (intro w hSw; (try dsimp only at hSw); go_simp <;> with_reducible rfl)
    try simp only [Act.put, List.setIfInBounds_toArray, List.set_cons_zero, List.set_cons_succ]
    refine wpAnyH_take (i := 1) (oi := { dst := some 125, op := Go.Op.load 9 (Go.Operand.tmp 124), type := 9, pos := "law.go:115", after := #[{ on := 0, ground := Go.Ground.data }], guard := none }) (v := ?_) rfl (by kernel_rfl) (by kernel_rfl) (by kernel_rfl) (fun _ _ _ h => h) (Or.inl ⟨by rfl, ?_⟩) hHeld ?_
    case refine_2 => (intro w hSw; (try dsimp only at hSw); go_simp <;> with_reducible rfl)
    try simp only [Act.put, List.setIfInBounds_toArray, List.set_cons_zero, List.set_cons_succ]
    refine wpAnyH_take (i := 2) (oi := { dst := some 126, op := Go.Op.call { callee := Go.Callee.builtin Go.Builtin.len, args := #[Go.Operand.tmp 125], argTypes := #[9] }, type := 3, pos := "law.go:115", after := #[{ on := 1, ground := Go.Ground.data }], guard := none }) (v := ?_) rfl (by kernel_rfl) (by kernel_rfl) (by kernel_rfl) (fun _ _ _ h => h) (Or.inl ⟨by rfl, ?_⟩) hHeld ?_
    case refine_2 => (intro w hSw; (try dsimp only at hSw); go_simp <;> with_reducible rfl)
    try simp only [Act.put, List.setIfInBounds_toArray, List.set_cons_zero, List.set_cons_succ]
    refine wpAnyH_take (i := 3) (oi := { dst := some 127, op := Go.Op.move (Go.Operand.tmp 11), type := 3, pos := "law.go:115", after := #[], guard := none }) (v := ?_) rfl (by kernel_rfl) (by kernel_rfl) (by kernel_rfl) (fun _ _ _ h => h) (Or.inl ⟨by rfl, ?_⟩) hHeld ?_
    case refine_2 => (intro w hSw; (try dsimp only at hSw); go_simp <;> with_reducible rfl)
    try simp only [Act.put, List.setIfInBounds_toArray, List.set_cons_zero, List.set_cons_succ]
    refine wpAnyH_take (i := 4) (oi := { dst := some 128, op := Go.Op.fieldAddr 37 (Go.Operand.tmp 6) 2, type := 0, pos := "law.go:115", after := #[], guard := none }) (v := ?_) rfl (by kernel_rfl) (by kernel_rfl) (by kernel_rfl) (fun _ _ _ h => h) (Or.inl ⟨by rfl, ?_⟩) hHeld ?_
    case refine_2 => (intro w hSw; (try dsimp only at hSw); go_simp <;> with_reducible rfl)
    try simp only [Act.put, List.setIfInBounds_toArray, List.set_cons_zero, List.set_cons_succ]
    refine wpAnyH_take (i := 5) (oi := { dst := some 129, op := Go.Op.load 9 (Go.Operand.tmp 128), type := 9, pos := "law.go:115", after := #[{ on := 4, ground := Go.Ground.data }], guard := none }) (v := ?_) rfl (by kernel_rfl) (by kernel_rfl) (by kernel_rfl) (fun _ _ _ h => h) (Or.inl ⟨by rfl, ?_⟩) hHeld ?_
    case refine_2 => (intro w hSw; (try dsimp only at hSw); go_simp <;> with_reducible rfl)
    try simp only [Act.put, List.setIfInBounds_toArray, List.set_cons_zero, List.set_cons_succ]
    refine wpAnyH_ready (rs := [6]) (by kernel_rfl) (by simp) ?_
    refine AllReadyH.cons (o := { dst := some 130, op := Go.Op.call { callee := Go.Callee.value (Go.Operand.func 19), args := #[Go.Operand.tmp 129], argTypes := #[9] }, type := 9, pos := "law.go:115", after := #[{ on := 5, ground := Go.Ground.data }], guard := none }) rfl (fun KK hK => ?_) AllReadyH.nil
    go_simp
    with_reducible refine (trimEnd_any ⟨#[]⟩ _ (by decide)).mono ?_
    rintro x wz ⟨rfl, rfl⟩
    go_wp2_with fail
    refine hK.out _ _ hHeld (fun _ => ?_)
    clear hK
    try simp only [Act.put, List.setIfInBounds_toArray, List.set_cons_zero, List.set_cons_succ]
    refine wpAnyH_take (i := 7) (oi := { dst := some 131, op := Go.Op.call { callee := Go.Callee.builtin Go.Builtin.len, args := #[Go.Operand.tmp 130], argTypes := #[9] }, type := 3, pos := "law.go:115", after := #[{ on := 6, ground := Go.Ground.data }], guard := none }) (v := ?_) rfl (by kernel_rfl) (by kernel_rfl) (by kernel_rfl) (fun _ _ _ h => h) (Or.inl ⟨by rfl, ?_⟩) hHeld ?_
    case refine_2 => (intro w hSw; (try dsimp only at hSw); go_simp <;> with_reducible rfl)
    try simp only [Act.put, List.setIfInBounds_toArray, List.set_cons_zero, List.set_cons_succ]
    refine wpAnyH_take (i := 8) (oi := { dst := some 132, op := Go.Op.call { callee := Go.Callee.builtin Go.Builtin.max, args := #[Go.Operand.tmp 127, Go.Operand.tmp 131], argTypes := #[3, 3] }, type := 3, pos := "law.go:115", after := #[{ on := 3, ground := Go.Ground.data }, { on := 7, ground := Go.Ground.data }], guard := none }) (v := ?_) rfl (by kernel_rfl) (by kernel_rfl) (by kernel_rfl) (fun _ _ _ h => h) (Or.inl ⟨by rfl, ?_⟩) hHeld ?_
    case refine_2 => (intro w hSw; (try dsimp only at hSw); go_simp <;> with_reducible rfl)
    try simp only [Act.put, List.setIfInBounds_toArray, List.set_cons_zero, List.set_cons_succ]
    refine wpAnyH_take (i := 9) (oi := { dst := some 133, op := Go.Op.binOp Go.BinOp.eql 3 (Go.Operand.tmp 126) (Go.Operand.tmp 132) 3, type := 4, pos := "law.go:115", after := #[{ on := 2, ground := Go.Ground.data }, { on := 8, ground := Go.Ground.data }], guard := none }) (v := ?_) rfl (by kernel_rfl) (by kernel_rfl) (by kernel_rfl) (fun _ _ _ h => h) (Or.inl ⟨by rfl, ?_⟩) hHeld ?_
    case refine_2 => (intro w hSw; (try dsimp only at hSw); go_simp <;> with_reducible rfl)
    try simp only [Act.put, List.setIfInBounds_toArray, List.set_cons_zero, List.set_cons_succ]
    refine wpAnyH_take (i := 10) (oi := { dst := some 134, op := Go.Op.move (Go.Operand.tmp 133), type := 4, pos := "law.go:115", after := #[{ on := 9, ground := Go.Ground.data }, { on := 6, ground := Go.Ground.chain }], guard := none }) (v := ?_) rfl (by kernel_rfl) (by kernel_rfl) (by kernel_rfl) (fun _ _ _ h => h) (Or.inl ⟨by rfl, ?_⟩) hHeld ?_
    case refine_2 => (intro w hSw; (try dsimp only at hSw); go_simp <;> with_reducible rfl)
    try simp only [Act.put, List.setIfInBounds_toArray, List.set_cons_zero, List.set_cons_succ]
    refine wpAnyH_take (i := 11) (oi := { dst := some 135, op := Go.Op.fieldAddr 34 (Go.Operand.tmp 5) 0, type := 0, pos := "law.go:115", after := #[{ on := 10, ground := Go.Ground.guard }], guard := some (10, true) }) (v := ?_) rfl (by kernel_rfl) (by kernel_rfl) (by kernel_rfl) (fun _ _ _ h => h) (Or.inl ⟨by rfl, ?_⟩) hHeld ?_
    case refine_2 => (intro w hSw; (try dsimp only at hSw); go_simp <;> with_reducible rfl)
    try simp only [Act.put, List.setIfInBounds_toArray, List.set_cons_zero, List.set_cons_succ]
    refine wpAnyH_take (i := 12) (oi := { dst := some 136, op := Go.Op.load 29 (Go.Operand.tmp 135), type := 29, pos := "law.go:115", after := #[{ on := 11, ground := Go.Ground.data }, { on := 10, ground := Go.Ground.guard }], guard := some (10, true) }) (v := ?_) rfl (by kernel_rfl) (by kernel_rfl) (by kernel_rfl) (fun _ _ _ h => h) (Or.inl ⟨by rfl, ?_⟩) hHeld ?_
    case refine_2 => (intro w hSw; (try dsimp only at hSw); go_simp <;> with_reducible rfl)
    try simp only [Act.put, List.setIfInBounds_toArray, List.set_cons_zero, List.set_cons_succ]
    refine wpAnyH_take (i := 13) (oi := { dst := some 137, op := Go.Op.binOp Go.BinOp.eql 29 (Go.Operand.tmp 136) (Go.Operand.const (Go.Value.int Go.IntKind.i64 2)) 29, type := 4, pos := "law.go:115", after := #[{ on := 12, ground := Go.Ground.data }, { on := 10, ground := Go.Ground.guard }], guard := some (10, true) }) (v := ?_) rfl (by kernel_rfl) (by kernel_rfl) (by kernel_rfl) (fun _ _ _ h => h) (Or.inl ⟨by rfl, ?_⟩) hHeld ?_
    case refine_2 => (intro w hSw; (try dsimp only at hSw); go_simp <;> with_reducible rfl)
    try simp only [Act.put, List.setIfInBounds_toArray, List.set_cons_zero, List.set_cons_succ]
    refine wpAnyH_take (i := 14) (oi := { dst := some 138, op := Go.Op.move (Go.Operand.tmp 137), type := 4, pos := "law.go:115", after := #[{ on := 13, ground := Go.Ground.data }, { on := 10, ground := Go.Ground.chain }, { on := 10, ground := Go.Ground.guard }], guard := some (10, true) }) (v := ?_) rfl (by kernel_rfl) (by kernel_rfl) (by kernel_rfl) (fun _ _ _ h => h) (Or.inl ⟨by rfl, ?_⟩) hHeld ?_
    case refine_2 => (intro w hSw; (try dsimp only at hSw); go_simp <;> with_reducible rfl)
    try simp only [Act.put, List.setIfInBounds_toArray, List.set_cons_zero, List.set_cons_succ]
    refine wpAnyH_take (i := 15) (oi := { dst := some 139, op := Go.Op.fieldAddr 37 (Go.Operand.tmp 6) 2, type := 0, pos := "law.go:115", after := #[{ on := 14, ground := Go.Ground.guard }], guard := some (14, false) }) (v := ?_) rfl (by kernel_rfl) (by kernel_rfl) (by kernel_rfl) (fun _ _ _ h => h) (Or.inl ⟨by rfl, ?_⟩) hHeld ?_
    case refine_2 => (intro w hSw; (try dsimp only at hSw); go_simp <;> with_reducible rfl)
    try simp only [Act.put, List.setIfInBounds_toArray, List.set_cons_zero, List.set_cons_succ]
    refine wpAnyH_take (i := 16) (oi := { dst := some 140, op := Go.Op.load 9 (Go.Operand.tmp 139), type := 9, pos := "law.go:115", after := #[{ on := 15, ground := Go.Ground.data }, { on := 14, ground := Go.Ground.guard }], guard := some (14, false) }) (v := ?_) rfl (by kernel_rfl) (by kernel_rfl) (by kernel_rfl) (fun _ _ _ h => h) (Or.inl ⟨by rfl, ?_⟩) hHeld ?_
    case refine_2 => (intro w hSw; (try dsimp only at hSw); go_simp <;> with_reducible rfl)
    try simp only [Act.put, List.setIfInBounds_toArray, List.set_cons_zero, List.set_cons_succ]
    refine wpAnyH_take (i := 17) (oi := { dst := some 141, op := Go.Op.call { callee := Go.Callee.builtin Go.Builtin.len, args := #[Go.Operand.tmp 140], argTypes := #[9] }, type := 3, pos := "law.go:115", after := #[{ on := 16, ground := Go.Ground.data }, { on := 14, ground := Go.Ground.guard }], guard := some (14, false) }) (v := ?_) rfl (by kernel_rfl) (by kernel_rfl) (by kernel_rfl) (fun _ _ _ h => h) (Or.inl ⟨by rfl, ?_⟩) hHeld ?_
    case refine_2 => (intro w hSw; (try dsimp only at hSw); go_simp <;> with_reducible rfl)
    try simp only [Act.put, List.setIfInBounds_toArray, List.set_cons_zero, List.set_cons_succ]
    refine wpAnyH_take (i := 18) (oi := { dst := some 142, op := Go.Op.binOp Go.BinOp.leq 3 (Go.Operand.tmp 141) (Go.Operand.const (Go.Value.int Go.IntKind.i64 200)) 3, type := 4, pos := "law.go:115", after := #[{ on := 17, ground := Go.Ground.data }, { on := 14, ground := Go.Ground.guard }], guard := some (14, false) }) (v := ?_) rfl (by kernel_rfl) (by kernel_rfl) (by kernel_rfl) (fun _ _ _ h => h) (Or.inl ⟨by rfl, ?_⟩) hHeld ?_
    case refine_2 => (intro w hSw; (try dsimp only at hSw); go_simp <;> with_reducible rfl)
    try simp only [Act.put, List.setIfInBounds_toArray, List.set_cons_zero, List.set_cons_succ]
    refine wpAnyH_take (i := 19) (oi := { dst := some 143, op := Go.Op.pick (Go.Operand.tmp 138) (Go.Operand.const (Go.Value.bool true)) (Go.Operand.tmp 142), type := 4, pos := "law.go:115", after := #[{ on := 14, ground := Go.Ground.data }, { on := 18, ground := Go.Ground.data }, { on := 10, ground := Go.Ground.guard }], guard := some (10, true) }) (v := ?_) rfl (by kernel_rfl) (by kernel_rfl) (by kernel_rfl) (fun _ _ _ h => h) (Or.inl ⟨by rfl, ?_⟩) hHeld ?_
    case refine_2 => (intro w hSw; (try dsimp only at hSw); go_simp <;> with_reducible rfl)
    try simp only [Act.put, List.setIfInBounds_toArray, List.set_cons_zero, List.set_cons_succ]
    refine wpAnyH_take (i := 20) (oi := { dst := some 144, op := Go.Op.pick (Go.Operand.tmp 134) (Go.Operand.tmp 143) (Go.Operand.const (Go.Value.bool false)), type := 4, pos := "law.go:115", after := #[{ on := 10, ground := Go.Ground.data }, { on := 19, ground := Go.Ground.data }], guard := none }) (v := ?_) rfl (by kernel_rfl) (by kernel_rfl) (by kernel_rfl) (fun _ _ _ h => h) (Or.inl ⟨by rfl, ?_⟩) hHeld ?_
    case refine_2 => (intro w hSw; (try dsimp only at hSw); go_simp <;> with_reducible rfl)
    try simp only [Act.put, List.setIfInBounds_toArray, List.set_cons_zero, List.set_cons_succ]
    refine wpAnyH_take (i := 21) (oi := { dst := some 4, op := Go.Op.assign (Go.Operand.tmp 144), type := 4, pos := "law.go:115", after := #[{ on := 20, ground := Go.Ground.data }, { on := 14, ground := Go.Ground.chain }, { on := 0, ground := Go.Ground.phase }, { on := 1, ground := Go.Ground.phase }, { on := 2, ground := Go.Ground.phase }, { on := 3, ground := Go.Ground.phase }, { on := 4, ground := Go.Ground.phase }, { on := 5, ground := Go.Ground.phase }, { on := 6, ground := Go.Ground.phase }, { on := 7, ground := Go.Ground.phase }, { on := 8, ground := Go.Ground.phase }, { on := 9, ground := Go.Ground.phase }, { on := 10, ground := Go.Ground.phase }, { on := 11, ground := Go.Ground.phase }, { on := 12, ground := Go.Ground.phase }, { on := 13, ground := Go.Ground.phase }, { on := 14, ground := Go.Ground.phase }, { on := 15, ground := Go.Ground.phase }, { on := 16, ground := Go.Ground.phase }, { on := 17, ground := Go.Ground.phase }, { on := 18, ground := Go.Ground.phase }, { on := 19, ground := Go.Ground.phase }, { on := 20, ground := Go.Ground.phase }], guard := none }) (v := ?_) rfl (by kernel_rfl) (by kernel_rfl) (by kernel_rfl) (fun _ _ _ h => h) (Or.inl ⟨by rfl, ?_⟩) hHeld ?_
    case refine_2 => (intro w hSw; (try dsimp only at hSw); go_simp <;> with_reducible rfl)
    try simp only [Act.put, List.setIfInBounds_toArray, List.set_cons_zero, List.set_cons_succ]
    refine wpAnyH_done (by kernel_rfl) ?_ _
    have H7 : Hid (HeldL w [(b5, #[.bool g.neg, S g.l, .int .i64 g.e]), (b4, #[.bool g.neg, .string ⟨#[48]⟩, .string ⟨#[]⟩]), (w3.heap.size, #[.int .i64 p.kind, .int .i64 p.mn, .int .i64 p.mx, .bool p.inc.neg, S p.inc.l, .int .i64 p.inc.e, .int .i64 p.mode, .int .i64 p.mi]), (w.heap.size + 1, #[.int .i64 k0, .int .i64 k1, .int .i64 k2, .int .i64 k3, .int .i64 k4, .int .i64 k5, .int .i64 k6]), (w.heap.size, #[.bool n, .slice a len cap, .int .i64 e])] _) := Lib.hid (hHeld.2.2.2.2.2.2.2.2.2.2.2)
    clear hHeld ALL3 KEEP3 HS3 TAB3 H6
    go_wp2
    go_ret
    exact ⟨rfl, H7.out.bel⟩

set_option maxRecDepth 100000 in
set_option maxHeartbeats 1600000 in
theorem digits_no (n0 : Bool) (a0 : Option Addr) (len0 cap0 : Nat) (e0 : Int) (k0 k1 k2 k3 k4 k5 k6 : Int) (w : World) (hc0 : len0 ≤ cap0) (hm0 : cap0 ≤ maxLen) (htab : Tab w) (h : ¬ ((len0 : Int) ≤ 30 ∧ -30 ≤ e0 ∧ e0 ≤ 30)) :
    Calls Tryd.prog 3 #[RV n0 a0 len0 cap0 e0, .agg #[.int .i64 k0, .int .i64 k1, .int .i64 k2, .int .i64 k3, .int .i64 k4, .int .i64 k5, .int .i64 k6]] w fun x w' => x = .returned (.bool true) ∧ Below w.heap.size w w' := by
  have HT := Lib.hid htab
  have H := Lib.hid h
  clear htab h
  go_enter Tryd.func3, Tryd.ntmps3
  go_wp2_with fail
  with_reducible refine (head4 _ (HT.out.below (HeldL.alloc (HeldL.alloc (HeldL.refl w) (w.heap.size) #[.bool n0, .slice a0 len0 cap0, .int .i64 e0] 24 (by simp)) (w.heap.size + 1) #[.int .i64 k0, .int .i64 k1, .int .i64 k2, .int .i64 k3, .int .i64 k4, .int .i64 k5, .int .i64 k6] 26 (by simp)).bel)).mono ?_
  rintro x w1 ⟨rfl, hb⟩
  have H1 : Hid (HeldL w [(w.heap.size + 1, #[.int .i64 k0, .int .i64 k1, .int .i64 k2, .int .i64 k3, .int .i64 k4, .int .i64 k5, .int .i64 k6]), (w.heap.size, #[.bool n0, .slice a0 len0 cap0, .int .i64 e0])] w1) := Lib.hid (HeldL.keep (HeldL.alloc (HeldL.alloc (HeldL.refl w) (w.heap.size) #[.bool n0, .slice a0 len0 cap0, .int .i64 e0] 24 (by simp)) (w.heap.size + 1) #[.int .i64 k0, .int .i64 k1, .int .i64 k2, .int .i64 k3, .int .i64 k4, .int .i64 k5, .int .i64 k6] 26 (by simp)) hb)
  clear hb
  have r0 : w1.cell? ⟨w.heap.size, 0, none⟩ = some (.bool n0) := (H1.out.f (List.Mem.tail _ (List.Mem.head _))).cell 0
  have r1 : w1.cell? ⟨w.heap.size, 1, none⟩ = some (.slice a0 len0 cap0) := (H1.out.f (List.Mem.tail _ (List.Mem.head _))).cell 1
  have r2 : w1.cell? ⟨w.heap.size, 2, none⟩ = some (.int .i64 e0) := (H1.out.f (List.Mem.tail _ (List.Mem.head _))).cell 2
  have rl : w.heap.size < w1.heap.size := (H1.out.f (List.Mem.tail _ (List.Mem.head _))).lt
  go_wp2_with fail
  with_reducible refine (few_no n0 a0 len0 cap0 e0 30 _ hc0 hm0 (by decide) (by decide) H.out).mono ?_
  rintro x w2 ⟨rfl, hb⟩
  clear r0 r1 r2 rl
  have H2 : Hid (HeldL w [(w.heap.size + 1, #[.int .i64 k0, .int .i64 k1, .int .i64 k2, .int .i64 k3, .int .i64 k4, .int .i64 k5, .int .i64 k6]), (w.heap.size, #[.bool n0, .slice a0 len0 cap0, .int .i64 e0])] w2) := Lib.hid (HeldL.keep H1.out hb)
  clear H1
  clear hb
  go_wp2
  go_ret
  exact ⟨rfl, H2.out.bel⟩

end Go.Proofs.YtegekkifgdakgaaDoor

namespace Go.Proofs.YtegekkifgdakgaaDoor
open Go.RowKit Florin
set_option linter.unusedVariables false

theorem byte_at (l : List UInt8) (i : Nat) (h : i < l.length) (b : Bool) (hb : (l[i] == 48) = b) : ((((⟨l.toArray⟩ : ByteArray)[i]'(by rw [arr_size]; exact h)).toNat : Int) == 48) = b := by
  rw [arr_get, ← hb]
  by_cases he : l[i] = 48
  · simp only [he]; rfl
  · have : l[i].toNat ≠ 48 := fun e => he (UInt8.toNat_inj.1 (by simpa using e))
    simp only [beq_eq_false_iff_ne.2 he]
    simp only [beq_eq_false_iff_ne]
    omega
theorem trim_is (l t : List UInt8) (h : l.length ≤ 1000000) (hd : isDig l = true) (ht : trim l = t) (w : World) : Calls Tryd.prog 17 #[S l] w fun z w' => z = .returned (S t) ∧ w = w' :=
  (trim_bare ⟨l.toArray⟩ w (by rw [arr_size]; unfold maxLen; omega)).mono fun z w' ⟨hz, hw⟩ => ⟨by rw [hz, arr_list]; unfold bare; rw [if_pos hd, ht], hw⟩
theorem head_get {l : List UInt8} (h : l ≠ []) (hd : ∀ c t, l = c :: t → c ≠ 48) (q : List UInt8) (i : 0 < (l ++ q).length) : (l ++ q)[0] ≠ 48 := by
  cases l with
  | nil => exact absurd rfl h
  | cons c r => simpa using hd c r rfl
theorem showDigits_walk (n : Bool) (a : Option Addr) (len cap : Nat) (e : Int) (L : List UInt8) (k0 k1 k2 k3 k4 k5 k6 : Int) (w : World) (hin : InB w a len cap L) (htab : Tab w) :
    Calls Tryd.prog 3 #[RV n a len cap e, .agg #[.int .i64 k0, .int .i64 k1, .int .i64 k2, .int .i64 k3, .int .i64 k4, .int .i64 k5, .int .i64 k6]] w fun x w' => x = .returned (.bool true) ∧ Below w.heap.size w w' := by
  by_cases hf : (len : Int) ≤ 30 ∧ -30 ≤ e ∧ e ≤ 30
  · obtain ⟨h1, h2, h3⟩ := hf
    obtain ⟨p, hp, hpr⟩ := prec_any k0 k1 k2 k3 k4 k5 k6
    obtain ⟨N, hN⟩ : ∃ N : Nat, N = 400 := ⟨_, rfl⟩
    have hL : L.length ≤ 30 := by rw [hin.1]; omega
    obtain ⟨R, rb, hr, hlow⟩ := shownS p hp n L e hL h2 h3 N hN
    have fR := fitM (M := N + 1) (by omega) rb
    have pl : p.inc.l.length ≤ 100000 := by have := hp.il; omega
    have lR : (nf 200 R).l.length ≤ 1000 := Nat.le_trans (nf_length rb) (by omega)
    have hlo := (nf_dv fR).lo
    have hor := nfOr fR
    have hmd := nf_made fR
    have hdg := nf_isDig 200 R
    obtain ⟨_, hmi, hmn, hkk⟩ := validP_parts hp.ok
    have m8 := hp.mn8
    have m7 := hp.mi7
    have hfirst : p.kind = 1 → (nf 200 R).l ≠ [] → -100 ≤ (nf 200 R).e + ((nf 200 R).l.length : Int) - 1 := by
      intro hk hne
      have h0 : R ≠ 0 := fun h => hne ((nf_l_nil fR).2 h)
      obtain ⟨s, hs, l1, l2⟩ := nf_first fR h0
      have := Nat.lt_of_le_of_lt (hlow hk h0) l2
      have := (Nat.pow_lt_pow_iff_right (by decide : 1 < 10)).1 this
      omega
    have hsum : ((nf 200 R).l.length : Int) + (nf 200 R).e ≤ 300 := by
      by_cases h0 : R = 0
      · subst h0; rw [nf_zero]; decide
      · obtain ⟨t, q1, q2, q3, q4⟩ := nf_pos fR h0
        have hl : (nf 200 R).l.length = (rt (dig R.natAbs)).length := by rw [q1]
        have he : (nf 200 R).e = (t : Int) - 200 := by rw [q1]; rfl
        have := (dig_length_le R.natAbs (N + 1)).2 rb
        omega
    have A1 : ∀ w : World, Tab w → Calls Tryd.prog 13 #[PV p, V ⟨n, dgs L, e⟩] w fun z w' => z = .returned (.tuple #[VV (visP p (nf 200 R)), .int .i64 0]) ∧ Below w.heap.size w w' :=
      fun w hw => apply_as p ⟨n, dgs L, e⟩ w pl (by simp only; rw [dgs_length]; omega) hp.ok hw _ hr (by omega) hmd _ rfl
    have R1 : ∀ w : World, Tab w → Calls Tryd.prog 15 #[PV p, V ⟨n, dgs L, e⟩] w fun z w' => z = .returned (V (nf 200 R)) ∧ Below w.heap.size w w' :=
      fun w hw => roundP_as p ⟨n, dgs L, e⟩ w pl (by simp only; rw [dgs_length]; omega) hp.ok hw _ hr
    generalize nf 200 R = g at *
    have hvn : (visP p g).neg = g.neg := by unfold visP; rfl
    obtain ⟨d1, d2, d3, d4⟩ := vis_digits p hp hor
    have vd := vis_digs p hdg
    have vs := vis_some p g
    have p2 := parts_two g hor
    have hvf := vis_f p g
    have hmf : mfrac p g ≤ 120 := by
      unfold mfrac
      split
      · split
        · omega
        · rename_i hk hne
          have := hfirst hk hne
          omega
      · omega
    have fl : (visP p g).f.length ≤ 200 := by omega
    have p1 : ((partsT g).1.length : Int) ≤ 300 := by
      by_cases h : (partsT g).1 = []
      · rw [h]; simp
      · rw [parts_one h]; exact hsum
    obtain ⟨v, hv⟩ : ∃ v, visP p g = v := ⟨_, rfl⟩
    rw [hv] at A1 hvn d1 d2 d3 d4 vd vs fl hvf
    obtain ⟨vn, vi, vf⟩ := v
    simp only at hvn d1 d2 d3 d4 vd vs fl hvf
    subst hvn
    have gz : (made g.neg g.l g.e).l.isEmpty = g.l.isEmpty := by rw [hmd]
    rcases d3 with d3 | ⟨q1, q2, q3⟩
    · obtain ⟨kz, z1, z2, z3⟩ : ∃ kz : Nat, (∀ i, i < kz → ∀ h : i < vf.length, vf[i] = 48) ∧ (∀ h : kz < vf.length, vf[kz] ≠ 48) ∧ ((partsT g).1 = [] → g.l ≠ [] → kz < vf.length ∧ (kz : Int) = -((g.l.length : Int) + g.e)) := by
        by_cases hc : (partsT g).1 = [] ∧ g.l ≠ []
        · have hn : Nrm g := hor.elim (fun h => absurd (by rw [h]; rfl) hc.2) id
          obtain ⟨o1, o2⟩ := parts_low hn hc.1
          rw [o2, List.append_assoc] at hvf
          subst hvf
          have gp := List.length_pos_iff.2 hc.2
          refine ⟨(-((g.l.length : Int) + g.e)).toNat, fun i hi h => zs_get _ _ i hi h, fun h => ?_, fun _ _ => ⟨by rw [List.length_append, List.length_append, zs_length]; omega, by omega⟩⟩
          rw [List.getElem_append_right (by rw [zs_length]; omega)]
          simp only [zs_length, Nat.sub_self]
          exact head_get hc.2 hn.hd _ _
        · obtain ⟨k, a1, a2⟩ := ahead_any vf
          exact ⟨k, a1, a2, fun x y => absurd ⟨x, y⟩ hc⟩
      obtain ⟨t, ht⟩ : ∃ t, (partsT g).1 = t := ⟨_, rfl⟩
      obtain ⟨u, hu⟩ : ∃ u, (partsT g).2 = u := ⟨_, rfl⟩
      have hone : t ≠ [] → (t.length : Int) = (g.l.length : Int) + g.e := fun h => by rw [← ht] at h ⊢; exact parts_one h
      rw [ht] at d1 d3 z3 p1
      rw [hu] at d2 d4 p2
      have hmz : p.kind = 1 → g.l = [] → mfrac p g = p.mn - 1 := fun hk h => by unfold mfrac; rw [if_pos hk, if_pos h]
      have hmk : p.kind = 1 → g.l ≠ [] → mfrac p g = p.mn - ((g.l.length : Int) + g.e) := fun hk h => by unfold mfrac; rw [if_pos hk, if_neg h]; omega
      have hmo : ¬ p.kind = 1 → mfrac p g = p.mn := fun hk => by unfold mfrac; rw [if_neg hk]
      have tne : t ≠ [] → g.l ≠ [] := fun h hg => by
        rcases hor with hz | hn
        · apply h; rw [← ht, hz]; rfl
        · exact hn.ne hg
      obtain ⟨least, hle⟩ : ∃ least : Int, least = (if p.kind = 1 then (if t = [] then (if g.l = [] then max (p.mn - 1) 0 else max (p.mn - (1 - (kz : Int) - 1)) 0) else max (p.mn - (t.length : Int)) 0) else p.mn) := ⟨_, rfl⟩
      have hlen : (vf.length : Int) = max least (u.length : Int) := by
        rw [d4, hle]
        by_cases hk : p.kind = 1
        · rw [if_pos hk]
          by_cases h0 : t = []
          · rw [if_pos h0]
            by_cases hg : g.l = []
            · rw [if_pos hg, hmz hk hg]; omega
            · rw [if_neg hg, hmk hk hg]
              have := (z3 h0 hg).2
              omega
          · rw [if_neg h0, hmk hk (tne h0), hone h0]; omega
        · rw [if_neg hk, hmo hk]; omega
      have ke : ∀ b, (p.kind == 1) = b → (p.kind = 1 ↔ b = true) := fun b h => by rw [← h]; simp
      refine digits_w n a len cap L e k0 k1 k2 k3 k4 k5 k6 w hin htab (by omega) h2 h3 p hpr g (by omega) least vi vf t (by omega) fl vd.1 vd.2 vs (fun w => trim_is vi t (by omega) vd.1 d1 w) (by omega) _ rfl (by omega) kz ?_ (fun i hi h => byte_at vf i h true (by simpa using z1 i hi h)) (fun h => byte_at vf kz h false (by simpa using z2 h)) A1 R1 hmn.1 hmn.2 ?_ ?_ ?_ ?_ trivial ?_
      · intro h0 hg
        rw [gz] at hg
        exact (z3 h0 (by intro h; rw [h] at hg; simp at hg)).1
      · intro hk
        rw [hle, if_neg (by simpa using hk)]
      · intro hk h0 hg
        rw [gz] at hg
        rw [hle, if_pos (by simpa using hk), if_pos h0, if_pos (by simpa using hg)]
      · intro hk h0 hg
        rw [gz] at hg
        rw [hle, if_pos (by simpa using hk), if_pos h0, if_neg (by intro h; rw [h] at hg; simp at hg)]
      · intro hk h0
        rw [hle, if_pos (by simpa using hk), if_neg h0]
      · rw [d2, hlen]; simp
    · subst q2 q3
      have e1 : (partsT g).1 = [] := List.eq_nil_of_length_eq_zero (by omega)
      have e2 : (partsT g).2 = [] := by rw [← d2]; rfl
      have hg : g.l = [] := by
        rcases hor with hz | hn
        · rw [hz]; rfl
        · have := (parts_low hn e1).2
          rw [e2] at this
          exact (List.append_eq_nil_iff.1 this.symm).2
      rw [e2] at d4
      simp only [List.length_nil] at d4
      obtain ⟨least, hle⟩ : ∃ least : Int, least = (if p.kind = 1 then max (p.mn - 1) 0 else p.mn) := ⟨_, rfl⟩
      refine digits_z n a len cap L e k0 k1 k2 k3 k4 k5 k6 w hin htab (by omega) h2 h3 p hpr g (by omega) least A1 R1 hmn.1 hmn.2 ?_ (by omega) ?_ trivial (by rw [gz, hg]; rfl) ?_
      · intro hk
        rw [hle, if_neg (by simpa using hk)]
      · intro hk _
        rw [hle, if_pos (by simpa using hk)]
      · have : max least 0 = 0 := by
          rw [hle]
          unfold mfrac at d4
          by_cases hk : p.kind = 1
          · rw [if_pos hk]; rw [if_pos hk, if_pos hg] at d4; omega
          · rw [if_neg hk]; rw [if_neg hk] at d4; omega
        rw [this]; rfl
  · exact digits_no n a len cap e k0 k1 k2 k3 k4 k5 k6 w hin.2.1 hin.2.2.1 htab hf
end Go.Proofs.YtegekkifgdakgaaDoor
