/- RndP, LawT1v, ShnL, ShnD, ShnF, LawT5, LawT5w, in one text. -/
import Derived.Test.YtegekkifgdakgaaDoorRndG
import Derived.Test.YtegekkifgdakgaaDoorShwP
import Derived.Test.YtegekkifgdakgaaDoorMShw
import Derived.Deep.Cut
namespace Go.Proofs.YtegekkifgdakgaaDoor
open Go.RowKit Florin
set_option linter.unusedVariables false

theorem place60 (k : Int) : -30 ≤ wrap64 (k.tmod 60 - wrap64 ((k.tmod 60).tdiv 2)) ∧ wrap64 (k.tmod 60 - wrap64 ((k.tmod 60).tdiv 2)) ≤ 30 := by
  have t1 := Int.tmod_lt_of_pos k (show (0 : Int) < 60 by decide)
  have t2 := Int.lt_tmod_of_pos k (show (0 : Int) < 60 by decide)
  generalize k.tmod 60 = t at *
  have t3 := Int.tdiv_eq_ediv (a := t) (b := 2)
  have t4 : (0 ≤ t → t.tdiv 2 = t / 2) ∧ (t < 0 → t / 2 ≤ t.tdiv 2 ∧ t.tdiv 2 ≤ t / 2 + 1) ∧ (t < 0 → 2 * t.tdiv 2 ≥ t ∧ 2 * t.tdiv 2 ≤ t + 1) := by
    refine ⟨fun h => ?_, fun h => ?_, fun h => ?_⟩
    · rw [t3, if_pos (.inl h)]; omega
    · rw [t3]; split
      · omega
      · rw [show Int.sign 2 = 1 from rfl]; omega
    · rw [t3]; split
      · omega
      · rw [show Int.sign 2 = 1 from rfl]; omega
  clear t3
  generalize t.tdiv 2 = u at *
  unfold wrap64
  omega
/-- Ten to the power of a place, at sixty places. -/
def un (P : Int) : Nat := 10 ^ (P + 60).toNat
theorem un_pos (P : Int) : 0 < un P := pow_pos' _
theorem un_le {P : Int} {N : Nat} (h : P + 60 ≤ N) : un P ≤ 10 ^ N := Nat.pow_le_pow_right (by decide) (by omega)
theorem rz_lt {m U X : Int} {N : Nat} (hU : 0 < U) (hX : X.natAbs < 10 ^ N) (hU2 : U.natAbs ≤ 10 ^ N) : (rz m U X).natAbs < 10 ^ (N + 1) := by
  have := rz_abs m U X hU
  rw [Nat.pow_succ]; omega
/-- At of a decimal at sixty places. -/
theorem at60 {X m P : Int} (N : Nat) (hN : N ≤ 230) (hX : X.natAbs < 10 ^ N) (hP : -60 ≤ P) (hP2 : P + 60 ≤ N) (h0 : 0 ≤ m) (h6 : m ≤ 6) :
    mulT (nf 60 X) 1 (hld P) m = nf 60 (rz m (un P) X) ∧ (rz m (un P) X).natAbs < 10 ^ (N + 1) ∧ Fit 60 (rz m (un P) X) ∧ Fit 60 X := by
  have hR := rz_lt (m := m) (U := (un P : Int)) (X := X) (N := N) (by have := un_pos P; omega) hX (by rw [Int.natAbs_natCast]; exact un_le hP2)
  have f1 : Fit 60 (rz m (un P) X) := fit60 (Nat.lt_of_lt_of_le hR (Nat.pow_le_pow_right (by decide) (by omega)))
  have f2 : Fit 60 X := fit60 (Nat.lt_of_lt_of_le hX (Nat.pow_le_pow_right (by decide) (by omega)))
  refine ⟨?_, hR, f1, f2⟩
  rw [hld_of (by omega) (by omega)]
  exact mulT_nf f2 1 (by decide) P m (by omega) h0 h6 (un P) (by unfold un; rw [Nat.one_mul]; rfl) f1
/-- .. and Step: a unit of some digits. -/
theorem step60 {X m : Int} {F : Nat} {p : Int} (N : Nat) (hN : N ≤ 230) (hX : X.natAbs < 10 ^ N) (hF : 0 < F) (hp : -60 ≤ p) (U : Nat) (hU : U = F * 10 ^ (p + 60).toNat) (hU2 : U ≤ 10 ^ N) (h0 : 0 ≤ m) (h6 : m ≤ 6) :
    mulT (nf 60 X) F p m = nf 60 (rz m U X) ∧ (rz m U X).natAbs < 10 ^ (N + 1) ∧ Fit 60 (rz m U X) ∧ Fit 60 X ∧ 0 < U := by
  have hU0 : 0 < U := by rw [hU]; exact Nat.mul_pos hF (pow_pos' _)
  have hR := rz_lt (m := m) (U := (U : Int)) (X := X) (N := N) (by omega) hX (by rw [Int.natAbs_natCast]; exact hU2)
  have f1 : Fit 60 (rz m U X) := fit60 (Nat.lt_of_lt_of_le hR (Nat.pow_le_pow_right (by decide) (by omega)))
  have f2 : Fit 60 X := fit60 (Nat.lt_of_lt_of_le hX (Nat.pow_le_pow_right (by decide) (by omega)))
  exact ⟨mulT_nf f2 F hF p m (by omega) h0 h6 U (by rw [hU]; rfl) f1, hR, f1, f2, hU0⟩
theorem nf_len {k : Nat} {z : Int} {N : Nat} (h : z.natAbs < 10 ^ N) (hN : N ≤ 100000) : (nf k z).l.length ≤ 100000 := Nat.le_trans (nf_length h) hN
/-- The unit itself. -/
theorem unit60 {P : Int} (h1 : -60 ≤ P) (h2 : P ≤ 150) : made false [49] P = nf 60 (un P : Int) ∧ Fit 60 (un P : Int) := by
  have hf : Fit 60 (un P : Int) := fit60 (by rw [Int.natAbs_natCast]; exact Nat.lt_of_le_of_lt (un_le (N := 210) (by omega)) ((Nat.pow_lt_pow_iff_right (by decide)).2 (by decide)))
  refine ⟨?_, hf⟩
  have hd : Dv 60 (un P : Int) ⟨false, [49], P⟩ := ⟨rfl, by simp only; omega, by
    simp only
    rw [show val [49] = 1 from rfl, Nat.one_mul]; rfl⟩
  exact hd.made hf
end Go.Proofs.YtegekkifgdakgaaDoor

namespace Go.Proofs.YtegekkifgdakgaaDoor
open Go.RowKit Florin
set_option linter.unusedVariables false

theorem wrap_same (t : Int) : IntKind.i64.wrap t = wrap64 t := by rw [IntKind.wrap_i64]; unfold wrap64; omega
/-- What the laws ask, of small numbers. -/
structure Asked (p : Prc) : Prop where
  ok : validP p = true
  mn8 : p.mn ≤ 8
  mx15 : p.mx ≤ 15
  mx0 : 0 ≤ p.mx
  mi7 : p.mi ≤ 7
  il : p.inc.l.length ≤ 100
  inn : p.kind = 2 → made p.inc.neg p.inc.l p.inc.e = p.inc ∧ p.inc.neg = false ∧ -6 ≤ p.inc.e ∧ p.inc.e ≤ 6 ∧ 1 ≤ val p.inc.l ∧ val p.inc.l ≤ 1000000000
theorem prec_any (k0 k1 k2 k3 k4 k5 k6 : Int) : ∃ p : Prc, Asked p ∧ ∀ w : World, Tab w → Calls Tryd.prog 12 #[.agg #[.int .i64 k0, .int .i64 k1, .int .i64 k2, .int .i64 k3, .int .i64 k4, .int .i64 k5, .int .i64 k6]] w fun z w' => z = .returned (PV p) ∧ Below w.heap.size w w' := by
  have hk := u64_mod k0 3 (by decide) (by decide)
  rw [← wrap_same] at hk
  obtain ⟨j1, l1, hj1⟩ := and_mask k1 7 (by decide)
  obtain ⟨j2, l2, hj2⟩ := and_mask k2 7 (by decide)
  obtain ⟨j4, l4, hj4⟩ := and_mask k4 7 (by decide)
  obtain ⟨j5, l5, hj5⟩ := and_mask k5 65535 (by decide)
  obtain ⟨M, m0, m6, hM⟩ := mode_as k3
  have hk3 : IntKind.i64.wrap ((IntKind.u64.wrap k0).tmod 3) = 0 ∨ IntKind.i64.wrap ((IntKind.u64.wrap k0).tmod 3) = 1 ∨ IntKind.i64.wrap ((IntKind.u64.wrap k0).tmod 3) = 2 := by omega
  rcases hk3 with h | h | h
  · refine ⟨⟨0, j1, j1 + j2, zero, M, j4⟩, ⟨?_, by simp only; omega, by simp only; omega, by simp only; omega, by simp only; omega, by show ([] : List UInt8).length ≤ 100; decide, fun h => by simp at h⟩, fun w ht => prec_0 k0 k1 k2 k3 k4 k5 k6 w h j1 j2 j4 hj1 hj2 hj4 l1 l2 l4 M hM ht⟩
    unfold validP vm wi
    simp only [if_true, Bool.and_eq_true, decide_eq_true_eq]
    omega
  · refine ⟨⟨1, j1 + 1, j1 + 1 + j2, zero, M, j4⟩, ⟨?_, by simp only; omega, by simp only; omega, by simp only; omega, by simp only; omega, by show ([] : List UInt8).length ≤ 100; decide, fun h => by simp at h⟩, fun w ht => prec_1 k0 k1 k2 k3 k4 k5 k6 w h j1 j2 j4 hj1 hj2 hj4 l1 l2 l4 M hM ht⟩
    unfold validP vm wi
    simp only [Int.reduceEq, if_false, if_true, Bool.and_eq_true, decide_eq_true_eq]
    omega
  · have t1 := Int.tmod_lt_of_pos k6 (show (0 : Int) < 4 by decide)
    have t2 := Int.lt_tmod_of_pos k6 (show (0 : Int) < 4 by decide)
    have dl : (dig (j5 + 1)).length ≤ 6 := (dig_length_le _ _).2 (Nat.lt_of_le_of_lt (show j5 + 1 ≤ 65536 by omega) (by decide))
    have he := made_e_le false (dig (j5 + 1)) (k6.tmod 4 - 3) (by omega) (by omega) (by omega)
    have hl := made_length false (dig (j5 + 1)) (k6.tmod 4 - 3)
    have hid := made_idem false (dig (j5 + 1)) (k6.tmod 4 - 3)
    have hdg := made_isDig false (dig (j5 + 1)) (k6.tmod 4 - 3)
    have hpos : bare (dig (j5 + 1)) ≠ [] := by rw [bare_of_dig, Ne, dig_eq_nil]; omega
    have hneg : (made false (dig (j5 + 1)) (k6.tmod 4 - 3)).neg = false := by rw [made_pos _ _ hpos]
    have hne : (made false (dig (j5 + 1)) (k6.tmod 4 - 3)).l ≠ [] := by
      rw [made_pos _ _ hpos]; simp only; rw [bare_of_dig]; exact rt_ne_nil (by rw [val_dig]; omega)
    obtain ⟨g, hg⟩ : ∃ g, made false (dig (j5 + 1)) (k6.tmod 4 - 3) = g := ⟨_, rfl⟩
    rw [hg] at he hl hid hdg hneg hne
    have hvi : vinc g = true := by
      unfold vinc wi
      rw [hneg, ne_empty hne]
      simp only [Bool.not_false, Bool.true_and, Bool.and_eq_true, decide_eq_true_eq]
      omega
    have hvi2 : vinc (made g.neg g.l g.e) = true := by rw [hid]; exact hvi
    obtain ⟨v1, v2, v3, v4, v5⟩ := vinc_val hvi2
    rw [hid] at v1 v2
    refine ⟨⟨2, j1, j1 + j2, g, M, j4⟩, ⟨?_, by simp only; omega, by simp only; omega, by simp only; omega, by simp only; omega, by simp only; omega, fun _ => ⟨hid, hneg, by simp only; omega, by simp only; omega, v1, v2⟩⟩, fun w ht => prec_2 k0 k1 k2 k3 k4 k5 k6 w h j1 j2 j4 hj1 hj2 hj4 l1 l2 l4 M hM ht j5 hj5 l5 (by omega) (by omega) g hg⟩
    unfold validP vm wi
    simp only [Int.reduceEq, if_false, if_true, Bool.and_eq_true, decide_eq_true_eq]
    exact ⟨⟨m0, m6⟩, ⟨by omega, by omega⟩, ⟨by omega, by omega⟩, hvi2⟩

theorem zs_add (m k : Nat) (l : List UInt8) : zs m ++ (zs k ++ l) = zs (m + k) ++ l := by
  unfold zs; rw [← List.append_assoc, List.replicate_append_replicate]
theorem nrm_of {b : Bool} {l : List UInt8} {e : Int} (h : Nrm ⟨b, l, e⟩) (t z : Nat) (h1 : -30000 ≤ e - t) (h2 : e - t ≤ 30000) : made b (zs z ++ l ++ zs t) (e - t) = ⟨b, l, e⟩ := by
  have hd : isDig (zs z ++ l ++ zs t) = true := by rw [isDig_append, isDig_append, isDig_zs, isDig_zs, h.dg]; rfl
  have hz : ∀ z, trim (zs z ++ l ++ zs t) = l ++ zs t := by
    intro z
    induction z with
    | zero =>
      cases hl : l with
      | nil => exact absurd hl h.ne
      | cons c r => exact trim_cons _ (h.hd c r hl)
    | succ z ih => rw [show zs (z + 1) ++ l ++ zs t = 48 :: (zs z ++ l ++ zs t) by simp [zs, List.replicate_succ], trim_cons_zero, ih]
  have hb : bare (zs z ++ l ++ zs t) = l ++ zs t := by unfold bare; rw [if_pos hd, hz]
  have hr : rt (l ++ zs t) = l := by rw [rt_app_zs]; exact rt_last h.lst
  have lo := h.lo
  have hi := h.hi
  simp only at lo hi
  rw [made_pos _ _ (by rw [hb]; simp [h.ne]), hb, hr, hld_of (e := e - t) (by omega) (by omega)]
  rw [hld_of (by rw [List.length_append, zs_length]; omega) (by rw [List.length_append, zs_length]; omega)]
  congr 1
  rw [List.length_append, zs_length]; omega
theorem rt_tail {a l : List UInt8} (h : ∀ t c, l = t ++ [c] → c ≠ 48) (hne : l ≠ []) : rt (a ++ l) = a ++ l := by
  rcases List.eq_nil_or_concat l with h0 | ⟨t, c, h0⟩
  · exact absurd h0 hne
  · rw [List.concat_eq_append] at h0
    rw [h0, ← List.append_assoc]; exact rt_snoc _ (h t c h0)
/-- The value of what is shown is what was rounded. -/
theorem value_vis (p : Prc) (g : Tri) (h : g = zero ∨ Nrm g) : made (visP p g).neg ((visP p g).i ++ rt (visP p g).f) (-((rt (visP p g).f).length : Int)) = g := by
  unfold visP
  simp only
  rcases h with rfl | h
  · have hp : partsT zero = ([], []) := by decide
    rw [hp]
    simp only [List.append_nil, List.nil_append]
    have hr : ∀ n, rt (zs n) = [] := fun n => by have := rt_app_zs [] n; simpa [rt_nil] using this
    rw [hr]
    simp only [List.append_nil]
    refine made_zero _ _ ?_
    split
    · decide
    · unfold bare
      rw [if_pos (isDig_zs _)]
      have : ∀ n, trim (zs n) = [] := by
        intro n; induction n with
        | zero => rfl
        | succ n ih => rw [show zs (n + 1) = 48 :: zs n from rfl, trim_cons_zero, ih]
      exact this _
  · obtain ⟨b, l, e⟩ := g
    have lo := h.lo
    have hi := h.hi
    simp only at lo hi
    have hne : l ≠ [] := h.ne
    unfold partsT
    simp only
    by_cases h0 : 0 ≤ e
    · rw [if_pos h0]
      simp only [List.nil_append]
      rw [show rt (zs (mfrac p ⟨b, l, e⟩ - (([] : List UInt8).length : Int)).toNat) = [] by have := rt_app_zs [] (mfrac p ⟨b, l, e⟩ - (([] : List UInt8).length : Int)).toNat; simpa [rt_nil] using this]
      rw [if_neg (fun hh => hne (by have := (List.append_eq_nil_iff.1 hh.1).2; exact (List.append_eq_nil_iff.1 this).1))]
      have := nrm_of h e.toNat (p.mi - ((l ++ zs e.toNat).length : Int)).toNat (by omega) (by omega)
      rw [show e - (e.toNat : Int) = 0 by omega] at this
      simp only [List.append_nil, List.length_nil]
      rw [← List.append_assoc]
      exact this
    · rw [if_neg h0]
      by_cases hp : (l.length : Int) + e ≤ 0
      · rw [if_pos hp]
        simp only [List.append_nil]
        rw [if_neg (fun hh => hne (by have := (List.append_eq_nil_iff.1 hh.2).1; exact (List.append_eq_nil_iff.1 this).2)), rt_app_zs, rt_tail h.lst hne]
        have := nrm_of h 0 ((p.mi - (([] : List UInt8).length : Int)).toNat + (-((l.length : Int) + e)).toNat) (by omega) (by omega)
        simp only [zs_zero, List.append_nil] at this
        rw [zs_add, List.length_append, zs_length]
        rw [show -((((-((l.length : Int) + e)).toNat + l.length : Nat) : Int)) = e - ((0 : Nat) : Int) by omega]
        exact this
      · rw [if_neg hp]
        simp only
        have hlen : 0 < l.length := List.length_pos_iff.2 hne
        obtain ⟨q, hq⟩ : ∃ q : Nat, ((l.length : Int) + e).toNat = q := ⟨_, rfl⟩
        rw [hq]
        have hqb : q < l.length ∧ 0 < q := by omega
        have hdne : l.drop q ≠ [] := by intro hh; have := congrArg List.length hh; rw [List.length_drop, List.length_nil] at this; omega
        have htl : ∀ t c, l.drop q = t ++ [c] → c ≠ 48 := by
          intro t c hh
          refine h.lst (l.take q ++ t) c ?_
          show l = _
          rw [List.append_assoc, ← hh, List.take_append_drop]
        rw [if_neg (fun hh => hdne (List.append_eq_nil_iff.1 hh.2).1), rt_app_zs]
        have hrd : rt (l.drop q) = l.drop q := rt_last htl
        rw [hrd, List.append_assoc, List.take_append_drop, List.length_drop]
        have := nrm_of h 0 (p.mi - ((l.take q).length : Int)).toNat (by omega) (by omega)
        simp only [zs_zero, List.append_nil] at this
        rw [show -(((l.length - q : Nat) : Int)) = e - ((0 : Nat) : Int) by omega]
        exact this
theorem vis_len (p : Prc) (hp : Asked p) (g : Tri) (hl : g.l.length ≤ 1000) (h1 : -500 ≤ g.e) (h2 : g.e ≤ 1000) : (visP p g).i.length ≤ 2500 ∧ (visP p g).f.length ≤ 2000 := by
  obtain ⟨_, hi, hn, _⟩ := validP_parts hp.ok
  have m8 := hp.mn8
  have m7 := hp.mi7
  have hF : mfrac p g ≤ 600 := by
    unfold mfrac
    split
    · split
      · omega
      · rename_i hne
        have := List.length_pos_iff.2 hne
        omega
    · omega
  have ha : (partsT g).1.length ≤ 2000 ∧ (partsT g).2.length ≤ 500 := by
    unfold partsT
    split
    · simp only [List.length_append, zs_length, List.length_nil]; omega
    · split
      · simp only [List.length_append, zs_length, List.length_nil]; omega
      · simp only [List.length_take, List.length_drop]; omega
  unfold visP
  simp only
  constructor
  · split
    · decide
    · rw [List.length_append, zs_length]; omega
  · rw [List.length_append, zs_length]; omega
end Go.Proofs.YtegekkifgdakgaaDoor

namespace Go.Proofs.YtegekkifgdakgaaDoor
open Go.RowKit Florin
set_option linter.unusedVariables false

theorem fitM {M : Nat} {z : Int} (hM : M ≤ 20000) (h : z.natAbs < 10 ^ M) : Fit 200 z := Fit.of (m := M) (by decide) h (by omega)
theorem nfNrm {z : Int} (hf : Fit 200 z) (h : z ≠ 0) : Nrm (nf 200 z) := by
  unfold nf
  rcases made_nrm (decide (z < 0)) (dig z.natAbs) (-((200 : Nat) : Int)) with h1 | h1
  · exact absurd ((nf_l_nil hf).1 (by unfold nf; rw [h1]; rfl)) h
  · exact h1
theorem nfOr {z : Int} (hf : Fit 200 z) : nf 200 z = zero ∨ Nrm (nf 200 z) := by
  by_cases h : z = 0
  · subst h; exact .inl (nf_zero 200)
  · exact .inr (nfNrm hf h)
/-- Where a number's first digit stands. -/
theorem nf_first {z : Int} (hf : Fit 200 z) (h : z ≠ 0) : ∃ s : Nat, ((s : Int) = (nf 200 z).e + ((nf 200 z).l.length : Int) - 1 + 200) ∧ 10 ^ s ≤ z.natAbs ∧ z.natAbs < 10 ^ (s + 1) := by
  obtain ⟨t, h1, h2, h3, h4⟩ := nf_pos hf h
  have nr := nfNrm hf h
  have hp := List.length_pos_iff.2 nr.ne
  have hl : (nf 200 z).l.length = (rt (dig z.natAbs)).length := by rw [h1]
  have he : (nf 200 z).e = (t : Int) - 200 := by rw [h1]; rfl
  refine ⟨(dig z.natAbs).length - 1, by omega, ?_, ?_⟩
  · rcases Nat.lt_or_ge z.natAbs (10 ^ ((dig z.natAbs).length - 1)) with hlt | hge
    · have := (dig_length_le z.natAbs ((dig z.natAbs).length - 1)).2 hlt; omega
    · exact hge
  · rw [show (dig z.natAbs).length - 1 + 1 = (dig z.natAbs).length by omega]
    exact (dig_length_le _ _).1 (Nat.le_refl _)
/-- A power of ten that a unit of so many digits less divides. -/
theorem sig_between (m : Int) {X : Int} {U s : Nat} (hU : 0 < U) (hd : U ∣ 10 ^ s) (h1 : 10 ^ s ≤ X.natAbs) (h2 : X.natAbs < 10 ^ (s + 1)) :
    (0 < X → (10 ^ s : Nat) ≤ rz m U X ∧ rz m U X ≤ (10 ^ (s + 1) : Nat)) ∧ (X < 0 → rz m U X ≤ -((10 ^ s : Nat) : Int) ∧ -((10 ^ (s + 1) : Nat) : Int) ≤ rz m U X) := by
  have hd2 : U ∣ 10 ^ (s + 1) := Nat.dvd_trans hd (by rw [Nat.pow_succ]; exact Nat.dvd_mul_right _ _)
  have e1 : ((10 ^ s : Nat) : Int) % (U : Int) = 0 := Int.emod_eq_zero_of_dvd (Int.natCast_dvd_natCast.2 hd)
  have e2 : ((10 ^ (s + 1) : Nat) : Int) % (U : Int) = 0 := Int.emod_eq_zero_of_dvd (Int.natCast_dvd_natCast.2 hd2)
  have e3 : -((10 ^ s : Nat) : Int) % (U : Int) = 0 := Int.emod_eq_zero_of_dvd (Int.dvd_neg.2 (Int.natCast_dvd_natCast.2 hd))
  have e4 : -((10 ^ (s + 1) : Nat) : Int) % (U : Int) = 0 := Int.emod_eq_zero_of_dvd (Int.dvd_neg.2 (Int.natCast_dvd_natCast.2 hd2))
  have hu : (0 : Int) < U := by omega
  generalize hA : 10 ^ s = A at *
  generalize hB : 10 ^ (s + 1) = B at *
  constructor
  · intro hx
    have a := rz_mono m U (X := (A : Int)) (Y := X) hu (by omega)
    have b := rz_mono m U (X := X) (Y := (B : Int)) hu (by omega)
    rw [rz_self e1] at a
    rw [rz_self e2] at b
    exact ⟨a, b⟩
  · intro hx
    have a := rz_mono m U (X := X) (Y := -(A : Int)) hu (by omega)
    have b := rz_mono m U (X := -(B : Int)) (Y := X) hu (by omega)
    rw [rz_self e3] at a
    rw [rz_self e4] at b
    exact ⟨a, b⟩
/-- Of Frac and Step one unit serves all numbers. -/
theorem one_unit (p : Prc) (hp : Asked p) (hk : ¬ p.kind = 1) (N : Nat) (hN : N = 400) : ∃ U : Nat, 0 < U ∧ U < 10 ^ N ∧ ∀ X : Int, X.natAbs < 10 ^ (N + 2) → roundP p (nf 200 X) = nf 200 (rz p.mode U X) := by
  obtain ⟨⟨m0, m6⟩, _, _, hkk⟩ := validP_parts hp.ok
  have x0 := hp.mx0
  have x15 := hp.mx15
  have fit : ∀ (U : Nat) (X : Int), 0 < U → U < 10 ^ N → X.natAbs < 10 ^ (N + 2) → Fit 200 (rz p.mode U X) := fun U X h0 h hX => fitM (M := N + 3) (by omega) (rz_lt (U := (U : Int)) (by omega) hX (by rw [Int.natAbs_natCast]; exact Nat.le_of_lt (Nat.lt_of_lt_of_le h (Nat.pow_le_pow_right (by decide) (by omega)))))
  rcases hkk with ⟨k, b1, b2⟩ | ⟨k, _⟩ | ⟨k, b⟩
  · refine ⟨1 * 10 ^ (-p.mx + ((200 : Nat) : Int)).toNat, Nat.mul_pos (by decide) (pow_pos' _), ?_, fun X hX => ?_⟩
    · rw [Nat.one_mul]; exact (Nat.pow_lt_pow_iff_right (by decide)).2 (by omega)
    · unfold roundP
      rw [if_pos k, hld_of (by omega) (by omega)]
      refine mulT_nf (fitM (M := N + 2) (by omega) hX) 1 (by decide) (-p.mx) p.mode (by omega) m0 m6 _ rfl (fit _ X (Nat.mul_pos (by decide) (pow_pos' _)) ?_ hX)
      rw [Nat.one_mul]; exact (Nat.pow_lt_pow_iff_right (by decide)).2 (by omega)
  · exact absurd k hk
  · obtain ⟨i1, i2, i3, i4, i5, i6⟩ := hp.inn k
    have u1 : val p.inc.l * 10 ^ (p.inc.e + ((200 : Nat) : Int)).toNat < 10 ^ N := by
      have a1 : val p.inc.l < 10 ^ 10 := Nat.lt_of_le_of_lt i6 (by decide)
      have a2 : val p.inc.l * 10 ^ (p.inc.e + ((200 : Nat) : Int)).toNat < 10 ^ 10 * 10 ^ (p.inc.e + ((200 : Nat) : Int)).toNat := Nat.mul_lt_mul_of_pos_right a1 (pow_pos' _)
      rw [← Nat.pow_add] at a2
      exact Nat.lt_of_lt_of_le a2 (Nat.pow_le_pow_right (by decide) (by omega))
    refine ⟨val p.inc.l * 10 ^ (p.inc.e + ((200 : Nat) : Int)).toNat, Nat.mul_pos (by omega) (pow_pos' _), u1, fun X hX => ?_⟩
    unfold roundP
    rw [if_neg (by omega), if_neg (by omega), i1]
    exact mulT_nf (fitM (M := N + 2) (by omega) hX) _ (by omega) _ p.mode (by omega) m0 m6 _ rfl (fit _ X (Nat.mul_pos (by omega) (pow_pos' _)) u1 hX)
/-- Of Sig the unit hangs on the first digit. -/
theorem sig_unit (p : Prc) (hp : Asked p) (hk : p.kind = 1) (N : Nat) (hN : N = 400) (X : Int) (hX : X.natAbs < 10 ^ (N + 2)) (h0 : X ≠ 0) (s : Nat) (hs : (s : Int) = (nf 200 X).e + ((nf 200 X).l.length : Int) - 1 + 200) (s1 : 100 ≤ s) (s2 : s ≤ 401) : ∃ U : Nat, 0 < U ∧ U = 10 ^ (s + 1 - p.mx.toNat) ∧ U ∣ 10 ^ s ∧ roundP p (nf 200 X) = nf 200 (rz p.mode U X) := by
  obtain ⟨⟨m0, m6⟩, _, _, hkk⟩ := validP_parts hp.ok
  have x15 := hp.mx15
  have hb : 1 ≤ p.mn ∧ p.mn ≤ p.mx := by rcases hkk with ⟨k, _⟩ | ⟨k, a, b, c⟩ | ⟨k, _⟩; omega; exact ⟨a, b⟩; omega
  have fX := fitM (M := N + 2) (by omega) hX
  have nr := nfNrm fX h0
  refine ⟨10 ^ (s + 1 - p.mx.toNat), pow_pos' _, rfl, Nat.pow_dvd_pow 10 (by omega), ?_⟩
  unfold roundP sigT
  rw [if_neg (by omega), if_pos hk, if_neg nr.ne, show min (max p.mx 1) 30000 = p.mx by omega, hld_of (by omega) (by omega)]
  refine mulT_nf fX 1 (by decide) _ p.mode (by omega) m0 m6 _ ?_ ?_
  · rw [Nat.one_mul]; congr 1; omega
  · refine fitM (M := N + 3) (by omega) (rz_lt (N := N + 2) (by have := pow_pos' (s + 1 - p.mx.toNat); omega) hX ?_)
    rw [Int.natAbs_natCast]; exact Nat.pow_le_pow_right (by decide) (by omega)
/-- What is shown of a number; of it the same is shown. -/
theorem shown_again (p : Prc) (hp : Asked p) (N : Nat) (hN : N = 400) (X : Int) (hX : X.natAbs < 10 ^ N) (hG : X ≠ 0 → 10 ^ 100 ≤ X.natAbs) : ∃ R : Int, R.natAbs < 10 ^ (N + 1) ∧ roundP p (nf 200 X) = nf 200 R ∧ roundP p (nf 200 R) = nf 200 R := by
  have hX2 : X.natAbs < 10 ^ (N + 2) := Nat.lt_of_lt_of_le hX (Nat.pow_le_pow_right (by decide) (by omega))
  have up : ∀ R : Int, R.natAbs < 10 ^ (N + 1) → R.natAbs < 10 ^ (N + 2) := fun R h => Nat.lt_of_lt_of_le h (Nat.pow_le_pow_right (by decide) (by omega))
  by_cases hk : p.kind = 1
  · by_cases h0 : X = 0
    · subst h0
      have hz : roundP p (nf 200 0) = nf 200 0 := by rw [nf_zero]; unfold roundP; rw [if_neg (by omega), if_pos hk]; rfl
      exact ⟨0, by have := pow_pos' (N + 1); simpa using this, hz, hz⟩
    · obtain ⟨s, hs, l1, l2⟩ := nf_first (fitM (M := N) (by omega) hX) h0
      have s1 : 100 ≤ s := by
        have := Nat.lt_of_le_of_lt (hG h0) l2
        have := (Nat.pow_lt_pow_iff_right (by decide : 1 < 10)).1 this
        omega
      have s2 : s < N := (Nat.pow_lt_pow_iff_right (by decide : 1 < 10)).1 (Nat.lt_of_le_of_lt l1 hX)
      obtain ⟨U, u0, hU, hd, hr⟩ := sig_unit p hp hk N hN X hX2 h0 s hs s1 (by omega)
      have bt := sig_between p.mode u0 hd l1 l2
      have hRb : 10 ^ s ≤ (rz p.mode U X).natAbs ∧ (rz p.mode U X).natAbs ≤ 10 ^ (s + 1) := by
        generalize 10 ^ s = A at *
        generalize 10 ^ (s + 1) = B at *
        rcases Int.lt_or_gt_of_ne h0 with h | h
        · have := bt.2 h; omega
        · have := bt.1 h; omega
      have hR0 : rz p.mode U X ≠ 0 := by intro h; rw [h] at hRb; simp at hRb
      have hR1 : (rz p.mode U X).natAbs < 10 ^ (N + 1) := Nat.lt_of_le_of_lt hRb.2 ((Nat.pow_lt_pow_iff_right (by decide)).2 (by omega))
      refine ⟨_, hR1, hr, ?_⟩
      have hdv := rz_dvd p.mode U X (by omega)
      have hag := rz_again p.mode U X (by omega)
      generalize rz p.mode U X = R at *
      obtain ⟨s', hs', l1', l2'⟩ := nf_first (fitM (M := N + 1) (by omega) hR1) hR0
      have hge : s ≤ s' := by
        have := (Nat.pow_lt_pow_iff_right (by decide : 1 < 10)).1 (Nat.lt_of_le_of_lt hRb.1 l2'); omega
      have hle : s' ≤ s + 1 := (Nat.pow_le_pow_iff_right (by decide : 1 < 10)).1 (Nat.le_trans l1' hRb.2)
      obtain ⟨U', u0', hU', hd', hr'⟩ := sig_unit p hp hk N hN R (up R hR1) hR0 s' hs' (by omega) (by omega)
      rw [hr']
      congr 1
      by_cases he : s' = s
      · have : U' = U := by rw [hU', hU, he]
        rw [this]; exact hag
      · have hs1 : s' = s + 1 := by omega
        have hRe : R.natAbs = 10 ^ s' := by rw [hs1] at l1' ⊢; exact Nat.le_antisymm hRb.2 l1'
        refine rz_self (Int.emod_eq_zero_of_dvd ?_)
        rw [← Int.dvd_natAbs, hRe]
        exact Int.natCast_dvd_natCast.2 hd'
  · obtain ⟨U, u0, u1, hu⟩ := one_unit p hp hk N hN
    have hR := rz_lt (m := p.mode) (U := (U : Int)) (X := X) (N := N) (by omega) hX (by rw [Int.natAbs_natCast]; exact Nat.le_of_lt u1)
    refine ⟨_, hR, hu X hX2, ?_⟩
    rw [hu _ (up _ hR), rz_again _ _ _ (by omega)]
theorem rawG (n : Bool) (L : List UInt8) (e : Int) (h1 : L.length ≤ 30) (h2 : -30 ≤ e) (h3 : e ≤ 30) (N : Nat) (hN : 280 ≤ N) (hN2 : N ≤ 20000) : ∃ X : Int, made n (dgs L) e = nf 200 X ∧ X.natAbs < 10 ^ N ∧ (X ≠ 0 → 10 ^ 100 ≤ X.natAbs) := by
  have hdv := raw_dv n (k := 200) (isDig_dgs L) (e := e) (by omega)
  have hlt : (sg n (val (dgs L) * 10 ^ (e + ((200 : Nat) : Int)).toNat)).natAbs < 10 ^ N := by
    rw [sg_natAbs]
    have h4 := val_lt _ (isDig_dgs L)
    rw [dgs_length] at h4
    have h7 : val (dgs L) * 10 ^ (e + ((200 : Nat) : Int)).toNat < 10 ^ L.length * 10 ^ (e + ((200 : Nat) : Int)).toNat := Nat.mul_lt_mul_of_pos_right h4 (pow_pos' _)
    rw [← Nat.pow_add] at h7
    exact Nat.lt_of_lt_of_le h7 (Nat.pow_le_pow_right (by decide) (by omega))
  refine ⟨_, ?_, hlt, fun h0 => ?_⟩
  · exact hdv.made (fitM (M := N) (by omega) hlt)
  · rw [sg_natAbs]
    have hv : 1 ≤ val (dgs L) := by
      rcases Nat.eq_zero_or_pos (val (dgs L)) with h | h
      · exfalso; apply h0; rw [h, Nat.zero_mul, sg_zero]
      · exact h
    have h5 : 10 ^ 100 ≤ 10 ^ (e + ((200 : Nat) : Int)).toNat := Nat.pow_le_pow_right (by decide) (by omega)
    exact Nat.le_trans h5 (Nat.le_mul_of_pos_left _ hv)
theorem shownR (p : Prc) (hp : Asked p) (n : Bool) (L : List UInt8) (e : Int) (h1 : L.length ≤ 30) (h2 : -30 ≤ e) (h3 : e ≤ 30) (N : Nat) (hN : N = 400) : ∃ R : Int, R.natAbs < 10 ^ (N + 1) ∧ roundP p (made n (dgs L) e) = nf 200 R := by
  obtain ⟨X, dX, bX, gX⟩ := rawG n L e h1 h2 h3 N (by omega) (by omega)
  obtain ⟨R, rb, hr, hrr⟩ := shown_again p hp N hN X bX gX
  exact ⟨R, rb, by rw [dX]; exact hr⟩
end Go.Proofs.YtegekkifgdakgaaDoor

namespace Go.Proofs.YtegekkifgdakgaaDoor
open Go.RowKit Florin
set_option linter.unusedVariables false

theorem trim_zs_app (m : Nat) {l : List UInt8} (h : ∀ c t, l = c :: t → c ≠ 48) : trim (zs m ++ l) = l := by
  induction m with
  | zero => rw [zs_zero, List.nil_append]; exact trim_head h
  | succ m ih => rw [show zs (m + 1) ++ l = 48 :: (zs m ++ l) from rfl, trim_cons_zero, ih]
/-- The digits ahead of the point have no nought ahead, those behind it none at the end. -/
theorem parts_clean {g : Tri} (h : g = zero ∨ Nrm g) : (∀ c t, (partsT g).1 = c :: t → c ≠ 48) ∧ rt (partsT g).2 = (partsT g).2 := by
  rcases h with rfl | h
  · rw [show partsT zero = ([], []) by decide]
    exact ⟨fun c t h => by simp at h, rfl⟩
  · obtain ⟨b, l, e⟩ := g
    have hne : l ≠ [] := h.ne
    unfold partsT
    simp only
    by_cases h0 : 0 ≤ e
    · rw [if_pos h0]
      refine ⟨fun c t hc => ?_, rfl⟩
      simp only at hc
      cases hl : l with
      | nil => exact absurd hl hne
      | cons d r =>
        rw [hl, List.cons_append] at hc
        injection hc with h1 h2
        rw [← h1]; exact h.hd d r hl
    · rw [if_neg h0]
      by_cases hp : (l.length : Int) + e ≤ 0
      · rw [if_pos hp]
        exact ⟨fun c t hc => by simp at hc, rt_tail h.lst hne⟩
      · rw [if_neg hp]
        obtain ⟨q, hq⟩ : ∃ q : Nat, ((l.length : Int) + e).toNat = q := ⟨_, rfl⟩
        rw [hq]
        refine ⟨fun c t hc => ?_, ?_⟩
        · simp only at hc
          cases hl : l with
          | nil => exact absurd hl hne
          | cons d r =>
            rw [hl] at hc
            cases q with
            | zero => simp at hc
            | succ q =>
              rw [List.take_succ_cons] at hc
              injection hc with h1 h2
              rw [← h1]; exact h.hd d r hl
        · refine rt_last ?_
          intro t c hh
          simp only at hh
          refine h.lst (l.take q ++ t) c ?_
          show l = _
          rw [List.append_assoc, ← hh, List.take_append_drop]
/-- What is shown: its whole digits without noughts ahead, how many there are, what lies behind the point without noughts at the end. -/
theorem vis_digits (p : Prc) (hp : Asked p) {g : Tri} (h : g = zero ∨ Nrm g) :
    trim (visP p g).i = (partsT g).1 ∧ rt (visP p g).f = (partsT g).2 ∧
    ((visP p g).i.length = max (partsT g).1.length p.mi.toNat ∨ (max (partsT g).1.length p.mi.toNat = 0 ∧ (visP p g).i = [48] ∧ (visP p g).f = [])) ∧
    ((visP p g).f.length : Int) = max ((partsT g).2.length : Int) (mfrac p g) := by
  obtain ⟨c1, c2⟩ := parts_clean h
  obtain ⟨_, hi, _, _⟩ := validP_parts hp.ok
  unfold visP
  simp only
  by_cases hb : zs (p.mi - ((partsT g).1.length : Int)).toNat ++ (partsT g).1 = [] ∧ (partsT g).2 ++ zs (mfrac p g - ((partsT g).2.length : Int)).toNat = []
  · rw [if_pos hb]
    have a1 := (List.append_eq_nil_iff.1 hb.1).2
    have a0 := congrArg List.length (List.append_eq_nil_iff.1 hb.1).1
    have b1 := (List.append_eq_nil_iff.1 hb.2).1
    have b0 := congrArg List.length (List.append_eq_nil_iff.1 hb.2).2
    rw [zs_length, List.length_nil, a1, List.length_nil] at a0
    rw [zs_length, List.length_nil, b1, List.length_nil] at b0
    rw [hb.2, a1, b1]
    refine ⟨by decide, rfl, .inr ⟨?_, rfl, rfl⟩, ?_⟩
    · simp only [List.length_nil]; omega
    · simp only [List.length_nil]; omega
  · rw [if_neg hb]
    refine ⟨trim_zs_app _ c1, by rw [rt_app_zs]; exact c2, .inl ?_, ?_⟩
    · rw [List.length_append, zs_length]; omega
    · rw [List.length_append, zs_length]; omega
end Go.Proofs.YtegekkifgdakgaaDoor

namespace Go.Proofs.YtegekkifgdakgaaDoor
open Go.RowKit Florin
set_option linter.unusedVariables false

theorem isDig_cut {l : List UInt8} (h : isDig l = true) (q : Nat) : isDig (l.take q) = true ∧ isDig (l.drop q) = true := by
  have hs : l = l.take q ++ l.drop q := (List.take_append_drop _ _).symm
  rw [hs, isDig_append] at h
  simpa using h
theorem parts_digs {g : Tri} (h : isDig g.l = true) : isDig (partsT g).1 = true ∧ isDig (partsT g).2 = true := by
  unfold partsT
  split
  · exact ⟨by rw [isDig_append, h, isDig_zs]; rfl, rfl⟩
  · split
    · exact ⟨rfl, by rw [isDig_append, h, isDig_zs]; rfl⟩
    · exact isDig_cut h _
theorem vis_digs (p : Prc) {g : Tri} (h : isDig g.l = true) : isDig (visP p g).i = true ∧ isDig (visP p g).f = true := by
  obtain ⟨h1, h2⟩ := parts_digs h
  unfold visP
  simp only
  constructor
  · split
    · rfl
    · rw [isDig_append, h1, isDig_zs]; rfl
  · rw [isDig_append, h2, isDig_zs]; rfl
theorem vis_some (p : Prc) (g : Tri) : (visP p g).i ≠ [] ∨ (visP p g).f ≠ [] := by
  unfold visP
  simp only
  split
  · left; simp
  · rename_i h
    by_cases h1 : zs (p.mi - ((partsT g).1.length : Int)).toNat ++ (partsT g).1 = []
    · right; exact fun h2 => h ⟨h1, h2⟩
    · left; exact h1
/-- What is rounded, with its first digit not too far behind the point. -/
theorem shownS (p : Prc) (hp : Asked p) (n : Bool) (L : List UInt8) (e : Int) (h1 : L.length ≤ 30) (h2 : -30 ≤ e) (h3 : e ≤ 30) (N : Nat) (hN : N = 400) : ∃ R : Int, R.natAbs < 10 ^ (N + 1) ∧ roundP p (made n (dgs L) e) = nf 200 R ∧ (p.kind = 1 → R ≠ 0 → 10 ^ 100 ≤ R.natAbs) := by
  obtain ⟨X, dX, bX, gX⟩ := rawG n L e h1 h2 h3 N (by omega) (by omega)
  by_cases hk : p.kind = 1
  · by_cases h0 : X = 0
    · subst h0
      have hz : roundP p (nf 200 0) = nf 200 0 := by rw [nf_zero]; unfold roundP; rw [if_neg (by omega), if_pos hk]; rfl
      exact ⟨0, by have := pow_pos' (N + 1); simpa using this, by rw [dX]; exact hz, fun _ h => absurd rfl h⟩
    · have hX2 : X.natAbs < 10 ^ (N + 2) := Nat.lt_of_lt_of_le bX (Nat.pow_le_pow_right (by decide) (by omega))
      obtain ⟨s, hs, l1, l2⟩ := nf_first (fitM (M := N) (by omega) bX) h0
      have s1 : 100 ≤ s := by
        have := Nat.lt_of_le_of_lt (gX h0) l2
        have := (Nat.pow_lt_pow_iff_right (by decide : 1 < 10)).1 this
        omega
      have s2 : s < N := (Nat.pow_lt_pow_iff_right (by decide : 1 < 10)).1 (Nat.lt_of_le_of_lt l1 bX)
      obtain ⟨U, u0, hU, hd, hr⟩ := sig_unit p hp hk N hN X hX2 h0 s hs s1 (by omega)
      have bt := sig_between p.mode u0 hd l1 l2
      have hRb : 10 ^ s ≤ (rz p.mode U X).natAbs ∧ (rz p.mode U X).natAbs ≤ 10 ^ (s + 1) := by
        generalize 10 ^ s = A at *
        generalize 10 ^ (s + 1) = B at *
        rcases Int.lt_or_gt_of_ne h0 with h | h
        · have := bt.2 h; omega
        · have := bt.1 h; omega
      refine ⟨_, Nat.lt_of_le_of_lt hRb.2 ((Nat.pow_lt_pow_iff_right (by decide)).2 (by omega)), by rw [dX]; exact hr, fun _ _ => Nat.le_trans (Nat.pow_le_pow_right (by decide) s1) hRb.1⟩
  · obtain ⟨R, rb, hr, _⟩ := shown_again p hp N hN X bX gX
    exact ⟨R, rb, by rw [dX]; exact hr, fun h => absurd h hk⟩
/-- How many digits lie behind the point. -/
theorem parts_two (g : Tri) (h : g = zero ∨ Nrm g) : (partsT g).2.length ≤ (-g.e).toNat := by
  unfold partsT
  split
  · simp
  · split
    · rw [List.length_append, zs_length]; omega
    · rw [List.length_drop]; omega
theorem parts_one {g : Tri} (h : (partsT g).1 ≠ []) : ((partsT g).1.length : Int) = (g.l.length : Int) + g.e := by
  revert h
  unfold partsT
  split
  · intro _; simp only [List.length_append, zs_length]; omega
  · split
    · intro h; exact absurd rfl h
    · intro _; rw [List.length_take]; omega
/-- A number below one: noughts ahead of its digits. -/
theorem parts_low {g : Tri} (hn : Nrm g) (h : (partsT g).1 = []) : (g.l.length : Int) + g.e ≤ 0 ∧ (partsT g).2 = zs (-((g.l.length : Int) + g.e)).toNat ++ g.l := by
  have hne := List.length_pos_iff.2 hn.ne
  revert h
  unfold partsT
  split
  · intro h; exact absurd (List.append_eq_nil_iff.1 h).1 hn.ne
  · split
    · rename_i h2; intro _; exact ⟨h2, rfl⟩
    · intro h; have := congrArg List.length h; simp only [List.length_take, List.length_nil] at this; omega
theorem vis_f (p : Prc) (g : Tri) : (visP p g).f = (partsT g).2 ++ zs (mfrac p g - ((partsT g).2.length : Int)).toNat := by
  unfold visP; rfl
theorem zs_get (k : Nat) (r : List UInt8) (i : Nat) (hi : i < k) (h : i < (zs k ++ r).length) : (zs k ++ r)[i] = 48 := by
  rw [List.getElem_append_left (by rw [zs_length]; exact hi)]
  simp [zs]
/-- Noughts ahead of any digits. -/
theorem ahead_any (f : List UInt8) : ∃ k : Nat, (∀ i, i < k → ∀ h : i < f.length, f[i] = 48) ∧ (∀ h : k < f.length, f[k] ≠ 48) := by
  induction f with
  | nil => exact ⟨0, fun i hi => by omega, fun h => by simp at h⟩
  | cons c f ih =>
    by_cases hc : c = 48
    · subst hc
      obtain ⟨k, h1, h2⟩ := ih
      refine ⟨k + 1, fun i hi hl => ?_, fun h => by simpa using h2 (by simpa using h)⟩
      cases i with
      | zero => rfl
      | succ i => simpa using h1 i (by omega) (by simpa using hl)
    · exact ⟨0, fun i hi => by omega, fun h => by simpa using hc⟩
end Go.Proofs.YtegekkifgdakgaaDoor

namespace Go.Proofs.YtegekkifgdakgaaDoor
open Go.RowKit Florin
set_option linter.unusedVariables false
set_option linter.unusedSimpArgs false
attribute [local go_sem ↓] Go.wp_at_zero Go.wp_at_succ eq_V ne_V eq_VV

theorem HeldL.tl {w : World} {x : Nat × Array Value} {L : List (Nat × Array Value)} {W : World} (h : HeldL w (x :: L) W) : HeldL w L W :=
  ⟨fun p hp => h.box p (List.Mem.tail _ hp), fun p hp => h.own p (List.Mem.tail _ hp), (List.pairwise_cons.1 h.desc).2, h.bel⟩
set_option maxRecDepth 100000 in
set_option maxHeartbeats 12800000 in
theorem more_f (n : Bool) (a : Option Addr) (len cap : Nat) (L : List UInt8) (e : Int) (k0 k1 k2 k3 k4 k5 k6 : Int) (w : World) (hin : InB w a len cap L) (htab : Tab w) (h1 : len ≤ 30) (h2 : -30 ≤ e) (h3 : e ≤ 30) (p : Prc) (hpr : (∀ w : World, Tab w → Calls Tryd.prog 12 #[.agg #[.int .i64 k0, .int .i64 k1, .int .i64 k2, .int .i64 k3, .int .i64 k4, .int .i64 k5, .int .i64 k6]] w fun z w' => z = .returned (PV p) ∧ Below w.heap.size w w')) (b1 : 0 ≤ p.mn) (b2 : p.mn ≤ 100) (hk : (p.kind != 2) = false) (vn : Bool) (vi vf wf : List UInt8) (il : vi.length ≤ 3000) (fl : vf.length ≤ 3000) (wl : wf.length ≤ 3001) (hwf : wf = vf ∨ wf = vf ++ [48]) (ha1 : (∀ w : World, Tab w → Calls Tryd.prog 13 #[.agg #[.int .i64 p.kind, .int .i64 p.mn, .int .i64 p.mx, .bool p.inc.neg, S p.inc.l, .int .i64 p.inc.e, .int .i64 p.mode, .int .i64 (max p.mi 1)], V ⟨n, dgs L, e⟩] w fun z w' => z = .returned (.tuple #[VV ⟨vn, vi, vf⟩, .int .i64 0]) ∧ Below w.heap.size w w')) (ha2 : (∀ w : World, Tab w → Calls Tryd.prog 13 #[.agg #[.int .i64 p.kind, .int .i64 (p.mn + 1), .int .i64 p.mx, .bool p.inc.neg, S p.inc.l, .int .i64 p.inc.e, .int .i64 p.mode, .int .i64 (max p.mi 1)], V ⟨n, dgs L, e⟩] w fun z w' => z = .returned (.tuple #[VV ⟨vn, vi, wf⟩, .int .i64 0]) ∧ Below w.heap.size w w')) :
    Calls Tryd.prog 4 #[RV n a len cap e, .agg #[.int .i64 k0, .int .i64 k1, .int .i64 k2, .int .i64 k3, .int .i64 k4, .int .i64 k5, .int .i64 k6]] w fun x w' => x = .returned (.bool true) ∧ Below w.heap.size w w' := by
  have hcA := hin.2.1
  have hmA := hin.2.2.1
  have HT := Lib.hid htab
  have HIN := Lib.hid hin
  have HPR := Lib.hid hpr
  have HA1 := Lib.hid ha1
  have HA2 := Lib.hid ha2
  have HWF := Lib.hid hwf
  clear htab hin hpr ha1 ha2 hwf
  go_enter Tryd.func4, Tryd.ntmps4
  go_wp2_with fail
  with_reducible refine (head4 _ (HT.out.below (HeldL.alloc (HeldL.alloc (HeldL.refl w) (w.heap.size) #[.bool n, .slice a len cap, .int .i64 e] 24 (by simp)) (w.heap.size + 1) #[.int .i64 k0, .int .i64 k1, .int .i64 k2, .int .i64 k3, .int .i64 k4, .int .i64 k5, .int .i64 k6] 26 (by simp)).bel)).mono ?_
  rintro x w1 ⟨rfl, hb⟩
  have H1 : Hid (HeldL w [(w.heap.size + 1, #[.int .i64 k0, .int .i64 k1, .int .i64 k2, .int .i64 k3, .int .i64 k4, .int .i64 k5, .int .i64 k6]), (w.heap.size, #[.bool n, .slice a len cap, .int .i64 e])] w1) := Lib.hid (HeldL.keep (HeldL.alloc (HeldL.alloc (HeldL.refl w) (w.heap.size) #[.bool n, .slice a len cap, .int .i64 e] 24 (by simp)) (w.heap.size + 1) #[.int .i64 k0, .int .i64 k1, .int .i64 k2, .int .i64 k3, .int .i64 k4, .int .i64 k5, .int .i64 k6] 26 (by simp)) hb)
  clear hb
  have q0 : w1.cell? ⟨w.heap.size, 0, none⟩ = some (.bool n) := (H1.out.f (List.Mem.tail _ (List.Mem.head _))).cell 0
  have q1 : w1.cell? ⟨w.heap.size, 1, none⟩ = some (.slice a len cap) := (H1.out.f (List.Mem.tail _ (List.Mem.head _))).cell 1
  have q2 : w1.cell? ⟨w.heap.size, 2, none⟩ = some (.int .i64 e) := (H1.out.f (List.Mem.tail _ (List.Mem.head _))).cell 2
  have ql : w.heap.size < w1.heap.size := (H1.out.f (List.Mem.tail _ (List.Mem.head _))).lt
  have k0 : w1.cell? ⟨w.heap.size + 1, 0, none⟩ = some (.int .i64 k0) := (H1.out.f (List.Mem.head _)).cell 0
  have k1 : w1.cell? ⟨w.heap.size + 1, 1, none⟩ = some (.int .i64 k1) := (H1.out.f (List.Mem.head _)).cell 1
  have k2 : w1.cell? ⟨w.heap.size + 1, 2, none⟩ = some (.int .i64 k2) := (H1.out.f (List.Mem.head _)).cell 2
  have k3 : w1.cell? ⟨w.heap.size + 1, 3, none⟩ = some (.int .i64 k3) := (H1.out.f (List.Mem.head _)).cell 3
  have k4 : w1.cell? ⟨w.heap.size + 1, 4, none⟩ = some (.int .i64 k4) := (H1.out.f (List.Mem.head _)).cell 4
  have k5 : w1.cell? ⟨w.heap.size + 1, 5, none⟩ = some (.int .i64 k5) := (H1.out.f (List.Mem.head _)).cell 5
  have k6 : w1.cell? ⟨w.heap.size + 1, 6, none⟩ = some (.int .i64 k6) := (H1.out.f (List.Mem.head _)).cell 6
  have kl : w.heap.size + 1 < w1.heap.size := (H1.out.f (List.Mem.head _)).lt
  go_wp2_with fail
  with_reducible refine (few_yes n a len cap e 30 _ hcA hmA (by decide) (by decide) (by omega) h2 h3).mono ?_
  rintro x w2 ⟨rfl, hb⟩
  clear q0 q1 q2 ql k0 k1 k2 k3 k4 k5 k6 kl
  have H2 : Hid (HeldL w [(w.heap.size + 1, #[.int .i64 k0, .int .i64 k1, .int .i64 k2, .int .i64 k3, .int .i64 k4, .int .i64 k5, .int .i64 k6]), (w.heap.size, #[.bool n, .slice a len cap, .int .i64 e])] w2) := Lib.hid (HeldL.keep H1.out hb)
  clear H1
  clear hb
  have q0 : w2.cell? ⟨w.heap.size, 0, none⟩ = some (.bool n) := (H2.out.f (List.Mem.tail _ (List.Mem.head _))).cell 0
  have q1 : w2.cell? ⟨w.heap.size, 1, none⟩ = some (.slice a len cap) := (H2.out.f (List.Mem.tail _ (List.Mem.head _))).cell 1
  have q2 : w2.cell? ⟨w.heap.size, 2, none⟩ = some (.int .i64 e) := (H2.out.f (List.Mem.tail _ (List.Mem.head _))).cell 2
  have ql : w.heap.size < w2.heap.size := (H2.out.f (List.Mem.tail _ (List.Mem.head _))).lt
  have k0 : w2.cell? ⟨w.heap.size + 1, 0, none⟩ = some (.int .i64 k0) := (H2.out.f (List.Mem.head _)).cell 0
  have k1 : w2.cell? ⟨w.heap.size + 1, 1, none⟩ = some (.int .i64 k1) := (H2.out.f (List.Mem.head _)).cell 1
  have k2 : w2.cell? ⟨w.heap.size + 1, 2, none⟩ = some (.int .i64 k2) := (H2.out.f (List.Mem.head _)).cell 2
  have k3 : w2.cell? ⟨w.heap.size + 1, 3, none⟩ = some (.int .i64 k3) := (H2.out.f (List.Mem.head _)).cell 3
  have k4 : w2.cell? ⟨w.heap.size + 1, 4, none⟩ = some (.int .i64 k4) := (H2.out.f (List.Mem.head _)).cell 4
  have k5 : w2.cell? ⟨w.heap.size + 1, 5, none⟩ = some (.int .i64 k5) := (H2.out.f (List.Mem.head _)).cell 5
  have k6 : w2.cell? ⟨w.heap.size + 1, 6, none⟩ = some (.int .i64 k6) := (H2.out.f (List.Mem.head _)).cell 6
  have kl : w.heap.size + 1 < w2.heap.size := (H2.out.f (List.Mem.head _)).lt
  go_wp2_with fail
  with_reducible refine (HPR.out _ (HT.out.below H2.out.bel)).mono ?_
  rintro x w3 ⟨rfl, hb⟩
  clear q0 q1 q2 ql k0 k1 k2 k3 k4 k5 k6 kl
  have H3 : Hid (HeldL w [(w.heap.size + 1, #[.int .i64 k0, .int .i64 k1, .int .i64 k2, .int .i64 k3, .int .i64 k4, .int .i64 k5, .int .i64 k6]), (w.heap.size, #[.bool n, .slice a len cap, .int .i64 e])] w3) := Lib.hid (HeldL.keep H2.out hb)
  clear H2
  clear hb
  have q0 : w3.cell? ⟨w.heap.size, 0, none⟩ = some (.bool n) := (H3.out.f (List.Mem.tail _ (List.Mem.head _))).cell 0
  have q1 : w3.cell? ⟨w.heap.size, 1, none⟩ = some (.slice a len cap) := (H3.out.f (List.Mem.tail _ (List.Mem.head _))).cell 1
  have q2 : w3.cell? ⟨w.heap.size, 2, none⟩ = some (.int .i64 e) := (H3.out.f (List.Mem.tail _ (List.Mem.head _))).cell 2
  have ql : w.heap.size < w3.heap.size := (H3.out.f (List.Mem.tail _ (List.Mem.head _))).lt
  go_upto_region 11 with fail
  go_cut [7, 8] from 11 (fun vp ve w' => ∃ b : Nat, vp = .pointer (some ⟨b, 0, none⟩) ∧ ve = .int .i64 0 ∧ HeldL w ((b, #[.bool vn, S vi, S vf]) :: [(w3.heap.size + 1, #[.int .i64 p.kind, .int .i64 (p.mn + 1), .int .i64 p.mx, .bool p.inc.neg, S p.inc.l, .int .i64 p.inc.e, .int .i64 p.mode, .int .i64 (max p.mi 1)]), (w3.heap.size, #[.int .i64 p.kind, .int .i64 p.mn, .int .i64 p.mx, .bool p.inc.neg, S p.inc.l, .int .i64 p.inc.e, .int .i64 p.mode, .int .i64 (max p.mi 1)]), (w.heap.size + 1, #[.int .i64 k0, .int .i64 k1, .int .i64 k2, .int .i64 k3, .int .i64 k4, .int .i64 k5, .int .i64 k6]), (w.heap.size, #[.bool n, .slice a len cap, .int .i64 e])]) w')
  case first =>
    have ALL1 : Hid (∀ w' : World, HeldL w [(w3.heap.size + 1, #[.int .i64 p.kind, .int .i64 (p.mn + 1), .int .i64 p.mx, .bool p.inc.neg, S p.inc.l, .int .i64 p.inc.e, .int .i64 p.mode, .int .i64 (max p.mi 1)]), (w3.heap.size, #[.int .i64 p.kind, .int .i64 p.mn, .int .i64 p.mx, .bool p.inc.neg, S p.inc.l, .int .i64 p.inc.e, .int .i64 p.mode, .int .i64 (max p.mi 1)]), (w.heap.size + 1, #[.int .i64 k0, .int .i64 k1, .int .i64 k2, .int .i64 k3, .int .i64 k4, .int .i64 k5, .int .i64 k6]), (w.heap.size, #[.bool n, .slice a len cap, .int .i64 e])] w' → w'.cell? ⟨w3.heap.size, 0, none⟩ = some (.int .i64 p.kind) ∧ w'.cell? ⟨w3.heap.size, 1, none⟩ = some (.int .i64 p.mn) ∧ w'.cell? ⟨w3.heap.size, 2, none⟩ = some (.int .i64 p.mx) ∧ w'.cell? ⟨w3.heap.size, 3, none⟩ = some (.bool p.inc.neg) ∧ w'.cell? ⟨w3.heap.size, 4, none⟩ = some (S p.inc.l) ∧ w'.cell? ⟨w3.heap.size, 5, none⟩ = some (.int .i64 p.inc.e) ∧ w'.cell? ⟨w3.heap.size, 6, none⟩ = some (.int .i64 p.mode) ∧ w'.cell? ⟨w3.heap.size, 7, none⟩ = some (.int .i64 (max p.mi 1)) ∧ w'.cell? ⟨w.heap.size, 0, none⟩ = some (.bool n) ∧ w'.cell? ⟨w.heap.size, 1, none⟩ = some (.slice a len cap) ∧ w'.cell? ⟨w.heap.size, 2, none⟩ = some (.int .i64 e) ∧ HeldL w [(w3.heap.size + 1, #[.int .i64 p.kind, .int .i64 (p.mn + 1), .int .i64 p.mx, .bool p.inc.neg, S p.inc.l, .int .i64 p.inc.e, .int .i64 p.mode, .int .i64 (max p.mi 1)]), (w3.heap.size, #[.int .i64 p.kind, .int .i64 p.mn, .int .i64 p.mx, .bool p.inc.neg, S p.inc.l, .int .i64 p.inc.e, .int .i64 p.mode, .int .i64 (max p.mi 1)]), (w.heap.size + 1, #[.int .i64 k0, .int .i64 k1, .int .i64 k2, .int .i64 k3, .int .i64 k4, .int .i64 k5, .int .i64 k6]), (w.heap.size, #[.bool n, .slice a len cap, .int .i64 e])] w') := Lib.hid (fun w' h => ⟨(h.f (List.Mem.tail _ (List.Mem.head _))).cell 0, (h.f (List.Mem.tail _ (List.Mem.head _))).cell 1, (h.f (List.Mem.tail _ (List.Mem.head _))).cell 2, (h.f (List.Mem.tail _ (List.Mem.head _))).cell 3, (h.f (List.Mem.tail _ (List.Mem.head _))).cell 4, (h.f (List.Mem.tail _ (List.Mem.head _))).cell 5, (h.f (List.Mem.tail _ (List.Mem.head _))).cell 6, (h.f (List.Mem.tail _ (List.Mem.head _))).cell 7, (h.f (List.Mem.tail _ (List.Mem.tail _ (List.Mem.tail _ (List.Mem.head _))))).cell 0, (h.f (List.Mem.tail _ (List.Mem.tail _ (List.Mem.tail _ (List.Mem.head _))))).cell 1, (h.f (List.Mem.tail _ (List.Mem.tail _ (List.Mem.tail _ (List.Mem.head _))))).cell 2, h⟩)
    have KEEP1 : Hid (∀ w' w'' : World, (w'.cell? ⟨w3.heap.size, 0, none⟩ = some (.int .i64 p.kind) ∧ w'.cell? ⟨w3.heap.size, 1, none⟩ = some (.int .i64 p.mn) ∧ w'.cell? ⟨w3.heap.size, 2, none⟩ = some (.int .i64 p.mx) ∧ w'.cell? ⟨w3.heap.size, 3, none⟩ = some (.bool p.inc.neg) ∧ w'.cell? ⟨w3.heap.size, 4, none⟩ = some (S p.inc.l) ∧ w'.cell? ⟨w3.heap.size, 5, none⟩ = some (.int .i64 p.inc.e) ∧ w'.cell? ⟨w3.heap.size, 6, none⟩ = some (.int .i64 p.mode) ∧ w'.cell? ⟨w3.heap.size, 7, none⟩ = some (.int .i64 (max p.mi 1)) ∧ w'.cell? ⟨w.heap.size, 0, none⟩ = some (.bool n) ∧ w'.cell? ⟨w.heap.size, 1, none⟩ = some (.slice a len cap) ∧ w'.cell? ⟨w.heap.size, 2, none⟩ = some (.int .i64 e) ∧ HeldL w [(w3.heap.size + 1, #[.int .i64 p.kind, .int .i64 (p.mn + 1), .int .i64 p.mx, .bool p.inc.neg, S p.inc.l, .int .i64 p.inc.e, .int .i64 p.mode, .int .i64 (max p.mi 1)]), (w3.heap.size, #[.int .i64 p.kind, .int .i64 p.mn, .int .i64 p.mx, .bool p.inc.neg, S p.inc.l, .int .i64 p.inc.e, .int .i64 p.mode, .int .i64 (max p.mi 1)]), (w.heap.size + 1, #[.int .i64 k0, .int .i64 k1, .int .i64 k2, .int .i64 k3, .int .i64 k4, .int .i64 k5, .int .i64 k6]), (w.heap.size, #[.bool n, .slice a len cap, .int .i64 e])] w') → Below w'.heap.size w' w'' → (w''.cell? ⟨w3.heap.size, 0, none⟩ = some (.int .i64 p.kind) ∧ w''.cell? ⟨w3.heap.size, 1, none⟩ = some (.int .i64 p.mn) ∧ w''.cell? ⟨w3.heap.size, 2, none⟩ = some (.int .i64 p.mx) ∧ w''.cell? ⟨w3.heap.size, 3, none⟩ = some (.bool p.inc.neg) ∧ w''.cell? ⟨w3.heap.size, 4, none⟩ = some (S p.inc.l) ∧ w''.cell? ⟨w3.heap.size, 5, none⟩ = some (.int .i64 p.inc.e) ∧ w''.cell? ⟨w3.heap.size, 6, none⟩ = some (.int .i64 p.mode) ∧ w''.cell? ⟨w3.heap.size, 7, none⟩ = some (.int .i64 (max p.mi 1)) ∧ w''.cell? ⟨w.heap.size, 0, none⟩ = some (.bool n) ∧ w''.cell? ⟨w.heap.size, 1, none⟩ = some (.slice a len cap) ∧ w''.cell? ⟨w.heap.size, 2, none⟩ = some (.int .i64 e) ∧ HeldL w [(w3.heap.size + 1, #[.int .i64 p.kind, .int .i64 (p.mn + 1), .int .i64 p.mx, .bool p.inc.neg, S p.inc.l, .int .i64 p.inc.e, .int .i64 p.mode, .int .i64 (max p.mi 1)]), (w3.heap.size, #[.int .i64 p.kind, .int .i64 p.mn, .int .i64 p.mx, .bool p.inc.neg, S p.inc.l, .int .i64 p.inc.e, .int .i64 p.mode, .int .i64 (max p.mi 1)]), (w.heap.size + 1, #[.int .i64 k0, .int .i64 k1, .int .i64 k2, .int .i64 k3, .int .i64 k4, .int .i64 k5, .int .i64 k6]), (w.heap.size, #[.bool n, .slice a len cap, .int .i64 e])] w'')) := Lib.hid (fun w' w'' h hb => ALL1.out _ (HeldL.keep (h.2.2.2.2.2.2.2.2.2.2.2) hb))
    have TAB1 : Hid (∀ w' : World, (w'.cell? ⟨w3.heap.size, 0, none⟩ = some (.int .i64 p.kind) ∧ w'.cell? ⟨w3.heap.size, 1, none⟩ = some (.int .i64 p.mn) ∧ w'.cell? ⟨w3.heap.size, 2, none⟩ = some (.int .i64 p.mx) ∧ w'.cell? ⟨w3.heap.size, 3, none⟩ = some (.bool p.inc.neg) ∧ w'.cell? ⟨w3.heap.size, 4, none⟩ = some (S p.inc.l) ∧ w'.cell? ⟨w3.heap.size, 5, none⟩ = some (.int .i64 p.inc.e) ∧ w'.cell? ⟨w3.heap.size, 6, none⟩ = some (.int .i64 p.mode) ∧ w'.cell? ⟨w3.heap.size, 7, none⟩ = some (.int .i64 (max p.mi 1)) ∧ w'.cell? ⟨w.heap.size, 0, none⟩ = some (.bool n) ∧ w'.cell? ⟨w.heap.size, 1, none⟩ = some (.slice a len cap) ∧ w'.cell? ⟨w.heap.size, 2, none⟩ = some (.int .i64 e) ∧ HeldL w [(w3.heap.size + 1, #[.int .i64 p.kind, .int .i64 (p.mn + 1), .int .i64 p.mx, .bool p.inc.neg, S p.inc.l, .int .i64 p.inc.e, .int .i64 p.mode, .int .i64 (max p.mi 1)]), (w3.heap.size, #[.int .i64 p.kind, .int .i64 p.mn, .int .i64 p.mx, .bool p.inc.neg, S p.inc.l, .int .i64 p.inc.e, .int .i64 p.mode, .int .i64 (max p.mi 1)]), (w.heap.size + 1, #[.int .i64 k0, .int .i64 k1, .int .i64 k2, .int .i64 k3, .int .i64 k4, .int .i64 k5, .int .i64 k6]), (w.heap.size, #[.bool n, .slice a len cap, .int .i64 e])] w') → Tab w') := Lib.hid (fun w' h => HT.out.below (h.2.2.2.2.2.2.2.2.2.2.2).bel)
    have HS1 : Hid (HeldL w [(w3.heap.size + 1, #[.int .i64 p.kind, .int .i64 (p.mn + 1), .int .i64 p.mx, .bool p.inc.neg, S p.inc.l, .int .i64 p.inc.e, .int .i64 p.mode, .int .i64 (max p.mi 1)]), (w3.heap.size, #[.int .i64 p.kind, .int .i64 p.mn, .int .i64 p.mx, .bool p.inc.neg, S p.inc.l, .int .i64 p.inc.e, .int .i64 p.mode, .int .i64 (max p.mi 1)]), (w.heap.size + 1, #[.int .i64 k0, .int .i64 k1, .int .i64 k2, .int .i64 k3, .int .i64 k4, .int .i64 k5, .int .i64 k6]), (w.heap.size, #[.bool n, .slice a len cap, .int .i64 e])] _) := Lib.hid (HeldL.alloc (HeldL.alloc H3.out (w3.heap.size) #[.int .i64 p.kind, .int .i64 p.mn, .int .i64 p.mx, .bool p.inc.neg, S p.inc.l, .int .i64 p.inc.e, .int .i64 p.mode, .int .i64 (max p.mi 1)] 34 (by simp)) (w3.heap.size + 1) #[.int .i64 p.kind, .int .i64 (p.mn + 1), .int .i64 p.mx, .bool p.inc.neg, S p.inc.l, .int .i64 p.inc.e, .int .i64 p.mode, .int .i64 (max p.mi 1)] 34 (by simp))
    refine wp_region_held_drew (S := fun w' => w'.cell? ⟨w3.heap.size, 0, none⟩ = some (.int .i64 p.kind) ∧ w'.cell? ⟨w3.heap.size, 1, none⟩ = some (.int .i64 p.mn) ∧ w'.cell? ⟨w3.heap.size, 2, none⟩ = some (.int .i64 p.mx) ∧ w'.cell? ⟨w3.heap.size, 3, none⟩ = some (.bool p.inc.neg) ∧ w'.cell? ⟨w3.heap.size, 4, none⟩ = some (S p.inc.l) ∧ w'.cell? ⟨w3.heap.size, 5, none⟩ = some (.int .i64 p.inc.e) ∧ w'.cell? ⟨w3.heap.size, 6, none⟩ = some (.int .i64 p.mode) ∧ w'.cell? ⟨w3.heap.size, 7, none⟩ = some (.int .i64 (max p.mi 1)) ∧ w'.cell? ⟨w.heap.size, 0, none⟩ = some (.bool n) ∧ w'.cell? ⟨w.heap.size, 1, none⟩ = some (.slice a len cap) ∧ w'.cell? ⟨w.heap.size, 2, none⟩ = some (.int .i64 e) ∧ HeldL w [(w3.heap.size + 1, #[.int .i64 p.kind, .int .i64 (p.mn + 1), .int .i64 p.mx, .bool p.inc.neg, S p.inc.l, .int .i64 p.inc.e, .int .i64 p.mode, .int .i64 (max p.mi 1)]), (w3.heap.size, #[.int .i64 p.kind, .int .i64 p.mn, .int .i64 p.mx, .bool p.inc.neg, S p.inc.l, .int .i64 p.inc.e, .int .i64 p.mode, .int .i64 (max p.mi 1)]), (w.heap.size + 1, #[.int .i64 k0, .int .i64 k1, .int .i64 k2, .int .i64 k3, .int .i64 k4, .int .i64 k5, .int .i64 k6]), (w.heap.size, #[.bool n, .slice a len cap, .int .i64 e])] w') (by kernel_rfl) (ALL1.out _ (HeldL.drew HS1.out)) (fun hHeld => ?_)
    refine wpAnyH_take (i := 0) (oi := { dst := some 38, op := Go.Op.load 34 (Go.Operand.tmp 5), type := 34, pos := "law.go:211", after := #[], guard := none }) (v := ?_) rfl (by kernel_rfl) (by kernel_rfl) (by kernel_rfl) (fun _ _ _ h => h) (Or.inl ⟨by rfl, ?_⟩) hHeld ?_
    case refine_2 => (intro w hSw; (try dsimp only at hSw); go_simp <;> with_reducible rfl)
    try simp only [Act.put, List.setIfInBounds_toArray, List.set_cons_zero, List.set_cons_succ]
    refine wpAnyH_take (i := 1) (oi := { dst := some 39, op := Go.Op.load 24 (Go.Operand.tmp 2), type := 24, pos := "law.go:211", after := #[], guard := none }) (v := ?_) rfl (by kernel_rfl) (by kernel_rfl) (by kernel_rfl) (fun _ _ _ h => h) (Or.inl ⟨by rfl, ?_⟩) hHeld ?_
    case refine_2 => (intro w hSw; (try dsimp only at hSw); go_simp <;> with_reducible rfl)
    try simp only [Act.put, List.setIfInBounds_toArray, List.set_cons_zero, List.set_cons_succ]
    refine wpAnyH_ready (rs := [2, 7]) (by kernel_rfl) (by simp) ?_
    refine (AllReadyH.cons (o := { dst := some 40, op := Go.Op.call { callee := Go.Callee.value (Go.Operand.func 14), args := #[Go.Operand.tmp 39], argTypes := #[24] }, type := 31, pos := "law.go:211", after := #[{ on := 1, ground := Go.Ground.data }], guard := none }) rfl (fun KK hK => ?_) (AllReadyH.cons (o := { dst := some 7, op := Go.Op.alloc 37, type := 0, pos := "law.go:211", after := #[], guard := none }) rfl (fun KK hK => ?_) AllReadyH.nil))
    ·
      go_simp
      with_reducible refine (make_as n a len cap L e _ (HIN.out.below (hHeld.2.2.2.2.2.2.2.2.2.2.2).bel) (by omega)).mono ?_
      rintro x wA ⟨rfl, hb⟩
      go_wp2_with fail
      refine hK.out _ _ (KEEP1.out _ _ hHeld hb) (fun hHeld2 => ?_)
      clear hK hHeld hb
      have hHeld := hHeld2
      clear hHeld2
      try simp only [Act.put, List.setIfInBounds_toArray, List.set_cons_zero, List.set_cons_succ]
      refine wpAnyH_ready (rs := [3, 7]) (by kernel_rfl) (by simp) ?_
      refine (AllReadyH.cons (o := { dst := some 41, op := Go.Op.call { callee := Go.Callee.value (Go.Operand.func 13), args := #[Go.Operand.tmp 38, Go.Operand.tmp 40], argTypes := #[34, 31] }, type := 39, pos := "law.go:211", after := #[{ on := 0, ground := Go.Ground.data }, { on := 2, ground := Go.Ground.data }, { on := 2, ground := Go.Ground.chain }], guard := none }) rfl (fun KK hK => ?_) (AllReadyH.cons (o := { dst := some 7, op := Go.Op.alloc 37, type := 0, pos := "law.go:211", after := #[], guard := none }) rfl (fun KK hK => ?_) AllReadyH.nil))
      ·
        go_simp
        with_reducible refine (HA1.out _ (TAB1.out _ hHeld)).mono ?_
        rintro x wB ⟨rfl, hb⟩
        go_wp2_with fail
        refine hK.out _ _ (KEEP1.out _ _ hHeld hb) (fun hHeld2 => ?_)
        clear hK hHeld hb
        have hHeld := hHeld2
        clear hHeld2
        try simp only [Act.put, List.setIfInBounds_toArray, List.set_cons_zero, List.set_cons_succ]
        refine wpAnyH_take (i := 4) (oi := { dst := some 37, op := Go.Op.move (Go.Operand.tmp 41), type := 39, pos := "law.go:211", after := #[{ on := 3, ground := Go.Ground.data }], guard := none }) (v := ?_) rfl (by kernel_rfl) (by kernel_rfl) (by kernel_rfl) (fun _ _ _ h => h) (Or.inl ⟨by rfl, ?_⟩) hHeld ?_
        case refine_2 => (intro w hSw; (try dsimp only at hSw); go_simp <;> with_reducible rfl)
        try simp only [Act.put, List.setIfInBounds_toArray, List.set_cons_zero, List.set_cons_succ]
        refine wpAnyH_take (i := 5) (oi := { dst := some 42, op := Go.Op.extract (Go.Operand.tmp 37) 0, type := 37, pos := "law.go:211", after := #[{ on := 4, ground := Go.Ground.data }], guard := none }) (v := ?_) rfl (by kernel_rfl) (by kernel_rfl) (by kernel_rfl) (fun _ _ _ h => h) (Or.inl ⟨by rfl, ?_⟩) hHeld ?_
        case refine_2 => (intro w hSw; (try dsimp only at hSw); go_simp <;> with_reducible rfl)
        try simp only [Act.put, List.setIfInBounds_toArray, List.set_cons_zero, List.set_cons_succ]
        refine wpAnyH_take (i := 6) (oi := { dst := some 43, op := Go.Op.extract (Go.Operand.tmp 37) 1, type := 38, pos := "law.go:211", after := #[{ on := 4, ground := Go.Ground.data }, { on := 8, ground := Go.Ground.gcOnly Go.Departure.lateStores }], guard := none }) (v := ?_) rfl (by kernel_rfl) (by kernel_rfl) (by kernel_rfl) (fun _ _ _ h => h) (Or.inl ⟨by rfl, ?_⟩) hHeld ?_
        case refine_2 => (intro w hSw; (try dsimp only at hSw); go_simp <;> with_reducible rfl)
        try simp only [Act.put, List.setIfInBounds_toArray, List.set_cons_zero, List.set_cons_succ]
        refine wpAnyH_ready (rs := [7]) (by kernel_rfl) (by simp) ?_
        refine (AllReadyH.cons (o := { dst := some 7, op := Go.Op.alloc 37, type := 0, pos := "law.go:211", after := #[], guard := none }) rfl (fun KK hK => ?_) AllReadyH.nil)
        have hH0 := hHeld
        go_simp
        refine hK.out _ _ (ALL1.out _ (HeldL.skip (hHeld.2.2.2.2.2.2.2.2.2.2.2) _)) (fun hHeld2 => ?_)
        clear hK hHeld
        have hHeld := hHeld2
        clear hHeld2
        try simp only [Act.put, List.setIfInBounds_toArray, List.set_cons_zero, List.set_cons_succ]
        refine wpAnyH_ready (rs := [8]) (by kernel_rfl) (by simp) ?_
        refine (AllReadyH.cons (o := { dst := none, op := Go.Op.store 37 (Go.Operand.tmp 7) (Go.Operand.tmp 42), type := 0, pos := "law.go:211", after := #[{ on := 7, ground := Go.Ground.data }, { on := 5, ground := Go.Ground.data }, { on := 3, ground := Go.Ground.chain }, { on := 0, ground := Go.Ground.phase }, { on := 1, ground := Go.Ground.phase }, { on := 2, ground := Go.Ground.phase }, { on := 3, ground := Go.Ground.phase }, { on := 4, ground := Go.Ground.phase }, { on := 5, ground := Go.Ground.phase }, { on := 6, ground := Go.Ground.textOnly Go.Departure.lateStores }, { on := 7, ground := Go.Ground.phase }], guard := none }) rfl (fun KK hK => ?_) AllReadyH.nil)
        go_simp
        refine hK.out _ _ (ALL1.out _ (HeldL.skip (hH0.2.2.2.2.2.2.2.2.2.2.2) _)) (fun hHeld2 => ?_)
        clear hK hHeld
        have hHeld := hHeld2
        clear hHeld2
        try simp only [Act.put, List.setIfInBounds_toArray, List.set_cons_zero, List.set_cons_succ]
        refine wpAnyH_take (i := 9) (oi := { dst := some 8, op := Go.Op.assign (Go.Operand.tmp 43), type := 38, pos := "law.go:211", after := #[{ on := 6, ground := Go.Ground.data }, { on := 8, ground := Go.Ground.chain }, { on := 0, ground := Go.Ground.phase }, { on := 1, ground := Go.Ground.phase }, { on := 2, ground := Go.Ground.phase }, { on := 3, ground := Go.Ground.phase }, { on := 4, ground := Go.Ground.phase }, { on := 5, ground := Go.Ground.phase }, { on := 6, ground := Go.Ground.phase }, { on := 7, ground := Go.Ground.phase }, { on := 8, ground := Go.Ground.phase }], guard := none }) (v := ?_) rfl (by kernel_rfl) (by kernel_rfl) (by kernel_rfl) (fun _ _ _ h => h) (Or.inl ⟨by rfl, ?_⟩) hHeld ?_
        case refine_2 => (intro w hSw; (try dsimp only at hSw); go_simp <;> with_reducible rfl)
        try simp only [Act.put, List.setIfInBounds_toArray, List.set_cons_zero, List.set_cons_succ]
        refine wpAnyH_done (by kernel_rfl) ?_ _
        go_wp2
        go_meet
        case rel => exact ⟨_, rfl, rfl, HeldL.alloc (hH0.2.2.2.2.2.2.2.2.2.2.2) _ _ _ rfl⟩
      ·
        go_simp
        have HN : Hid (HeldL w ((wA.heap.size, #[.bool false, .string ⟨#[]⟩, .string ⟨#[]⟩]) :: [(w3.heap.size + 1, #[.int .i64 p.kind, .int .i64 (p.mn + 1), .int .i64 p.mx, .bool p.inc.neg, S p.inc.l, .int .i64 p.inc.e, .int .i64 p.mode, .int .i64 (max p.mi 1)]), (w3.heap.size, #[.int .i64 p.kind, .int .i64 p.mn, .int .i64 p.mx, .bool p.inc.neg, S p.inc.l, .int .i64 p.inc.e, .int .i64 p.mode, .int .i64 (max p.mi 1)]), (w.heap.size + 1, #[.int .i64 k0, .int .i64 k1, .int .i64 k2, .int .i64 k3, .int .i64 k4, .int .i64 k5, .int .i64 k6]), (w.heap.size, #[.bool n, .slice a len cap, .int .i64 e])]) _) := Lib.hid (HeldL.alloc (hHeld.2.2.2.2.2.2.2.2.2.2.2) (wA.heap.size) #[.bool false, .string ⟨#[]⟩, .string ⟨#[]⟩] 37 (by first | rfl | simp))
        refine hK.out _ _ (ALL1.out _ (HeldL.tl HN.out)) (fun hHeld2 => ?_)
        clear hK hHeld
        have hHeld := hHeld2
        clear hHeld2
        try simp only [Act.put, List.setIfInBounds_toArray, List.set_cons_zero, List.set_cons_succ]
        refine wpAnyH_ready (rs := [3]) (by kernel_rfl) (by simp) ?_
        refine (AllReadyH.cons (o := { dst := some 41, op := Go.Op.call { callee := Go.Callee.value (Go.Operand.func 13), args := #[Go.Operand.tmp 38, Go.Operand.tmp 40], argTypes := #[34, 31] }, type := 39, pos := "law.go:211", after := #[{ on := 0, ground := Go.Ground.data }, { on := 2, ground := Go.Ground.data }, { on := 2, ground := Go.Ground.chain }], guard := none }) rfl (fun KK hK => ?_) AllReadyH.nil)
        go_simp
        with_reducible refine (HA1.out _ (TAB1.out _ hHeld)).mono ?_
        rintro x wB ⟨rfl, hb⟩
        go_wp2_with fail
        refine hK.out _ _ (KEEP1.out _ _ hHeld hb) (fun hHeld2 => ?_)
        have HM : Hid (HeldL w ((wA.heap.size, #[.bool false, .string ⟨#[]⟩, .string ⟨#[]⟩]) :: [(w3.heap.size + 1, #[.int .i64 p.kind, .int .i64 (p.mn + 1), .int .i64 p.mx, .bool p.inc.neg, S p.inc.l, .int .i64 p.inc.e, .int .i64 p.mode, .int .i64 (max p.mi 1)]), (w3.heap.size, #[.int .i64 p.kind, .int .i64 p.mn, .int .i64 p.mx, .bool p.inc.neg, S p.inc.l, .int .i64 p.inc.e, .int .i64 p.mode, .int .i64 (max p.mi 1)]), (w.heap.size + 1, #[.int .i64 k0, .int .i64 k1, .int .i64 k2, .int .i64 k3, .int .i64 k4, .int .i64 k5, .int .i64 k6]), (w.heap.size, #[.bool n, .slice a len cap, .int .i64 e])]) wB) := Lib.hid (HeldL.keep HN.out hb)
        clear HN
        have HN := HM
        clear HM
        clear hK hHeld hb
        have hHeld := hHeld2
        clear hHeld2
        try simp only [Act.put, List.setIfInBounds_toArray, List.set_cons_zero, List.set_cons_succ]
        refine wpAnyH_take (i := 4) (oi := { dst := some 37, op := Go.Op.move (Go.Operand.tmp 41), type := 39, pos := "law.go:211", after := #[{ on := 3, ground := Go.Ground.data }], guard := none }) (v := ?_) rfl (by kernel_rfl) (by kernel_rfl) (by kernel_rfl) (fun _ _ _ h => h) (Or.inl ⟨by rfl, ?_⟩) hHeld ?_
        case refine_2 => (intro w hSw; (try dsimp only at hSw); go_simp <;> with_reducible rfl)
        try simp only [Act.put, List.setIfInBounds_toArray, List.set_cons_zero, List.set_cons_succ]
        refine wpAnyH_take (i := 5) (oi := { dst := some 42, op := Go.Op.extract (Go.Operand.tmp 37) 0, type := 37, pos := "law.go:211", after := #[{ on := 4, ground := Go.Ground.data }], guard := none }) (v := ?_) rfl (by kernel_rfl) (by kernel_rfl) (by kernel_rfl) (fun _ _ _ h => h) (Or.inl ⟨by rfl, ?_⟩) hHeld ?_
        case refine_2 => (intro w hSw; (try dsimp only at hSw); go_simp <;> with_reducible rfl)
        try simp only [Act.put, List.setIfInBounds_toArray, List.set_cons_zero, List.set_cons_succ]
        refine wpAnyH_take (i := 6) (oi := { dst := some 43, op := Go.Op.extract (Go.Operand.tmp 37) 1, type := 38, pos := "law.go:211", after := #[{ on := 4, ground := Go.Ground.data }, { on := 8, ground := Go.Ground.gcOnly Go.Departure.lateStores }], guard := none }) (v := ?_) rfl (by kernel_rfl) (by kernel_rfl) (by kernel_rfl) (fun _ _ _ h => h) (Or.inl ⟨by rfl, ?_⟩) hHeld ?_
        case refine_2 => (intro w hSw; (try dsimp only at hSw); go_simp <;> with_reducible rfl)
        try simp only [Act.put, List.setIfInBounds_toArray, List.set_cons_zero, List.set_cons_succ]
        refine wpAnyH_ready (rs := [8]) (by kernel_rfl) (by simp) ?_
        refine (AllReadyH.cons (o := { dst := none, op := Go.Op.store 37 (Go.Operand.tmp 7) (Go.Operand.tmp 42), type := 0, pos := "law.go:211", after := #[{ on := 7, ground := Go.Ground.data }, { on := 5, ground := Go.Ground.data }, { on := 3, ground := Go.Ground.chain }, { on := 0, ground := Go.Ground.phase }, { on := 1, ground := Go.Ground.phase }, { on := 2, ground := Go.Ground.phase }, { on := 3, ground := Go.Ground.phase }, { on := 4, ground := Go.Ground.phase }, { on := 5, ground := Go.Ground.phase }, { on := 6, ground := Go.Ground.textOnly Go.Departure.lateStores }, { on := 7, ground := Go.Ground.phase }], guard := none }) rfl (fun KK hK => ?_) AllReadyH.nil)
        obtain ⟨nn0, nn1, nn2, nnz0, nnz1, nnz2, nnl⟩ := (HN.out.f (List.Mem.head _)).three
        go_simp
        refine hK.out _ _ (ALL1.out _ (HeldL.tl (HeldL.store3 [] [(w3.heap.size + 1, #[.int .i64 p.kind, .int .i64 (p.mn + 1), .int .i64 p.mx, .bool p.inc.neg, S p.inc.l, .int .i64 p.inc.e, .int .i64 p.mode, .int .i64 (max p.mi 1)]), (w3.heap.size, #[.int .i64 p.kind, .int .i64 p.mn, .int .i64 p.mx, .bool p.inc.neg, S p.inc.l, .int .i64 p.inc.e, .int .i64 p.mode, .int .i64 (max p.mi 1)]), (w.heap.size + 1, #[.int .i64 k0, .int .i64 k1, .int .i64 k2, .int .i64 k3, .int .i64 k4, .int .i64 k5, .int .i64 k6]), (w.heap.size, #[.bool n, .slice a len cap, .int .i64 e])] HN.out (.bool vn) (S vi) (S vf)))) (fun hHeld2 => ?_)
        clear hK hHeld
        have hHeld := hHeld2
        clear hHeld2
        try simp only [Act.put, List.setIfInBounds_toArray, List.set_cons_zero, List.set_cons_succ]
        refine wpAnyH_take (i := 9) (oi := { dst := some 8, op := Go.Op.assign (Go.Operand.tmp 43), type := 38, pos := "law.go:211", after := #[{ on := 6, ground := Go.Ground.data }, { on := 8, ground := Go.Ground.chain }, { on := 0, ground := Go.Ground.phase }, { on := 1, ground := Go.Ground.phase }, { on := 2, ground := Go.Ground.phase }, { on := 3, ground := Go.Ground.phase }, { on := 4, ground := Go.Ground.phase }, { on := 5, ground := Go.Ground.phase }, { on := 6, ground := Go.Ground.phase }, { on := 7, ground := Go.Ground.phase }, { on := 8, ground := Go.Ground.phase }], guard := none }) (v := ?_) rfl (by kernel_rfl) (by kernel_rfl) (by kernel_rfl) (fun _ _ _ h => h) (Or.inl ⟨by rfl, ?_⟩) hHeld ?_
        case refine_2 => (intro w hSw; (try dsimp only at hSw); go_simp <;> with_reducible rfl)
        try simp only [Act.put, List.setIfInBounds_toArray, List.set_cons_zero, List.set_cons_succ]
        refine wpAnyH_done (by kernel_rfl) ?_ _
        go_wp2
        go_meet
        case rel => exact ⟨_, rfl, rfl, HeldL.store3 [] [(w3.heap.size + 1, #[.int .i64 p.kind, .int .i64 (p.mn + 1), .int .i64 p.mx, .bool p.inc.neg, S p.inc.l, .int .i64 p.inc.e, .int .i64 p.mode, .int .i64 (max p.mi 1)]), (w3.heap.size, #[.int .i64 p.kind, .int .i64 p.mn, .int .i64 p.mx, .bool p.inc.neg, S p.inc.l, .int .i64 p.inc.e, .int .i64 p.mode, .int .i64 (max p.mi 1)]), (w.heap.size + 1, #[.int .i64 k0, .int .i64 k1, .int .i64 k2, .int .i64 k3, .int .i64 k4, .int .i64 k5, .int .i64 k6]), (w.heap.size, #[.bool n, .slice a len cap, .int .i64 e])] HN.out (.bool vn) (S vi) (S vf)⟩
    ·
      go_simp
      have HN : Hid (HeldL w ((w3.heap.size + 1 + 1, #[.bool false, .string ⟨#[]⟩, .string ⟨#[]⟩]) :: [(w3.heap.size + 1, #[.int .i64 p.kind, .int .i64 (p.mn + 1), .int .i64 p.mx, .bool p.inc.neg, S p.inc.l, .int .i64 p.inc.e, .int .i64 p.mode, .int .i64 (max p.mi 1)]), (w3.heap.size, #[.int .i64 p.kind, .int .i64 p.mn, .int .i64 p.mx, .bool p.inc.neg, S p.inc.l, .int .i64 p.inc.e, .int .i64 p.mode, .int .i64 (max p.mi 1)]), (w.heap.size + 1, #[.int .i64 k0, .int .i64 k1, .int .i64 k2, .int .i64 k3, .int .i64 k4, .int .i64 k5, .int .i64 k6]), (w.heap.size, #[.bool n, .slice a len cap, .int .i64 e])]) _) := Lib.hid (HeldL.alloc (hHeld.2.2.2.2.2.2.2.2.2.2.2) (w3.heap.size + 1 + 1) #[.bool false, .string ⟨#[]⟩, .string ⟨#[]⟩] 37 (by first | rfl | simp))
      refine hK.out _ _ (ALL1.out _ (HeldL.tl HN.out)) (fun hHeld2 => ?_)
      clear hK hHeld
      have hHeld := hHeld2
      clear hHeld2
      try simp only [Act.put, List.setIfInBounds_toArray, List.set_cons_zero, List.set_cons_succ]
      refine wpAnyH_ready (rs := [2]) (by kernel_rfl) (by simp) ?_
      refine (AllReadyH.cons (o := { dst := some 40, op := Go.Op.call { callee := Go.Callee.value (Go.Operand.func 14), args := #[Go.Operand.tmp 39], argTypes := #[24] }, type := 31, pos := "law.go:211", after := #[{ on := 1, ground := Go.Ground.data }], guard := none }) rfl (fun KK hK => ?_) AllReadyH.nil)
      go_simp
      with_reducible refine (make_as n a len cap L e _ (HIN.out.below (hHeld.2.2.2.2.2.2.2.2.2.2.2).bel) (by omega)).mono ?_
      rintro x wA ⟨rfl, hb⟩
      go_wp2_with fail
      refine hK.out _ _ (KEEP1.out _ _ hHeld hb) (fun hHeld2 => ?_)
      have HM : Hid (HeldL w ((w3.heap.size + 1 + 1, #[.bool false, .string ⟨#[]⟩, .string ⟨#[]⟩]) :: [(w3.heap.size + 1, #[.int .i64 p.kind, .int .i64 (p.mn + 1), .int .i64 p.mx, .bool p.inc.neg, S p.inc.l, .int .i64 p.inc.e, .int .i64 p.mode, .int .i64 (max p.mi 1)]), (w3.heap.size, #[.int .i64 p.kind, .int .i64 p.mn, .int .i64 p.mx, .bool p.inc.neg, S p.inc.l, .int .i64 p.inc.e, .int .i64 p.mode, .int .i64 (max p.mi 1)]), (w.heap.size + 1, #[.int .i64 k0, .int .i64 k1, .int .i64 k2, .int .i64 k3, .int .i64 k4, .int .i64 k5, .int .i64 k6]), (w.heap.size, #[.bool n, .slice a len cap, .int .i64 e])]) wA) := Lib.hid (HeldL.keep HN.out hb)
      clear HN
      have HN := HM
      clear HM
      clear hK hHeld hb
      have hHeld := hHeld2
      clear hHeld2
      try simp only [Act.put, List.setIfInBounds_toArray, List.set_cons_zero, List.set_cons_succ]
      refine wpAnyH_ready (rs := [3]) (by kernel_rfl) (by simp) ?_
      refine (AllReadyH.cons (o := { dst := some 41, op := Go.Op.call { callee := Go.Callee.value (Go.Operand.func 13), args := #[Go.Operand.tmp 38, Go.Operand.tmp 40], argTypes := #[34, 31] }, type := 39, pos := "law.go:211", after := #[{ on := 0, ground := Go.Ground.data }, { on := 2, ground := Go.Ground.data }, { on := 2, ground := Go.Ground.chain }], guard := none }) rfl (fun KK hK => ?_) AllReadyH.nil)
      go_simp
      with_reducible refine (HA1.out _ (TAB1.out _ hHeld)).mono ?_
      rintro x wB ⟨rfl, hb⟩
      go_wp2_with fail
      refine hK.out _ _ (KEEP1.out _ _ hHeld hb) (fun hHeld2 => ?_)
      have HM : Hid (HeldL w ((w3.heap.size + 1 + 1, #[.bool false, .string ⟨#[]⟩, .string ⟨#[]⟩]) :: [(w3.heap.size + 1, #[.int .i64 p.kind, .int .i64 (p.mn + 1), .int .i64 p.mx, .bool p.inc.neg, S p.inc.l, .int .i64 p.inc.e, .int .i64 p.mode, .int .i64 (max p.mi 1)]), (w3.heap.size, #[.int .i64 p.kind, .int .i64 p.mn, .int .i64 p.mx, .bool p.inc.neg, S p.inc.l, .int .i64 p.inc.e, .int .i64 p.mode, .int .i64 (max p.mi 1)]), (w.heap.size + 1, #[.int .i64 k0, .int .i64 k1, .int .i64 k2, .int .i64 k3, .int .i64 k4, .int .i64 k5, .int .i64 k6]), (w.heap.size, #[.bool n, .slice a len cap, .int .i64 e])]) wB) := Lib.hid (HeldL.keep HN.out hb)
      clear HN
      have HN := HM
      clear HM
      clear hK hHeld hb
      have hHeld := hHeld2
      clear hHeld2
      try simp only [Act.put, List.setIfInBounds_toArray, List.set_cons_zero, List.set_cons_succ]
      refine wpAnyH_take (i := 4) (oi := { dst := some 37, op := Go.Op.move (Go.Operand.tmp 41), type := 39, pos := "law.go:211", after := #[{ on := 3, ground := Go.Ground.data }], guard := none }) (v := ?_) rfl (by kernel_rfl) (by kernel_rfl) (by kernel_rfl) (fun _ _ _ h => h) (Or.inl ⟨by rfl, ?_⟩) hHeld ?_
      case refine_2 => (intro w hSw; (try dsimp only at hSw); go_simp <;> with_reducible rfl)
      try simp only [Act.put, List.setIfInBounds_toArray, List.set_cons_zero, List.set_cons_succ]
      refine wpAnyH_take (i := 5) (oi := { dst := some 42, op := Go.Op.extract (Go.Operand.tmp 37) 0, type := 37, pos := "law.go:211", after := #[{ on := 4, ground := Go.Ground.data }], guard := none }) (v := ?_) rfl (by kernel_rfl) (by kernel_rfl) (by kernel_rfl) (fun _ _ _ h => h) (Or.inl ⟨by rfl, ?_⟩) hHeld ?_
      case refine_2 => (intro w hSw; (try dsimp only at hSw); go_simp <;> with_reducible rfl)
      try simp only [Act.put, List.setIfInBounds_toArray, List.set_cons_zero, List.set_cons_succ]
      refine wpAnyH_take (i := 6) (oi := { dst := some 43, op := Go.Op.extract (Go.Operand.tmp 37) 1, type := 38, pos := "law.go:211", after := #[{ on := 4, ground := Go.Ground.data }, { on := 8, ground := Go.Ground.gcOnly Go.Departure.lateStores }], guard := none }) (v := ?_) rfl (by kernel_rfl) (by kernel_rfl) (by kernel_rfl) (fun _ _ _ h => h) (Or.inl ⟨by rfl, ?_⟩) hHeld ?_
      case refine_2 => (intro w hSw; (try dsimp only at hSw); go_simp <;> with_reducible rfl)
      try simp only [Act.put, List.setIfInBounds_toArray, List.set_cons_zero, List.set_cons_succ]
      refine wpAnyH_ready (rs := [8]) (by kernel_rfl) (by simp) ?_
      refine (AllReadyH.cons (o := { dst := none, op := Go.Op.store 37 (Go.Operand.tmp 7) (Go.Operand.tmp 42), type := 0, pos := "law.go:211", after := #[{ on := 7, ground := Go.Ground.data }, { on := 5, ground := Go.Ground.data }, { on := 3, ground := Go.Ground.chain }, { on := 0, ground := Go.Ground.phase }, { on := 1, ground := Go.Ground.phase }, { on := 2, ground := Go.Ground.phase }, { on := 3, ground := Go.Ground.phase }, { on := 4, ground := Go.Ground.phase }, { on := 5, ground := Go.Ground.phase }, { on := 6, ground := Go.Ground.textOnly Go.Departure.lateStores }, { on := 7, ground := Go.Ground.phase }], guard := none }) rfl (fun KK hK => ?_) AllReadyH.nil)
      obtain ⟨nn0, nn1, nn2, nnz0, nnz1, nnz2, nnl⟩ := (HN.out.f (List.Mem.head _)).three
      go_simp
      refine hK.out _ _ (ALL1.out _ (HeldL.tl (HeldL.store3 [] [(w3.heap.size + 1, #[.int .i64 p.kind, .int .i64 (p.mn + 1), .int .i64 p.mx, .bool p.inc.neg, S p.inc.l, .int .i64 p.inc.e, .int .i64 p.mode, .int .i64 (max p.mi 1)]), (w3.heap.size, #[.int .i64 p.kind, .int .i64 p.mn, .int .i64 p.mx, .bool p.inc.neg, S p.inc.l, .int .i64 p.inc.e, .int .i64 p.mode, .int .i64 (max p.mi 1)]), (w.heap.size + 1, #[.int .i64 k0, .int .i64 k1, .int .i64 k2, .int .i64 k3, .int .i64 k4, .int .i64 k5, .int .i64 k6]), (w.heap.size, #[.bool n, .slice a len cap, .int .i64 e])] HN.out (.bool vn) (S vi) (S vf)))) (fun hHeld2 => ?_)
      clear hK hHeld
      have hHeld := hHeld2
      clear hHeld2
      try simp only [Act.put, List.setIfInBounds_toArray, List.set_cons_zero, List.set_cons_succ]
      refine wpAnyH_take (i := 9) (oi := { dst := some 8, op := Go.Op.assign (Go.Operand.tmp 43), type := 38, pos := "law.go:211", after := #[{ on := 6, ground := Go.Ground.data }, { on := 8, ground := Go.Ground.chain }, { on := 0, ground := Go.Ground.phase }, { on := 1, ground := Go.Ground.phase }, { on := 2, ground := Go.Ground.phase }, { on := 3, ground := Go.Ground.phase }, { on := 4, ground := Go.Ground.phase }, { on := 5, ground := Go.Ground.phase }, { on := 6, ground := Go.Ground.phase }, { on := 7, ground := Go.Ground.phase }, { on := 8, ground := Go.Ground.phase }], guard := none }) (v := ?_) rfl (by kernel_rfl) (by kernel_rfl) (by kernel_rfl) (fun _ _ _ h => h) (Or.inl ⟨by rfl, ?_⟩) hHeld ?_
      case refine_2 => (intro w hSw; (try dsimp only at hSw); go_simp <;> with_reducible rfl)
      try simp only [Act.put, List.setIfInBounds_toArray, List.set_cons_zero, List.set_cons_succ]
      refine wpAnyH_done (by kernel_rfl) ?_ _
      go_wp2
      go_meet
      case rel => exact ⟨_, rfl, rfl, HeldL.store3 [] [(w3.heap.size + 1, #[.int .i64 p.kind, .int .i64 (p.mn + 1), .int .i64 p.mx, .bool p.inc.neg, S p.inc.l, .int .i64 p.inc.e, .int .i64 p.mode, .int .i64 (max p.mi 1)]), (w3.heap.size, #[.int .i64 p.kind, .int .i64 p.mn, .int .i64 p.mx, .bool p.inc.neg, S p.inc.l, .int .i64 p.inc.e, .int .i64 p.mode, .int .i64 (max p.mi 1)]), (w.heap.size + 1, #[.int .i64 k0, .int .i64 k1, .int .i64 k2, .int .i64 k3, .int .i64 k4, .int .i64 k5, .int .i64 k6]), (w.heap.size, #[.bool n, .slice a len cap, .int .i64 e])] HN.out (.bool vn) (S vi) (S vf)⟩
  case rest =>
  clear q0 q1 q2 ql
  obtain ⟨b4, hvp, hve, hh⟩ := hcut
  subst hvp hve
  have H4 : Hid (HeldL w ((b4, #[.bool vn, S vi, S vf]) :: [(w3.heap.size + 1, #[.int .i64 p.kind, .int .i64 (p.mn + 1), .int .i64 p.mx, .bool p.inc.neg, S p.inc.l, .int .i64 p.inc.e, .int .i64 p.mode, .int .i64 (max p.mi 1)]), (w3.heap.size, #[.int .i64 p.kind, .int .i64 p.mn, .int .i64 p.mx, .bool p.inc.neg, S p.inc.l, .int .i64 p.inc.e, .int .i64 p.mode, .int .i64 (max p.mi 1)]), (w.heap.size + 1, #[.int .i64 k0, .int .i64 k1, .int .i64 k2, .int .i64 k3, .int .i64 k4, .int .i64 k5, .int .i64 k6]), (w.heap.size, #[.bool n, .slice a len cap, .int .i64 e])]) wc) := Lib.hid hh
  clear hh H3
  generalize wc = w4 at *
  go_upto_region 12 with fail
  go_cut [9, 10] from 11 (fun vp ve w' => ∃ b : Nat, vp = .pointer (some ⟨b, 0, none⟩) ∧ ve = .int .i64 0 ∧ HeldL w ((b, #[.bool vn, S vi, S wf]) :: [(b4, #[.bool vn, S vi, S vf]), (w3.heap.size + 1, #[.int .i64 p.kind, .int .i64 (p.mn + 1), .int .i64 p.mx, .bool p.inc.neg, S p.inc.l, .int .i64 p.inc.e, .int .i64 p.mode, .int .i64 (max p.mi 1)]), (w3.heap.size, #[.int .i64 p.kind, .int .i64 p.mn, .int .i64 p.mx, .bool p.inc.neg, S p.inc.l, .int .i64 p.inc.e, .int .i64 p.mode, .int .i64 (max p.mi 1)]), (w.heap.size + 1, #[.int .i64 k0, .int .i64 k1, .int .i64 k2, .int .i64 k3, .int .i64 k4, .int .i64 k5, .int .i64 k6]), (w.heap.size, #[.bool n, .slice a len cap, .int .i64 e])]) w')
  case first =>
    have ALL2 : Hid (∀ w' : World, HeldL w [(b4, #[.bool vn, S vi, S vf]), (w3.heap.size + 1, #[.int .i64 p.kind, .int .i64 (p.mn + 1), .int .i64 p.mx, .bool p.inc.neg, S p.inc.l, .int .i64 p.inc.e, .int .i64 p.mode, .int .i64 (max p.mi 1)]), (w3.heap.size, #[.int .i64 p.kind, .int .i64 p.mn, .int .i64 p.mx, .bool p.inc.neg, S p.inc.l, .int .i64 p.inc.e, .int .i64 p.mode, .int .i64 (max p.mi 1)]), (w.heap.size + 1, #[.int .i64 k0, .int .i64 k1, .int .i64 k2, .int .i64 k3, .int .i64 k4, .int .i64 k5, .int .i64 k6]), (w.heap.size, #[.bool n, .slice a len cap, .int .i64 e])] w' → w'.cell? ⟨w3.heap.size + 1, 0, none⟩ = some (.int .i64 p.kind) ∧ w'.cell? ⟨w3.heap.size + 1, 1, none⟩ = some (.int .i64 (p.mn + 1)) ∧ w'.cell? ⟨w3.heap.size + 1, 2, none⟩ = some (.int .i64 p.mx) ∧ w'.cell? ⟨w3.heap.size + 1, 3, none⟩ = some (.bool p.inc.neg) ∧ w'.cell? ⟨w3.heap.size + 1, 4, none⟩ = some (S p.inc.l) ∧ w'.cell? ⟨w3.heap.size + 1, 5, none⟩ = some (.int .i64 p.inc.e) ∧ w'.cell? ⟨w3.heap.size + 1, 6, none⟩ = some (.int .i64 p.mode) ∧ w'.cell? ⟨w3.heap.size + 1, 7, none⟩ = some (.int .i64 (max p.mi 1)) ∧ w'.cell? ⟨w.heap.size, 0, none⟩ = some (.bool n) ∧ w'.cell? ⟨w.heap.size, 1, none⟩ = some (.slice a len cap) ∧ w'.cell? ⟨w.heap.size, 2, none⟩ = some (.int .i64 e) ∧ HeldL w [(b4, #[.bool vn, S vi, S vf]), (w3.heap.size + 1, #[.int .i64 p.kind, .int .i64 (p.mn + 1), .int .i64 p.mx, .bool p.inc.neg, S p.inc.l, .int .i64 p.inc.e, .int .i64 p.mode, .int .i64 (max p.mi 1)]), (w3.heap.size, #[.int .i64 p.kind, .int .i64 p.mn, .int .i64 p.mx, .bool p.inc.neg, S p.inc.l, .int .i64 p.inc.e, .int .i64 p.mode, .int .i64 (max p.mi 1)]), (w.heap.size + 1, #[.int .i64 k0, .int .i64 k1, .int .i64 k2, .int .i64 k3, .int .i64 k4, .int .i64 k5, .int .i64 k6]), (w.heap.size, #[.bool n, .slice a len cap, .int .i64 e])] w') := Lib.hid (fun w' h => ⟨(h.f (List.Mem.tail _ (List.Mem.head _))).cell 0, (h.f (List.Mem.tail _ (List.Mem.head _))).cell 1, (h.f (List.Mem.tail _ (List.Mem.head _))).cell 2, (h.f (List.Mem.tail _ (List.Mem.head _))).cell 3, (h.f (List.Mem.tail _ (List.Mem.head _))).cell 4, (h.f (List.Mem.tail _ (List.Mem.head _))).cell 5, (h.f (List.Mem.tail _ (List.Mem.head _))).cell 6, (h.f (List.Mem.tail _ (List.Mem.head _))).cell 7, (h.f (List.Mem.tail _ (List.Mem.tail _ (List.Mem.tail _ (List.Mem.tail _ (List.Mem.head _)))))).cell 0, (h.f (List.Mem.tail _ (List.Mem.tail _ (List.Mem.tail _ (List.Mem.tail _ (List.Mem.head _)))))).cell 1, (h.f (List.Mem.tail _ (List.Mem.tail _ (List.Mem.tail _ (List.Mem.tail _ (List.Mem.head _)))))).cell 2, h⟩)
    have KEEP2 : Hid (∀ w' w'' : World, (w'.cell? ⟨w3.heap.size + 1, 0, none⟩ = some (.int .i64 p.kind) ∧ w'.cell? ⟨w3.heap.size + 1, 1, none⟩ = some (.int .i64 (p.mn + 1)) ∧ w'.cell? ⟨w3.heap.size + 1, 2, none⟩ = some (.int .i64 p.mx) ∧ w'.cell? ⟨w3.heap.size + 1, 3, none⟩ = some (.bool p.inc.neg) ∧ w'.cell? ⟨w3.heap.size + 1, 4, none⟩ = some (S p.inc.l) ∧ w'.cell? ⟨w3.heap.size + 1, 5, none⟩ = some (.int .i64 p.inc.e) ∧ w'.cell? ⟨w3.heap.size + 1, 6, none⟩ = some (.int .i64 p.mode) ∧ w'.cell? ⟨w3.heap.size + 1, 7, none⟩ = some (.int .i64 (max p.mi 1)) ∧ w'.cell? ⟨w.heap.size, 0, none⟩ = some (.bool n) ∧ w'.cell? ⟨w.heap.size, 1, none⟩ = some (.slice a len cap) ∧ w'.cell? ⟨w.heap.size, 2, none⟩ = some (.int .i64 e) ∧ HeldL w [(b4, #[.bool vn, S vi, S vf]), (w3.heap.size + 1, #[.int .i64 p.kind, .int .i64 (p.mn + 1), .int .i64 p.mx, .bool p.inc.neg, S p.inc.l, .int .i64 p.inc.e, .int .i64 p.mode, .int .i64 (max p.mi 1)]), (w3.heap.size, #[.int .i64 p.kind, .int .i64 p.mn, .int .i64 p.mx, .bool p.inc.neg, S p.inc.l, .int .i64 p.inc.e, .int .i64 p.mode, .int .i64 (max p.mi 1)]), (w.heap.size + 1, #[.int .i64 k0, .int .i64 k1, .int .i64 k2, .int .i64 k3, .int .i64 k4, .int .i64 k5, .int .i64 k6]), (w.heap.size, #[.bool n, .slice a len cap, .int .i64 e])] w') → Below w'.heap.size w' w'' → (w''.cell? ⟨w3.heap.size + 1, 0, none⟩ = some (.int .i64 p.kind) ∧ w''.cell? ⟨w3.heap.size + 1, 1, none⟩ = some (.int .i64 (p.mn + 1)) ∧ w''.cell? ⟨w3.heap.size + 1, 2, none⟩ = some (.int .i64 p.mx) ∧ w''.cell? ⟨w3.heap.size + 1, 3, none⟩ = some (.bool p.inc.neg) ∧ w''.cell? ⟨w3.heap.size + 1, 4, none⟩ = some (S p.inc.l) ∧ w''.cell? ⟨w3.heap.size + 1, 5, none⟩ = some (.int .i64 p.inc.e) ∧ w''.cell? ⟨w3.heap.size + 1, 6, none⟩ = some (.int .i64 p.mode) ∧ w''.cell? ⟨w3.heap.size + 1, 7, none⟩ = some (.int .i64 (max p.mi 1)) ∧ w''.cell? ⟨w.heap.size, 0, none⟩ = some (.bool n) ∧ w''.cell? ⟨w.heap.size, 1, none⟩ = some (.slice a len cap) ∧ w''.cell? ⟨w.heap.size, 2, none⟩ = some (.int .i64 e) ∧ HeldL w [(b4, #[.bool vn, S vi, S vf]), (w3.heap.size + 1, #[.int .i64 p.kind, .int .i64 (p.mn + 1), .int .i64 p.mx, .bool p.inc.neg, S p.inc.l, .int .i64 p.inc.e, .int .i64 p.mode, .int .i64 (max p.mi 1)]), (w3.heap.size, #[.int .i64 p.kind, .int .i64 p.mn, .int .i64 p.mx, .bool p.inc.neg, S p.inc.l, .int .i64 p.inc.e, .int .i64 p.mode, .int .i64 (max p.mi 1)]), (w.heap.size + 1, #[.int .i64 k0, .int .i64 k1, .int .i64 k2, .int .i64 k3, .int .i64 k4, .int .i64 k5, .int .i64 k6]), (w.heap.size, #[.bool n, .slice a len cap, .int .i64 e])] w'')) := Lib.hid (fun w' w'' h hb => ALL2.out _ (HeldL.keep (h.2.2.2.2.2.2.2.2.2.2.2) hb))
    have TAB2 : Hid (∀ w' : World, (w'.cell? ⟨w3.heap.size + 1, 0, none⟩ = some (.int .i64 p.kind) ∧ w'.cell? ⟨w3.heap.size + 1, 1, none⟩ = some (.int .i64 (p.mn + 1)) ∧ w'.cell? ⟨w3.heap.size + 1, 2, none⟩ = some (.int .i64 p.mx) ∧ w'.cell? ⟨w3.heap.size + 1, 3, none⟩ = some (.bool p.inc.neg) ∧ w'.cell? ⟨w3.heap.size + 1, 4, none⟩ = some (S p.inc.l) ∧ w'.cell? ⟨w3.heap.size + 1, 5, none⟩ = some (.int .i64 p.inc.e) ∧ w'.cell? ⟨w3.heap.size + 1, 6, none⟩ = some (.int .i64 p.mode) ∧ w'.cell? ⟨w3.heap.size + 1, 7, none⟩ = some (.int .i64 (max p.mi 1)) ∧ w'.cell? ⟨w.heap.size, 0, none⟩ = some (.bool n) ∧ w'.cell? ⟨w.heap.size, 1, none⟩ = some (.slice a len cap) ∧ w'.cell? ⟨w.heap.size, 2, none⟩ = some (.int .i64 e) ∧ HeldL w [(b4, #[.bool vn, S vi, S vf]), (w3.heap.size + 1, #[.int .i64 p.kind, .int .i64 (p.mn + 1), .int .i64 p.mx, .bool p.inc.neg, S p.inc.l, .int .i64 p.inc.e, .int .i64 p.mode, .int .i64 (max p.mi 1)]), (w3.heap.size, #[.int .i64 p.kind, .int .i64 p.mn, .int .i64 p.mx, .bool p.inc.neg, S p.inc.l, .int .i64 p.inc.e, .int .i64 p.mode, .int .i64 (max p.mi 1)]), (w.heap.size + 1, #[.int .i64 k0, .int .i64 k1, .int .i64 k2, .int .i64 k3, .int .i64 k4, .int .i64 k5, .int .i64 k6]), (w.heap.size, #[.bool n, .slice a len cap, .int .i64 e])] w') → Tab w') := Lib.hid (fun w' h => HT.out.below (h.2.2.2.2.2.2.2.2.2.2.2).bel)
    have HS2 : Hid (HeldL w [(b4, #[.bool vn, S vi, S vf]), (w3.heap.size + 1, #[.int .i64 p.kind, .int .i64 (p.mn + 1), .int .i64 p.mx, .bool p.inc.neg, S p.inc.l, .int .i64 p.inc.e, .int .i64 p.mode, .int .i64 (max p.mi 1)]), (w3.heap.size, #[.int .i64 p.kind, .int .i64 p.mn, .int .i64 p.mx, .bool p.inc.neg, S p.inc.l, .int .i64 p.inc.e, .int .i64 p.mode, .int .i64 (max p.mi 1)]), (w.heap.size + 1, #[.int .i64 k0, .int .i64 k1, .int .i64 k2, .int .i64 k3, .int .i64 k4, .int .i64 k5, .int .i64 k6]), (w.heap.size, #[.bool n, .slice a len cap, .int .i64 e])] _) := Lib.hid H4.out
    refine wp_region_held_drew (S := fun w' => w'.cell? ⟨w3.heap.size + 1, 0, none⟩ = some (.int .i64 p.kind) ∧ w'.cell? ⟨w3.heap.size + 1, 1, none⟩ = some (.int .i64 (p.mn + 1)) ∧ w'.cell? ⟨w3.heap.size + 1, 2, none⟩ = some (.int .i64 p.mx) ∧ w'.cell? ⟨w3.heap.size + 1, 3, none⟩ = some (.bool p.inc.neg) ∧ w'.cell? ⟨w3.heap.size + 1, 4, none⟩ = some (S p.inc.l) ∧ w'.cell? ⟨w3.heap.size + 1, 5, none⟩ = some (.int .i64 p.inc.e) ∧ w'.cell? ⟨w3.heap.size + 1, 6, none⟩ = some (.int .i64 p.mode) ∧ w'.cell? ⟨w3.heap.size + 1, 7, none⟩ = some (.int .i64 (max p.mi 1)) ∧ w'.cell? ⟨w.heap.size, 0, none⟩ = some (.bool n) ∧ w'.cell? ⟨w.heap.size, 1, none⟩ = some (.slice a len cap) ∧ w'.cell? ⟨w.heap.size, 2, none⟩ = some (.int .i64 e) ∧ HeldL w [(b4, #[.bool vn, S vi, S vf]), (w3.heap.size + 1, #[.int .i64 p.kind, .int .i64 (p.mn + 1), .int .i64 p.mx, .bool p.inc.neg, S p.inc.l, .int .i64 p.inc.e, .int .i64 p.mode, .int .i64 (max p.mi 1)]), (w3.heap.size, #[.int .i64 p.kind, .int .i64 p.mn, .int .i64 p.mx, .bool p.inc.neg, S p.inc.l, .int .i64 p.inc.e, .int .i64 p.mode, .int .i64 (max p.mi 1)]), (w.heap.size + 1, #[.int .i64 k0, .int .i64 k1, .int .i64 k2, .int .i64 k3, .int .i64 k4, .int .i64 k5, .int .i64 k6]), (w.heap.size, #[.bool n, .slice a len cap, .int .i64 e])] w') (by kernel_rfl) (ALL2.out _ (HeldL.drew HS2.out)) (fun hHeld => ?_)
    refine wpAnyH_take (i := 0) (oi := { dst := some 45, op := Go.Op.load 34 (Go.Operand.tmp 6), type := 34, pos := "law.go:212", after := #[], guard := none }) (v := ?_) rfl (by kernel_rfl) (by kernel_rfl) (by kernel_rfl) (fun _ _ _ h => h) (Or.inl ⟨by rfl, ?_⟩) hHeld ?_
    case refine_2 => (intro w hSw; (try dsimp only at hSw); go_simp <;> with_reducible rfl)
    try simp only [Act.put, List.setIfInBounds_toArray, List.set_cons_zero, List.set_cons_succ]
    refine wpAnyH_take (i := 1) (oi := { dst := some 46, op := Go.Op.load 24 (Go.Operand.tmp 2), type := 24, pos := "law.go:212", after := #[], guard := none }) (v := ?_) rfl (by kernel_rfl) (by kernel_rfl) (by kernel_rfl) (fun _ _ _ h => h) (Or.inl ⟨by rfl, ?_⟩) hHeld ?_
    case refine_2 => (intro w hSw; (try dsimp only at hSw); go_simp <;> with_reducible rfl)
    try simp only [Act.put, List.setIfInBounds_toArray, List.set_cons_zero, List.set_cons_succ]
    refine wpAnyH_ready (rs := [2, 7]) (by kernel_rfl) (by simp) ?_
    refine (AllReadyH.cons (o := { dst := some 47, op := Go.Op.call { callee := Go.Callee.value (Go.Operand.func 14), args := #[Go.Operand.tmp 46], argTypes := #[24] }, type := 31, pos := "law.go:212", after := #[{ on := 1, ground := Go.Ground.data }], guard := none }) rfl (fun KK hK => ?_) (AllReadyH.cons (o := { dst := some 9, op := Go.Op.alloc 37, type := 0, pos := "law.go:212", after := #[], guard := none }) rfl (fun KK hK => ?_) AllReadyH.nil))
    ·
      go_simp
      with_reducible refine (make_as n a len cap L e _ (HIN.out.below (hHeld.2.2.2.2.2.2.2.2.2.2.2).bel) (by omega)).mono ?_
      rintro x wA ⟨rfl, hb⟩
      go_wp2_with fail
      refine hK.out _ _ (KEEP2.out _ _ hHeld hb) (fun hHeld2 => ?_)
      clear hK hHeld hb
      have hHeld := hHeld2
      clear hHeld2
      try simp only [Act.put, List.setIfInBounds_toArray, List.set_cons_zero, List.set_cons_succ]
      refine wpAnyH_ready (rs := [3, 7]) (by kernel_rfl) (by simp) ?_
      refine (AllReadyH.cons (o := { dst := some 48, op := Go.Op.call { callee := Go.Callee.value (Go.Operand.func 13), args := #[Go.Operand.tmp 45, Go.Operand.tmp 47], argTypes := #[34, 31] }, type := 39, pos := "law.go:212", after := #[{ on := 0, ground := Go.Ground.data }, { on := 2, ground := Go.Ground.data }, { on := 2, ground := Go.Ground.chain }], guard := none }) rfl (fun KK hK => ?_) (AllReadyH.cons (o := { dst := some 9, op := Go.Op.alloc 37, type := 0, pos := "law.go:212", after := #[], guard := none }) rfl (fun KK hK => ?_) AllReadyH.nil))
      ·
        go_simp
        with_reducible refine (HA2.out _ (TAB2.out _ hHeld)).mono ?_
        rintro x wB ⟨rfl, hb⟩
        go_wp2_with fail
        refine hK.out _ _ (KEEP2.out _ _ hHeld hb) (fun hHeld2 => ?_)
        clear hK hHeld hb
        have hHeld := hHeld2
        clear hHeld2
        try simp only [Act.put, List.setIfInBounds_toArray, List.set_cons_zero, List.set_cons_succ]
        refine wpAnyH_take (i := 4) (oi := { dst := some 44, op := Go.Op.move (Go.Operand.tmp 48), type := 39, pos := "law.go:212", after := #[{ on := 3, ground := Go.Ground.data }], guard := none }) (v := ?_) rfl (by kernel_rfl) (by kernel_rfl) (by kernel_rfl) (fun _ _ _ h => h) (Or.inl ⟨by rfl, ?_⟩) hHeld ?_
        case refine_2 => (intro w hSw; (try dsimp only at hSw); go_simp <;> with_reducible rfl)
        try simp only [Act.put, List.setIfInBounds_toArray, List.set_cons_zero, List.set_cons_succ]
        refine wpAnyH_take (i := 5) (oi := { dst := some 49, op := Go.Op.extract (Go.Operand.tmp 44) 0, type := 37, pos := "law.go:212", after := #[{ on := 4, ground := Go.Ground.data }], guard := none }) (v := ?_) rfl (by kernel_rfl) (by kernel_rfl) (by kernel_rfl) (fun _ _ _ h => h) (Or.inl ⟨by rfl, ?_⟩) hHeld ?_
        case refine_2 => (intro w hSw; (try dsimp only at hSw); go_simp <;> with_reducible rfl)
        try simp only [Act.put, List.setIfInBounds_toArray, List.set_cons_zero, List.set_cons_succ]
        refine wpAnyH_take (i := 6) (oi := { dst := some 50, op := Go.Op.extract (Go.Operand.tmp 44) 1, type := 38, pos := "law.go:212", after := #[{ on := 4, ground := Go.Ground.data }, { on := 8, ground := Go.Ground.gcOnly Go.Departure.lateStores }], guard := none }) (v := ?_) rfl (by kernel_rfl) (by kernel_rfl) (by kernel_rfl) (fun _ _ _ h => h) (Or.inl ⟨by rfl, ?_⟩) hHeld ?_
        case refine_2 => (intro w hSw; (try dsimp only at hSw); go_simp <;> with_reducible rfl)
        try simp only [Act.put, List.setIfInBounds_toArray, List.set_cons_zero, List.set_cons_succ]
        refine wpAnyH_ready (rs := [7]) (by kernel_rfl) (by simp) ?_
        refine (AllReadyH.cons (o := { dst := some 9, op := Go.Op.alloc 37, type := 0, pos := "law.go:212", after := #[], guard := none }) rfl (fun KK hK => ?_) AllReadyH.nil)
        have hH0 := hHeld
        go_simp
        refine hK.out _ _ (ALL2.out _ (HeldL.skip (hHeld.2.2.2.2.2.2.2.2.2.2.2) _)) (fun hHeld2 => ?_)
        clear hK hHeld
        have hHeld := hHeld2
        clear hHeld2
        try simp only [Act.put, List.setIfInBounds_toArray, List.set_cons_zero, List.set_cons_succ]
        refine wpAnyH_ready (rs := [8]) (by kernel_rfl) (by simp) ?_
        refine (AllReadyH.cons (o := { dst := none, op := Go.Op.store 37 (Go.Operand.tmp 9) (Go.Operand.tmp 49), type := 0, pos := "law.go:212", after := #[{ on := 7, ground := Go.Ground.data }, { on := 5, ground := Go.Ground.data }, { on := 3, ground := Go.Ground.chain }, { on := 0, ground := Go.Ground.phase }, { on := 1, ground := Go.Ground.phase }, { on := 2, ground := Go.Ground.phase }, { on := 3, ground := Go.Ground.phase }, { on := 4, ground := Go.Ground.phase }, { on := 5, ground := Go.Ground.phase }, { on := 6, ground := Go.Ground.textOnly Go.Departure.lateStores }, { on := 7, ground := Go.Ground.phase }], guard := none }) rfl (fun KK hK => ?_) AllReadyH.nil)
        go_simp
        refine hK.out _ _ (ALL2.out _ (HeldL.skip (hH0.2.2.2.2.2.2.2.2.2.2.2) _)) (fun hHeld2 => ?_)
        clear hK hHeld
        have hHeld := hHeld2
        clear hHeld2
        try simp only [Act.put, List.setIfInBounds_toArray, List.set_cons_zero, List.set_cons_succ]
        refine wpAnyH_take (i := 9) (oi := { dst := some 10, op := Go.Op.assign (Go.Operand.tmp 50), type := 38, pos := "law.go:212", after := #[{ on := 6, ground := Go.Ground.data }, { on := 8, ground := Go.Ground.chain }, { on := 0, ground := Go.Ground.phase }, { on := 1, ground := Go.Ground.phase }, { on := 2, ground := Go.Ground.phase }, { on := 3, ground := Go.Ground.phase }, { on := 4, ground := Go.Ground.phase }, { on := 5, ground := Go.Ground.phase }, { on := 6, ground := Go.Ground.phase }, { on := 7, ground := Go.Ground.phase }, { on := 8, ground := Go.Ground.phase }], guard := none }) (v := ?_) rfl (by kernel_rfl) (by kernel_rfl) (by kernel_rfl) (fun _ _ _ h => h) (Or.inl ⟨by rfl, ?_⟩) hHeld ?_
        case refine_2 => (intro w hSw; (try dsimp only at hSw); go_simp <;> with_reducible rfl)
        try simp only [Act.put, List.setIfInBounds_toArray, List.set_cons_zero, List.set_cons_succ]
        refine wpAnyH_done (by kernel_rfl) ?_ _
        go_wp2
        go_meet
        case rel => exact ⟨_, rfl, rfl, HeldL.alloc (hH0.2.2.2.2.2.2.2.2.2.2.2) _ _ _ rfl⟩
      ·
        go_simp
        have HN : Hid (HeldL w ((wA.heap.size, #[.bool false, .string ⟨#[]⟩, .string ⟨#[]⟩]) :: [(b4, #[.bool vn, S vi, S vf]), (w3.heap.size + 1, #[.int .i64 p.kind, .int .i64 (p.mn + 1), .int .i64 p.mx, .bool p.inc.neg, S p.inc.l, .int .i64 p.inc.e, .int .i64 p.mode, .int .i64 (max p.mi 1)]), (w3.heap.size, #[.int .i64 p.kind, .int .i64 p.mn, .int .i64 p.mx, .bool p.inc.neg, S p.inc.l, .int .i64 p.inc.e, .int .i64 p.mode, .int .i64 (max p.mi 1)]), (w.heap.size + 1, #[.int .i64 k0, .int .i64 k1, .int .i64 k2, .int .i64 k3, .int .i64 k4, .int .i64 k5, .int .i64 k6]), (w.heap.size, #[.bool n, .slice a len cap, .int .i64 e])]) _) := Lib.hid (HeldL.alloc (hHeld.2.2.2.2.2.2.2.2.2.2.2) (wA.heap.size) #[.bool false, .string ⟨#[]⟩, .string ⟨#[]⟩] 37 (by first | rfl | simp))
        refine hK.out _ _ (ALL2.out _ (HeldL.tl HN.out)) (fun hHeld2 => ?_)
        clear hK hHeld
        have hHeld := hHeld2
        clear hHeld2
        try simp only [Act.put, List.setIfInBounds_toArray, List.set_cons_zero, List.set_cons_succ]
        refine wpAnyH_ready (rs := [3]) (by kernel_rfl) (by simp) ?_
        refine (AllReadyH.cons (o := { dst := some 48, op := Go.Op.call { callee := Go.Callee.value (Go.Operand.func 13), args := #[Go.Operand.tmp 45, Go.Operand.tmp 47], argTypes := #[34, 31] }, type := 39, pos := "law.go:212", after := #[{ on := 0, ground := Go.Ground.data }, { on := 2, ground := Go.Ground.data }, { on := 2, ground := Go.Ground.chain }], guard := none }) rfl (fun KK hK => ?_) AllReadyH.nil)
        go_simp
        with_reducible refine (HA2.out _ (TAB2.out _ hHeld)).mono ?_
        rintro x wB ⟨rfl, hb⟩
        go_wp2_with fail
        refine hK.out _ _ (KEEP2.out _ _ hHeld hb) (fun hHeld2 => ?_)
        have HM : Hid (HeldL w ((wA.heap.size, #[.bool false, .string ⟨#[]⟩, .string ⟨#[]⟩]) :: [(b4, #[.bool vn, S vi, S vf]), (w3.heap.size + 1, #[.int .i64 p.kind, .int .i64 (p.mn + 1), .int .i64 p.mx, .bool p.inc.neg, S p.inc.l, .int .i64 p.inc.e, .int .i64 p.mode, .int .i64 (max p.mi 1)]), (w3.heap.size, #[.int .i64 p.kind, .int .i64 p.mn, .int .i64 p.mx, .bool p.inc.neg, S p.inc.l, .int .i64 p.inc.e, .int .i64 p.mode, .int .i64 (max p.mi 1)]), (w.heap.size + 1, #[.int .i64 k0, .int .i64 k1, .int .i64 k2, .int .i64 k3, .int .i64 k4, .int .i64 k5, .int .i64 k6]), (w.heap.size, #[.bool n, .slice a len cap, .int .i64 e])]) wB) := Lib.hid (HeldL.keep HN.out hb)
        clear HN
        have HN := HM
        clear HM
        clear hK hHeld hb
        have hHeld := hHeld2
        clear hHeld2
        try simp only [Act.put, List.setIfInBounds_toArray, List.set_cons_zero, List.set_cons_succ]
        refine wpAnyH_take (i := 4) (oi := { dst := some 44, op := Go.Op.move (Go.Operand.tmp 48), type := 39, pos := "law.go:212", after := #[{ on := 3, ground := Go.Ground.data }], guard := none }) (v := ?_) rfl (by kernel_rfl) (by kernel_rfl) (by kernel_rfl) (fun _ _ _ h => h) (Or.inl ⟨by rfl, ?_⟩) hHeld ?_
        case refine_2 => (intro w hSw; (try dsimp only at hSw); go_simp <;> with_reducible rfl)
        try simp only [Act.put, List.setIfInBounds_toArray, List.set_cons_zero, List.set_cons_succ]
        refine wpAnyH_take (i := 5) (oi := { dst := some 49, op := Go.Op.extract (Go.Operand.tmp 44) 0, type := 37, pos := "law.go:212", after := #[{ on := 4, ground := Go.Ground.data }], guard := none }) (v := ?_) rfl (by kernel_rfl) (by kernel_rfl) (by kernel_rfl) (fun _ _ _ h => h) (Or.inl ⟨by rfl, ?_⟩) hHeld ?_
        case refine_2 => (intro w hSw; (try dsimp only at hSw); go_simp <;> with_reducible rfl)
        try simp only [Act.put, List.setIfInBounds_toArray, List.set_cons_zero, List.set_cons_succ]
        refine wpAnyH_take (i := 6) (oi := { dst := some 50, op := Go.Op.extract (Go.Operand.tmp 44) 1, type := 38, pos := "law.go:212", after := #[{ on := 4, ground := Go.Ground.data }, { on := 8, ground := Go.Ground.gcOnly Go.Departure.lateStores }], guard := none }) (v := ?_) rfl (by kernel_rfl) (by kernel_rfl) (by kernel_rfl) (fun _ _ _ h => h) (Or.inl ⟨by rfl, ?_⟩) hHeld ?_
        case refine_2 => (intro w hSw; (try dsimp only at hSw); go_simp <;> with_reducible rfl)
        try simp only [Act.put, List.setIfInBounds_toArray, List.set_cons_zero, List.set_cons_succ]
        refine wpAnyH_ready (rs := [8]) (by kernel_rfl) (by simp) ?_
        refine (AllReadyH.cons (o := { dst := none, op := Go.Op.store 37 (Go.Operand.tmp 9) (Go.Operand.tmp 49), type := 0, pos := "law.go:212", after := #[{ on := 7, ground := Go.Ground.data }, { on := 5, ground := Go.Ground.data }, { on := 3, ground := Go.Ground.chain }, { on := 0, ground := Go.Ground.phase }, { on := 1, ground := Go.Ground.phase }, { on := 2, ground := Go.Ground.phase }, { on := 3, ground := Go.Ground.phase }, { on := 4, ground := Go.Ground.phase }, { on := 5, ground := Go.Ground.phase }, { on := 6, ground := Go.Ground.textOnly Go.Departure.lateStores }, { on := 7, ground := Go.Ground.phase }], guard := none }) rfl (fun KK hK => ?_) AllReadyH.nil)
        obtain ⟨nn0, nn1, nn2, nnz0, nnz1, nnz2, nnl⟩ := (HN.out.f (List.Mem.head _)).three
        go_simp
        refine hK.out _ _ (ALL2.out _ (HeldL.tl (HeldL.store3 [] [(b4, #[.bool vn, S vi, S vf]), (w3.heap.size + 1, #[.int .i64 p.kind, .int .i64 (p.mn + 1), .int .i64 p.mx, .bool p.inc.neg, S p.inc.l, .int .i64 p.inc.e, .int .i64 p.mode, .int .i64 (max p.mi 1)]), (w3.heap.size, #[.int .i64 p.kind, .int .i64 p.mn, .int .i64 p.mx, .bool p.inc.neg, S p.inc.l, .int .i64 p.inc.e, .int .i64 p.mode, .int .i64 (max p.mi 1)]), (w.heap.size + 1, #[.int .i64 k0, .int .i64 k1, .int .i64 k2, .int .i64 k3, .int .i64 k4, .int .i64 k5, .int .i64 k6]), (w.heap.size, #[.bool n, .slice a len cap, .int .i64 e])] HN.out (.bool vn) (S vi) (S wf)))) (fun hHeld2 => ?_)
        clear hK hHeld
        have hHeld := hHeld2
        clear hHeld2
        try simp only [Act.put, List.setIfInBounds_toArray, List.set_cons_zero, List.set_cons_succ]
        refine wpAnyH_take (i := 9) (oi := { dst := some 10, op := Go.Op.assign (Go.Operand.tmp 50), type := 38, pos := "law.go:212", after := #[{ on := 6, ground := Go.Ground.data }, { on := 8, ground := Go.Ground.chain }, { on := 0, ground := Go.Ground.phase }, { on := 1, ground := Go.Ground.phase }, { on := 2, ground := Go.Ground.phase }, { on := 3, ground := Go.Ground.phase }, { on := 4, ground := Go.Ground.phase }, { on := 5, ground := Go.Ground.phase }, { on := 6, ground := Go.Ground.phase }, { on := 7, ground := Go.Ground.phase }, { on := 8, ground := Go.Ground.phase }], guard := none }) (v := ?_) rfl (by kernel_rfl) (by kernel_rfl) (by kernel_rfl) (fun _ _ _ h => h) (Or.inl ⟨by rfl, ?_⟩) hHeld ?_
        case refine_2 => (intro w hSw; (try dsimp only at hSw); go_simp <;> with_reducible rfl)
        try simp only [Act.put, List.setIfInBounds_toArray, List.set_cons_zero, List.set_cons_succ]
        refine wpAnyH_done (by kernel_rfl) ?_ _
        go_wp2
        go_meet
        case rel => exact ⟨_, rfl, rfl, HeldL.store3 [] [(b4, #[.bool vn, S vi, S vf]), (w3.heap.size + 1, #[.int .i64 p.kind, .int .i64 (p.mn + 1), .int .i64 p.mx, .bool p.inc.neg, S p.inc.l, .int .i64 p.inc.e, .int .i64 p.mode, .int .i64 (max p.mi 1)]), (w3.heap.size, #[.int .i64 p.kind, .int .i64 p.mn, .int .i64 p.mx, .bool p.inc.neg, S p.inc.l, .int .i64 p.inc.e, .int .i64 p.mode, .int .i64 (max p.mi 1)]), (w.heap.size + 1, #[.int .i64 k0, .int .i64 k1, .int .i64 k2, .int .i64 k3, .int .i64 k4, .int .i64 k5, .int .i64 k6]), (w.heap.size, #[.bool n, .slice a len cap, .int .i64 e])] HN.out (.bool vn) (S vi) (S wf)⟩
    ·
      go_simp
      have HN : Hid (HeldL w ((w4.heap.size, #[.bool false, .string ⟨#[]⟩, .string ⟨#[]⟩]) :: [(b4, #[.bool vn, S vi, S vf]), (w3.heap.size + 1, #[.int .i64 p.kind, .int .i64 (p.mn + 1), .int .i64 p.mx, .bool p.inc.neg, S p.inc.l, .int .i64 p.inc.e, .int .i64 p.mode, .int .i64 (max p.mi 1)]), (w3.heap.size, #[.int .i64 p.kind, .int .i64 p.mn, .int .i64 p.mx, .bool p.inc.neg, S p.inc.l, .int .i64 p.inc.e, .int .i64 p.mode, .int .i64 (max p.mi 1)]), (w.heap.size + 1, #[.int .i64 k0, .int .i64 k1, .int .i64 k2, .int .i64 k3, .int .i64 k4, .int .i64 k5, .int .i64 k6]), (w.heap.size, #[.bool n, .slice a len cap, .int .i64 e])]) _) := Lib.hid (HeldL.alloc (hHeld.2.2.2.2.2.2.2.2.2.2.2) (w4.heap.size) #[.bool false, .string ⟨#[]⟩, .string ⟨#[]⟩] 37 (by first | rfl | simp))
      refine hK.out _ _ (ALL2.out _ (HeldL.tl HN.out)) (fun hHeld2 => ?_)
      clear hK hHeld
      have hHeld := hHeld2
      clear hHeld2
      try simp only [Act.put, List.setIfInBounds_toArray, List.set_cons_zero, List.set_cons_succ]
      refine wpAnyH_ready (rs := [2]) (by kernel_rfl) (by simp) ?_
      refine (AllReadyH.cons (o := { dst := some 47, op := Go.Op.call { callee := Go.Callee.value (Go.Operand.func 14), args := #[Go.Operand.tmp 46], argTypes := #[24] }, type := 31, pos := "law.go:212", after := #[{ on := 1, ground := Go.Ground.data }], guard := none }) rfl (fun KK hK => ?_) AllReadyH.nil)
      go_simp
      with_reducible refine (make_as n a len cap L e _ (HIN.out.below (hHeld.2.2.2.2.2.2.2.2.2.2.2).bel) (by omega)).mono ?_
      rintro x wA ⟨rfl, hb⟩
      go_wp2_with fail
      refine hK.out _ _ (KEEP2.out _ _ hHeld hb) (fun hHeld2 => ?_)
      have HM : Hid (HeldL w ((w4.heap.size, #[.bool false, .string ⟨#[]⟩, .string ⟨#[]⟩]) :: [(b4, #[.bool vn, S vi, S vf]), (w3.heap.size + 1, #[.int .i64 p.kind, .int .i64 (p.mn + 1), .int .i64 p.mx, .bool p.inc.neg, S p.inc.l, .int .i64 p.inc.e, .int .i64 p.mode, .int .i64 (max p.mi 1)]), (w3.heap.size, #[.int .i64 p.kind, .int .i64 p.mn, .int .i64 p.mx, .bool p.inc.neg, S p.inc.l, .int .i64 p.inc.e, .int .i64 p.mode, .int .i64 (max p.mi 1)]), (w.heap.size + 1, #[.int .i64 k0, .int .i64 k1, .int .i64 k2, .int .i64 k3, .int .i64 k4, .int .i64 k5, .int .i64 k6]), (w.heap.size, #[.bool n, .slice a len cap, .int .i64 e])]) wA) := Lib.hid (HeldL.keep HN.out hb)
      clear HN
      have HN := HM
      clear HM
      clear hK hHeld hb
      have hHeld := hHeld2
      clear hHeld2
      try simp only [Act.put, List.setIfInBounds_toArray, List.set_cons_zero, List.set_cons_succ]
      refine wpAnyH_ready (rs := [3]) (by kernel_rfl) (by simp) ?_
      refine (AllReadyH.cons (o := { dst := some 48, op := Go.Op.call { callee := Go.Callee.value (Go.Operand.func 13), args := #[Go.Operand.tmp 45, Go.Operand.tmp 47], argTypes := #[34, 31] }, type := 39, pos := "law.go:212", after := #[{ on := 0, ground := Go.Ground.data }, { on := 2, ground := Go.Ground.data }, { on := 2, ground := Go.Ground.chain }], guard := none }) rfl (fun KK hK => ?_) AllReadyH.nil)
      go_simp
      with_reducible refine (HA2.out _ (TAB2.out _ hHeld)).mono ?_
      rintro x wB ⟨rfl, hb⟩
      go_wp2_with fail
      refine hK.out _ _ (KEEP2.out _ _ hHeld hb) (fun hHeld2 => ?_)
      have HM : Hid (HeldL w ((w4.heap.size, #[.bool false, .string ⟨#[]⟩, .string ⟨#[]⟩]) :: [(b4, #[.bool vn, S vi, S vf]), (w3.heap.size + 1, #[.int .i64 p.kind, .int .i64 (p.mn + 1), .int .i64 p.mx, .bool p.inc.neg, S p.inc.l, .int .i64 p.inc.e, .int .i64 p.mode, .int .i64 (max p.mi 1)]), (w3.heap.size, #[.int .i64 p.kind, .int .i64 p.mn, .int .i64 p.mx, .bool p.inc.neg, S p.inc.l, .int .i64 p.inc.e, .int .i64 p.mode, .int .i64 (max p.mi 1)]), (w.heap.size + 1, #[.int .i64 k0, .int .i64 k1, .int .i64 k2, .int .i64 k3, .int .i64 k4, .int .i64 k5, .int .i64 k6]), (w.heap.size, #[.bool n, .slice a len cap, .int .i64 e])]) wB) := Lib.hid (HeldL.keep HN.out hb)
      clear HN
      have HN := HM
      clear HM
      clear hK hHeld hb
      have hHeld := hHeld2
      clear hHeld2
      try simp only [Act.put, List.setIfInBounds_toArray, List.set_cons_zero, List.set_cons_succ]
      refine wpAnyH_take (i := 4) (oi := { dst := some 44, op := Go.Op.move (Go.Operand.tmp 48), type := 39, pos := "law.go:212", after := #[{ on := 3, ground := Go.Ground.data }], guard := none }) (v := ?_) rfl (by kernel_rfl) (by kernel_rfl) (by kernel_rfl) (fun _ _ _ h => h) (Or.inl ⟨by rfl, ?_⟩) hHeld ?_
      case refine_2 => (intro w hSw; (try dsimp only at hSw); go_simp <;> with_reducible rfl)
      try simp only [Act.put, List.setIfInBounds_toArray, List.set_cons_zero, List.set_cons_succ]
      refine wpAnyH_take (i := 5) (oi := { dst := some 49, op := Go.Op.extract (Go.Operand.tmp 44) 0, type := 37, pos := "law.go:212", after := #[{ on := 4, ground := Go.Ground.data }], guard := none }) (v := ?_) rfl (by kernel_rfl) (by kernel_rfl) (by kernel_rfl) (fun _ _ _ h => h) (Or.inl ⟨by rfl, ?_⟩) hHeld ?_
      case refine_2 => (intro w hSw; (try dsimp only at hSw); go_simp <;> with_reducible rfl)
      try simp only [Act.put, List.setIfInBounds_toArray, List.set_cons_zero, List.set_cons_succ]
      refine wpAnyH_take (i := 6) (oi := { dst := some 50, op := Go.Op.extract (Go.Operand.tmp 44) 1, type := 38, pos := "law.go:212", after := #[{ on := 4, ground := Go.Ground.data }, { on := 8, ground := Go.Ground.gcOnly Go.Departure.lateStores }], guard := none }) (v := ?_) rfl (by kernel_rfl) (by kernel_rfl) (by kernel_rfl) (fun _ _ _ h => h) (Or.inl ⟨by rfl, ?_⟩) hHeld ?_
      case refine_2 => (intro w hSw; (try dsimp only at hSw); go_simp <;> with_reducible rfl)
      try simp only [Act.put, List.setIfInBounds_toArray, List.set_cons_zero, List.set_cons_succ]
      refine wpAnyH_ready (rs := [8]) (by kernel_rfl) (by simp) ?_
      refine (AllReadyH.cons (o := { dst := none, op := Go.Op.store 37 (Go.Operand.tmp 9) (Go.Operand.tmp 49), type := 0, pos := "law.go:212", after := #[{ on := 7, ground := Go.Ground.data }, { on := 5, ground := Go.Ground.data }, { on := 3, ground := Go.Ground.chain }, { on := 0, ground := Go.Ground.phase }, { on := 1, ground := Go.Ground.phase }, { on := 2, ground := Go.Ground.phase }, { on := 3, ground := Go.Ground.phase }, { on := 4, ground := Go.Ground.phase }, { on := 5, ground := Go.Ground.phase }, { on := 6, ground := Go.Ground.textOnly Go.Departure.lateStores }, { on := 7, ground := Go.Ground.phase }], guard := none }) rfl (fun KK hK => ?_) AllReadyH.nil)
      obtain ⟨nn0, nn1, nn2, nnz0, nnz1, nnz2, nnl⟩ := (HN.out.f (List.Mem.head _)).three
      go_simp
      refine hK.out _ _ (ALL2.out _ (HeldL.tl (HeldL.store3 [] [(b4, #[.bool vn, S vi, S vf]), (w3.heap.size + 1, #[.int .i64 p.kind, .int .i64 (p.mn + 1), .int .i64 p.mx, .bool p.inc.neg, S p.inc.l, .int .i64 p.inc.e, .int .i64 p.mode, .int .i64 (max p.mi 1)]), (w3.heap.size, #[.int .i64 p.kind, .int .i64 p.mn, .int .i64 p.mx, .bool p.inc.neg, S p.inc.l, .int .i64 p.inc.e, .int .i64 p.mode, .int .i64 (max p.mi 1)]), (w.heap.size + 1, #[.int .i64 k0, .int .i64 k1, .int .i64 k2, .int .i64 k3, .int .i64 k4, .int .i64 k5, .int .i64 k6]), (w.heap.size, #[.bool n, .slice a len cap, .int .i64 e])] HN.out (.bool vn) (S vi) (S wf)))) (fun hHeld2 => ?_)
      clear hK hHeld
      have hHeld := hHeld2
      clear hHeld2
      try simp only [Act.put, List.setIfInBounds_toArray, List.set_cons_zero, List.set_cons_succ]
      refine wpAnyH_take (i := 9) (oi := { dst := some 10, op := Go.Op.assign (Go.Operand.tmp 50), type := 38, pos := "law.go:212", after := #[{ on := 6, ground := Go.Ground.data }, { on := 8, ground := Go.Ground.chain }, { on := 0, ground := Go.Ground.phase }, { on := 1, ground := Go.Ground.phase }, { on := 2, ground := Go.Ground.phase }, { on := 3, ground := Go.Ground.phase }, { on := 4, ground := Go.Ground.phase }, { on := 5, ground := Go.Ground.phase }, { on := 6, ground := Go.Ground.phase }, { on := 7, ground := Go.Ground.phase }, { on := 8, ground := Go.Ground.phase }], guard := none }) (v := ?_) rfl (by kernel_rfl) (by kernel_rfl) (by kernel_rfl) (fun _ _ _ h => h) (Or.inl ⟨by rfl, ?_⟩) hHeld ?_
      case refine_2 => (intro w hSw; (try dsimp only at hSw); go_simp <;> with_reducible rfl)
      try simp only [Act.put, List.setIfInBounds_toArray, List.set_cons_zero, List.set_cons_succ]
      refine wpAnyH_done (by kernel_rfl) ?_ _
      go_wp2
      go_meet
      case rel => exact ⟨_, rfl, rfl, HeldL.store3 [] [(b4, #[.bool vn, S vi, S vf]), (w3.heap.size + 1, #[.int .i64 p.kind, .int .i64 (p.mn + 1), .int .i64 p.mx, .bool p.inc.neg, S p.inc.l, .int .i64 p.inc.e, .int .i64 p.mode, .int .i64 (max p.mi 1)]), (w3.heap.size, #[.int .i64 p.kind, .int .i64 p.mn, .int .i64 p.mx, .bool p.inc.neg, S p.inc.l, .int .i64 p.inc.e, .int .i64 p.mode, .int .i64 (max p.mi 1)]), (w.heap.size + 1, #[.int .i64 k0, .int .i64 k1, .int .i64 k2, .int .i64 k3, .int .i64 k4, .int .i64 k5, .int .i64 k6]), (w.heap.size, #[.bool n, .slice a len cap, .int .i64 e])] HN.out (.bool vn) (S vi) (S wf)⟩
  case rest =>
  obtain ⟨b5, hvp, hve, hh⟩ := hcut
  subst hvp hve
  have H5 : Hid (HeldL w ((b5, #[.bool vn, S vi, S wf]) :: [(b4, #[.bool vn, S vi, S vf]), (w3.heap.size + 1, #[.int .i64 p.kind, .int .i64 (p.mn + 1), .int .i64 p.mx, .bool p.inc.neg, S p.inc.l, .int .i64 p.inc.e, .int .i64 p.mode, .int .i64 (max p.mi 1)]), (w3.heap.size, #[.int .i64 p.kind, .int .i64 p.mn, .int .i64 p.mx, .bool p.inc.neg, S p.inc.l, .int .i64 p.inc.e, .int .i64 p.mode, .int .i64 (max p.mi 1)]), (w.heap.size + 1, #[.int .i64 k0, .int .i64 k1, .int .i64 k2, .int .i64 k3, .int .i64 k4, .int .i64 k5, .int .i64 k6]), (w.heap.size, #[.bool n, .slice a len cap, .int .i64 e])]) wc) := Lib.hid hh
  clear hh H4
  generalize wc = w5 at *
  have bv0 : w5.cell? ⟨b4, 0, none⟩ = some (.bool vn) := (H5.out.f (List.Mem.tail _ (List.Mem.head _))).cell 0
  have bv1 : w5.cell? ⟨b4, 1, none⟩ = some (S vi) := (H5.out.f (List.Mem.tail _ (List.Mem.head _))).cell 1
  have bv2 : w5.cell? ⟨b4, 2, none⟩ = some (S vf) := (H5.out.f (List.Mem.tail _ (List.Mem.head _))).cell 2
  have bvl : b4 < w5.heap.size := (H5.out.f (List.Mem.tail _ (List.Mem.head _))).lt
  have bw0 : w5.cell? ⟨b5, 0, none⟩ = some (.bool vn) := (H5.out.f (List.Mem.head _)).cell 0
  have bw1 : w5.cell? ⟨b5, 1, none⟩ = some (S vi) := (H5.out.f (List.Mem.head _)).cell 1
  have bw2 : w5.cell? ⟨b5, 2, none⟩ = some (S wf) := (H5.out.f (List.Mem.head _)).cell 2
  have bwl : b5 < w5.heap.size := (H5.out.f (List.Mem.head _)).lt
  have cw : ¬ 9223372036854775807 < vf.length + 1 := by omega
  by_cases hwq : wf = vf
  · subst hwq
    go_wp2
    go_ret
    exact ⟨by first | rfl | simp, H5.out.bel⟩
  · have hw2 : wf = vf ++ [48] := HWF.out.elim (fun h => absurd h hwq) id
    have hw0 : (wf == vf) = false := by simpa using hwq
    have hw3 : (⟨vf.toArray⟩ : ByteArray) ++ (⟨#[48]⟩ : ByteArray) = ⟨wf.toArray⟩ := by rw [hw2]; exact arr_append vf [48]
    clear hw2
    go_wp2
    go_ret
    exact ⟨by first | rfl | simp [hw3], H5.out.bel⟩

set_option maxRecDepth 100000 in
set_option maxHeartbeats 12800000 in
theorem more_t (n : Bool) (a : Option Addr) (len cap : Nat) (L : List UInt8) (e : Int) (k0 k1 k2 k3 k4 k5 k6 : Int) (w : World) (hin : InB w a len cap L) (htab : Tab w) (h1 : len ≤ 30) (h2 : -30 ≤ e) (h3 : e ≤ 30) (p : Prc) (hpr : (∀ w : World, Tab w → Calls Tryd.prog 12 #[.agg #[.int .i64 k0, .int .i64 k1, .int .i64 k2, .int .i64 k3, .int .i64 k4, .int .i64 k5, .int .i64 k6]] w fun z w' => z = .returned (PV p) ∧ Below w.heap.size w w')) (b1 : 0 ≤ p.mn) (b2 : p.mn ≤ 100) (hk : (p.kind != 2) = true) (hge : decide (p.mx ≤ p.mn) = false) (vn : Bool) (vi vf wf : List UInt8) (il : vi.length ≤ 3000) (fl : vf.length ≤ 3000) (wl : wf.length ≤ 3001) (hwf : wf = vf ∨ wf = vf ++ [48]) (ha1 : (∀ w : World, Tab w → Calls Tryd.prog 13 #[.agg #[.int .i64 p.kind, .int .i64 p.mn, .int .i64 p.mx, .bool p.inc.neg, S p.inc.l, .int .i64 p.inc.e, .int .i64 p.mode, .int .i64 (max p.mi 1)], V ⟨n, dgs L, e⟩] w fun z w' => z = .returned (.tuple #[VV ⟨vn, vi, vf⟩, .int .i64 0]) ∧ Below w.heap.size w w')) (ha2 : (∀ w : World, Tab w → Calls Tryd.prog 13 #[.agg #[.int .i64 p.kind, .int .i64 (p.mn + 1), .int .i64 p.mx, .bool p.inc.neg, S p.inc.l, .int .i64 p.inc.e, .int .i64 p.mode, .int .i64 (max p.mi 1)], V ⟨n, dgs L, e⟩] w fun z w' => z = .returned (.tuple #[VV ⟨vn, vi, wf⟩, .int .i64 0]) ∧ Below w.heap.size w w')) :
    Calls Tryd.prog 4 #[RV n a len cap e, .agg #[.int .i64 k0, .int .i64 k1, .int .i64 k2, .int .i64 k3, .int .i64 k4, .int .i64 k5, .int .i64 k6]] w fun x w' => x = .returned (.bool true) ∧ Below w.heap.size w w' := by
  have hcA := hin.2.1
  have hmA := hin.2.2.1
  have HT := Lib.hid htab
  have HIN := Lib.hid hin
  have HPR := Lib.hid hpr
  have HA1 := Lib.hid ha1
  have HA2 := Lib.hid ha2
  have HWF := Lib.hid hwf
  clear htab hin hpr ha1 ha2 hwf
  go_enter Tryd.func4, Tryd.ntmps4
  go_wp2_with fail
  with_reducible refine (head4 _ (HT.out.below (HeldL.alloc (HeldL.alloc (HeldL.refl w) (w.heap.size) #[.bool n, .slice a len cap, .int .i64 e] 24 (by simp)) (w.heap.size + 1) #[.int .i64 k0, .int .i64 k1, .int .i64 k2, .int .i64 k3, .int .i64 k4, .int .i64 k5, .int .i64 k6] 26 (by simp)).bel)).mono ?_
  rintro x w1 ⟨rfl, hb⟩
  have H1 : Hid (HeldL w [(w.heap.size + 1, #[.int .i64 k0, .int .i64 k1, .int .i64 k2, .int .i64 k3, .int .i64 k4, .int .i64 k5, .int .i64 k6]), (w.heap.size, #[.bool n, .slice a len cap, .int .i64 e])] w1) := Lib.hid (HeldL.keep (HeldL.alloc (HeldL.alloc (HeldL.refl w) (w.heap.size) #[.bool n, .slice a len cap, .int .i64 e] 24 (by simp)) (w.heap.size + 1) #[.int .i64 k0, .int .i64 k1, .int .i64 k2, .int .i64 k3, .int .i64 k4, .int .i64 k5, .int .i64 k6] 26 (by simp)) hb)
  clear hb
  have q0 : w1.cell? ⟨w.heap.size, 0, none⟩ = some (.bool n) := (H1.out.f (List.Mem.tail _ (List.Mem.head _))).cell 0
  have q1 : w1.cell? ⟨w.heap.size, 1, none⟩ = some (.slice a len cap) := (H1.out.f (List.Mem.tail _ (List.Mem.head _))).cell 1
  have q2 : w1.cell? ⟨w.heap.size, 2, none⟩ = some (.int .i64 e) := (H1.out.f (List.Mem.tail _ (List.Mem.head _))).cell 2
  have ql : w.heap.size < w1.heap.size := (H1.out.f (List.Mem.tail _ (List.Mem.head _))).lt
  have k0 : w1.cell? ⟨w.heap.size + 1, 0, none⟩ = some (.int .i64 k0) := (H1.out.f (List.Mem.head _)).cell 0
  have k1 : w1.cell? ⟨w.heap.size + 1, 1, none⟩ = some (.int .i64 k1) := (H1.out.f (List.Mem.head _)).cell 1
  have k2 : w1.cell? ⟨w.heap.size + 1, 2, none⟩ = some (.int .i64 k2) := (H1.out.f (List.Mem.head _)).cell 2
  have k3 : w1.cell? ⟨w.heap.size + 1, 3, none⟩ = some (.int .i64 k3) := (H1.out.f (List.Mem.head _)).cell 3
  have k4 : w1.cell? ⟨w.heap.size + 1, 4, none⟩ = some (.int .i64 k4) := (H1.out.f (List.Mem.head _)).cell 4
  have k5 : w1.cell? ⟨w.heap.size + 1, 5, none⟩ = some (.int .i64 k5) := (H1.out.f (List.Mem.head _)).cell 5
  have k6 : w1.cell? ⟨w.heap.size + 1, 6, none⟩ = some (.int .i64 k6) := (H1.out.f (List.Mem.head _)).cell 6
  have kl : w.heap.size + 1 < w1.heap.size := (H1.out.f (List.Mem.head _)).lt
  go_wp2_with fail
  with_reducible refine (few_yes n a len cap e 30 _ hcA hmA (by decide) (by decide) (by omega) h2 h3).mono ?_
  rintro x w2 ⟨rfl, hb⟩
  clear q0 q1 q2 ql k0 k1 k2 k3 k4 k5 k6 kl
  have H2 : Hid (HeldL w [(w.heap.size + 1, #[.int .i64 k0, .int .i64 k1, .int .i64 k2, .int .i64 k3, .int .i64 k4, .int .i64 k5, .int .i64 k6]), (w.heap.size, #[.bool n, .slice a len cap, .int .i64 e])] w2) := Lib.hid (HeldL.keep H1.out hb)
  clear H1
  clear hb
  have q0 : w2.cell? ⟨w.heap.size, 0, none⟩ = some (.bool n) := (H2.out.f (List.Mem.tail _ (List.Mem.head _))).cell 0
  have q1 : w2.cell? ⟨w.heap.size, 1, none⟩ = some (.slice a len cap) := (H2.out.f (List.Mem.tail _ (List.Mem.head _))).cell 1
  have q2 : w2.cell? ⟨w.heap.size, 2, none⟩ = some (.int .i64 e) := (H2.out.f (List.Mem.tail _ (List.Mem.head _))).cell 2
  have ql : w.heap.size < w2.heap.size := (H2.out.f (List.Mem.tail _ (List.Mem.head _))).lt
  have k0 : w2.cell? ⟨w.heap.size + 1, 0, none⟩ = some (.int .i64 k0) := (H2.out.f (List.Mem.head _)).cell 0
  have k1 : w2.cell? ⟨w.heap.size + 1, 1, none⟩ = some (.int .i64 k1) := (H2.out.f (List.Mem.head _)).cell 1
  have k2 : w2.cell? ⟨w.heap.size + 1, 2, none⟩ = some (.int .i64 k2) := (H2.out.f (List.Mem.head _)).cell 2
  have k3 : w2.cell? ⟨w.heap.size + 1, 3, none⟩ = some (.int .i64 k3) := (H2.out.f (List.Mem.head _)).cell 3
  have k4 : w2.cell? ⟨w.heap.size + 1, 4, none⟩ = some (.int .i64 k4) := (H2.out.f (List.Mem.head _)).cell 4
  have k5 : w2.cell? ⟨w.heap.size + 1, 5, none⟩ = some (.int .i64 k5) := (H2.out.f (List.Mem.head _)).cell 5
  have k6 : w2.cell? ⟨w.heap.size + 1, 6, none⟩ = some (.int .i64 k6) := (H2.out.f (List.Mem.head _)).cell 6
  have kl : w.heap.size + 1 < w2.heap.size := (H2.out.f (List.Mem.head _)).lt
  go_wp2_with fail
  with_reducible refine (HPR.out _ (HT.out.below H2.out.bel)).mono ?_
  rintro x w3 ⟨rfl, hb⟩
  clear q0 q1 q2 ql k0 k1 k2 k3 k4 k5 k6 kl
  have H3 : Hid (HeldL w [(w.heap.size + 1, #[.int .i64 k0, .int .i64 k1, .int .i64 k2, .int .i64 k3, .int .i64 k4, .int .i64 k5, .int .i64 k6]), (w.heap.size, #[.bool n, .slice a len cap, .int .i64 e])] w3) := Lib.hid (HeldL.keep H2.out hb)
  clear H2
  clear hb
  have q0 : w3.cell? ⟨w.heap.size, 0, none⟩ = some (.bool n) := (H3.out.f (List.Mem.tail _ (List.Mem.head _))).cell 0
  have q1 : w3.cell? ⟨w.heap.size, 1, none⟩ = some (.slice a len cap) := (H3.out.f (List.Mem.tail _ (List.Mem.head _))).cell 1
  have q2 : w3.cell? ⟨w.heap.size, 2, none⟩ = some (.int .i64 e) := (H3.out.f (List.Mem.tail _ (List.Mem.head _))).cell 2
  have ql : w.heap.size < w3.heap.size := (H3.out.f (List.Mem.tail _ (List.Mem.head _))).lt
  go_upto_region 11 with fail
  go_cut [7, 8] from 11 (fun vp ve w' => ∃ b : Nat, vp = .pointer (some ⟨b, 0, none⟩) ∧ ve = .int .i64 0 ∧ HeldL w ((b, #[.bool vn, S vi, S vf]) :: [(w3.heap.size + 1, #[.int .i64 p.kind, .int .i64 (p.mn + 1), .int .i64 p.mx, .bool p.inc.neg, S p.inc.l, .int .i64 p.inc.e, .int .i64 p.mode, .int .i64 (max p.mi 1)]), (w3.heap.size, #[.int .i64 p.kind, .int .i64 p.mn, .int .i64 p.mx, .bool p.inc.neg, S p.inc.l, .int .i64 p.inc.e, .int .i64 p.mode, .int .i64 (max p.mi 1)]), (w.heap.size + 1, #[.int .i64 k0, .int .i64 k1, .int .i64 k2, .int .i64 k3, .int .i64 k4, .int .i64 k5, .int .i64 k6]), (w.heap.size, #[.bool n, .slice a len cap, .int .i64 e])]) w')
  case first =>
    have ALL1 : Hid (∀ w' : World, HeldL w [(w3.heap.size + 1, #[.int .i64 p.kind, .int .i64 (p.mn + 1), .int .i64 p.mx, .bool p.inc.neg, S p.inc.l, .int .i64 p.inc.e, .int .i64 p.mode, .int .i64 (max p.mi 1)]), (w3.heap.size, #[.int .i64 p.kind, .int .i64 p.mn, .int .i64 p.mx, .bool p.inc.neg, S p.inc.l, .int .i64 p.inc.e, .int .i64 p.mode, .int .i64 (max p.mi 1)]), (w.heap.size + 1, #[.int .i64 k0, .int .i64 k1, .int .i64 k2, .int .i64 k3, .int .i64 k4, .int .i64 k5, .int .i64 k6]), (w.heap.size, #[.bool n, .slice a len cap, .int .i64 e])] w' → w'.cell? ⟨w3.heap.size, 0, none⟩ = some (.int .i64 p.kind) ∧ w'.cell? ⟨w3.heap.size, 1, none⟩ = some (.int .i64 p.mn) ∧ w'.cell? ⟨w3.heap.size, 2, none⟩ = some (.int .i64 p.mx) ∧ w'.cell? ⟨w3.heap.size, 3, none⟩ = some (.bool p.inc.neg) ∧ w'.cell? ⟨w3.heap.size, 4, none⟩ = some (S p.inc.l) ∧ w'.cell? ⟨w3.heap.size, 5, none⟩ = some (.int .i64 p.inc.e) ∧ w'.cell? ⟨w3.heap.size, 6, none⟩ = some (.int .i64 p.mode) ∧ w'.cell? ⟨w3.heap.size, 7, none⟩ = some (.int .i64 (max p.mi 1)) ∧ w'.cell? ⟨w.heap.size, 0, none⟩ = some (.bool n) ∧ w'.cell? ⟨w.heap.size, 1, none⟩ = some (.slice a len cap) ∧ w'.cell? ⟨w.heap.size, 2, none⟩ = some (.int .i64 e) ∧ HeldL w [(w3.heap.size + 1, #[.int .i64 p.kind, .int .i64 (p.mn + 1), .int .i64 p.mx, .bool p.inc.neg, S p.inc.l, .int .i64 p.inc.e, .int .i64 p.mode, .int .i64 (max p.mi 1)]), (w3.heap.size, #[.int .i64 p.kind, .int .i64 p.mn, .int .i64 p.mx, .bool p.inc.neg, S p.inc.l, .int .i64 p.inc.e, .int .i64 p.mode, .int .i64 (max p.mi 1)]), (w.heap.size + 1, #[.int .i64 k0, .int .i64 k1, .int .i64 k2, .int .i64 k3, .int .i64 k4, .int .i64 k5, .int .i64 k6]), (w.heap.size, #[.bool n, .slice a len cap, .int .i64 e])] w') := Lib.hid (fun w' h => ⟨(h.f (List.Mem.tail _ (List.Mem.head _))).cell 0, (h.f (List.Mem.tail _ (List.Mem.head _))).cell 1, (h.f (List.Mem.tail _ (List.Mem.head _))).cell 2, (h.f (List.Mem.tail _ (List.Mem.head _))).cell 3, (h.f (List.Mem.tail _ (List.Mem.head _))).cell 4, (h.f (List.Mem.tail _ (List.Mem.head _))).cell 5, (h.f (List.Mem.tail _ (List.Mem.head _))).cell 6, (h.f (List.Mem.tail _ (List.Mem.head _))).cell 7, (h.f (List.Mem.tail _ (List.Mem.tail _ (List.Mem.tail _ (List.Mem.head _))))).cell 0, (h.f (List.Mem.tail _ (List.Mem.tail _ (List.Mem.tail _ (List.Mem.head _))))).cell 1, (h.f (List.Mem.tail _ (List.Mem.tail _ (List.Mem.tail _ (List.Mem.head _))))).cell 2, h⟩)
    have KEEP1 : Hid (∀ w' w'' : World, (w'.cell? ⟨w3.heap.size, 0, none⟩ = some (.int .i64 p.kind) ∧ w'.cell? ⟨w3.heap.size, 1, none⟩ = some (.int .i64 p.mn) ∧ w'.cell? ⟨w3.heap.size, 2, none⟩ = some (.int .i64 p.mx) ∧ w'.cell? ⟨w3.heap.size, 3, none⟩ = some (.bool p.inc.neg) ∧ w'.cell? ⟨w3.heap.size, 4, none⟩ = some (S p.inc.l) ∧ w'.cell? ⟨w3.heap.size, 5, none⟩ = some (.int .i64 p.inc.e) ∧ w'.cell? ⟨w3.heap.size, 6, none⟩ = some (.int .i64 p.mode) ∧ w'.cell? ⟨w3.heap.size, 7, none⟩ = some (.int .i64 (max p.mi 1)) ∧ w'.cell? ⟨w.heap.size, 0, none⟩ = some (.bool n) ∧ w'.cell? ⟨w.heap.size, 1, none⟩ = some (.slice a len cap) ∧ w'.cell? ⟨w.heap.size, 2, none⟩ = some (.int .i64 e) ∧ HeldL w [(w3.heap.size + 1, #[.int .i64 p.kind, .int .i64 (p.mn + 1), .int .i64 p.mx, .bool p.inc.neg, S p.inc.l, .int .i64 p.inc.e, .int .i64 p.mode, .int .i64 (max p.mi 1)]), (w3.heap.size, #[.int .i64 p.kind, .int .i64 p.mn, .int .i64 p.mx, .bool p.inc.neg, S p.inc.l, .int .i64 p.inc.e, .int .i64 p.mode, .int .i64 (max p.mi 1)]), (w.heap.size + 1, #[.int .i64 k0, .int .i64 k1, .int .i64 k2, .int .i64 k3, .int .i64 k4, .int .i64 k5, .int .i64 k6]), (w.heap.size, #[.bool n, .slice a len cap, .int .i64 e])] w') → Below w'.heap.size w' w'' → (w''.cell? ⟨w3.heap.size, 0, none⟩ = some (.int .i64 p.kind) ∧ w''.cell? ⟨w3.heap.size, 1, none⟩ = some (.int .i64 p.mn) ∧ w''.cell? ⟨w3.heap.size, 2, none⟩ = some (.int .i64 p.mx) ∧ w''.cell? ⟨w3.heap.size, 3, none⟩ = some (.bool p.inc.neg) ∧ w''.cell? ⟨w3.heap.size, 4, none⟩ = some (S p.inc.l) ∧ w''.cell? ⟨w3.heap.size, 5, none⟩ = some (.int .i64 p.inc.e) ∧ w''.cell? ⟨w3.heap.size, 6, none⟩ = some (.int .i64 p.mode) ∧ w''.cell? ⟨w3.heap.size, 7, none⟩ = some (.int .i64 (max p.mi 1)) ∧ w''.cell? ⟨w.heap.size, 0, none⟩ = some (.bool n) ∧ w''.cell? ⟨w.heap.size, 1, none⟩ = some (.slice a len cap) ∧ w''.cell? ⟨w.heap.size, 2, none⟩ = some (.int .i64 e) ∧ HeldL w [(w3.heap.size + 1, #[.int .i64 p.kind, .int .i64 (p.mn + 1), .int .i64 p.mx, .bool p.inc.neg, S p.inc.l, .int .i64 p.inc.e, .int .i64 p.mode, .int .i64 (max p.mi 1)]), (w3.heap.size, #[.int .i64 p.kind, .int .i64 p.mn, .int .i64 p.mx, .bool p.inc.neg, S p.inc.l, .int .i64 p.inc.e, .int .i64 p.mode, .int .i64 (max p.mi 1)]), (w.heap.size + 1, #[.int .i64 k0, .int .i64 k1, .int .i64 k2, .int .i64 k3, .int .i64 k4, .int .i64 k5, .int .i64 k6]), (w.heap.size, #[.bool n, .slice a len cap, .int .i64 e])] w'')) := Lib.hid (fun w' w'' h hb => ALL1.out _ (HeldL.keep (h.2.2.2.2.2.2.2.2.2.2.2) hb))
    have TAB1 : Hid (∀ w' : World, (w'.cell? ⟨w3.heap.size, 0, none⟩ = some (.int .i64 p.kind) ∧ w'.cell? ⟨w3.heap.size, 1, none⟩ = some (.int .i64 p.mn) ∧ w'.cell? ⟨w3.heap.size, 2, none⟩ = some (.int .i64 p.mx) ∧ w'.cell? ⟨w3.heap.size, 3, none⟩ = some (.bool p.inc.neg) ∧ w'.cell? ⟨w3.heap.size, 4, none⟩ = some (S p.inc.l) ∧ w'.cell? ⟨w3.heap.size, 5, none⟩ = some (.int .i64 p.inc.e) ∧ w'.cell? ⟨w3.heap.size, 6, none⟩ = some (.int .i64 p.mode) ∧ w'.cell? ⟨w3.heap.size, 7, none⟩ = some (.int .i64 (max p.mi 1)) ∧ w'.cell? ⟨w.heap.size, 0, none⟩ = some (.bool n) ∧ w'.cell? ⟨w.heap.size, 1, none⟩ = some (.slice a len cap) ∧ w'.cell? ⟨w.heap.size, 2, none⟩ = some (.int .i64 e) ∧ HeldL w [(w3.heap.size + 1, #[.int .i64 p.kind, .int .i64 (p.mn + 1), .int .i64 p.mx, .bool p.inc.neg, S p.inc.l, .int .i64 p.inc.e, .int .i64 p.mode, .int .i64 (max p.mi 1)]), (w3.heap.size, #[.int .i64 p.kind, .int .i64 p.mn, .int .i64 p.mx, .bool p.inc.neg, S p.inc.l, .int .i64 p.inc.e, .int .i64 p.mode, .int .i64 (max p.mi 1)]), (w.heap.size + 1, #[.int .i64 k0, .int .i64 k1, .int .i64 k2, .int .i64 k3, .int .i64 k4, .int .i64 k5, .int .i64 k6]), (w.heap.size, #[.bool n, .slice a len cap, .int .i64 e])] w') → Tab w') := Lib.hid (fun w' h => HT.out.below (h.2.2.2.2.2.2.2.2.2.2.2).bel)
    have HS1 : Hid (HeldL w [(w3.heap.size + 1, #[.int .i64 p.kind, .int .i64 (p.mn + 1), .int .i64 p.mx, .bool p.inc.neg, S p.inc.l, .int .i64 p.inc.e, .int .i64 p.mode, .int .i64 (max p.mi 1)]), (w3.heap.size, #[.int .i64 p.kind, .int .i64 p.mn, .int .i64 p.mx, .bool p.inc.neg, S p.inc.l, .int .i64 p.inc.e, .int .i64 p.mode, .int .i64 (max p.mi 1)]), (w.heap.size + 1, #[.int .i64 k0, .int .i64 k1, .int .i64 k2, .int .i64 k3, .int .i64 k4, .int .i64 k5, .int .i64 k6]), (w.heap.size, #[.bool n, .slice a len cap, .int .i64 e])] _) := Lib.hid (HeldL.alloc (HeldL.alloc H3.out (w3.heap.size) #[.int .i64 p.kind, .int .i64 p.mn, .int .i64 p.mx, .bool p.inc.neg, S p.inc.l, .int .i64 p.inc.e, .int .i64 p.mode, .int .i64 (max p.mi 1)] 34 (by simp)) (w3.heap.size + 1) #[.int .i64 p.kind, .int .i64 (p.mn + 1), .int .i64 p.mx, .bool p.inc.neg, S p.inc.l, .int .i64 p.inc.e, .int .i64 p.mode, .int .i64 (max p.mi 1)] 34 (by simp))
    refine wp_region_held_drew (S := fun w' => w'.cell? ⟨w3.heap.size, 0, none⟩ = some (.int .i64 p.kind) ∧ w'.cell? ⟨w3.heap.size, 1, none⟩ = some (.int .i64 p.mn) ∧ w'.cell? ⟨w3.heap.size, 2, none⟩ = some (.int .i64 p.mx) ∧ w'.cell? ⟨w3.heap.size, 3, none⟩ = some (.bool p.inc.neg) ∧ w'.cell? ⟨w3.heap.size, 4, none⟩ = some (S p.inc.l) ∧ w'.cell? ⟨w3.heap.size, 5, none⟩ = some (.int .i64 p.inc.e) ∧ w'.cell? ⟨w3.heap.size, 6, none⟩ = some (.int .i64 p.mode) ∧ w'.cell? ⟨w3.heap.size, 7, none⟩ = some (.int .i64 (max p.mi 1)) ∧ w'.cell? ⟨w.heap.size, 0, none⟩ = some (.bool n) ∧ w'.cell? ⟨w.heap.size, 1, none⟩ = some (.slice a len cap) ∧ w'.cell? ⟨w.heap.size, 2, none⟩ = some (.int .i64 e) ∧ HeldL w [(w3.heap.size + 1, #[.int .i64 p.kind, .int .i64 (p.mn + 1), .int .i64 p.mx, .bool p.inc.neg, S p.inc.l, .int .i64 p.inc.e, .int .i64 p.mode, .int .i64 (max p.mi 1)]), (w3.heap.size, #[.int .i64 p.kind, .int .i64 p.mn, .int .i64 p.mx, .bool p.inc.neg, S p.inc.l, .int .i64 p.inc.e, .int .i64 p.mode, .int .i64 (max p.mi 1)]), (w.heap.size + 1, #[.int .i64 k0, .int .i64 k1, .int .i64 k2, .int .i64 k3, .int .i64 k4, .int .i64 k5, .int .i64 k6]), (w.heap.size, #[.bool n, .slice a len cap, .int .i64 e])] w') (by kernel_rfl) (ALL1.out _ (HeldL.drew HS1.out)) (fun hHeld => ?_)
    refine wpAnyH_take (i := 0) (oi := { dst := some 38, op := Go.Op.load 34 (Go.Operand.tmp 5), type := 34, pos := "law.go:211", after := #[], guard := none }) (v := ?_) rfl (by kernel_rfl) (by kernel_rfl) (by kernel_rfl) (fun _ _ _ h => h) (Or.inl ⟨by rfl, ?_⟩) hHeld ?_
    case refine_2 => (intro w hSw; (try dsimp only at hSw); go_simp <;> with_reducible rfl)
    try simp only [Act.put, List.setIfInBounds_toArray, List.set_cons_zero, List.set_cons_succ]
    refine wpAnyH_take (i := 1) (oi := { dst := some 39, op := Go.Op.load 24 (Go.Operand.tmp 2), type := 24, pos := "law.go:211", after := #[], guard := none }) (v := ?_) rfl (by kernel_rfl) (by kernel_rfl) (by kernel_rfl) (fun _ _ _ h => h) (Or.inl ⟨by rfl, ?_⟩) hHeld ?_
    case refine_2 => (intro w hSw; (try dsimp only at hSw); go_simp <;> with_reducible rfl)
    try simp only [Act.put, List.setIfInBounds_toArray, List.set_cons_zero, List.set_cons_succ]
    refine wpAnyH_ready (rs := [2, 7]) (by kernel_rfl) (by simp) ?_
    refine (AllReadyH.cons (o := { dst := some 40, op := Go.Op.call { callee := Go.Callee.value (Go.Operand.func 14), args := #[Go.Operand.tmp 39], argTypes := #[24] }, type := 31, pos := "law.go:211", after := #[{ on := 1, ground := Go.Ground.data }], guard := none }) rfl (fun KK hK => ?_) (AllReadyH.cons (o := { dst := some 7, op := Go.Op.alloc 37, type := 0, pos := "law.go:211", after := #[], guard := none }) rfl (fun KK hK => ?_) AllReadyH.nil))
    ·
      go_simp
      with_reducible refine (make_as n a len cap L e _ (HIN.out.below (hHeld.2.2.2.2.2.2.2.2.2.2.2).bel) (by omega)).mono ?_
      rintro x wA ⟨rfl, hb⟩
      go_wp2_with fail
      refine hK.out _ _ (KEEP1.out _ _ hHeld hb) (fun hHeld2 => ?_)
      clear hK hHeld hb
      have hHeld := hHeld2
      clear hHeld2
      try simp only [Act.put, List.setIfInBounds_toArray, List.set_cons_zero, List.set_cons_succ]
      refine wpAnyH_ready (rs := [3, 7]) (by kernel_rfl) (by simp) ?_
      refine (AllReadyH.cons (o := { dst := some 41, op := Go.Op.call { callee := Go.Callee.value (Go.Operand.func 13), args := #[Go.Operand.tmp 38, Go.Operand.tmp 40], argTypes := #[34, 31] }, type := 39, pos := "law.go:211", after := #[{ on := 0, ground := Go.Ground.data }, { on := 2, ground := Go.Ground.data }, { on := 2, ground := Go.Ground.chain }], guard := none }) rfl (fun KK hK => ?_) (AllReadyH.cons (o := { dst := some 7, op := Go.Op.alloc 37, type := 0, pos := "law.go:211", after := #[], guard := none }) rfl (fun KK hK => ?_) AllReadyH.nil))
      ·
        go_simp
        with_reducible refine (HA1.out _ (TAB1.out _ hHeld)).mono ?_
        rintro x wB ⟨rfl, hb⟩
        go_wp2_with fail
        refine hK.out _ _ (KEEP1.out _ _ hHeld hb) (fun hHeld2 => ?_)
        clear hK hHeld hb
        have hHeld := hHeld2
        clear hHeld2
        try simp only [Act.put, List.setIfInBounds_toArray, List.set_cons_zero, List.set_cons_succ]
        refine wpAnyH_take (i := 4) (oi := { dst := some 37, op := Go.Op.move (Go.Operand.tmp 41), type := 39, pos := "law.go:211", after := #[{ on := 3, ground := Go.Ground.data }], guard := none }) (v := ?_) rfl (by kernel_rfl) (by kernel_rfl) (by kernel_rfl) (fun _ _ _ h => h) (Or.inl ⟨by rfl, ?_⟩) hHeld ?_
        case refine_2 => (intro w hSw; (try dsimp only at hSw); go_simp <;> with_reducible rfl)
        try simp only [Act.put, List.setIfInBounds_toArray, List.set_cons_zero, List.set_cons_succ]
        refine wpAnyH_take (i := 5) (oi := { dst := some 42, op := Go.Op.extract (Go.Operand.tmp 37) 0, type := 37, pos := "law.go:211", after := #[{ on := 4, ground := Go.Ground.data }], guard := none }) (v := ?_) rfl (by kernel_rfl) (by kernel_rfl) (by kernel_rfl) (fun _ _ _ h => h) (Or.inl ⟨by rfl, ?_⟩) hHeld ?_
        case refine_2 => (intro w hSw; (try dsimp only at hSw); go_simp <;> with_reducible rfl)
        try simp only [Act.put, List.setIfInBounds_toArray, List.set_cons_zero, List.set_cons_succ]
        refine wpAnyH_take (i := 6) (oi := { dst := some 43, op := Go.Op.extract (Go.Operand.tmp 37) 1, type := 38, pos := "law.go:211", after := #[{ on := 4, ground := Go.Ground.data }, { on := 8, ground := Go.Ground.gcOnly Go.Departure.lateStores }], guard := none }) (v := ?_) rfl (by kernel_rfl) (by kernel_rfl) (by kernel_rfl) (fun _ _ _ h => h) (Or.inl ⟨by rfl, ?_⟩) hHeld ?_
        case refine_2 => (intro w hSw; (try dsimp only at hSw); go_simp <;> with_reducible rfl)
        try simp only [Act.put, List.setIfInBounds_toArray, List.set_cons_zero, List.set_cons_succ]
        refine wpAnyH_ready (rs := [7]) (by kernel_rfl) (by simp) ?_
        refine (AllReadyH.cons (o := { dst := some 7, op := Go.Op.alloc 37, type := 0, pos := "law.go:211", after := #[], guard := none }) rfl (fun KK hK => ?_) AllReadyH.nil)
        have hH0 := hHeld
        go_simp
        refine hK.out _ _ (ALL1.out _ (HeldL.skip (hHeld.2.2.2.2.2.2.2.2.2.2.2) _)) (fun hHeld2 => ?_)
        clear hK hHeld
        have hHeld := hHeld2
        clear hHeld2
        try simp only [Act.put, List.setIfInBounds_toArray, List.set_cons_zero, List.set_cons_succ]
        refine wpAnyH_ready (rs := [8]) (by kernel_rfl) (by simp) ?_
        refine (AllReadyH.cons (o := { dst := none, op := Go.Op.store 37 (Go.Operand.tmp 7) (Go.Operand.tmp 42), type := 0, pos := "law.go:211", after := #[{ on := 7, ground := Go.Ground.data }, { on := 5, ground := Go.Ground.data }, { on := 3, ground := Go.Ground.chain }, { on := 0, ground := Go.Ground.phase }, { on := 1, ground := Go.Ground.phase }, { on := 2, ground := Go.Ground.phase }, { on := 3, ground := Go.Ground.phase }, { on := 4, ground := Go.Ground.phase }, { on := 5, ground := Go.Ground.phase }, { on := 6, ground := Go.Ground.textOnly Go.Departure.lateStores }, { on := 7, ground := Go.Ground.phase }], guard := none }) rfl (fun KK hK => ?_) AllReadyH.nil)
        go_simp
        refine hK.out _ _ (ALL1.out _ (HeldL.skip (hH0.2.2.2.2.2.2.2.2.2.2.2) _)) (fun hHeld2 => ?_)
        clear hK hHeld
        have hHeld := hHeld2
        clear hHeld2
        try simp only [Act.put, List.setIfInBounds_toArray, List.set_cons_zero, List.set_cons_succ]
        refine wpAnyH_take (i := 9) (oi := { dst := some 8, op := Go.Op.assign (Go.Operand.tmp 43), type := 38, pos := "law.go:211", after := #[{ on := 6, ground := Go.Ground.data }, { on := 8, ground := Go.Ground.chain }, { on := 0, ground := Go.Ground.phase }, { on := 1, ground := Go.Ground.phase }, { on := 2, ground := Go.Ground.phase }, { on := 3, ground := Go.Ground.phase }, { on := 4, ground := Go.Ground.phase }, { on := 5, ground := Go.Ground.phase }, { on := 6, ground := Go.Ground.phase }, { on := 7, ground := Go.Ground.phase }, { on := 8, ground := Go.Ground.phase }], guard := none }) (v := ?_) rfl (by kernel_rfl) (by kernel_rfl) (by kernel_rfl) (fun _ _ _ h => h) (Or.inl ⟨by rfl, ?_⟩) hHeld ?_
        case refine_2 => (intro w hSw; (try dsimp only at hSw); go_simp <;> with_reducible rfl)
        try simp only [Act.put, List.setIfInBounds_toArray, List.set_cons_zero, List.set_cons_succ]
        refine wpAnyH_done (by kernel_rfl) ?_ _
        go_wp2
        go_meet
        case rel => exact ⟨_, rfl, rfl, HeldL.alloc (hH0.2.2.2.2.2.2.2.2.2.2.2) _ _ _ rfl⟩
      ·
        go_simp
        have HN : Hid (HeldL w ((wA.heap.size, #[.bool false, .string ⟨#[]⟩, .string ⟨#[]⟩]) :: [(w3.heap.size + 1, #[.int .i64 p.kind, .int .i64 (p.mn + 1), .int .i64 p.mx, .bool p.inc.neg, S p.inc.l, .int .i64 p.inc.e, .int .i64 p.mode, .int .i64 (max p.mi 1)]), (w3.heap.size, #[.int .i64 p.kind, .int .i64 p.mn, .int .i64 p.mx, .bool p.inc.neg, S p.inc.l, .int .i64 p.inc.e, .int .i64 p.mode, .int .i64 (max p.mi 1)]), (w.heap.size + 1, #[.int .i64 k0, .int .i64 k1, .int .i64 k2, .int .i64 k3, .int .i64 k4, .int .i64 k5, .int .i64 k6]), (w.heap.size, #[.bool n, .slice a len cap, .int .i64 e])]) _) := Lib.hid (HeldL.alloc (hHeld.2.2.2.2.2.2.2.2.2.2.2) (wA.heap.size) #[.bool false, .string ⟨#[]⟩, .string ⟨#[]⟩] 37 (by first | rfl | simp))
        refine hK.out _ _ (ALL1.out _ (HeldL.tl HN.out)) (fun hHeld2 => ?_)
        clear hK hHeld
        have hHeld := hHeld2
        clear hHeld2
        try simp only [Act.put, List.setIfInBounds_toArray, List.set_cons_zero, List.set_cons_succ]
        refine wpAnyH_ready (rs := [3]) (by kernel_rfl) (by simp) ?_
        refine (AllReadyH.cons (o := { dst := some 41, op := Go.Op.call { callee := Go.Callee.value (Go.Operand.func 13), args := #[Go.Operand.tmp 38, Go.Operand.tmp 40], argTypes := #[34, 31] }, type := 39, pos := "law.go:211", after := #[{ on := 0, ground := Go.Ground.data }, { on := 2, ground := Go.Ground.data }, { on := 2, ground := Go.Ground.chain }], guard := none }) rfl (fun KK hK => ?_) AllReadyH.nil)
        go_simp
        with_reducible refine (HA1.out _ (TAB1.out _ hHeld)).mono ?_
        rintro x wB ⟨rfl, hb⟩
        go_wp2_with fail
        refine hK.out _ _ (KEEP1.out _ _ hHeld hb) (fun hHeld2 => ?_)
        have HM : Hid (HeldL w ((wA.heap.size, #[.bool false, .string ⟨#[]⟩, .string ⟨#[]⟩]) :: [(w3.heap.size + 1, #[.int .i64 p.kind, .int .i64 (p.mn + 1), .int .i64 p.mx, .bool p.inc.neg, S p.inc.l, .int .i64 p.inc.e, .int .i64 p.mode, .int .i64 (max p.mi 1)]), (w3.heap.size, #[.int .i64 p.kind, .int .i64 p.mn, .int .i64 p.mx, .bool p.inc.neg, S p.inc.l, .int .i64 p.inc.e, .int .i64 p.mode, .int .i64 (max p.mi 1)]), (w.heap.size + 1, #[.int .i64 k0, .int .i64 k1, .int .i64 k2, .int .i64 k3, .int .i64 k4, .int .i64 k5, .int .i64 k6]), (w.heap.size, #[.bool n, .slice a len cap, .int .i64 e])]) wB) := Lib.hid (HeldL.keep HN.out hb)
        clear HN
        have HN := HM
        clear HM
        clear hK hHeld hb
        have hHeld := hHeld2
        clear hHeld2
        try simp only [Act.put, List.setIfInBounds_toArray, List.set_cons_zero, List.set_cons_succ]
        refine wpAnyH_take (i := 4) (oi := { dst := some 37, op := Go.Op.move (Go.Operand.tmp 41), type := 39, pos := "law.go:211", after := #[{ on := 3, ground := Go.Ground.data }], guard := none }) (v := ?_) rfl (by kernel_rfl) (by kernel_rfl) (by kernel_rfl) (fun _ _ _ h => h) (Or.inl ⟨by rfl, ?_⟩) hHeld ?_
        case refine_2 => (intro w hSw; (try dsimp only at hSw); go_simp <;> with_reducible rfl)
        try simp only [Act.put, List.setIfInBounds_toArray, List.set_cons_zero, List.set_cons_succ]
        refine wpAnyH_take (i := 5) (oi := { dst := some 42, op := Go.Op.extract (Go.Operand.tmp 37) 0, type := 37, pos := "law.go:211", after := #[{ on := 4, ground := Go.Ground.data }], guard := none }) (v := ?_) rfl (by kernel_rfl) (by kernel_rfl) (by kernel_rfl) (fun _ _ _ h => h) (Or.inl ⟨by rfl, ?_⟩) hHeld ?_
        case refine_2 => (intro w hSw; (try dsimp only at hSw); go_simp <;> with_reducible rfl)
        try simp only [Act.put, List.setIfInBounds_toArray, List.set_cons_zero, List.set_cons_succ]
        refine wpAnyH_take (i := 6) (oi := { dst := some 43, op := Go.Op.extract (Go.Operand.tmp 37) 1, type := 38, pos := "law.go:211", after := #[{ on := 4, ground := Go.Ground.data }, { on := 8, ground := Go.Ground.gcOnly Go.Departure.lateStores }], guard := none }) (v := ?_) rfl (by kernel_rfl) (by kernel_rfl) (by kernel_rfl) (fun _ _ _ h => h) (Or.inl ⟨by rfl, ?_⟩) hHeld ?_
        case refine_2 => (intro w hSw; (try dsimp only at hSw); go_simp <;> with_reducible rfl)
        try simp only [Act.put, List.setIfInBounds_toArray, List.set_cons_zero, List.set_cons_succ]
        refine wpAnyH_ready (rs := [8]) (by kernel_rfl) (by simp) ?_
        refine (AllReadyH.cons (o := { dst := none, op := Go.Op.store 37 (Go.Operand.tmp 7) (Go.Operand.tmp 42), type := 0, pos := "law.go:211", after := #[{ on := 7, ground := Go.Ground.data }, { on := 5, ground := Go.Ground.data }, { on := 3, ground := Go.Ground.chain }, { on := 0, ground := Go.Ground.phase }, { on := 1, ground := Go.Ground.phase }, { on := 2, ground := Go.Ground.phase }, { on := 3, ground := Go.Ground.phase }, { on := 4, ground := Go.Ground.phase }, { on := 5, ground := Go.Ground.phase }, { on := 6, ground := Go.Ground.textOnly Go.Departure.lateStores }, { on := 7, ground := Go.Ground.phase }], guard := none }) rfl (fun KK hK => ?_) AllReadyH.nil)
        obtain ⟨nn0, nn1, nn2, nnz0, nnz1, nnz2, nnl⟩ := (HN.out.f (List.Mem.head _)).three
        go_simp
        refine hK.out _ _ (ALL1.out _ (HeldL.tl (HeldL.store3 [] [(w3.heap.size + 1, #[.int .i64 p.kind, .int .i64 (p.mn + 1), .int .i64 p.mx, .bool p.inc.neg, S p.inc.l, .int .i64 p.inc.e, .int .i64 p.mode, .int .i64 (max p.mi 1)]), (w3.heap.size, #[.int .i64 p.kind, .int .i64 p.mn, .int .i64 p.mx, .bool p.inc.neg, S p.inc.l, .int .i64 p.inc.e, .int .i64 p.mode, .int .i64 (max p.mi 1)]), (w.heap.size + 1, #[.int .i64 k0, .int .i64 k1, .int .i64 k2, .int .i64 k3, .int .i64 k4, .int .i64 k5, .int .i64 k6]), (w.heap.size, #[.bool n, .slice a len cap, .int .i64 e])] HN.out (.bool vn) (S vi) (S vf)))) (fun hHeld2 => ?_)
        clear hK hHeld
        have hHeld := hHeld2
        clear hHeld2
        try simp only [Act.put, List.setIfInBounds_toArray, List.set_cons_zero, List.set_cons_succ]
        refine wpAnyH_take (i := 9) (oi := { dst := some 8, op := Go.Op.assign (Go.Operand.tmp 43), type := 38, pos := "law.go:211", after := #[{ on := 6, ground := Go.Ground.data }, { on := 8, ground := Go.Ground.chain }, { on := 0, ground := Go.Ground.phase }, { on := 1, ground := Go.Ground.phase }, { on := 2, ground := Go.Ground.phase }, { on := 3, ground := Go.Ground.phase }, { on := 4, ground := Go.Ground.phase }, { on := 5, ground := Go.Ground.phase }, { on := 6, ground := Go.Ground.phase }, { on := 7, ground := Go.Ground.phase }, { on := 8, ground := Go.Ground.phase }], guard := none }) (v := ?_) rfl (by kernel_rfl) (by kernel_rfl) (by kernel_rfl) (fun _ _ _ h => h) (Or.inl ⟨by rfl, ?_⟩) hHeld ?_
        case refine_2 => (intro w hSw; (try dsimp only at hSw); go_simp <;> with_reducible rfl)
        try simp only [Act.put, List.setIfInBounds_toArray, List.set_cons_zero, List.set_cons_succ]
        refine wpAnyH_done (by kernel_rfl) ?_ _
        go_wp2
        go_meet
        case rel => exact ⟨_, rfl, rfl, HeldL.store3 [] [(w3.heap.size + 1, #[.int .i64 p.kind, .int .i64 (p.mn + 1), .int .i64 p.mx, .bool p.inc.neg, S p.inc.l, .int .i64 p.inc.e, .int .i64 p.mode, .int .i64 (max p.mi 1)]), (w3.heap.size, #[.int .i64 p.kind, .int .i64 p.mn, .int .i64 p.mx, .bool p.inc.neg, S p.inc.l, .int .i64 p.inc.e, .int .i64 p.mode, .int .i64 (max p.mi 1)]), (w.heap.size + 1, #[.int .i64 k0, .int .i64 k1, .int .i64 k2, .int .i64 k3, .int .i64 k4, .int .i64 k5, .int .i64 k6]), (w.heap.size, #[.bool n, .slice a len cap, .int .i64 e])] HN.out (.bool vn) (S vi) (S vf)⟩
    ·
      go_simp
      have HN : Hid (HeldL w ((w3.heap.size + 1 + 1, #[.bool false, .string ⟨#[]⟩, .string ⟨#[]⟩]) :: [(w3.heap.size + 1, #[.int .i64 p.kind, .int .i64 (p.mn + 1), .int .i64 p.mx, .bool p.inc.neg, S p.inc.l, .int .i64 p.inc.e, .int .i64 p.mode, .int .i64 (max p.mi 1)]), (w3.heap.size, #[.int .i64 p.kind, .int .i64 p.mn, .int .i64 p.mx, .bool p.inc.neg, S p.inc.l, .int .i64 p.inc.e, .int .i64 p.mode, .int .i64 (max p.mi 1)]), (w.heap.size + 1, #[.int .i64 k0, .int .i64 k1, .int .i64 k2, .int .i64 k3, .int .i64 k4, .int .i64 k5, .int .i64 k6]), (w.heap.size, #[.bool n, .slice a len cap, .int .i64 e])]) _) := Lib.hid (HeldL.alloc (hHeld.2.2.2.2.2.2.2.2.2.2.2) (w3.heap.size + 1 + 1) #[.bool false, .string ⟨#[]⟩, .string ⟨#[]⟩] 37 (by first | rfl | simp))
      refine hK.out _ _ (ALL1.out _ (HeldL.tl HN.out)) (fun hHeld2 => ?_)
      clear hK hHeld
      have hHeld := hHeld2
      clear hHeld2
      try simp only [Act.put, List.setIfInBounds_toArray, List.set_cons_zero, List.set_cons_succ]
      refine wpAnyH_ready (rs := [2]) (by kernel_rfl) (by simp) ?_
      refine (AllReadyH.cons (o := { dst := some 40, op := Go.Op.call { callee := Go.Callee.value (Go.Operand.func 14), args := #[Go.Operand.tmp 39], argTypes := #[24] }, type := 31, pos := "law.go:211", after := #[{ on := 1, ground := Go.Ground.data }], guard := none }) rfl (fun KK hK => ?_) AllReadyH.nil)
      go_simp
      with_reducible refine (make_as n a len cap L e _ (HIN.out.below (hHeld.2.2.2.2.2.2.2.2.2.2.2).bel) (by omega)).mono ?_
      rintro x wA ⟨rfl, hb⟩
      go_wp2_with fail
      refine hK.out _ _ (KEEP1.out _ _ hHeld hb) (fun hHeld2 => ?_)
      have HM : Hid (HeldL w ((w3.heap.size + 1 + 1, #[.bool false, .string ⟨#[]⟩, .string ⟨#[]⟩]) :: [(w3.heap.size + 1, #[.int .i64 p.kind, .int .i64 (p.mn + 1), .int .i64 p.mx, .bool p.inc.neg, S p.inc.l, .int .i64 p.inc.e, .int .i64 p.mode, .int .i64 (max p.mi 1)]), (w3.heap.size, #[.int .i64 p.kind, .int .i64 p.mn, .int .i64 p.mx, .bool p.inc.neg, S p.inc.l, .int .i64 p.inc.e, .int .i64 p.mode, .int .i64 (max p.mi 1)]), (w.heap.size + 1, #[.int .i64 k0, .int .i64 k1, .int .i64 k2, .int .i64 k3, .int .i64 k4, .int .i64 k5, .int .i64 k6]), (w.heap.size, #[.bool n, .slice a len cap, .int .i64 e])]) wA) := Lib.hid (HeldL.keep HN.out hb)
      clear HN
      have HN := HM
      clear HM
      clear hK hHeld hb
      have hHeld := hHeld2
      clear hHeld2
      try simp only [Act.put, List.setIfInBounds_toArray, List.set_cons_zero, List.set_cons_succ]
      refine wpAnyH_ready (rs := [3]) (by kernel_rfl) (by simp) ?_
      refine (AllReadyH.cons (o := { dst := some 41, op := Go.Op.call { callee := Go.Callee.value (Go.Operand.func 13), args := #[Go.Operand.tmp 38, Go.Operand.tmp 40], argTypes := #[34, 31] }, type := 39, pos := "law.go:211", after := #[{ on := 0, ground := Go.Ground.data }, { on := 2, ground := Go.Ground.data }, { on := 2, ground := Go.Ground.chain }], guard := none }) rfl (fun KK hK => ?_) AllReadyH.nil)
      go_simp
      with_reducible refine (HA1.out _ (TAB1.out _ hHeld)).mono ?_
      rintro x wB ⟨rfl, hb⟩
      go_wp2_with fail
      refine hK.out _ _ (KEEP1.out _ _ hHeld hb) (fun hHeld2 => ?_)
      have HM : Hid (HeldL w ((w3.heap.size + 1 + 1, #[.bool false, .string ⟨#[]⟩, .string ⟨#[]⟩]) :: [(w3.heap.size + 1, #[.int .i64 p.kind, .int .i64 (p.mn + 1), .int .i64 p.mx, .bool p.inc.neg, S p.inc.l, .int .i64 p.inc.e, .int .i64 p.mode, .int .i64 (max p.mi 1)]), (w3.heap.size, #[.int .i64 p.kind, .int .i64 p.mn, .int .i64 p.mx, .bool p.inc.neg, S p.inc.l, .int .i64 p.inc.e, .int .i64 p.mode, .int .i64 (max p.mi 1)]), (w.heap.size + 1, #[.int .i64 k0, .int .i64 k1, .int .i64 k2, .int .i64 k3, .int .i64 k4, .int .i64 k5, .int .i64 k6]), (w.heap.size, #[.bool n, .slice a len cap, .int .i64 e])]) wB) := Lib.hid (HeldL.keep HN.out hb)
      clear HN
      have HN := HM
      clear HM
      clear hK hHeld hb
      have hHeld := hHeld2
      clear hHeld2
      try simp only [Act.put, List.setIfInBounds_toArray, List.set_cons_zero, List.set_cons_succ]
      refine wpAnyH_take (i := 4) (oi := { dst := some 37, op := Go.Op.move (Go.Operand.tmp 41), type := 39, pos := "law.go:211", after := #[{ on := 3, ground := Go.Ground.data }], guard := none }) (v := ?_) rfl (by kernel_rfl) (by kernel_rfl) (by kernel_rfl) (fun _ _ _ h => h) (Or.inl ⟨by rfl, ?_⟩) hHeld ?_
      case refine_2 => (intro w hSw; (try dsimp only at hSw); go_simp <;> with_reducible rfl)
      try simp only [Act.put, List.setIfInBounds_toArray, List.set_cons_zero, List.set_cons_succ]
      refine wpAnyH_take (i := 5) (oi := { dst := some 42, op := Go.Op.extract (Go.Operand.tmp 37) 0, type := 37, pos := "law.go:211", after := #[{ on := 4, ground := Go.Ground.data }], guard := none }) (v := ?_) rfl (by kernel_rfl) (by kernel_rfl) (by kernel_rfl) (fun _ _ _ h => h) (Or.inl ⟨by rfl, ?_⟩) hHeld ?_
      case refine_2 => (intro w hSw; (try dsimp only at hSw); go_simp <;> with_reducible rfl)
      try simp only [Act.put, List.setIfInBounds_toArray, List.set_cons_zero, List.set_cons_succ]
      refine wpAnyH_take (i := 6) (oi := { dst := some 43, op := Go.Op.extract (Go.Operand.tmp 37) 1, type := 38, pos := "law.go:211", after := #[{ on := 4, ground := Go.Ground.data }, { on := 8, ground := Go.Ground.gcOnly Go.Departure.lateStores }], guard := none }) (v := ?_) rfl (by kernel_rfl) (by kernel_rfl) (by kernel_rfl) (fun _ _ _ h => h) (Or.inl ⟨by rfl, ?_⟩) hHeld ?_
      case refine_2 => (intro w hSw; (try dsimp only at hSw); go_simp <;> with_reducible rfl)
      try simp only [Act.put, List.setIfInBounds_toArray, List.set_cons_zero, List.set_cons_succ]
      refine wpAnyH_ready (rs := [8]) (by kernel_rfl) (by simp) ?_
      refine (AllReadyH.cons (o := { dst := none, op := Go.Op.store 37 (Go.Operand.tmp 7) (Go.Operand.tmp 42), type := 0, pos := "law.go:211", after := #[{ on := 7, ground := Go.Ground.data }, { on := 5, ground := Go.Ground.data }, { on := 3, ground := Go.Ground.chain }, { on := 0, ground := Go.Ground.phase }, { on := 1, ground := Go.Ground.phase }, { on := 2, ground := Go.Ground.phase }, { on := 3, ground := Go.Ground.phase }, { on := 4, ground := Go.Ground.phase }, { on := 5, ground := Go.Ground.phase }, { on := 6, ground := Go.Ground.textOnly Go.Departure.lateStores }, { on := 7, ground := Go.Ground.phase }], guard := none }) rfl (fun KK hK => ?_) AllReadyH.nil)
      obtain ⟨nn0, nn1, nn2, nnz0, nnz1, nnz2, nnl⟩ := (HN.out.f (List.Mem.head _)).three
      go_simp
      refine hK.out _ _ (ALL1.out _ (HeldL.tl (HeldL.store3 [] [(w3.heap.size + 1, #[.int .i64 p.kind, .int .i64 (p.mn + 1), .int .i64 p.mx, .bool p.inc.neg, S p.inc.l, .int .i64 p.inc.e, .int .i64 p.mode, .int .i64 (max p.mi 1)]), (w3.heap.size, #[.int .i64 p.kind, .int .i64 p.mn, .int .i64 p.mx, .bool p.inc.neg, S p.inc.l, .int .i64 p.inc.e, .int .i64 p.mode, .int .i64 (max p.mi 1)]), (w.heap.size + 1, #[.int .i64 k0, .int .i64 k1, .int .i64 k2, .int .i64 k3, .int .i64 k4, .int .i64 k5, .int .i64 k6]), (w.heap.size, #[.bool n, .slice a len cap, .int .i64 e])] HN.out (.bool vn) (S vi) (S vf)))) (fun hHeld2 => ?_)
      clear hK hHeld
      have hHeld := hHeld2
      clear hHeld2
      try simp only [Act.put, List.setIfInBounds_toArray, List.set_cons_zero, List.set_cons_succ]
      refine wpAnyH_take (i := 9) (oi := { dst := some 8, op := Go.Op.assign (Go.Operand.tmp 43), type := 38, pos := "law.go:211", after := #[{ on := 6, ground := Go.Ground.data }, { on := 8, ground := Go.Ground.chain }, { on := 0, ground := Go.Ground.phase }, { on := 1, ground := Go.Ground.phase }, { on := 2, ground := Go.Ground.phase }, { on := 3, ground := Go.Ground.phase }, { on := 4, ground := Go.Ground.phase }, { on := 5, ground := Go.Ground.phase }, { on := 6, ground := Go.Ground.phase }, { on := 7, ground := Go.Ground.phase }, { on := 8, ground := Go.Ground.phase }], guard := none }) (v := ?_) rfl (by kernel_rfl) (by kernel_rfl) (by kernel_rfl) (fun _ _ _ h => h) (Or.inl ⟨by rfl, ?_⟩) hHeld ?_
      case refine_2 => (intro w hSw; (try dsimp only at hSw); go_simp <;> with_reducible rfl)
      try simp only [Act.put, List.setIfInBounds_toArray, List.set_cons_zero, List.set_cons_succ]
      refine wpAnyH_done (by kernel_rfl) ?_ _
      go_wp2
      go_meet
      case rel => exact ⟨_, rfl, rfl, HeldL.store3 [] [(w3.heap.size + 1, #[.int .i64 p.kind, .int .i64 (p.mn + 1), .int .i64 p.mx, .bool p.inc.neg, S p.inc.l, .int .i64 p.inc.e, .int .i64 p.mode, .int .i64 (max p.mi 1)]), (w3.heap.size, #[.int .i64 p.kind, .int .i64 p.mn, .int .i64 p.mx, .bool p.inc.neg, S p.inc.l, .int .i64 p.inc.e, .int .i64 p.mode, .int .i64 (max p.mi 1)]), (w.heap.size + 1, #[.int .i64 k0, .int .i64 k1, .int .i64 k2, .int .i64 k3, .int .i64 k4, .int .i64 k5, .int .i64 k6]), (w.heap.size, #[.bool n, .slice a len cap, .int .i64 e])] HN.out (.bool vn) (S vi) (S vf)⟩
  case rest =>
  clear q0 q1 q2 ql
  obtain ⟨b4, hvp, hve, hh⟩ := hcut
  subst hvp hve
  have H4 : Hid (HeldL w ((b4, #[.bool vn, S vi, S vf]) :: [(w3.heap.size + 1, #[.int .i64 p.kind, .int .i64 (p.mn + 1), .int .i64 p.mx, .bool p.inc.neg, S p.inc.l, .int .i64 p.inc.e, .int .i64 p.mode, .int .i64 (max p.mi 1)]), (w3.heap.size, #[.int .i64 p.kind, .int .i64 p.mn, .int .i64 p.mx, .bool p.inc.neg, S p.inc.l, .int .i64 p.inc.e, .int .i64 p.mode, .int .i64 (max p.mi 1)]), (w.heap.size + 1, #[.int .i64 k0, .int .i64 k1, .int .i64 k2, .int .i64 k3, .int .i64 k4, .int .i64 k5, .int .i64 k6]), (w.heap.size, #[.bool n, .slice a len cap, .int .i64 e])]) wc) := Lib.hid hh
  clear hh H3
  generalize wc = w4 at *
  go_upto_region 12 with fail
  go_cut [9, 10] from 11 (fun vp ve w' => ∃ b : Nat, vp = .pointer (some ⟨b, 0, none⟩) ∧ ve = .int .i64 0 ∧ HeldL w ((b, #[.bool vn, S vi, S wf]) :: [(b4, #[.bool vn, S vi, S vf]), (w3.heap.size + 1, #[.int .i64 p.kind, .int .i64 (p.mn + 1), .int .i64 p.mx, .bool p.inc.neg, S p.inc.l, .int .i64 p.inc.e, .int .i64 p.mode, .int .i64 (max p.mi 1)]), (w3.heap.size, #[.int .i64 p.kind, .int .i64 p.mn, .int .i64 p.mx, .bool p.inc.neg, S p.inc.l, .int .i64 p.inc.e, .int .i64 p.mode, .int .i64 (max p.mi 1)]), (w.heap.size + 1, #[.int .i64 k0, .int .i64 k1, .int .i64 k2, .int .i64 k3, .int .i64 k4, .int .i64 k5, .int .i64 k6]), (w.heap.size, #[.bool n, .slice a len cap, .int .i64 e])]) w')
  case first =>
    have ALL2 : Hid (∀ w' : World, HeldL w [(b4, #[.bool vn, S vi, S vf]), (w3.heap.size + 1, #[.int .i64 p.kind, .int .i64 (p.mn + 1), .int .i64 p.mx, .bool p.inc.neg, S p.inc.l, .int .i64 p.inc.e, .int .i64 p.mode, .int .i64 (max p.mi 1)]), (w3.heap.size, #[.int .i64 p.kind, .int .i64 p.mn, .int .i64 p.mx, .bool p.inc.neg, S p.inc.l, .int .i64 p.inc.e, .int .i64 p.mode, .int .i64 (max p.mi 1)]), (w.heap.size + 1, #[.int .i64 k0, .int .i64 k1, .int .i64 k2, .int .i64 k3, .int .i64 k4, .int .i64 k5, .int .i64 k6]), (w.heap.size, #[.bool n, .slice a len cap, .int .i64 e])] w' → w'.cell? ⟨w3.heap.size + 1, 0, none⟩ = some (.int .i64 p.kind) ∧ w'.cell? ⟨w3.heap.size + 1, 1, none⟩ = some (.int .i64 (p.mn + 1)) ∧ w'.cell? ⟨w3.heap.size + 1, 2, none⟩ = some (.int .i64 p.mx) ∧ w'.cell? ⟨w3.heap.size + 1, 3, none⟩ = some (.bool p.inc.neg) ∧ w'.cell? ⟨w3.heap.size + 1, 4, none⟩ = some (S p.inc.l) ∧ w'.cell? ⟨w3.heap.size + 1, 5, none⟩ = some (.int .i64 p.inc.e) ∧ w'.cell? ⟨w3.heap.size + 1, 6, none⟩ = some (.int .i64 p.mode) ∧ w'.cell? ⟨w3.heap.size + 1, 7, none⟩ = some (.int .i64 (max p.mi 1)) ∧ w'.cell? ⟨w.heap.size, 0, none⟩ = some (.bool n) ∧ w'.cell? ⟨w.heap.size, 1, none⟩ = some (.slice a len cap) ∧ w'.cell? ⟨w.heap.size, 2, none⟩ = some (.int .i64 e) ∧ HeldL w [(b4, #[.bool vn, S vi, S vf]), (w3.heap.size + 1, #[.int .i64 p.kind, .int .i64 (p.mn + 1), .int .i64 p.mx, .bool p.inc.neg, S p.inc.l, .int .i64 p.inc.e, .int .i64 p.mode, .int .i64 (max p.mi 1)]), (w3.heap.size, #[.int .i64 p.kind, .int .i64 p.mn, .int .i64 p.mx, .bool p.inc.neg, S p.inc.l, .int .i64 p.inc.e, .int .i64 p.mode, .int .i64 (max p.mi 1)]), (w.heap.size + 1, #[.int .i64 k0, .int .i64 k1, .int .i64 k2, .int .i64 k3, .int .i64 k4, .int .i64 k5, .int .i64 k6]), (w.heap.size, #[.bool n, .slice a len cap, .int .i64 e])] w') := Lib.hid (fun w' h => ⟨(h.f (List.Mem.tail _ (List.Mem.head _))).cell 0, (h.f (List.Mem.tail _ (List.Mem.head _))).cell 1, (h.f (List.Mem.tail _ (List.Mem.head _))).cell 2, (h.f (List.Mem.tail _ (List.Mem.head _))).cell 3, (h.f (List.Mem.tail _ (List.Mem.head _))).cell 4, (h.f (List.Mem.tail _ (List.Mem.head _))).cell 5, (h.f (List.Mem.tail _ (List.Mem.head _))).cell 6, (h.f (List.Mem.tail _ (List.Mem.head _))).cell 7, (h.f (List.Mem.tail _ (List.Mem.tail _ (List.Mem.tail _ (List.Mem.tail _ (List.Mem.head _)))))).cell 0, (h.f (List.Mem.tail _ (List.Mem.tail _ (List.Mem.tail _ (List.Mem.tail _ (List.Mem.head _)))))).cell 1, (h.f (List.Mem.tail _ (List.Mem.tail _ (List.Mem.tail _ (List.Mem.tail _ (List.Mem.head _)))))).cell 2, h⟩)
    have KEEP2 : Hid (∀ w' w'' : World, (w'.cell? ⟨w3.heap.size + 1, 0, none⟩ = some (.int .i64 p.kind) ∧ w'.cell? ⟨w3.heap.size + 1, 1, none⟩ = some (.int .i64 (p.mn + 1)) ∧ w'.cell? ⟨w3.heap.size + 1, 2, none⟩ = some (.int .i64 p.mx) ∧ w'.cell? ⟨w3.heap.size + 1, 3, none⟩ = some (.bool p.inc.neg) ∧ w'.cell? ⟨w3.heap.size + 1, 4, none⟩ = some (S p.inc.l) ∧ w'.cell? ⟨w3.heap.size + 1, 5, none⟩ = some (.int .i64 p.inc.e) ∧ w'.cell? ⟨w3.heap.size + 1, 6, none⟩ = some (.int .i64 p.mode) ∧ w'.cell? ⟨w3.heap.size + 1, 7, none⟩ = some (.int .i64 (max p.mi 1)) ∧ w'.cell? ⟨w.heap.size, 0, none⟩ = some (.bool n) ∧ w'.cell? ⟨w.heap.size, 1, none⟩ = some (.slice a len cap) ∧ w'.cell? ⟨w.heap.size, 2, none⟩ = some (.int .i64 e) ∧ HeldL w [(b4, #[.bool vn, S vi, S vf]), (w3.heap.size + 1, #[.int .i64 p.kind, .int .i64 (p.mn + 1), .int .i64 p.mx, .bool p.inc.neg, S p.inc.l, .int .i64 p.inc.e, .int .i64 p.mode, .int .i64 (max p.mi 1)]), (w3.heap.size, #[.int .i64 p.kind, .int .i64 p.mn, .int .i64 p.mx, .bool p.inc.neg, S p.inc.l, .int .i64 p.inc.e, .int .i64 p.mode, .int .i64 (max p.mi 1)]), (w.heap.size + 1, #[.int .i64 k0, .int .i64 k1, .int .i64 k2, .int .i64 k3, .int .i64 k4, .int .i64 k5, .int .i64 k6]), (w.heap.size, #[.bool n, .slice a len cap, .int .i64 e])] w') → Below w'.heap.size w' w'' → (w''.cell? ⟨w3.heap.size + 1, 0, none⟩ = some (.int .i64 p.kind) ∧ w''.cell? ⟨w3.heap.size + 1, 1, none⟩ = some (.int .i64 (p.mn + 1)) ∧ w''.cell? ⟨w3.heap.size + 1, 2, none⟩ = some (.int .i64 p.mx) ∧ w''.cell? ⟨w3.heap.size + 1, 3, none⟩ = some (.bool p.inc.neg) ∧ w''.cell? ⟨w3.heap.size + 1, 4, none⟩ = some (S p.inc.l) ∧ w''.cell? ⟨w3.heap.size + 1, 5, none⟩ = some (.int .i64 p.inc.e) ∧ w''.cell? ⟨w3.heap.size + 1, 6, none⟩ = some (.int .i64 p.mode) ∧ w''.cell? ⟨w3.heap.size + 1, 7, none⟩ = some (.int .i64 (max p.mi 1)) ∧ w''.cell? ⟨w.heap.size, 0, none⟩ = some (.bool n) ∧ w''.cell? ⟨w.heap.size, 1, none⟩ = some (.slice a len cap) ∧ w''.cell? ⟨w.heap.size, 2, none⟩ = some (.int .i64 e) ∧ HeldL w [(b4, #[.bool vn, S vi, S vf]), (w3.heap.size + 1, #[.int .i64 p.kind, .int .i64 (p.mn + 1), .int .i64 p.mx, .bool p.inc.neg, S p.inc.l, .int .i64 p.inc.e, .int .i64 p.mode, .int .i64 (max p.mi 1)]), (w3.heap.size, #[.int .i64 p.kind, .int .i64 p.mn, .int .i64 p.mx, .bool p.inc.neg, S p.inc.l, .int .i64 p.inc.e, .int .i64 p.mode, .int .i64 (max p.mi 1)]), (w.heap.size + 1, #[.int .i64 k0, .int .i64 k1, .int .i64 k2, .int .i64 k3, .int .i64 k4, .int .i64 k5, .int .i64 k6]), (w.heap.size, #[.bool n, .slice a len cap, .int .i64 e])] w'')) := Lib.hid (fun w' w'' h hb => ALL2.out _ (HeldL.keep (h.2.2.2.2.2.2.2.2.2.2.2) hb))
    have TAB2 : Hid (∀ w' : World, (w'.cell? ⟨w3.heap.size + 1, 0, none⟩ = some (.int .i64 p.kind) ∧ w'.cell? ⟨w3.heap.size + 1, 1, none⟩ = some (.int .i64 (p.mn + 1)) ∧ w'.cell? ⟨w3.heap.size + 1, 2, none⟩ = some (.int .i64 p.mx) ∧ w'.cell? ⟨w3.heap.size + 1, 3, none⟩ = some (.bool p.inc.neg) ∧ w'.cell? ⟨w3.heap.size + 1, 4, none⟩ = some (S p.inc.l) ∧ w'.cell? ⟨w3.heap.size + 1, 5, none⟩ = some (.int .i64 p.inc.e) ∧ w'.cell? ⟨w3.heap.size + 1, 6, none⟩ = some (.int .i64 p.mode) ∧ w'.cell? ⟨w3.heap.size + 1, 7, none⟩ = some (.int .i64 (max p.mi 1)) ∧ w'.cell? ⟨w.heap.size, 0, none⟩ = some (.bool n) ∧ w'.cell? ⟨w.heap.size, 1, none⟩ = some (.slice a len cap) ∧ w'.cell? ⟨w.heap.size, 2, none⟩ = some (.int .i64 e) ∧ HeldL w [(b4, #[.bool vn, S vi, S vf]), (w3.heap.size + 1, #[.int .i64 p.kind, .int .i64 (p.mn + 1), .int .i64 p.mx, .bool p.inc.neg, S p.inc.l, .int .i64 p.inc.e, .int .i64 p.mode, .int .i64 (max p.mi 1)]), (w3.heap.size, #[.int .i64 p.kind, .int .i64 p.mn, .int .i64 p.mx, .bool p.inc.neg, S p.inc.l, .int .i64 p.inc.e, .int .i64 p.mode, .int .i64 (max p.mi 1)]), (w.heap.size + 1, #[.int .i64 k0, .int .i64 k1, .int .i64 k2, .int .i64 k3, .int .i64 k4, .int .i64 k5, .int .i64 k6]), (w.heap.size, #[.bool n, .slice a len cap, .int .i64 e])] w') → Tab w') := Lib.hid (fun w' h => HT.out.below (h.2.2.2.2.2.2.2.2.2.2.2).bel)
    have HS2 : Hid (HeldL w [(b4, #[.bool vn, S vi, S vf]), (w3.heap.size + 1, #[.int .i64 p.kind, .int .i64 (p.mn + 1), .int .i64 p.mx, .bool p.inc.neg, S p.inc.l, .int .i64 p.inc.e, .int .i64 p.mode, .int .i64 (max p.mi 1)]), (w3.heap.size, #[.int .i64 p.kind, .int .i64 p.mn, .int .i64 p.mx, .bool p.inc.neg, S p.inc.l, .int .i64 p.inc.e, .int .i64 p.mode, .int .i64 (max p.mi 1)]), (w.heap.size + 1, #[.int .i64 k0, .int .i64 k1, .int .i64 k2, .int .i64 k3, .int .i64 k4, .int .i64 k5, .int .i64 k6]), (w.heap.size, #[.bool n, .slice a len cap, .int .i64 e])] _) := Lib.hid H4.out
    refine wp_region_held_drew (S := fun w' => w'.cell? ⟨w3.heap.size + 1, 0, none⟩ = some (.int .i64 p.kind) ∧ w'.cell? ⟨w3.heap.size + 1, 1, none⟩ = some (.int .i64 (p.mn + 1)) ∧ w'.cell? ⟨w3.heap.size + 1, 2, none⟩ = some (.int .i64 p.mx) ∧ w'.cell? ⟨w3.heap.size + 1, 3, none⟩ = some (.bool p.inc.neg) ∧ w'.cell? ⟨w3.heap.size + 1, 4, none⟩ = some (S p.inc.l) ∧ w'.cell? ⟨w3.heap.size + 1, 5, none⟩ = some (.int .i64 p.inc.e) ∧ w'.cell? ⟨w3.heap.size + 1, 6, none⟩ = some (.int .i64 p.mode) ∧ w'.cell? ⟨w3.heap.size + 1, 7, none⟩ = some (.int .i64 (max p.mi 1)) ∧ w'.cell? ⟨w.heap.size, 0, none⟩ = some (.bool n) ∧ w'.cell? ⟨w.heap.size, 1, none⟩ = some (.slice a len cap) ∧ w'.cell? ⟨w.heap.size, 2, none⟩ = some (.int .i64 e) ∧ HeldL w [(b4, #[.bool vn, S vi, S vf]), (w3.heap.size + 1, #[.int .i64 p.kind, .int .i64 (p.mn + 1), .int .i64 p.mx, .bool p.inc.neg, S p.inc.l, .int .i64 p.inc.e, .int .i64 p.mode, .int .i64 (max p.mi 1)]), (w3.heap.size, #[.int .i64 p.kind, .int .i64 p.mn, .int .i64 p.mx, .bool p.inc.neg, S p.inc.l, .int .i64 p.inc.e, .int .i64 p.mode, .int .i64 (max p.mi 1)]), (w.heap.size + 1, #[.int .i64 k0, .int .i64 k1, .int .i64 k2, .int .i64 k3, .int .i64 k4, .int .i64 k5, .int .i64 k6]), (w.heap.size, #[.bool n, .slice a len cap, .int .i64 e])] w') (by kernel_rfl) (ALL2.out _ (HeldL.drew HS2.out)) (fun hHeld => ?_)
    refine wpAnyH_take (i := 0) (oi := { dst := some 45, op := Go.Op.load 34 (Go.Operand.tmp 6), type := 34, pos := "law.go:212", after := #[], guard := none }) (v := ?_) rfl (by kernel_rfl) (by kernel_rfl) (by kernel_rfl) (fun _ _ _ h => h) (Or.inl ⟨by rfl, ?_⟩) hHeld ?_
    case refine_2 => (intro w hSw; (try dsimp only at hSw); go_simp <;> with_reducible rfl)
    try simp only [Act.put, List.setIfInBounds_toArray, List.set_cons_zero, List.set_cons_succ]
    refine wpAnyH_take (i := 1) (oi := { dst := some 46, op := Go.Op.load 24 (Go.Operand.tmp 2), type := 24, pos := "law.go:212", after := #[], guard := none }) (v := ?_) rfl (by kernel_rfl) (by kernel_rfl) (by kernel_rfl) (fun _ _ _ h => h) (Or.inl ⟨by rfl, ?_⟩) hHeld ?_
    case refine_2 => (intro w hSw; (try dsimp only at hSw); go_simp <;> with_reducible rfl)
    try simp only [Act.put, List.setIfInBounds_toArray, List.set_cons_zero, List.set_cons_succ]
    refine wpAnyH_ready (rs := [2, 7]) (by kernel_rfl) (by simp) ?_
    refine (AllReadyH.cons (o := { dst := some 47, op := Go.Op.call { callee := Go.Callee.value (Go.Operand.func 14), args := #[Go.Operand.tmp 46], argTypes := #[24] }, type := 31, pos := "law.go:212", after := #[{ on := 1, ground := Go.Ground.data }], guard := none }) rfl (fun KK hK => ?_) (AllReadyH.cons (o := { dst := some 9, op := Go.Op.alloc 37, type := 0, pos := "law.go:212", after := #[], guard := none }) rfl (fun KK hK => ?_) AllReadyH.nil))
    ·
      go_simp
      with_reducible refine (make_as n a len cap L e _ (HIN.out.below (hHeld.2.2.2.2.2.2.2.2.2.2.2).bel) (by omega)).mono ?_
      rintro x wA ⟨rfl, hb⟩
      go_wp2_with fail
      refine hK.out _ _ (KEEP2.out _ _ hHeld hb) (fun hHeld2 => ?_)
      clear hK hHeld hb
      have hHeld := hHeld2
      clear hHeld2
      try simp only [Act.put, List.setIfInBounds_toArray, List.set_cons_zero, List.set_cons_succ]
      refine wpAnyH_ready (rs := [3, 7]) (by kernel_rfl) (by simp) ?_
      refine (AllReadyH.cons (o := { dst := some 48, op := Go.Op.call { callee := Go.Callee.value (Go.Operand.func 13), args := #[Go.Operand.tmp 45, Go.Operand.tmp 47], argTypes := #[34, 31] }, type := 39, pos := "law.go:212", after := #[{ on := 0, ground := Go.Ground.data }, { on := 2, ground := Go.Ground.data }, { on := 2, ground := Go.Ground.chain }], guard := none }) rfl (fun KK hK => ?_) (AllReadyH.cons (o := { dst := some 9, op := Go.Op.alloc 37, type := 0, pos := "law.go:212", after := #[], guard := none }) rfl (fun KK hK => ?_) AllReadyH.nil))
      ·
        go_simp
        with_reducible refine (HA2.out _ (TAB2.out _ hHeld)).mono ?_
        rintro x wB ⟨rfl, hb⟩
        go_wp2_with fail
        refine hK.out _ _ (KEEP2.out _ _ hHeld hb) (fun hHeld2 => ?_)
        clear hK hHeld hb
        have hHeld := hHeld2
        clear hHeld2
        try simp only [Act.put, List.setIfInBounds_toArray, List.set_cons_zero, List.set_cons_succ]
        refine wpAnyH_take (i := 4) (oi := { dst := some 44, op := Go.Op.move (Go.Operand.tmp 48), type := 39, pos := "law.go:212", after := #[{ on := 3, ground := Go.Ground.data }], guard := none }) (v := ?_) rfl (by kernel_rfl) (by kernel_rfl) (by kernel_rfl) (fun _ _ _ h => h) (Or.inl ⟨by rfl, ?_⟩) hHeld ?_
        case refine_2 => (intro w hSw; (try dsimp only at hSw); go_simp <;> with_reducible rfl)
        try simp only [Act.put, List.setIfInBounds_toArray, List.set_cons_zero, List.set_cons_succ]
        refine wpAnyH_take (i := 5) (oi := { dst := some 49, op := Go.Op.extract (Go.Operand.tmp 44) 0, type := 37, pos := "law.go:212", after := #[{ on := 4, ground := Go.Ground.data }], guard := none }) (v := ?_) rfl (by kernel_rfl) (by kernel_rfl) (by kernel_rfl) (fun _ _ _ h => h) (Or.inl ⟨by rfl, ?_⟩) hHeld ?_
        case refine_2 => (intro w hSw; (try dsimp only at hSw); go_simp <;> with_reducible rfl)
        try simp only [Act.put, List.setIfInBounds_toArray, List.set_cons_zero, List.set_cons_succ]
        refine wpAnyH_take (i := 6) (oi := { dst := some 50, op := Go.Op.extract (Go.Operand.tmp 44) 1, type := 38, pos := "law.go:212", after := #[{ on := 4, ground := Go.Ground.data }, { on := 8, ground := Go.Ground.gcOnly Go.Departure.lateStores }], guard := none }) (v := ?_) rfl (by kernel_rfl) (by kernel_rfl) (by kernel_rfl) (fun _ _ _ h => h) (Or.inl ⟨by rfl, ?_⟩) hHeld ?_
        case refine_2 => (intro w hSw; (try dsimp only at hSw); go_simp <;> with_reducible rfl)
        try simp only [Act.put, List.setIfInBounds_toArray, List.set_cons_zero, List.set_cons_succ]
        refine wpAnyH_ready (rs := [7]) (by kernel_rfl) (by simp) ?_
        refine (AllReadyH.cons (o := { dst := some 9, op := Go.Op.alloc 37, type := 0, pos := "law.go:212", after := #[], guard := none }) rfl (fun KK hK => ?_) AllReadyH.nil)
        have hH0 := hHeld
        go_simp
        refine hK.out _ _ (ALL2.out _ (HeldL.skip (hHeld.2.2.2.2.2.2.2.2.2.2.2) _)) (fun hHeld2 => ?_)
        clear hK hHeld
        have hHeld := hHeld2
        clear hHeld2
        try simp only [Act.put, List.setIfInBounds_toArray, List.set_cons_zero, List.set_cons_succ]
        refine wpAnyH_ready (rs := [8]) (by kernel_rfl) (by simp) ?_
        refine (AllReadyH.cons (o := { dst := none, op := Go.Op.store 37 (Go.Operand.tmp 9) (Go.Operand.tmp 49), type := 0, pos := "law.go:212", after := #[{ on := 7, ground := Go.Ground.data }, { on := 5, ground := Go.Ground.data }, { on := 3, ground := Go.Ground.chain }, { on := 0, ground := Go.Ground.phase }, { on := 1, ground := Go.Ground.phase }, { on := 2, ground := Go.Ground.phase }, { on := 3, ground := Go.Ground.phase }, { on := 4, ground := Go.Ground.phase }, { on := 5, ground := Go.Ground.phase }, { on := 6, ground := Go.Ground.textOnly Go.Departure.lateStores }, { on := 7, ground := Go.Ground.phase }], guard := none }) rfl (fun KK hK => ?_) AllReadyH.nil)
        go_simp
        refine hK.out _ _ (ALL2.out _ (HeldL.skip (hH0.2.2.2.2.2.2.2.2.2.2.2) _)) (fun hHeld2 => ?_)
        clear hK hHeld
        have hHeld := hHeld2
        clear hHeld2
        try simp only [Act.put, List.setIfInBounds_toArray, List.set_cons_zero, List.set_cons_succ]
        refine wpAnyH_take (i := 9) (oi := { dst := some 10, op := Go.Op.assign (Go.Operand.tmp 50), type := 38, pos := "law.go:212", after := #[{ on := 6, ground := Go.Ground.data }, { on := 8, ground := Go.Ground.chain }, { on := 0, ground := Go.Ground.phase }, { on := 1, ground := Go.Ground.phase }, { on := 2, ground := Go.Ground.phase }, { on := 3, ground := Go.Ground.phase }, { on := 4, ground := Go.Ground.phase }, { on := 5, ground := Go.Ground.phase }, { on := 6, ground := Go.Ground.phase }, { on := 7, ground := Go.Ground.phase }, { on := 8, ground := Go.Ground.phase }], guard := none }) (v := ?_) rfl (by kernel_rfl) (by kernel_rfl) (by kernel_rfl) (fun _ _ _ h => h) (Or.inl ⟨by rfl, ?_⟩) hHeld ?_
        case refine_2 => (intro w hSw; (try dsimp only at hSw); go_simp <;> with_reducible rfl)
        try simp only [Act.put, List.setIfInBounds_toArray, List.set_cons_zero, List.set_cons_succ]
        refine wpAnyH_done (by kernel_rfl) ?_ _
        go_wp2
        go_meet
        case rel => exact ⟨_, rfl, rfl, HeldL.alloc (hH0.2.2.2.2.2.2.2.2.2.2.2) _ _ _ rfl⟩
      ·
        go_simp
        have HN : Hid (HeldL w ((wA.heap.size, #[.bool false, .string ⟨#[]⟩, .string ⟨#[]⟩]) :: [(b4, #[.bool vn, S vi, S vf]), (w3.heap.size + 1, #[.int .i64 p.kind, .int .i64 (p.mn + 1), .int .i64 p.mx, .bool p.inc.neg, S p.inc.l, .int .i64 p.inc.e, .int .i64 p.mode, .int .i64 (max p.mi 1)]), (w3.heap.size, #[.int .i64 p.kind, .int .i64 p.mn, .int .i64 p.mx, .bool p.inc.neg, S p.inc.l, .int .i64 p.inc.e, .int .i64 p.mode, .int .i64 (max p.mi 1)]), (w.heap.size + 1, #[.int .i64 k0, .int .i64 k1, .int .i64 k2, .int .i64 k3, .int .i64 k4, .int .i64 k5, .int .i64 k6]), (w.heap.size, #[.bool n, .slice a len cap, .int .i64 e])]) _) := Lib.hid (HeldL.alloc (hHeld.2.2.2.2.2.2.2.2.2.2.2) (wA.heap.size) #[.bool false, .string ⟨#[]⟩, .string ⟨#[]⟩] 37 (by first | rfl | simp))
        refine hK.out _ _ (ALL2.out _ (HeldL.tl HN.out)) (fun hHeld2 => ?_)
        clear hK hHeld
        have hHeld := hHeld2
        clear hHeld2
        try simp only [Act.put, List.setIfInBounds_toArray, List.set_cons_zero, List.set_cons_succ]
        refine wpAnyH_ready (rs := [3]) (by kernel_rfl) (by simp) ?_
        refine (AllReadyH.cons (o := { dst := some 48, op := Go.Op.call { callee := Go.Callee.value (Go.Operand.func 13), args := #[Go.Operand.tmp 45, Go.Operand.tmp 47], argTypes := #[34, 31] }, type := 39, pos := "law.go:212", after := #[{ on := 0, ground := Go.Ground.data }, { on := 2, ground := Go.Ground.data }, { on := 2, ground := Go.Ground.chain }], guard := none }) rfl (fun KK hK => ?_) AllReadyH.nil)
        go_simp
        with_reducible refine (HA2.out _ (TAB2.out _ hHeld)).mono ?_
        rintro x wB ⟨rfl, hb⟩
        go_wp2_with fail
        refine hK.out _ _ (KEEP2.out _ _ hHeld hb) (fun hHeld2 => ?_)
        have HM : Hid (HeldL w ((wA.heap.size, #[.bool false, .string ⟨#[]⟩, .string ⟨#[]⟩]) :: [(b4, #[.bool vn, S vi, S vf]), (w3.heap.size + 1, #[.int .i64 p.kind, .int .i64 (p.mn + 1), .int .i64 p.mx, .bool p.inc.neg, S p.inc.l, .int .i64 p.inc.e, .int .i64 p.mode, .int .i64 (max p.mi 1)]), (w3.heap.size, #[.int .i64 p.kind, .int .i64 p.mn, .int .i64 p.mx, .bool p.inc.neg, S p.inc.l, .int .i64 p.inc.e, .int .i64 p.mode, .int .i64 (max p.mi 1)]), (w.heap.size + 1, #[.int .i64 k0, .int .i64 k1, .int .i64 k2, .int .i64 k3, .int .i64 k4, .int .i64 k5, .int .i64 k6]), (w.heap.size, #[.bool n, .slice a len cap, .int .i64 e])]) wB) := Lib.hid (HeldL.keep HN.out hb)
        clear HN
        have HN := HM
        clear HM
        clear hK hHeld hb
        have hHeld := hHeld2
        clear hHeld2
        try simp only [Act.put, List.setIfInBounds_toArray, List.set_cons_zero, List.set_cons_succ]
        refine wpAnyH_take (i := 4) (oi := { dst := some 44, op := Go.Op.move (Go.Operand.tmp 48), type := 39, pos := "law.go:212", after := #[{ on := 3, ground := Go.Ground.data }], guard := none }) (v := ?_) rfl (by kernel_rfl) (by kernel_rfl) (by kernel_rfl) (fun _ _ _ h => h) (Or.inl ⟨by rfl, ?_⟩) hHeld ?_
        case refine_2 => (intro w hSw; (try dsimp only at hSw); go_simp <;> with_reducible rfl)
        try simp only [Act.put, List.setIfInBounds_toArray, List.set_cons_zero, List.set_cons_succ]
        refine wpAnyH_take (i := 5) (oi := { dst := some 49, op := Go.Op.extract (Go.Operand.tmp 44) 0, type := 37, pos := "law.go:212", after := #[{ on := 4, ground := Go.Ground.data }], guard := none }) (v := ?_) rfl (by kernel_rfl) (by kernel_rfl) (by kernel_rfl) (fun _ _ _ h => h) (Or.inl ⟨by rfl, ?_⟩) hHeld ?_
        case refine_2 => (intro w hSw; (try dsimp only at hSw); go_simp <;> with_reducible rfl)
        try simp only [Act.put, List.setIfInBounds_toArray, List.set_cons_zero, List.set_cons_succ]
        refine wpAnyH_take (i := 6) (oi := { dst := some 50, op := Go.Op.extract (Go.Operand.tmp 44) 1, type := 38, pos := "law.go:212", after := #[{ on := 4, ground := Go.Ground.data }, { on := 8, ground := Go.Ground.gcOnly Go.Departure.lateStores }], guard := none }) (v := ?_) rfl (by kernel_rfl) (by kernel_rfl) (by kernel_rfl) (fun _ _ _ h => h) (Or.inl ⟨by rfl, ?_⟩) hHeld ?_
        case refine_2 => (intro w hSw; (try dsimp only at hSw); go_simp <;> with_reducible rfl)
        try simp only [Act.put, List.setIfInBounds_toArray, List.set_cons_zero, List.set_cons_succ]
        refine wpAnyH_ready (rs := [8]) (by kernel_rfl) (by simp) ?_
        refine (AllReadyH.cons (o := { dst := none, op := Go.Op.store 37 (Go.Operand.tmp 9) (Go.Operand.tmp 49), type := 0, pos := "law.go:212", after := #[{ on := 7, ground := Go.Ground.data }, { on := 5, ground := Go.Ground.data }, { on := 3, ground := Go.Ground.chain }, { on := 0, ground := Go.Ground.phase }, { on := 1, ground := Go.Ground.phase }, { on := 2, ground := Go.Ground.phase }, { on := 3, ground := Go.Ground.phase }, { on := 4, ground := Go.Ground.phase }, { on := 5, ground := Go.Ground.phase }, { on := 6, ground := Go.Ground.textOnly Go.Departure.lateStores }, { on := 7, ground := Go.Ground.phase }], guard := none }) rfl (fun KK hK => ?_) AllReadyH.nil)
        obtain ⟨nn0, nn1, nn2, nnz0, nnz1, nnz2, nnl⟩ := (HN.out.f (List.Mem.head _)).three
        go_simp
        refine hK.out _ _ (ALL2.out _ (HeldL.tl (HeldL.store3 [] [(b4, #[.bool vn, S vi, S vf]), (w3.heap.size + 1, #[.int .i64 p.kind, .int .i64 (p.mn + 1), .int .i64 p.mx, .bool p.inc.neg, S p.inc.l, .int .i64 p.inc.e, .int .i64 p.mode, .int .i64 (max p.mi 1)]), (w3.heap.size, #[.int .i64 p.kind, .int .i64 p.mn, .int .i64 p.mx, .bool p.inc.neg, S p.inc.l, .int .i64 p.inc.e, .int .i64 p.mode, .int .i64 (max p.mi 1)]), (w.heap.size + 1, #[.int .i64 k0, .int .i64 k1, .int .i64 k2, .int .i64 k3, .int .i64 k4, .int .i64 k5, .int .i64 k6]), (w.heap.size, #[.bool n, .slice a len cap, .int .i64 e])] HN.out (.bool vn) (S vi) (S wf)))) (fun hHeld2 => ?_)
        clear hK hHeld
        have hHeld := hHeld2
        clear hHeld2
        try simp only [Act.put, List.setIfInBounds_toArray, List.set_cons_zero, List.set_cons_succ]
        refine wpAnyH_take (i := 9) (oi := { dst := some 10, op := Go.Op.assign (Go.Operand.tmp 50), type := 38, pos := "law.go:212", after := #[{ on := 6, ground := Go.Ground.data }, { on := 8, ground := Go.Ground.chain }, { on := 0, ground := Go.Ground.phase }, { on := 1, ground := Go.Ground.phase }, { on := 2, ground := Go.Ground.phase }, { on := 3, ground := Go.Ground.phase }, { on := 4, ground := Go.Ground.phase }, { on := 5, ground := Go.Ground.phase }, { on := 6, ground := Go.Ground.phase }, { on := 7, ground := Go.Ground.phase }, { on := 8, ground := Go.Ground.phase }], guard := none }) (v := ?_) rfl (by kernel_rfl) (by kernel_rfl) (by kernel_rfl) (fun _ _ _ h => h) (Or.inl ⟨by rfl, ?_⟩) hHeld ?_
        case refine_2 => (intro w hSw; (try dsimp only at hSw); go_simp <;> with_reducible rfl)
        try simp only [Act.put, List.setIfInBounds_toArray, List.set_cons_zero, List.set_cons_succ]
        refine wpAnyH_done (by kernel_rfl) ?_ _
        go_wp2
        go_meet
        case rel => exact ⟨_, rfl, rfl, HeldL.store3 [] [(b4, #[.bool vn, S vi, S vf]), (w3.heap.size + 1, #[.int .i64 p.kind, .int .i64 (p.mn + 1), .int .i64 p.mx, .bool p.inc.neg, S p.inc.l, .int .i64 p.inc.e, .int .i64 p.mode, .int .i64 (max p.mi 1)]), (w3.heap.size, #[.int .i64 p.kind, .int .i64 p.mn, .int .i64 p.mx, .bool p.inc.neg, S p.inc.l, .int .i64 p.inc.e, .int .i64 p.mode, .int .i64 (max p.mi 1)]), (w.heap.size + 1, #[.int .i64 k0, .int .i64 k1, .int .i64 k2, .int .i64 k3, .int .i64 k4, .int .i64 k5, .int .i64 k6]), (w.heap.size, #[.bool n, .slice a len cap, .int .i64 e])] HN.out (.bool vn) (S vi) (S wf)⟩
    ·
      go_simp
      have HN : Hid (HeldL w ((w4.heap.size, #[.bool false, .string ⟨#[]⟩, .string ⟨#[]⟩]) :: [(b4, #[.bool vn, S vi, S vf]), (w3.heap.size + 1, #[.int .i64 p.kind, .int .i64 (p.mn + 1), .int .i64 p.mx, .bool p.inc.neg, S p.inc.l, .int .i64 p.inc.e, .int .i64 p.mode, .int .i64 (max p.mi 1)]), (w3.heap.size, #[.int .i64 p.kind, .int .i64 p.mn, .int .i64 p.mx, .bool p.inc.neg, S p.inc.l, .int .i64 p.inc.e, .int .i64 p.mode, .int .i64 (max p.mi 1)]), (w.heap.size + 1, #[.int .i64 k0, .int .i64 k1, .int .i64 k2, .int .i64 k3, .int .i64 k4, .int .i64 k5, .int .i64 k6]), (w.heap.size, #[.bool n, .slice a len cap, .int .i64 e])]) _) := Lib.hid (HeldL.alloc (hHeld.2.2.2.2.2.2.2.2.2.2.2) (w4.heap.size) #[.bool false, .string ⟨#[]⟩, .string ⟨#[]⟩] 37 (by first | rfl | simp))
      refine hK.out _ _ (ALL2.out _ (HeldL.tl HN.out)) (fun hHeld2 => ?_)
      clear hK hHeld
      have hHeld := hHeld2
      clear hHeld2
      try simp only [Act.put, List.setIfInBounds_toArray, List.set_cons_zero, List.set_cons_succ]
      refine wpAnyH_ready (rs := [2]) (by kernel_rfl) (by simp) ?_
      refine (AllReadyH.cons (o := { dst := some 47, op := Go.Op.call { callee := Go.Callee.value (Go.Operand.func 14), args := #[Go.Operand.tmp 46], argTypes := #[24] }, type := 31, pos := "law.go:212", after := #[{ on := 1, ground := Go.Ground.data }], guard := none }) rfl (fun KK hK => ?_) AllReadyH.nil)
      go_simp
      with_reducible refine (make_as n a len cap L e _ (HIN.out.below (hHeld.2.2.2.2.2.2.2.2.2.2.2).bel) (by omega)).mono ?_
      rintro x wA ⟨rfl, hb⟩
      go_wp2_with fail
      refine hK.out _ _ (KEEP2.out _ _ hHeld hb) (fun hHeld2 => ?_)
      have HM : Hid (HeldL w ((w4.heap.size, #[.bool false, .string ⟨#[]⟩, .string ⟨#[]⟩]) :: [(b4, #[.bool vn, S vi, S vf]), (w3.heap.size + 1, #[.int .i64 p.kind, .int .i64 (p.mn + 1), .int .i64 p.mx, .bool p.inc.neg, S p.inc.l, .int .i64 p.inc.e, .int .i64 p.mode, .int .i64 (max p.mi 1)]), (w3.heap.size, #[.int .i64 p.kind, .int .i64 p.mn, .int .i64 p.mx, .bool p.inc.neg, S p.inc.l, .int .i64 p.inc.e, .int .i64 p.mode, .int .i64 (max p.mi 1)]), (w.heap.size + 1, #[.int .i64 k0, .int .i64 k1, .int .i64 k2, .int .i64 k3, .int .i64 k4, .int .i64 k5, .int .i64 k6]), (w.heap.size, #[.bool n, .slice a len cap, .int .i64 e])]) wA) := Lib.hid (HeldL.keep HN.out hb)
      clear HN
      have HN := HM
      clear HM
      clear hK hHeld hb
      have hHeld := hHeld2
      clear hHeld2
      try simp only [Act.put, List.setIfInBounds_toArray, List.set_cons_zero, List.set_cons_succ]
      refine wpAnyH_ready (rs := [3]) (by kernel_rfl) (by simp) ?_
      refine (AllReadyH.cons (o := { dst := some 48, op := Go.Op.call { callee := Go.Callee.value (Go.Operand.func 13), args := #[Go.Operand.tmp 45, Go.Operand.tmp 47], argTypes := #[34, 31] }, type := 39, pos := "law.go:212", after := #[{ on := 0, ground := Go.Ground.data }, { on := 2, ground := Go.Ground.data }, { on := 2, ground := Go.Ground.chain }], guard := none }) rfl (fun KK hK => ?_) AllReadyH.nil)
      go_simp
      with_reducible refine (HA2.out _ (TAB2.out _ hHeld)).mono ?_
      rintro x wB ⟨rfl, hb⟩
      go_wp2_with fail
      refine hK.out _ _ (KEEP2.out _ _ hHeld hb) (fun hHeld2 => ?_)
      have HM : Hid (HeldL w ((w4.heap.size, #[.bool false, .string ⟨#[]⟩, .string ⟨#[]⟩]) :: [(b4, #[.bool vn, S vi, S vf]), (w3.heap.size + 1, #[.int .i64 p.kind, .int .i64 (p.mn + 1), .int .i64 p.mx, .bool p.inc.neg, S p.inc.l, .int .i64 p.inc.e, .int .i64 p.mode, .int .i64 (max p.mi 1)]), (w3.heap.size, #[.int .i64 p.kind, .int .i64 p.mn, .int .i64 p.mx, .bool p.inc.neg, S p.inc.l, .int .i64 p.inc.e, .int .i64 p.mode, .int .i64 (max p.mi 1)]), (w.heap.size + 1, #[.int .i64 k0, .int .i64 k1, .int .i64 k2, .int .i64 k3, .int .i64 k4, .int .i64 k5, .int .i64 k6]), (w.heap.size, #[.bool n, .slice a len cap, .int .i64 e])]) wB) := Lib.hid (HeldL.keep HN.out hb)
      clear HN
      have HN := HM
      clear HM
      clear hK hHeld hb
      have hHeld := hHeld2
      clear hHeld2
      try simp only [Act.put, List.setIfInBounds_toArray, List.set_cons_zero, List.set_cons_succ]
      refine wpAnyH_take (i := 4) (oi := { dst := some 44, op := Go.Op.move (Go.Operand.tmp 48), type := 39, pos := "law.go:212", after := #[{ on := 3, ground := Go.Ground.data }], guard := none }) (v := ?_) rfl (by kernel_rfl) (by kernel_rfl) (by kernel_rfl) (fun _ _ _ h => h) (Or.inl ⟨by rfl, ?_⟩) hHeld ?_
      case refine_2 => (intro w hSw; (try dsimp only at hSw); go_simp <;> with_reducible rfl)
      try simp only [Act.put, List.setIfInBounds_toArray, List.set_cons_zero, List.set_cons_succ]
      refine wpAnyH_take (i := 5) (oi := { dst := some 49, op := Go.Op.extract (Go.Operand.tmp 44) 0, type := 37, pos := "law.go:212", after := #[{ on := 4, ground := Go.Ground.data }], guard := none }) (v := ?_) rfl (by kernel_rfl) (by kernel_rfl) (by kernel_rfl) (fun _ _ _ h => h) (Or.inl ⟨by rfl, ?_⟩) hHeld ?_
      case refine_2 => (intro w hSw; (try dsimp only at hSw); go_simp <;> with_reducible rfl)
      try simp only [Act.put, List.setIfInBounds_toArray, List.set_cons_zero, List.set_cons_succ]
      refine wpAnyH_take (i := 6) (oi := { dst := some 50, op := Go.Op.extract (Go.Operand.tmp 44) 1, type := 38, pos := "law.go:212", after := #[{ on := 4, ground := Go.Ground.data }, { on := 8, ground := Go.Ground.gcOnly Go.Departure.lateStores }], guard := none }) (v := ?_) rfl (by kernel_rfl) (by kernel_rfl) (by kernel_rfl) (fun _ _ _ h => h) (Or.inl ⟨by rfl, ?_⟩) hHeld ?_
      case refine_2 => (intro w hSw; (try dsimp only at hSw); go_simp <;> with_reducible rfl)
      try simp only [Act.put, List.setIfInBounds_toArray, List.set_cons_zero, List.set_cons_succ]
      refine wpAnyH_ready (rs := [8]) (by kernel_rfl) (by simp) ?_
      refine (AllReadyH.cons (o := { dst := none, op := Go.Op.store 37 (Go.Operand.tmp 9) (Go.Operand.tmp 49), type := 0, pos := "law.go:212", after := #[{ on := 7, ground := Go.Ground.data }, { on := 5, ground := Go.Ground.data }, { on := 3, ground := Go.Ground.chain }, { on := 0, ground := Go.Ground.phase }, { on := 1, ground := Go.Ground.phase }, { on := 2, ground := Go.Ground.phase }, { on := 3, ground := Go.Ground.phase }, { on := 4, ground := Go.Ground.phase }, { on := 5, ground := Go.Ground.phase }, { on := 6, ground := Go.Ground.textOnly Go.Departure.lateStores }, { on := 7, ground := Go.Ground.phase }], guard := none }) rfl (fun KK hK => ?_) AllReadyH.nil)
      obtain ⟨nn0, nn1, nn2, nnz0, nnz1, nnz2, nnl⟩ := (HN.out.f (List.Mem.head _)).three
      go_simp
      refine hK.out _ _ (ALL2.out _ (HeldL.tl (HeldL.store3 [] [(b4, #[.bool vn, S vi, S vf]), (w3.heap.size + 1, #[.int .i64 p.kind, .int .i64 (p.mn + 1), .int .i64 p.mx, .bool p.inc.neg, S p.inc.l, .int .i64 p.inc.e, .int .i64 p.mode, .int .i64 (max p.mi 1)]), (w3.heap.size, #[.int .i64 p.kind, .int .i64 p.mn, .int .i64 p.mx, .bool p.inc.neg, S p.inc.l, .int .i64 p.inc.e, .int .i64 p.mode, .int .i64 (max p.mi 1)]), (w.heap.size + 1, #[.int .i64 k0, .int .i64 k1, .int .i64 k2, .int .i64 k3, .int .i64 k4, .int .i64 k5, .int .i64 k6]), (w.heap.size, #[.bool n, .slice a len cap, .int .i64 e])] HN.out (.bool vn) (S vi) (S wf)))) (fun hHeld2 => ?_)
      clear hK hHeld
      have hHeld := hHeld2
      clear hHeld2
      try simp only [Act.put, List.setIfInBounds_toArray, List.set_cons_zero, List.set_cons_succ]
      refine wpAnyH_take (i := 9) (oi := { dst := some 10, op := Go.Op.assign (Go.Operand.tmp 50), type := 38, pos := "law.go:212", after := #[{ on := 6, ground := Go.Ground.data }, { on := 8, ground := Go.Ground.chain }, { on := 0, ground := Go.Ground.phase }, { on := 1, ground := Go.Ground.phase }, { on := 2, ground := Go.Ground.phase }, { on := 3, ground := Go.Ground.phase }, { on := 4, ground := Go.Ground.phase }, { on := 5, ground := Go.Ground.phase }, { on := 6, ground := Go.Ground.phase }, { on := 7, ground := Go.Ground.phase }, { on := 8, ground := Go.Ground.phase }], guard := none }) (v := ?_) rfl (by kernel_rfl) (by kernel_rfl) (by kernel_rfl) (fun _ _ _ h => h) (Or.inl ⟨by rfl, ?_⟩) hHeld ?_
      case refine_2 => (intro w hSw; (try dsimp only at hSw); go_simp <;> with_reducible rfl)
      try simp only [Act.put, List.setIfInBounds_toArray, List.set_cons_zero, List.set_cons_succ]
      refine wpAnyH_done (by kernel_rfl) ?_ _
      go_wp2
      go_meet
      case rel => exact ⟨_, rfl, rfl, HeldL.store3 [] [(b4, #[.bool vn, S vi, S vf]), (w3.heap.size + 1, #[.int .i64 p.kind, .int .i64 (p.mn + 1), .int .i64 p.mx, .bool p.inc.neg, S p.inc.l, .int .i64 p.inc.e, .int .i64 p.mode, .int .i64 (max p.mi 1)]), (w3.heap.size, #[.int .i64 p.kind, .int .i64 p.mn, .int .i64 p.mx, .bool p.inc.neg, S p.inc.l, .int .i64 p.inc.e, .int .i64 p.mode, .int .i64 (max p.mi 1)]), (w.heap.size + 1, #[.int .i64 k0, .int .i64 k1, .int .i64 k2, .int .i64 k3, .int .i64 k4, .int .i64 k5, .int .i64 k6]), (w.heap.size, #[.bool n, .slice a len cap, .int .i64 e])] HN.out (.bool vn) (S vi) (S wf)⟩
  case rest =>
  obtain ⟨b5, hvp, hve, hh⟩ := hcut
  subst hvp hve
  have H5 : Hid (HeldL w ((b5, #[.bool vn, S vi, S wf]) :: [(b4, #[.bool vn, S vi, S vf]), (w3.heap.size + 1, #[.int .i64 p.kind, .int .i64 (p.mn + 1), .int .i64 p.mx, .bool p.inc.neg, S p.inc.l, .int .i64 p.inc.e, .int .i64 p.mode, .int .i64 (max p.mi 1)]), (w3.heap.size, #[.int .i64 p.kind, .int .i64 p.mn, .int .i64 p.mx, .bool p.inc.neg, S p.inc.l, .int .i64 p.inc.e, .int .i64 p.mode, .int .i64 (max p.mi 1)]), (w.heap.size + 1, #[.int .i64 k0, .int .i64 k1, .int .i64 k2, .int .i64 k3, .int .i64 k4, .int .i64 k5, .int .i64 k6]), (w.heap.size, #[.bool n, .slice a len cap, .int .i64 e])]) wc) := Lib.hid hh
  clear hh H4
  generalize wc = w5 at *
  have bv0 : w5.cell? ⟨b4, 0, none⟩ = some (.bool vn) := (H5.out.f (List.Mem.tail _ (List.Mem.head _))).cell 0
  have bv1 : w5.cell? ⟨b4, 1, none⟩ = some (S vi) := (H5.out.f (List.Mem.tail _ (List.Mem.head _))).cell 1
  have bv2 : w5.cell? ⟨b4, 2, none⟩ = some (S vf) := (H5.out.f (List.Mem.tail _ (List.Mem.head _))).cell 2
  have bvl : b4 < w5.heap.size := (H5.out.f (List.Mem.tail _ (List.Mem.head _))).lt
  have bw0 : w5.cell? ⟨b5, 0, none⟩ = some (.bool vn) := (H5.out.f (List.Mem.head _)).cell 0
  have bw1 : w5.cell? ⟨b5, 1, none⟩ = some (S vi) := (H5.out.f (List.Mem.head _)).cell 1
  have bw2 : w5.cell? ⟨b5, 2, none⟩ = some (S wf) := (H5.out.f (List.Mem.head _)).cell 2
  have bwl : b5 < w5.heap.size := (H5.out.f (List.Mem.head _)).lt
  have cw : ¬ 9223372036854775807 < vf.length + 1 := by omega
  by_cases hwq : wf = vf
  · subst hwq
    go_wp2
    go_ret
    exact ⟨by first | rfl | simp, H5.out.bel⟩
  · have hw2 : wf = vf ++ [48] := HWF.out.elim (fun h => absurd h hwq) id
    have hw0 : (wf == vf) = false := by simpa using hwq
    have hw3 : (⟨vf.toArray⟩ : ByteArray) ++ (⟨#[48]⟩ : ByteArray) = ⟨wf.toArray⟩ := by rw [hw2]; exact arr_append vf [48]
    clear hw2
    go_wp2
    go_ret
    exact ⟨by first | rfl | simp [hw3], H5.out.bel⟩

set_option maxRecDepth 100000 in
set_option maxHeartbeats 3200000 in
theorem more_s (n : Bool) (a : Option Addr) (len cap : Nat) (L : List UInt8) (e : Int) (k0 k1 k2 k3 k4 k5 k6 : Int) (w : World) (hin : InB w a len cap L) (htab : Tab w) (h1 : len ≤ 30) (h2 : -30 ≤ e) (h3 : e ≤ 30) (p : Prc) (hpr : (∀ w : World, Tab w → Calls Tryd.prog 12 #[.agg #[.int .i64 k0, .int .i64 k1, .int .i64 k2, .int .i64 k3, .int .i64 k4, .int .i64 k5, .int .i64 k6]] w fun z w' => z = .returned (PV p) ∧ Below w.heap.size w w')) (b1 : 0 ≤ p.mn) (b2 : p.mn ≤ 100) (hk : (p.kind != 2) = true) (hge : decide (p.mx ≤ p.mn) = true) :
    Calls Tryd.prog 4 #[RV n a len cap e, .agg #[.int .i64 k0, .int .i64 k1, .int .i64 k2, .int .i64 k3, .int .i64 k4, .int .i64 k5, .int .i64 k6]] w fun x w' => x = .returned (.bool true) ∧ Below w.heap.size w w' := by
  have hcA := hin.2.1
  have hmA := hin.2.2.1
  have HT := Lib.hid htab
  have HIN := Lib.hid hin
  have HPR := Lib.hid hpr
  clear htab hin hpr
  go_enter Tryd.func4, Tryd.ntmps4
  go_wp2_with fail
  with_reducible refine (head4 _ (HT.out.below (HeldL.alloc (HeldL.alloc (HeldL.refl w) (w.heap.size) #[.bool n, .slice a len cap, .int .i64 e] 24 (by simp)) (w.heap.size + 1) #[.int .i64 k0, .int .i64 k1, .int .i64 k2, .int .i64 k3, .int .i64 k4, .int .i64 k5, .int .i64 k6] 26 (by simp)).bel)).mono ?_
  rintro x w1 ⟨rfl, hb⟩
  have H1 : Hid (HeldL w [(w.heap.size + 1, #[.int .i64 k0, .int .i64 k1, .int .i64 k2, .int .i64 k3, .int .i64 k4, .int .i64 k5, .int .i64 k6]), (w.heap.size, #[.bool n, .slice a len cap, .int .i64 e])] w1) := Lib.hid (HeldL.keep (HeldL.alloc (HeldL.alloc (HeldL.refl w) (w.heap.size) #[.bool n, .slice a len cap, .int .i64 e] 24 (by simp)) (w.heap.size + 1) #[.int .i64 k0, .int .i64 k1, .int .i64 k2, .int .i64 k3, .int .i64 k4, .int .i64 k5, .int .i64 k6] 26 (by simp)) hb)
  clear hb
  have q0 : w1.cell? ⟨w.heap.size, 0, none⟩ = some (.bool n) := (H1.out.f (List.Mem.tail _ (List.Mem.head _))).cell 0
  have q1 : w1.cell? ⟨w.heap.size, 1, none⟩ = some (.slice a len cap) := (H1.out.f (List.Mem.tail _ (List.Mem.head _))).cell 1
  have q2 : w1.cell? ⟨w.heap.size, 2, none⟩ = some (.int .i64 e) := (H1.out.f (List.Mem.tail _ (List.Mem.head _))).cell 2
  have ql : w.heap.size < w1.heap.size := (H1.out.f (List.Mem.tail _ (List.Mem.head _))).lt
  have k0 : w1.cell? ⟨w.heap.size + 1, 0, none⟩ = some (.int .i64 k0) := (H1.out.f (List.Mem.head _)).cell 0
  have k1 : w1.cell? ⟨w.heap.size + 1, 1, none⟩ = some (.int .i64 k1) := (H1.out.f (List.Mem.head _)).cell 1
  have k2 : w1.cell? ⟨w.heap.size + 1, 2, none⟩ = some (.int .i64 k2) := (H1.out.f (List.Mem.head _)).cell 2
  have k3 : w1.cell? ⟨w.heap.size + 1, 3, none⟩ = some (.int .i64 k3) := (H1.out.f (List.Mem.head _)).cell 3
  have k4 : w1.cell? ⟨w.heap.size + 1, 4, none⟩ = some (.int .i64 k4) := (H1.out.f (List.Mem.head _)).cell 4
  have k5 : w1.cell? ⟨w.heap.size + 1, 5, none⟩ = some (.int .i64 k5) := (H1.out.f (List.Mem.head _)).cell 5
  have k6 : w1.cell? ⟨w.heap.size + 1, 6, none⟩ = some (.int .i64 k6) := (H1.out.f (List.Mem.head _)).cell 6
  have kl : w.heap.size + 1 < w1.heap.size := (H1.out.f (List.Mem.head _)).lt
  go_wp2_with fail
  with_reducible refine (few_yes n a len cap e 30 _ hcA hmA (by decide) (by decide) (by omega) h2 h3).mono ?_
  rintro x w2 ⟨rfl, hb⟩
  clear q0 q1 q2 ql k0 k1 k2 k3 k4 k5 k6 kl
  have H2 : Hid (HeldL w [(w.heap.size + 1, #[.int .i64 k0, .int .i64 k1, .int .i64 k2, .int .i64 k3, .int .i64 k4, .int .i64 k5, .int .i64 k6]), (w.heap.size, #[.bool n, .slice a len cap, .int .i64 e])] w2) := Lib.hid (HeldL.keep H1.out hb)
  clear H1
  clear hb
  have q0 : w2.cell? ⟨w.heap.size, 0, none⟩ = some (.bool n) := (H2.out.f (List.Mem.tail _ (List.Mem.head _))).cell 0
  have q1 : w2.cell? ⟨w.heap.size, 1, none⟩ = some (.slice a len cap) := (H2.out.f (List.Mem.tail _ (List.Mem.head _))).cell 1
  have q2 : w2.cell? ⟨w.heap.size, 2, none⟩ = some (.int .i64 e) := (H2.out.f (List.Mem.tail _ (List.Mem.head _))).cell 2
  have ql : w.heap.size < w2.heap.size := (H2.out.f (List.Mem.tail _ (List.Mem.head _))).lt
  have k0 : w2.cell? ⟨w.heap.size + 1, 0, none⟩ = some (.int .i64 k0) := (H2.out.f (List.Mem.head _)).cell 0
  have k1 : w2.cell? ⟨w.heap.size + 1, 1, none⟩ = some (.int .i64 k1) := (H2.out.f (List.Mem.head _)).cell 1
  have k2 : w2.cell? ⟨w.heap.size + 1, 2, none⟩ = some (.int .i64 k2) := (H2.out.f (List.Mem.head _)).cell 2
  have k3 : w2.cell? ⟨w.heap.size + 1, 3, none⟩ = some (.int .i64 k3) := (H2.out.f (List.Mem.head _)).cell 3
  have k4 : w2.cell? ⟨w.heap.size + 1, 4, none⟩ = some (.int .i64 k4) := (H2.out.f (List.Mem.head _)).cell 4
  have k5 : w2.cell? ⟨w.heap.size + 1, 5, none⟩ = some (.int .i64 k5) := (H2.out.f (List.Mem.head _)).cell 5
  have k6 : w2.cell? ⟨w.heap.size + 1, 6, none⟩ = some (.int .i64 k6) := (H2.out.f (List.Mem.head _)).cell 6
  have kl : w.heap.size + 1 < w2.heap.size := (H2.out.f (List.Mem.head _)).lt
  go_wp2_with fail
  with_reducible refine (HPR.out _ (HT.out.below H2.out.bel)).mono ?_
  rintro x w3 ⟨rfl, hb⟩
  clear q0 q1 q2 ql k0 k1 k2 k3 k4 k5 k6 kl
  have H3 : Hid (HeldL w [(w.heap.size + 1, #[.int .i64 k0, .int .i64 k1, .int .i64 k2, .int .i64 k3, .int .i64 k4, .int .i64 k5, .int .i64 k6]), (w.heap.size, #[.bool n, .slice a len cap, .int .i64 e])] w3) := Lib.hid (HeldL.keep H2.out hb)
  clear H2
  clear hb
  have q0 : w3.cell? ⟨w.heap.size, 0, none⟩ = some (.bool n) := (H3.out.f (List.Mem.tail _ (List.Mem.head _))).cell 0
  have q1 : w3.cell? ⟨w.heap.size, 1, none⟩ = some (.slice a len cap) := (H3.out.f (List.Mem.tail _ (List.Mem.head _))).cell 1
  have q2 : w3.cell? ⟨w.heap.size, 2, none⟩ = some (.int .i64 e) := (H3.out.f (List.Mem.tail _ (List.Mem.head _))).cell 2
  have ql : w.heap.size < w3.heap.size := (H3.out.f (List.Mem.tail _ (List.Mem.head _))).lt
  go_wp2
  go_ret
  exact ⟨rfl, (HeldL.alloc H3.out (w3.heap.size) #[.int .i64 p.kind, .int .i64 p.mn, .int .i64 p.mx, .bool p.inc.neg, S p.inc.l, .int .i64 p.inc.e, .int .i64 p.mode, .int .i64 (max p.mi 1)] 34 (by simp)).bel⟩

set_option maxRecDepth 100000 in
set_option maxHeartbeats 1600000 in
theorem more_no (n0 : Bool) (a0 : Option Addr) (len0 cap0 : Nat) (e0 : Int) (k0 k1 k2 k3 k4 k5 k6 : Int) (w : World) (hc0 : len0 ≤ cap0) (hm0 : cap0 ≤ maxLen) (htab : Tab w) (h : ¬ ((len0 : Int) ≤ 30 ∧ -30 ≤ e0 ∧ e0 ≤ 30)) :
    Calls Tryd.prog 4 #[RV n0 a0 len0 cap0 e0, .agg #[.int .i64 k0, .int .i64 k1, .int .i64 k2, .int .i64 k3, .int .i64 k4, .int .i64 k5, .int .i64 k6]] w fun x w' => x = .returned (.bool true) ∧ Below w.heap.size w w' := by
  have HT := Lib.hid htab
  have H := Lib.hid h
  clear htab h
  go_enter Tryd.func4, Tryd.ntmps4
  go_wp2_with fail
  with_reducible refine (head4 _ (HT.out.below (HeldL.alloc (HeldL.alloc (HeldL.refl w) (w.heap.size) #[.bool n0, .slice a0 len0 cap0, .int .i64 e0] 24 (by simp)) (w.heap.size + 1) #[.int .i64 k0, .int .i64 k1, .int .i64 k2, .int .i64 k3, .int .i64 k4, .int .i64 k5, .int .i64 k6] 26 (by simp)).bel)).mono ?_
  rintro x w1 ⟨rfl, hb⟩
  have H1 : Hid (HeldL w [(w.heap.size + 1, #[.int .i64 k0, .int .i64 k1, .int .i64 k2, .int .i64 k3, .int .i64 k4, .int .i64 k5, .int .i64 k6]), (w.heap.size, #[.bool n0, .slice a0 len0 cap0, .int .i64 e0])] w1) := Lib.hid (HeldL.keep (HeldL.alloc (HeldL.alloc (HeldL.refl w) (w.heap.size) #[.bool n0, .slice a0 len0 cap0, .int .i64 e0] 24 (by simp)) (w.heap.size + 1) #[.int .i64 k0, .int .i64 k1, .int .i64 k2, .int .i64 k3, .int .i64 k4, .int .i64 k5, .int .i64 k6] 26 (by simp)) hb)
  clear hb
  have r0 : w1.cell? ⟨w.heap.size, 0, none⟩ = some (.bool n0) := (H1.out.f (List.Mem.tail _ (List.Mem.head _))).cell 0
  have r1 : w1.cell? ⟨w.heap.size, 1, none⟩ = some (.slice a0 len0 cap0) := (H1.out.f (List.Mem.tail _ (List.Mem.head _))).cell 1
  have r2 : w1.cell? ⟨w.heap.size, 2, none⟩ = some (.int .i64 e0) := (H1.out.f (List.Mem.tail _ (List.Mem.head _))).cell 2
  have rl : w.heap.size < w1.heap.size := (H1.out.f (List.Mem.tail _ (List.Mem.head _))).lt
  go_wp2_with fail
  with_reducible refine (few_no n0 a0 len0 cap0 e0 30 _ hc0 hm0 (by decide) (by decide) H.out).mono ?_
  rintro x w2 ⟨rfl, hb⟩
  clear r0 r1 r2 rl
  have H2 : Hid (HeldL w [(w.heap.size + 1, #[.int .i64 k0, .int .i64 k1, .int .i64 k2, .int .i64 k3, .int .i64 k4, .int .i64 k5, .int .i64 k6]), (w.heap.size, #[.bool n0, .slice a0 len0 cap0, .int .i64 e0])] w2) := Lib.hid (HeldL.keep H1.out hb)
  clear H1
  clear hb
  go_wp2
  go_ret
  exact ⟨rfl, H2.out.bel⟩

end Go.Proofs.YtegekkifgdakgaaDoor

namespace Go.Proofs.YtegekkifgdakgaaDoor
open Go.RowKit Florin
set_option linter.unusedVariables false

/-- With one digit more that must be there. -/
theorem vis_more (p : Prc) (mi : Int) (hmi : 1 ≤ mi) (g : Tri) :
    (visP ⟨p.kind, p.mn + 1, p.mx, p.inc, p.mode, mi⟩ g).neg = (visP ⟨p.kind, p.mn, p.mx, p.inc, p.mode, mi⟩ g).neg ∧
    (visP ⟨p.kind, p.mn + 1, p.mx, p.inc, p.mode, mi⟩ g).i = (visP ⟨p.kind, p.mn, p.mx, p.inc, p.mode, mi⟩ g).i ∧
    ((visP ⟨p.kind, p.mn + 1, p.mx, p.inc, p.mode, mi⟩ g).f = (visP ⟨p.kind, p.mn, p.mx, p.inc, p.mode, mi⟩ g).f ∨ (visP ⟨p.kind, p.mn + 1, p.mx, p.inc, p.mode, mi⟩ g).f = (visP ⟨p.kind, p.mn, p.mx, p.inc, p.mode, mi⟩ g).f ++ [48]) := by
  have hm : mfrac ⟨p.kind, p.mn + 1, p.mx, p.inc, p.mode, mi⟩ g = mfrac ⟨p.kind, p.mn, p.mx, p.inc, p.mode, mi⟩ g + 1 := by
    unfold mfrac
    simp only
    split
    · split <;> omega
    · rfl
  have hne : ¬ zs (mi - ((partsT g).1.length : Int)).toNat ++ (partsT g).1 = [] := by
    intro h
    have := congrArg List.length h
    rw [List.length_append, zs_length, List.length_nil] at this
    omega
  unfold visP
  simp only [hm]
  rw [if_neg (fun h => hne h.1), if_neg (fun h => hne h.1)]
  refine ⟨by first | rfl | trivial, by first | rfl | trivial, ?_⟩
  generalize mfrac ⟨p.kind, p.mn, p.mx, p.inc, p.mode, mi⟩ g = m
  by_cases h : m + 1 ≤ ((partsT g).2.length : Int)
  · left
    rw [show (m + 1 - ((partsT g).2.length : Int)).toNat = 0 by omega, show (m - ((partsT g).2.length : Int)).toNat = 0 by omega]
  · right
    rw [show (m + 1 - ((partsT g).2.length : Int)).toNat = (m - ((partsT g).2.length : Int)).toNat + 1 by omega, List.append_assoc]
    congr 1
    unfold zs
    rw [List.replicate_succ']
theorem showMore_walk (n : Bool) (a : Option Addr) (len cap : Nat) (e : Int) (L : List UInt8) (k0 k1 k2 k3 k4 k5 k6 : Int) (w : World) (hin : InB w a len cap L) (htab : Tab w) :
    Calls Tryd.prog 4 #[RV n a len cap e, .agg #[.int .i64 k0, .int .i64 k1, .int .i64 k2, .int .i64 k3, .int .i64 k4, .int .i64 k5, .int .i64 k6]] w fun x w' => x = .returned (.bool true) ∧ Below w.heap.size w w' := by
  by_cases hf : (len : Int) ≤ 30 ∧ -30 ≤ e ∧ e ≤ 30
  · obtain ⟨h1, h2, h3⟩ := hf
    obtain ⟨p, hp, hpr⟩ := prec_any k0 k1 k2 k3 k4 k5 k6
    obtain ⟨N, hN⟩ : ∃ N : Nat, N = 400 := ⟨_, rfl⟩
    have hL : L.length ≤ 30 := by rw [hin.1]; omega
    obtain ⟨R, rb, hr⟩ := shownR p hp n L e hL h2 h3 N hN
    have fR := fitM (M := N + 1) (by omega) rb
    have pl : p.inc.l.length ≤ 100000 := by have := hp.il; omega
    have lR : (nf 200 R).l.length ≤ 1000 := Nat.le_trans (nf_length rb) (by omega)
    have hlo := (nf_dv fR).lo
    have hmd := nf_made fR
    have hsum : ((nf 200 R).l.length : Int) + (nf 200 R).e ≤ 300 := by
      by_cases h0 : R = 0
      · subst h0; rw [nf_zero]; decide
      · obtain ⟨t, q1, q2, q3, q4⟩ := nf_pos fR h0
        have hl : (nf 200 R).l.length = (rt (dig R.natAbs)).length := by rw [q1]
        have he : (nf 200 R).e = (t : Int) - 200 := by rw [q1]; rfl
        have := (dig_length_le R.natAbs (N + 1)).2 rb
        omega
    obtain ⟨m06, hmi, hmn, hkk⟩ := validP_parts hp.ok
    have m8 := hp.mn8
    have m7 := hp.mi7
    have go : (p.kind ≠ 2 → p.mn < p.mx) → Calls Tryd.prog 4 #[RV n a len cap e, .agg #[.int .i64 k0, .int .i64 k1, .int .i64 k2, .int .i64 k3, .int .i64 k4, .int .i64 k5, .int .i64 k6]] w fun x w' => x = .returned (.bool true) ∧ Below w.heap.size w w' := by
      intro hlt
      have v1 : validP ⟨p.kind, p.mn, p.mx, p.inc, p.mode, max p.mi 1⟩ = true := by
        have := hp.ok
        unfold validP wi vm at this ⊢
        simp only [Bool.and_eq_true, decide_eq_true_eq] at this ⊢
        refine ⟨this.1, ⟨by omega, by omega⟩, this.2.2.1, this.2.2.2⟩
      have v2 : validP ⟨p.kind, p.mn + 1, p.mx, p.inc, p.mode, max p.mi 1⟩ = true := by
        have := hp.ok
        unfold validP wi vm at this ⊢
        simp only [Bool.and_eq_true, decide_eq_true_eq] at this ⊢
        refine ⟨this.1, ⟨by omega, by omega⟩, ⟨by omega, by omega⟩, ?_⟩
        have h4 := this.2.2.2
        by_cases k0 : p.kind = 0
        · rw [if_pos k0] at h4 ⊢
          simp only [Bool.and_eq_true, decide_eq_true_eq] at h4 ⊢
          have := hlt (by omega)
          omega
        · rw [if_neg k0] at h4 ⊢
          by_cases k1 : p.kind = 1
          · rw [if_pos k1] at h4 ⊢
            simp only [Bool.and_eq_true, decide_eq_true_eq] at h4 ⊢
            have := hlt (by omega)
            omega
          · rw [if_neg k1] at h4 ⊢
            exact h4
      have r1 : roundP ⟨p.kind, p.mn, p.mx, p.inc, p.mode, max p.mi 1⟩ (made n (dgs L) e) = nf 200 R := by rw [← hr]; rfl
      have r2 : roundP ⟨p.kind, p.mn + 1, p.mx, p.inc, p.mode, max p.mi 1⟩ (made n (dgs L) e) = nf 200 R := by rw [← hr]; rfl
      have A1 := fun (w : World) (hw : Tab w) => apply_as ⟨p.kind, p.mn, p.mx, p.inc, p.mode, max p.mi 1⟩ ⟨n, dgs L, e⟩ w pl (by simp only; rw [dgs_length]; omega) v1 hw _ r1 (by omega) hmd _ rfl
      have A2 := fun (w : World) (hw : Tab w) => apply_as ⟨p.kind, p.mn + 1, p.mx, p.inc, p.mode, max p.mi 1⟩ ⟨n, dgs L, e⟩ w pl (by simp only; rw [dgs_length]; omega) v2 hw _ r2 (by omega) hmd _ rfl
      have lens : (visP ⟨p.kind, p.mn, p.mx, p.inc, p.mode, max p.mi 1⟩ (nf 200 R)).i.length ≤ 2500 ∧ (visP ⟨p.kind, p.mn, p.mx, p.inc, p.mode, max p.mi 1⟩ (nf 200 R)).f.length ≤ 2000 := by
        generalize nf 200 R = g at *
        have hF : mfrac ⟨p.kind, p.mn, p.mx, p.inc, p.mode, max p.mi 1⟩ g ≤ 600 := by
          unfold mfrac
          simp only
          split
          · split
            · omega
            · rename_i hne
              have := List.length_pos_iff.2 hne
              omega
          · omega
        have ha : (partsT g).1.length ≤ 2000 ∧ (partsT g).2.length ≤ 500 := by
          unfold partsT
          split
          · simp only [List.length_append, zs_length, List.length_nil]; omega
          · split
            · simp only [List.length_append, zs_length, List.length_nil]; omega
            · simp only [List.length_take, List.length_drop]; omega
        unfold visP
        simp only
        constructor
        · split
          · decide
          · rw [List.length_append, zs_length]; omega
        · rw [List.length_append, zs_length]; omega
      obtain ⟨q1, q2, q3⟩ := vis_more p (max p.mi 1) (by omega) (nf 200 R)
      generalize visP ⟨p.kind, p.mn, p.mx, p.inc, p.mode, max p.mi 1⟩ (nf 200 R) = v at *
      generalize visP ⟨p.kind, p.mn + 1, p.mx, p.inc, p.mode, max p.mi 1⟩ (nf 200 R) = v' at *
      obtain ⟨vn, vi, vf⟩ := v
      obtain ⟨wn, wi', wf⟩ := v'
      simp only at q1 q2 q3 lens
      subst q1 q2
      have wl : wf.length ≤ 3001 := by
        rcases q3 with h | h
        · rw [h]; omega
        · rw [h, List.length_append, List.length_singleton]; omega
      cases hk : (p.kind != 2) with
      | false => exact more_f n a len cap L e k0 k1 k2 k3 k4 k5 k6 w hin htab (by omega) h2 h3 p hpr hmn.1 hmn.2 hk wn wi' vf wf (by omega) (by omega) wl q3 A1 A2
      | true =>
        have := hlt (by simpa using hk)
        exact more_t n a len cap L e k0 k1 k2 k3 k4 k5 k6 w hin htab (by omega) h2 h3 p hpr hmn.1 hmn.2 hk (decide_eq_false (by omega)) wn wi' vf wf (by omega) (by omega) wl q3 A1 A2
    by_cases hk : p.kind = 2
    · exact go (fun h => absurd hk h)
    · by_cases hlt : p.mn < p.mx
      · exact go (fun _ => hlt)
      · exact more_s n a len cap L e k0 k1 k2 k3 k4 k5 k6 w hin htab (by omega) h2 h3 p hpr hmn.1 hmn.2 (by simpa using hk) (decide_eq_true (by omega))
  · exact more_no n a len cap e k0 k1 k2 k3 k4 k5 k6 w hin.2.1 hin.2.2.1 htab hf
end Go.Proofs.YtegekkifgdakgaaDoor
