/- The walk of the law OperandMoves, whatever came in. -/
import Derived.Test.YtegekkifgdakgaaDoorLawU3
namespace Go.Proofs.YtegekkifgdakgaaDoor
open Go.RowKit Florin
set_option linter.unusedVariables false

theorem shP_dig (L M : List UInt8) : isDig (shP L M).i = true ∧ isDig (shP L M).f = true := by
  unfold shP
  split
  · exact ⟨by decide, by decide⟩
  · exact ⟨isDig_dgs L, isDig_dgs M⟩
theorem shP_len (L M : List UInt8) : (shP L M).i.length ≤ L.length + 1 ∧ (shP L M).f.length = M.length ∧ (shP L M).neg = false := by
  unfold shP
  split
  · rename_i h; rw [h.2]; exact ⟨by simp, rfl, rfl⟩
  · exact ⟨by simp only; rw [dgs_length]; omega, dgs_length M, rfl⟩
theorem bare_len (l : List UInt8) : (bare l).length ≤ l.length := by
  unfold bare; split
  · exact trim_length_le l
  · simp
theorem bare_idem (l : List UInt8) : bare (bare l) = bare l := by
  unfold bare
  by_cases h : isDig l = true
  · rw [if_pos h, if_pos (isDig_trim l h), trim_trim]
  · rw [if_neg h]; rfl
theorem fit2 {z : Int} {m : Nat} (h : z.natAbs < 10 ^ m) (hm : m ≤ 20000) : Fit 200 z := Fit.of (m := m) (by decide) h (by omega)
theorem pow_cut (a b c : Nat) (h : a + b = c) : 10 ^ a * 10 ^ b = 10 ^ c := by rw [← Nat.pow_add, h]
/-- The value of what is shown, at 200 places. -/
theorem value_nf (b : Bool) (i f : List UInt8) (hi : isDig i = true) (hf : isDig f = true) (il : i.length ≤ 100) (fl : f.length ≤ 100) :
    made b (i ++ rt f) (-((rt f).length : Int)) = nf 200 (sg b (val (i ++ f) * 10 ^ (200 - f.length))) := by
  obtain ⟨t, h1, h2, _⟩ := rt_back f
  have hd : isDig (i ++ rt f) = true := by rw [isDig_append, hi, isDig_rt hf]; rfl
  have hdv := raw_dv b (k := 200) (e := -((rt f).length : Int)) hd (by omega)
  have e1 : val (i ++ f) = val (i ++ rt f) * 10 ^ t := by
    rw [← val_app_zs, List.append_assoc, ← h1]
  have e2 : val (i ++ rt f) * 10 ^ (-((rt f).length : Int) + ((200 : Nat) : Int)).toNat = val (i ++ f) * 10 ^ (200 - f.length) := by
    rw [e1, Nat.mul_assoc, ← Nat.pow_add]
    congr 2
    omega
  rw [e2] at hdv
  obtain ⟨N, hN⟩ : ∃ N : Nat, N = 500 := ⟨_, rfl⟩
  refine hdv.made (fit2 (m := N) ?_ (by omega))
  rw [sg_natAbs]
  have hd2 : isDig (i ++ f) = true := by rw [isDig_append, hi, hf]; rfl
  have h3 := val_lt _ hd2
  have h4 : val (i ++ f) * 10 ^ (200 - f.length) < 10 ^ (i ++ f).length * 10 ^ (200 - f.length) := Nat.mul_lt_mul_of_pos_right h3 (pow_pos' _)
  rw [← Nat.pow_add] at h4
  exact Nat.lt_of_lt_of_le h4 (Nat.pow_le_pow_right (by decide) (by rw [List.length_append]; omega))
/-- A number that isn't below 0, times a power of ten. -/
theorem scale_nf (A K N : Nat) (hK : K ≤ 10000) (hN : N ≤ 500) (hA : A < 10 ^ N) : made (nf 200 (A : Int)).neg (nf 200 (A : Int)).l ((nf 200 (A : Int)).e + clampS K) = nf 200 ((A * 10 ^ K : Nat) : Int) := by
  have fA : Fit 200 (A : Int) := fit2 (m := N) (by simpa using hA) (by omega)
  have hn : (nf 200 (A : Int)).neg = false := by rw [nf_neg fA]; simp
  have hv := (nf_dv fA).num
  have hl := (nf_dv fA).lo
  have hc : clampS (K : Int) = K := by unfold clampS; omega
  rw [hc]
  have hdv : Dv 200 ((A * 10 ^ K : Nat) : Int) ⟨(nf 200 (A : Int)).neg, (nf 200 (A : Int)).l, (nf 200 (A : Int)).e + K⟩ := by
    refine ⟨(nf_dv fA).dg, by simp only; omega, ?_⟩
    simp only
    rw [show ((nf 200 (A : Int)).e + K + ((200 : Nat) : Int)).toNat = ((nf 200 (A : Int)).e + ((200 : Nat) : Int)).toNat + K by omega, Nat.pow_add, ← Nat.mul_assoc, sg_mul, hv]
    simp
  refine hdv.made (fit2 (m := N + K) ?_ (by omega))
  simp only [Int.natAbs_natCast]
  have := Nat.mul_lt_mul_of_pos_right hA (pow_pos' K)
  rw [← Nat.pow_add] at this
  exact this
/-- What the point's moving makes of the number. -/
theorem of_nf (b : Bool) (i f : List UInt8) (hi : isDig i = true) (hf : isDig f = true) (il : i.length ≤ 100) (fl : f.length ≤ 100) (e : Int) :
    made false ((ofP ⟨b, i, f⟩ e).i ++ (ofP ⟨b, i, f⟩ e).f) (-((ofP ⟨b, i, f⟩ e).f.length : Int)) = nf 200 ((val (i ++ f) * 10 ^ (200 - f.length) * 10 ^ kOf e : Nat) : Int) := by
  have hK := kOf_le e
  unfold ofP
  simp only
  generalize kOf e = K at *
  have d1 : isDig (i ++ f.take K ++ zs (K - f.length)) = true := by
    have : isDig (f.take K) = true := by
      have hs : f = f.take K ++ f.drop K := (List.take_append_drop _ _).symm
      rw [hs, isDig_append] at hf
      simp only [Bool.and_eq_true] at hf
      exact hf.1
    rw [isDig_append, isDig_append, hi, this, isDig_zs]; rfl
  have d2 : isDig (f.drop K) = true := by
    have hs : f = f.take K ++ f.drop K := (List.take_append_drop _ _).symm
    rw [hs, isDig_append] at hf
    simp only [Bool.and_eq_true] at hf
    exact hf.2
  have d3 : isDig (bare (i ++ f.take K ++ zs (K - f.length)) ++ f.drop K) = true := by
    unfold bare; rw [if_pos d1, isDig_append, isDig_trim _ d1, d2]; rfl
  have hv : val (bare (i ++ f.take K ++ zs (K - f.length)) ++ f.drop K) = val (i ++ f.take K ++ zs (K - f.length) ++ f.drop K) := by
    unfold bare; rw [if_pos d1, val_append, val_append (i ++ f.take K ++ zs (K - f.length)), val_trim]
  have dl : (f.drop K).length ≤ 100 := by rw [List.length_drop]; omega
  have hdv := raw_dv false (k := 200) (e := -((f.drop K).length : Int)) d3 (by omega)
  have e1 : sg false (val (bare (i ++ f.take K ++ zs (K - f.length)) ++ f.drop K) * 10 ^ (-((f.drop K).length : Int) + ((200 : Nat) : Int)).toNat) = ((val (i ++ f) * 10 ^ (200 - f.length) * 10 ^ K : Nat) : Int) := by
    show ((_ : Nat) : Int) = _
    congr 1
    rw [hv, Nat.mul_assoc (val (i ++ f)), ← Nat.pow_add]
    by_cases hk : K ≤ f.length
    · rw [show K - f.length = 0 by omega, zs_zero, List.append_nil, List.append_assoc, List.take_append_drop, List.length_drop]
      congr 2
      omega
    · rw [List.drop_of_length_le (by omega), List.take_of_length_le (by omega), List.append_nil, val_app_zs, Nat.mul_assoc, ← Nat.pow_add]
      congr 2
      simp only [List.length_nil]
      omega
  rw [e1] at hdv
  refine hdv.made (fit2 (m := 500 + K) ?_ (by omega))
  simp only [Int.natAbs_natCast]
  have hd2 : isDig (i ++ f) = true := by rw [isDig_append, hi, hf]; rfl
  have h3 := val_lt _ hd2
  have h4 : val (i ++ f) * 10 ^ (200 - f.length) < 10 ^ (i ++ f).length * 10 ^ (200 - f.length) := Nat.mul_lt_mul_of_pos_right h3 (pow_pos' _)
  rw [← Nat.pow_add] at h4
  have h5 := Nat.mul_lt_mul_of_pos_right h4 (pow_pos' K)
  rw [← Nat.pow_add] at h5
  exact Nat.lt_of_lt_of_le h5 (Nat.pow_le_pow_right (by decide) (by rw [List.length_append]; omega))
theorem operandMoves_walk (a : Option Addr) (len cap : Nat) (L : List UInt8) (a1 : Option Addr) (len1 cap1 : Nat) (L1 : List UInt8) (n : Bool) (e : Int) (w : World) (hin : InB w a len cap L) (hin1 : InB w a1 len1 cap1 L1) (_he : (Lit.int .i64 e).wf = true) :
    Calls Tryd.prog 5 #[.slice a len cap, .slice a1 len1 cap1, .bool n, .int .i64 e] w fun x w' => x = .returned (.bool true) ∧ Below w.heap.size w w' := by
  by_cases h1 : len ≤ 60
  · by_cases h2 : len1 ≤ 60
    · obtain ⟨d1, d2⟩ := shP_dig L L1
      obtain ⟨n1, n2, n3⟩ := shP_len L L1
      rw [hin.1] at n1
      rw [hin1.1] at n2
      obtain ⟨v, hv⟩ : ∃ v, shP L L1 = v := ⟨_, rfl⟩
      rw [hv] at d1 d2 n1 n2 n3
      have il : v.i.length ≤ 100 := by omega
      have fl : v.f.length ≤ 100 := by omega
      have hg := value_nf n v.i v.f d1 d2 il fl
      have hof := of_nf n v.i v.f d1 d2 il fl e
      have hK := kOf_le e
      have hk := kOf_int e
      obtain ⟨N, hN⟩ : ∃ N : Nat, N = 500 := ⟨_, rfl⟩
      have hA : val (v.i ++ v.f) * 10 ^ (200 - v.f.length) < 10 ^ N := by
        have hd2 : isDig (v.i ++ v.f) = true := by rw [isDig_append, d1, d2]; rfl
        have h4 : val (v.i ++ v.f) * 10 ^ (200 - v.f.length) < 10 ^ (v.i ++ v.f).length * 10 ^ (200 - v.f.length) := Nat.mul_lt_mul_of_pos_right (val_lt _ hd2) (pow_pos' _)
        rw [← Nat.pow_add] at h4
        exact Nat.lt_of_lt_of_le h4 (Nat.pow_le_pow_right (by decide) (by rw [List.length_append]; omega))
      generalize val (v.i ++ v.f) * 10 ^ (200 - v.f.length) = A at *
      have fS : Fit 200 (sg n A) := fit2 (m := N) (by rw [sg_natAbs]; exact hA) (by omega)
      have fA : Fit 200 (A : Int) := fit2 (m := N) (by simpa using hA) (by omega)
      have hab : made false (nf 200 (sg n A)).l (nf 200 (sg n A)).e = nf 200 (A : Int) := by
        have := nf_abs (b := (nf 200 (sg n A)).neg) (l := (nf 200 (sg n A)).l) (e := (nf 200 (sg n A)).e) (nf_dv fS) fS
        rw [sg_natAbs] at this
        exact this
      have hsc := scale_nf A (kOf e) N hK (by omega) hA
      have gl : (nf 200 (sg n A)).l.length ≤ 100000 := Nat.le_trans (nf_length (m := N) (by rw [sg_natAbs]; exact hA)) (by omega)
      have dl : (nf 200 (A : Int)).l.length ≤ 100000 := Nat.le_trans (nf_length (m := N) (by simpa using hA)) (by omega)
      have hdi := nf_made fA
      have oi : (ofP ⟨n, v.i, v.f⟩ e).i.length ≤ 20000 := by
        unfold ofP; simp only
        refine Nat.le_trans (bare_len _) ?_
        rw [List.length_append, List.length_append, List.length_take, zs_length]; omega
      have oo : ofP ⟨n, v.i, v.f⟩ e = ⟨(ofP ⟨n, v.i, v.f⟩ e).i, (ofP ⟨n, v.i, v.f⟩ e).f, (kOf e : Nat)⟩ := rfl
      have ob : bare (ofP ⟨n, v.i, v.f⟩ e).i = (ofP ⟨n, v.i, v.f⟩ e).i := bare_idem _
      have of' : (ofP ⟨n, v.i, v.f⟩ e).f = v.f.drop (kOf e) := rfl
      generalize (ofP ⟨n, v.i, v.f⟩ e).i = I at *
      generalize (ofP ⟨n, v.i, v.f⟩ e).f = F at *
      generalize kOf e = K at *
      have Fl : F.length = v.f.length - K := by rw [of', List.length_drop]
      by_cases hF : F = []
      · subst hF
        simp only [List.length_nil] at Fl
        refine moves_e a len cap L a1 len1 cap1 L1 n e w hin hin1 h1 h2 v hv (by omega) (by omega) K hk.symm hK I (by omega) oo ob ?_ (by omega) _ _ _ gl dl ?_ hg hab hdi hsc
        · simp only [bne_eq_false_iff_eq]; omega
        · simpa using hof
      · have : 0 < F.length := List.length_pos_iff.2 hF
        refine moves_f a len cap L a1 len1 cap1 L1 n e w hin hin1 h1 h2 v hv (by omega) (by omega) K hk.symm hK I F (by omega) (by omega) hF of'.symm (by omega) oo ob ?_ (by rw [List.length_append]; omega) _ _ _ gl dl hof hg hab hdi hsc
        simp only [bne_eq_false_iff_eq]; omega
    · exact moves_n1 a len cap L a1 len1 cap1 L1 n e w h1 (by omega)
  · exact moves_n0 a len cap L a1 len1 cap1 L1 n e w (by omega)
end Go.Proofs.YtegekkifgdakgaaDoor
