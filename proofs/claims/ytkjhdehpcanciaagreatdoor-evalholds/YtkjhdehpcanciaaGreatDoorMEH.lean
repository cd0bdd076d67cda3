/- OgX, LawEH0, LawEHa, LawEHb, LawEHc, LawEH, in one text. -/
import Derived.Test.YtkjhdehpcanciaaGreatDoorEvP
import Derived.Test.YtkjhdehpcanciaaGreatDoorDecO
import Derived.Test.YtkjhdehpcanciaaGreatDoorLawRF
import Derived.Test.YtkjhdehpcanciaaGreatDoorHd7
namespace Go.Proofs.YtkjhdehpcanciaaGreatDoor
open Go.RowKit Florin
set_option linter.unusedVariables false
set_option linter.unusedSimpArgs false
theorem sh_ok (L M : List UInt8) (h1 : L.length ≤ 40) (h2 : M.length ≤ 40) : (shP L M).i.length ≤ 40 ∧ (shP L M).f.length ≤ 40 ∧ isDig (shP L M).i = true ∧ isDig (shP L M).f = true := by
  unfold shP
  split
  · exact ⟨by simp, by simp, by decide, by decide⟩
  · refine ⟨?_, ?_, isDig_dgs _, isDig_dgs _⟩
    · show (dgs L).length ≤ 40; rw [dgs_length]; exact h1
    · show (dgs M).length ≤ 40; rw [dgs_length]; exact h2
theorem isDig_take {l : List UInt8} (h : isDig l = true) (k : Nat) : isDig (l.take k) = true := by
  unfold isDig at h ⊢
  rw [List.all_eq_true] at h ⊢
  exact fun x hx => h x (List.mem_of_mem_take hx)
theorem isDig_drop {l : List UInt8} (h : isDig l = true) (k : Nat) : isDig (l.drop k) = true := by
  unfold isDig at h ⊢
  rw [List.all_eq_true] at h ⊢
  exact fun x hx => h x (List.mem_of_mem_drop hx)
theorem of_B {v : Vs} (e : Int) (il : v.i.length ≤ 400000) (fl : v.f.length ≤ 400000) (hi : isDig v.i = true) (hf : isDig v.f = true) : OgB (ofP v e) := by
  have hk := kOf_le e
  have h1 := bare_length_le (v.i ++ v.f.take (kOf e) ++ zs (kOf e - v.f.length))
  have hz : (zs (kOf e - v.f.length)).length ≤ 10000 := by unfold zs; rw [List.length_replicate]; omega
  rw [List.length_append, List.length_append, List.length_take] at h1
  refine ⟨?_, ?_, ?_, ?_, ?_, ?_⟩
  · show (bare (v.i ++ v.f.take (kOf e) ++ zs (kOf e - v.f.length))).length ≤ 900000; omega
  · show (v.f.drop (kOf e)).length ≤ 900000; rw [List.length_drop]; omega
  · show (0 : Int) ≤ ((kOf e : Nat) : Int); omega
  · show ((kOf e : Nat) : Int) ≤ 10000; omega
  · exact bare_isDig (by rw [isDig_append, isDig_append, hi, isDig_take hf, isDig_zs]; rfl)
  · exact isDig_drop hf _
/-- A number as these laws make it. -/
theorem og_any (L M : List UInt8) (h1 : L.length ≤ 40) (h2 : M.length ≤ 40) (e : Int) :
    ∃ v : Vs, shP L M = v ∧ v.i.length ≤ 900000 ∧ v.f.length ≤ 900000 ∧ ∃ o, ofP v e = o ∧ OgB o := by
  obtain ⟨a, b, c, d⟩ := sh_ok L M h1 h2
  exact ⟨_, rfl, by omega, by omega, _, rfl, of_B e (by omega) (by omega) c d⟩
end Go.Proofs.YtkjhdehpcanciaaGreatDoor

namespace Go.Proofs.YtkjhdehpcanciaaGreatDoor
open Go.RowKit Florin
set_option linter.unusedVariables false
set_option linter.unusedSimpArgs false
theorem ten_pos (k : Nat) : 0 < 10 ^ k := Nat.pow_pos (by decide)
theorem made_nf {K : Nat} {l : List UInt8} {e : Int} {z : Nat} (hd : isDig l = true) (he : -(K : Int) ≤ e) (hz : val l * 10 ^ (e + K).toNat = z) (hf : Fit K (z : Int)) : made false l e = nf K (z : Int) := by
  have h := raw_dv false hd he
  rw [hz] at h
  have h2 : Dv K (z : Int) ⟨false, l, e⟩ := h
  exact h2.made hf
theorem fit_of {K z m : Nat} (h1 : K ≤ 100) (h2 : z < 10 ^ m) (h3 : m ≤ 300) : Fit K (z : Int) := Fit.of (m := m) (by omega) (by simpa using h2) (by omega)
theorem val_last {l : List UInt8} (hd : isDig l = true) (hne : l ≠ []) (hl : ∀ a c, l = a ++ [c] → c ≠ 48) : val l ≠ 0 := by
  obtain ⟨a, c, e⟩ : ∃ a c, l = a ++ [c] := ⟨l.dropLast, l.getLast hne, (List.dropLast_concat_getLast hne).symm⟩
  have h1 := hl a c e
  subst e
  rw [val_snoc]
  rw [isDig_snoc, Bool.and_eq_true] at hd
  have h2 := (isD_iff c).1 hd.2
  have h3 : c.toNat ≠ 48 := fun h => h1 (UInt8.toNat_inj.1 (by rw [h]; rfl))
  unfold dv
  omega
/-- The parts of a decimal that isn't below 0. -/
theorem parts_nf {K z : Nat} (hf : Fit K (z : Int)) : ∃ p, partsT (nf K (z : Int)) = (dig (z / 10 ^ K), p) ∧ isDig p = true ∧ p.length ≤ K ∧ (p = [] ↔ z % 10 ^ K = 0) ∧ val p * 10 ^ (K - p.length) = z % 10 ^ K := by
  by_cases h0 : z = 0
  · subst h0
    refine ⟨[], ?_, rfl, Nat.zero_le _, ?_, ?_⟩
    · show partsT (nf K 0) = _
      rw [nf_zero, Nat.zero_div, dig_zero]; rfl
    · simp
    · rw [val_nil, Nat.zero_mul, Nat.zero_mod]
  obtain ⟨t, h1, h2, h3, h4⟩ := nf_pos hf (by omega)
  have hab : ((z : Int)).natAbs = z := Int.natAbs_natCast z
  rw [hab] at h1 h2 h4
  obtain ⟨t', _, _, _, hne, hdg, htr, hlast⟩ := dig_parts h0
  obtain ⟨r, hr⟩ : ∃ r, rt (dig z) = r := ⟨_, rfl⟩
  rw [hr] at h1 h2 h4 hne hdg htr hlast
  have hp := ten_pos K
  have ht0 := ten_pos t
  have hv0 : val r ≠ 0 := val_last hdg hne hlast
  rw [h1]
  unfold partsT
  by_cases hk : K ≤ t
  · rw [if_pos (by show (0 : Int) ≤ (t : Int) - K; omega)]
    have e1 : ((t : Int) - K).toNat = t - K := by omega
    have e2 : z = val r * 10 ^ (t - K) * 10 ^ K := by rw [Nat.mul_assoc, ← Nat.pow_add, show t - K + K = t by omega]; exact h2
    have e3 : z / 10 ^ K = val r * 10 ^ (t - K) := by rw [e2, Nat.mul_div_cancel _ hp]
    have e4 : z % 10 ^ K = 0 := by rw [e2, Nat.mul_mod_left]
    refine ⟨[], ?_, rfl, Nat.zero_le _, by simp [e4], by rw [val_nil, Nat.zero_mul, e4]⟩
    show (r ++ zs ((t : Int) - K).toNat, []) = (dig (z / 10 ^ K), [])
    rw [e1, e3, dig_mul_pow hv0, dig_val hdg, htr]
  rw [if_neg (by show ¬ (0 : Int) ≤ (t : Int) - K; omega)]
  by_cases hn : (r.length : Int) + ((t : Int) - K) ≤ 0
  · rw [if_pos hn]
    have hlt : z < 10 ^ K := by
      have h5 := val_lt r hdg
      have h6 : val r * 10 ^ t < 10 ^ r.length * 10 ^ t := Nat.mul_lt_mul_of_pos_right h5 ht0
      rw [← Nat.pow_add, ← h2] at h6
      exact Nat.lt_of_lt_of_le h6 (Nat.pow_le_pow_right (by decide) (by omega))
    refine ⟨zs (-((r.length : Int) + ((t : Int) - K))).toNat ++ r, ?_, by rw [isDig_append, isDig_zs, hdg]; rfl, ?_, ?_, ?_⟩
    · rw [Nat.div_eq_of_lt hlt, dig_zero]
    · rw [List.length_append, zs_length]; omega
    · rw [Nat.mod_eq_of_lt hlt]
      constructor
      · intro h; exact absurd (List.append_eq_nil_iff.1 h).2 hne
      · intro h; exact absurd h h0
    · rw [Nat.mod_eq_of_lt hlt, List.length_append, zs_length, val_append, val_zs, Nat.zero_mul, Nat.zero_add]
      rw [show K - ((-((r.length : Int) + ((t : Int) - K))).toNat + r.length) = t by omega]
      exact h2.symm
  · rw [if_neg hn]
    obtain ⟨n, hnn⟩ : ∃ n : Nat, ((r.length : Int) + ((t : Int) - K)).toNat = n := ⟨_, rfl⟩
    have n1 : 0 < n := by omega
    have n2 : n < r.length := by omega
    have hsp : r.take n ++ r.drop n = r := List.take_append_drop n r
    have dl : (r.drop n).length = K - t := by rw [List.length_drop]; omega
    have d1 : isDig (r.take n) = true := isDig_take hdg n
    have d2 : isDig (r.drop n) = true := isDig_drop hdg n
    have ev : val r = val (r.take n) * 10 ^ (K - t) + val (r.drop n) := by
      conv => lhs; rw [← hsp]
      rw [val_append, dl]
    have hlt := val_lt _ d2
    rw [dl] at hlt
    have hlt2 : val (r.drop n) * 10 ^ t < 10 ^ K := by
      have h6 : val (r.drop n) * 10 ^ t < 10 ^ (K - t) * 10 ^ t := Nat.mul_lt_mul_of_pos_right hlt ht0
      rw [← Nat.pow_add, show K - t + t = K by omega] at h6
      exact h6
    have ez : z = val (r.drop n) * 10 ^ t + 10 ^ K * val (r.take n) := by
      rw [h2, ev, Nat.add_mul, Nat.mul_assoc, ← Nat.pow_add, show K - t + t = K by omega, Nat.mul_comm (val (r.take n)), Nat.add_comm]
    have ediv : z / 10 ^ K = val (r.take n) := by rw [ez, Nat.add_mul_div_left _ _ hp, Nat.div_eq_of_lt hlt2, Nat.zero_add]
    have emod : z % 10 ^ K = val (r.drop n) * 10 ^ t := by rw [ez, Nat.add_mul_mod_self_left, Nat.mod_eq_of_lt hlt2]
    have hdne : r.drop n ≠ [] := by intro h; rw [h] at dl; simp at dl; omega
    have hv2 : val (r.drop n) ≠ 0 := val_last d2 hdne (fun a c e => hlast (r.take n ++ a) c (by rw [List.append_assoc, ← e]; exact hsp.symm))
    show ∃ p, (r.take ((r.length : Int) + ((t : Int) - K)).toNat, r.drop ((r.length : Int) + ((t : Int) - K)).toNat) = (dig (z / 10 ^ K), p) ∧ _
    rw [hnn]
    refine ⟨r.drop n, ?_, d2, by omega, ?_, ?_⟩
    · rw [ediv, dig_val d1]
      congr 1
      symm
      cases hc : r.take n with
      | nil => rw [trim_nil]
      | cons c l =>
        refine trim_cons l ?_
        intro h48
        subst h48
        have : r = 48 :: (l ++ r.drop n) := by rw [← List.cons_append, ← hc]; exact hsp.symm
        rw [this, trim_cons_zero] at htr
        have h9 := trim_length_le (l ++ r.drop n)
        rw [htr] at h9
        simp at h9
        omega
    · rw [emod]
      constructor
      · intro h; exact absurd h hdne
      · intro h
        rcases Nat.mul_eq_zero.1 h with h | h
        · exact absurd h hv2
        · omega
    · rw [emod, dl, show K - (K - t) = t by omega]
/-- A small number. -/
structure OgS (o : Og) : Prop where
  b : OgB o
  il : o.i.length ≤ 100
  fl : o.f.length ≤ 40
  e1 : o.e ≤ 15
theorem og_small (L M : List UInt8) (h1 : L.length ≤ 40) (h2 : M.length ≤ 40) {e : Int} (he : e ≤ 15) :
    ∃ v : Vs, shP L M = v ∧ v.i.length ≤ 900000 ∧ v.f.length ≤ 900000 ∧ ∃ o, ofP v e = o ∧ OgS o := by
  obtain ⟨a, b, c, d⟩ := sh_ok L M h1 h2
  have hk : kOf e ≤ 15 := by have := kOf_int e; omega
  refine ⟨_, rfl, by omega, by omega, _, rfl, of_B e (by omega) (by omega) c d, ?_, ?_, ?_⟩
  · have h3 := bare_length_le ((shP L M).i ++ (shP L M).f.take (kOf e) ++ zs (kOf e - (shP L M).f.length))
    rw [List.length_append, List.length_append, List.length_take, zs_length] at h3
    show (bare ((shP L M).i ++ (shP L M).f.take (kOf e) ++ zs (kOf e - (shP L M).f.length))).length ≤ 100
    omega
  · show ((shP L M).f.drop (kOf e)).length ≤ 40
    rw [List.length_drop]; omega
  · show ((kOf e : Nat) : Int) ≤ 15
    omega
/-- An operand's value without its places. -/
def wholeV (op : UInt8) (o : Og) : List UInt8 :=
  if op = 105 then o.i else if op = 118 then dig o.f.length else if op = 102 then o.f else if op = 119 then dig (rt o.f).length else if op = 116 then rt o.f else dig o.e.toNat
/-- An operand's value, times ten as often as there are digits behind the point. -/
def numV (op : UInt8) (o : Og) : Nat := if op = 110 then val (o.i ++ o.f) else val (wholeV op o) * 10 ^ o.f.length
def leftV (m K z : Nat) : Nat := if m = 0 then z else z / 10 ^ K % m * 10 ^ K + z % 10 ^ K
theorem left_mod (m K z : Nat) : leftV m K z % 10 ^ K = z % 10 ^ K := by
  unfold leftV
  split
  · rfl
  · rw [Nat.add_comm, Nat.mul_comm, Nat.add_mul_mod_self_left, Nat.mod_mod]
theorem left_whole (m K n : Nat) : leftV m K (n * 10 ^ K) = (if m = 0 then n else n % m) * 10 ^ K := by
  unfold leftV
  split
  · rfl
  · rw [Nat.mul_div_cancel _ (ten_pos K), Nat.mul_mod_left, Nat.add_zero]
theorem wv_num {op : UInt8} {o : Og} (hB : OgB o) {d : List UInt8} (ho : opsB.contains op = true) (h : wvP op o = some d) : numV op o = val d * 10 ^ o.f.length := by
  have hc : op = 110 ∨ op = 105 ∨ op = 118 ∨ op = 119 ∨ op = 102 ∨ op = 116 ∨ op = 99 ∨ op = 101 := by simpa [opsB] using ho
  have di := hB.di
  have df := hB.df
  rcases hc with rfl | rfl | rfl | rfl | rfl | rfl | rfl | rfl
  · unfold wvP at h
    rw [if_pos rfl] at h
    by_cases hb : bare (rt o.f) = []
    · rw [if_pos hb] at h
      injection h with h
      subst h
      have hf := (bare_rt0 df).1 hb
      unfold numV
      rw [if_pos rfl, val_append, hf, Nat.add_zero, val_bare di]
    · rw [if_neg hb] at h; cases h
  all_goals
    unfold wvP at h
    simp at h
    subst h
    unfold numV wholeV
    simp [val_bare, val_dig, di, df, isDig_rt df]
/-- What the law reckons, of ranges. -/
def inV (x : RelT) (o : Og) : Bool :=
  x.rs.any fun y => decide (leftV x.mod o.f.length (numV x.op o) % 10 ^ o.f.length = 0) && (decide (y.1 * 10 ^ o.f.length ≤ leftV x.mod o.f.length (numV x.op o)) && decide (leftV x.mod o.f.length (numV x.op o) ≤ y.2 * 10 ^ o.f.length))
theorem in_law {x : RelT} {o : Og} (hB : OgB o) (ho : opsB.contains x.op = true) (hr : ∀ y ∈ x.rs, y.2 < 1000000000) : inV x o = inP x o := by
  have h18 : (10 : Nat) ^ 18 = 1000000000000000000 := by decide
  have hp := ten_pos o.f.length
  unfold inV inP vlP
  cases hw : wvP x.op o with
  | none =>
    simp only
    rw [List.any_eq_false]
    intro y hy
    have hop : x.op = 110 := by
      have hc : x.op = 110 ∨ x.op = 105 ∨ x.op = 118 ∨ x.op = 119 ∨ x.op = 102 ∨ x.op = 116 ∨ x.op = 99 ∨ x.op = 101 := by simpa [opsB] using ho
      rcases hc with h | h | h | h | h | h | h | h
      · exact h
      all_goals (unfold wvP at hw; rw [h] at hw; simp at hw)
    have hf : val o.f ≠ 0 := by
      intro hf
      unfold wvP at hw
      rw [if_pos hop, if_pos ((bare_rt0 hB.df).2 hf)] at hw
      cases hw
    have hlt := val_lt o.f hB.df
    have hm : leftV x.mod o.f.length (numV x.op o) % 10 ^ o.f.length ≠ 0 := by
      rw [left_mod]
      unfold numV
      rw [if_pos hop, val_append, Nat.add_comm, Nat.mul_comm, Nat.add_mul_mod_self_left, Nat.mod_eq_of_lt hlt]
      exact hf
    rw [decide_eq_false hm, Bool.false_and]
    decide
  | some d =>
    have hn := wv_num hB ho hw
    have h0 : leftV x.mod o.f.length (numV x.op o) % 10 ^ o.f.length = 0 := by rw [left_mod, hn, Nat.mul_mod_left]
    have h1 : leftV x.mod o.f.length (numV x.op o) = (if x.mod = 0 then val d else val d % x.mod) * 10 ^ o.f.length := by rw [hn, left_whole]
    have key : ∀ y : Nat × Nat, (decide (leftV x.mod o.f.length (numV x.op o) % 10 ^ o.f.length = 0) && (decide (y.1 * 10 ^ o.f.length ≤ leftV x.mod o.f.length (numV x.op o)) && decide (leftV x.mod o.f.length (numV x.op o) ≤ y.2 * 10 ^ o.f.length))) = (decide (y.1 ≤ (if x.mod = 0 then val d else val d % x.mod)) && decide ((if x.mod = 0 then val d else val d % x.mod) ≤ y.2)) := by
      intro y
      rw [decide_eq_true h0, Bool.true_and, h1, decide_eq_decide.2 (Nat.mul_le_mul_right_iff hp), decide_eq_decide.2 (Nat.mul_le_mul_right_iff hp)]
    rw [show (x.rs.any fun y => decide (leftV x.mod o.f.length (numV x.op o) % 10 ^ o.f.length = 0) && (decide (y.1 * 10 ^ o.f.length ≤ leftV x.mod o.f.length (numV x.op o)) && decide (leftV x.mod o.f.length (numV x.op o) ≤ y.2 * 10 ^ o.f.length))) = x.rs.any (fun y => decide (y.1 ≤ (if x.mod = 0 then val d else val d % x.mod)) && decide ((if x.mod = 0 then val d else val d % x.mod) ≤ y.2)) from congrArg x.rs.any (funext key)]
    simp only
    by_cases hm : x.mod = 0
    · simp only [hm, ne_eq, not_true_eq_false, if_false, if_true]
      by_cases hl : (dig (val d)).length ≤ 18
      · rw [if_pos hl]
      · rw [if_neg hl]
        simp only
        rw [List.any_eq_false]
        intro y hy
        have h2 := hr y hy
        have h3 : ¬ val d < 10 ^ 18 := fun h => hl ((dig_length_le _ _).2 h)
        rw [decide_eq_false (show ¬ val d ≤ y.2 by omega), Bool.and_false]
        decide
    · simp only [hm, ne_eq, not_false_eq_true, if_false, if_true]
theorem pow_le {a b : Nat} (h : a ≤ b) : 10 ^ a ≤ 10 ^ b := Nat.pow_le_pow_right (by decide) h
theorem num_lt {op : UInt8} {o : Og} (hs : OgS o) : numV op o < 10 ^ 200 := by
  have h1 := hs.il
  have h2 := hs.fl
  have h3 := hs.e1
  have di := hs.b.di
  have df := hs.b.df
  unfold numV
  split
  · have h := val_lt (o.i ++ o.f) (by rw [isDig_append, di, df]; rfl)
    refine Nat.lt_of_lt_of_le h (pow_le ?_)
    rw [List.length_append]; omega
  · have hw : val (wholeV op o) < 10 ^ 100 := by
      have hsm : ∀ n, n ≤ 40 → n < 10 ^ 100 := fun n hn => Nat.lt_of_le_of_lt hn (Nat.lt_of_lt_of_le (show 40 < 10 ^ 2 by decide) (pow_le (by decide)))
      unfold wholeV
      split
      · exact Nat.lt_of_lt_of_le (val_lt _ di) (pow_le h1)
      · split
        · rw [val_dig]; exact hsm _ h2
        · split
          · exact Nat.lt_of_lt_of_le (val_lt _ df) (pow_le (by omega))
          · split
            · rw [val_dig]; exact hsm _ (Nat.le_trans (rt_length_le _) h2)
            · split
              · exact Nat.lt_of_lt_of_le (val_lt _ (isDig_rt df)) (pow_le (Nat.le_trans (rt_length_le _) (by omega)))
              · rw [val_dig]; exact hsm _ (by have := hs.b.e0; omega)
    have h5 : val (wholeV op o) * 10 ^ o.f.length < 10 ^ 100 * 10 ^ o.f.length := Nat.mul_lt_mul_of_pos_right hw (ten_pos _)
    rw [← Nat.pow_add] at h5
    exact Nat.lt_of_lt_of_le h5 (pow_le (by omega))
theorem num_fit {op : UInt8} {o : Og} (hs : OgS o) : Fit o.f.length ((numV op o : Nat) : Int) := fit_of (m := 200) (by have := hs.fl; omega) (num_lt hs) (by decide)
theorem left_le (m K z : Nat) : leftV m K z ≤ z := by
  unfold leftV
  split
  · exact Nat.le_refl _
  · have h1 : z / 10 ^ K % m ≤ z / 10 ^ K := Nat.mod_le _ _
    have h2 := Nat.mul_le_mul_right (10 ^ K) h1
    have h3 := Nat.div_add_mod z (10 ^ K)
    rw [Nat.mul_comm] at h3
    omega
theorem left_fit {op : UInt8} {o : Og} (hs : OgS o) (m : Nat) : Fit o.f.length ((leftV m o.f.length (numV op o) : Nat) : Int) := fit_of (m := 200) (by have := hs.fl; omega) (Nat.lt_of_le_of_lt (left_le _ _ _) (num_lt hs)) (by decide)
theorem whole_dig {op : UInt8} {o : Og} (hs : OgS o) : isDig (wholeV op o) = true := by
  unfold wholeV
  repeat' split
  all_goals first | exact hs.b.di | exact hs.b.df | exact isDig_dig _ | exact isDig_rt hs.b.df
/-- An operand's value as a decimal. -/
theorem made_num {o : Og} (hs : OgS o) : made false (o.i ++ o.f) (-(o.f.length : Int)) = nf o.f.length ((numV 110 o : Nat) : Int) := by
  refine made_nf (by rw [isDig_append, hs.b.di, hs.b.df]; rfl) (Int.le_refl _) ?_ (num_fit hs)
  rw [show (-(o.f.length : Int) + (o.f.length : Int)).toNat = 0 by omega, Nat.pow_zero, Nat.mul_one]
  unfold numV
  rw [if_pos rfl]
theorem made_whole {op : UInt8} {o : Og} (hs : OgS o) (h : op ≠ 110) : made false (wholeV op o) 0 = nf o.f.length ((numV op o : Nat) : Int) := by
  refine made_nf (whole_dig hs) (by omega) ?_ (num_fit hs)
  unfold numV
  rw [if_neg h, show (0 + (o.f.length : Int)).toNat = o.f.length by omega]
theorem made_k {K n : Nat} (hf : Fit K ((n * 10 ^ K : Nat) : Int)) : made false (dig n) 0 = nf K ((n * 10 ^ K : Nat) : Int) := by
  refine made_nf (isDig_dig _) (by omega) ?_ hf
  rw [val_dig, show (0 + (K : Int)).toNat = K by omega]
end Go.Proofs.YtkjhdehpcanciaaGreatDoor

namespace Go.Proofs.YtkjhdehpcanciaaGreatDoor
open Go.RowKit Florin
set_option linter.unusedVariables false
set_option linter.unusedSimpArgs false
attribute [local go_sem ↓] Go.wp_at_zero Go.wp_at_succ
theorem madeL (l : List UInt8) (e : Int) (w : World) (hl : l.length ≤ 1000000) (d : Tri) (hd : made false l e = d) :
    Calls Tryz.prog 47 #[.bool false, .string ⟨l.toArray⟩, .int .i64 e] w fun z w' => z = .returned (V d) ∧ Below w.heap.size w w' :=
  made_as false ⟨l.toArray⟩ e w (by rw [arr_size]; exact hl) d hd
theorem rt_at (l : List UInt8) {k : Nat} (h0 : 0 < k) (h1 : (rt l).length ≤ k) (h2 : k ≤ l.length) : ((((⟨l.toArray⟩ : ByteArray)[k - 1]'(by rw [arr_size]; omega)).toNat : Int) == 48) = decide ((rt l).length < k) := by
  obtain ⟨t, e1, e2, e3⟩ := rt_back l
  have hk : k - 1 < l.length := by omega
  have hg : (⟨l.toArray⟩ : ByteArray)[k - 1]'(by rw [arr_size]; omega) = l[k - 1] := by simp [ByteArray.getElem_eq_getElem_data]
  rw [hg]
  by_cases h : (rt l).length < k
  · rw [decide_eq_true h, beq_iff_eq]
    have h3 : l[k - 1]? = some 48 := by
      rw [e1, List.getElem?_append_right (by omega)]
      unfold zs
      rw [List.getElem?_replicate, if_pos (by omega)]
    have h4 : l[k - 1] = 48 := by rw [List.getElem?_eq_getElem hk] at h3; exact Option.some.inj h3
    rw [h4]; rfl
  · rw [decide_eq_false h, beq_eq_false_iff_ne]
    have hkl : k = (rt l).length := by omega
    have hne : rt l ≠ [] := by intro h; rw [h] at hkl; simp at hkl; omega
    obtain ⟨dl, c, hdc⟩ : ∃ dl c, rt l = dl ++ [c] := ⟨_, _, (List.dropLast_concat_getLast hne).symm⟩
    have h5 := e3 dl c hdc
    have hkd : k - 1 = dl.length := by rw [hkl, hdc, List.length_append]; simp
    have h3 : (rt l ++ zs t)[k - 1]? = some c := by
      rw [hdc, hkd, List.append_assoc, List.getElem?_append_right (Nat.le_refl _), Nat.sub_self]; rfl
    rw [← e1] at h3
    have h4 : l[k - 1] = c := by rw [List.getElem?_eq_getElem hk] at h3; exact Option.some.inj h3
    rw [h4]
    intro h6
    exact h5 (UInt8.toNat_inj.1 (by
      have : c.toNat = 48 := by omega
      rw [this]; rfl))
theorem divQ (a : List UInt8) (m q r : Nat) (w : World) (ha : a.length ≤ 1000000) (da : isDig a = true) (h1 : 1 ≤ m) (hm : m ≤ 1000000000) (hq : val a / m = q) (hr : val a % m = r) :
    Calls Tryz.prog 67 #[S a, .int .i64 (m : Int)] w fun z w' => z = .returned (.tuple #[S (dig q), .int .i64 (r : Int)]) ∧ Below w.heap.size w w' := by
  subst hq hr; exact divS a m w ha da h1 hm
theorem rt_take (l : List UInt8) : (⟨l.toArray⟩ : ByteArray).extract 0 (rt l).length = ⟨(rt l).toArray⟩ := by
  obtain ⟨t, e1, _, _⟩ := rt_back l
  rw [ext_take']
  have h := List.take_left (l₁ := rt l) (l₂ := zs t)
  rw [← e1] at h
  rw [h]

set_option maxRecDepth 100000 in
set_option maxHeartbeats 1600000 in
theorem val_n (o : Og) (w : World) (hs : OgS o) (ht : Tab w) (d : Tri) (hd : made false (o.i ++ o.f) (-(o.f.length : Int)) = d) :
    Calls Tryz.prog 45 #[.int .u8 110, OV o] w fun z w' => z = .returned (V d) ∧ Below w.heap.size w w' := by
  have HT := Lib.hid ht
  have HD := Lib.hid hd
  have il := hs.il
  have fl := hs.fl
  have rl := rt_length_le o.f
  have e0 := hs.b.e0
  have e1 := hs.e1
  clear ht hd
  go_enter Tryz.func45, Tryz.ntmps45
  obtain ⟨t1, ht1⟩ : ∃ t1, o.i ++ o.f = t1 := ⟨_, rfl⟩
  have t1l : t1.length = o.i.length + o.f.length := by rw [← ht1, List.length_append]
  have SBt1 : (⟨o.i.toArray⟩ : ByteArray) ++ (⟨o.f.toArray⟩ : ByteArray) = ⟨t1.toArray⟩ := by rw [← ht1]; exact arr_append o.i o.f
  have cbt1 : ¬ 9223372036854775807 < o.i.length + o.f.length := by omega
  rw [ht1] at HD
  clear ht1
  go_wp2_with fail
  with_reducible refine (madeL t1 (-(o.f.length : Int)) _ (by omega) d HD.out).mono ?_
  rintro x w1 ⟨rfl, hb⟩
  have H1 : Hid (HeldL w [(w.heap.size + 1, #[.bool false, .string ⟨#[]⟩, .int .i64 0]), (w.heap.size, #[S o.i, S o.f, .int .i64 o.e])] w1) := Lib.hid (HeldL.keep (HeldL.alloc (HeldL.alloc (HeldL.refl w) (w.heap.size) #[S o.i, S o.f, .int .i64 o.e] 42 (by simp)) (w.heap.size + 1) #[.bool false, .string ⟨#[]⟩, .int .i64 0] 90 (by simp)) hb)
  clear hb
  have r0 : w1.cell? ⟨w.heap.size + 1, 0, none⟩ = some (.bool false) := (H1.out.f (List.Mem.head _)).cell 0
  have rz0 : w1.frozen? ⟨w.heap.size + 1, 0, none⟩ = false := (H1.out.f (List.Mem.head _)).frozen 0
  have r1 : w1.cell? ⟨w.heap.size + 1, 1, none⟩ = some (.string ⟨#[]⟩) := (H1.out.f (List.Mem.head _)).cell 1
  have rz1 : w1.frozen? ⟨w.heap.size + 1, 1, none⟩ = false := (H1.out.f (List.Mem.head _)).frozen 1
  have r2 : w1.cell? ⟨w.heap.size + 1, 2, none⟩ = some (.int .i64 0) := (H1.out.f (List.Mem.head _)).cell 2
  have rz2 : w1.frozen? ⟨w.heap.size + 1, 2, none⟩ = false := (H1.out.f (List.Mem.head _)).frozen 2
  have rl : w.heap.size + 1 < w1.heap.size := (H1.out.f (List.Mem.head _)).lt
  go_wp2
  exact bodyPost_ret (v := V d) (by simp [results, Tryz.results45, go_sem, r0, r1, r2]) rfl ⟨rfl, (HeldL.store3 [] [(w.heap.size, #[S o.i, S o.f, .int .i64 o.e])] H1.out (.bool d.neg) (S d.l) (.int .i64 d.e)).bel⟩

set_option maxRecDepth 100000 in
set_option maxHeartbeats 1600000 in
theorem val_i (o : Og) (w : World) (hs : OgS o) (ht : Tab w) (d : Tri) (hd : made false o.i 0 = d) :
    Calls Tryz.prog 45 #[.int .u8 105, OV o] w fun z w' => z = .returned (V d) ∧ Below w.heap.size w w' := by
  have HT := Lib.hid ht
  have HD := Lib.hid hd
  have il := hs.il
  have fl := hs.fl
  have rl := rt_length_le o.f
  have e0 := hs.b.e0
  have e1 := hs.e1
  clear ht hd
  go_enter Tryz.func45, Tryz.ntmps45
  go_wp2_with fail
  with_reducible refine (madeL o.i 0 _ (by omega) d HD.out).mono ?_
  rintro x w1 ⟨rfl, hb⟩
  have H1 : Hid (HeldL w [(w.heap.size + 1, #[.bool false, .string ⟨#[]⟩, .int .i64 0]), (w.heap.size, #[S o.i, S o.f, .int .i64 o.e])] w1) := Lib.hid (HeldL.keep (HeldL.alloc (HeldL.alloc (HeldL.refl w) (w.heap.size) #[S o.i, S o.f, .int .i64 o.e] 42 (by simp)) (w.heap.size + 1) #[.bool false, .string ⟨#[]⟩, .int .i64 0] 90 (by simp)) hb)
  clear hb
  have r0 : w1.cell? ⟨w.heap.size + 1, 0, none⟩ = some (.bool false) := (H1.out.f (List.Mem.head _)).cell 0
  have rz0 : w1.frozen? ⟨w.heap.size + 1, 0, none⟩ = false := (H1.out.f (List.Mem.head _)).frozen 0
  have r1 : w1.cell? ⟨w.heap.size + 1, 1, none⟩ = some (.string ⟨#[]⟩) := (H1.out.f (List.Mem.head _)).cell 1
  have rz1 : w1.frozen? ⟨w.heap.size + 1, 1, none⟩ = false := (H1.out.f (List.Mem.head _)).frozen 1
  have r2 : w1.cell? ⟨w.heap.size + 1, 2, none⟩ = some (.int .i64 0) := (H1.out.f (List.Mem.head _)).cell 2
  have rz2 : w1.frozen? ⟨w.heap.size + 1, 2, none⟩ = false := (H1.out.f (List.Mem.head _)).frozen 2
  have rl : w.heap.size + 1 < w1.heap.size := (H1.out.f (List.Mem.head _)).lt
  go_wp2
  exact bodyPost_ret (v := V d) (by simp [results, Tryz.results45, go_sem, r0, r1, r2]) rfl ⟨rfl, (HeldL.store3 [] [(w.heap.size, #[S o.i, S o.f, .int .i64 o.e])] H1.out (.bool d.neg) (S d.l) (.int .i64 d.e)).bel⟩

set_option maxRecDepth 100000 in
set_option maxHeartbeats 1600000 in
theorem val_v (o : Og) (w : World) (hs : OgS o) (ht : Tab w) (d : Tri) (hd : made false (dig o.f.length) 0 = d) :
    Calls Tryz.prog 45 #[.int .u8 118, OV o] w fun z w' => z = .returned (V d) ∧ Below w.heap.size w w' := by
  have HT := Lib.hid ht
  have HD := Lib.hid hd
  have il := hs.il
  have fl := hs.fl
  have rl := rt_length_le o.f
  have e0 := hs.b.e0
  have e1 := hs.e1
  clear ht hd
  go_enter Tryz.func45, Tryz.ntmps45
  go_wp2_with fail
  with_reducible refine (ofN o.f.length _ (by omega) (HT.out.below (HeldL.alloc (HeldL.alloc (HeldL.refl w) (w.heap.size) #[S o.i, S o.f, .int .i64 o.e] 42 (by simp)) (w.heap.size + 1) #[.bool false, .string ⟨#[]⟩, .int .i64 0] 90 (by simp)).bel)).mono ?_
  rintro x w1 ⟨rfl, hb⟩
  have H1 : Hid (HeldL w [(w.heap.size + 1, #[.bool false, .string ⟨#[]⟩, .int .i64 0]), (w.heap.size, #[S o.i, S o.f, .int .i64 o.e])] w1) := Lib.hid (HeldL.keep (HeldL.alloc (HeldL.alloc (HeldL.refl w) (w.heap.size) #[S o.i, S o.f, .int .i64 o.e] 42 (by simp)) (w.heap.size + 1) #[.bool false, .string ⟨#[]⟩, .int .i64 0] 90 (by simp)) hb)
  clear hb
  have dgl := (dig_length_le o.f.length 18).2 (by omega)
  go_wp2_with fail
  with_reducible refine (madeL (dig o.f.length) 0 _ (by omega) d HD.out).mono ?_
  rintro x w2 ⟨rfl, hb⟩
  have H2 : Hid (HeldL w [(w.heap.size + 1, #[.bool false, .string ⟨#[]⟩, .int .i64 0]), (w.heap.size, #[S o.i, S o.f, .int .i64 o.e])] w2) := Lib.hid (HeldL.keep H1.out hb)
  clear H1
  clear hb
  have r0 : w2.cell? ⟨w.heap.size + 1, 0, none⟩ = some (.bool false) := (H2.out.f (List.Mem.head _)).cell 0
  have rz0 : w2.frozen? ⟨w.heap.size + 1, 0, none⟩ = false := (H2.out.f (List.Mem.head _)).frozen 0
  have r1 : w2.cell? ⟨w.heap.size + 1, 1, none⟩ = some (.string ⟨#[]⟩) := (H2.out.f (List.Mem.head _)).cell 1
  have rz1 : w2.frozen? ⟨w.heap.size + 1, 1, none⟩ = false := (H2.out.f (List.Mem.head _)).frozen 1
  have r2 : w2.cell? ⟨w.heap.size + 1, 2, none⟩ = some (.int .i64 0) := (H2.out.f (List.Mem.head _)).cell 2
  have rz2 : w2.frozen? ⟨w.heap.size + 1, 2, none⟩ = false := (H2.out.f (List.Mem.head _)).frozen 2
  have rl : w.heap.size + 1 < w2.heap.size := (H2.out.f (List.Mem.head _)).lt
  go_wp2
  exact bodyPost_ret (v := V d) (by simp [results, Tryz.results45, go_sem, r0, r1, r2]) rfl ⟨rfl, (HeldL.store3 [] [(w.heap.size, #[S o.i, S o.f, .int .i64 o.e])] H2.out (.bool d.neg) (S d.l) (.int .i64 d.e)).bel⟩

set_option maxRecDepth 100000 in
set_option maxHeartbeats 1600000 in
theorem val_f (o : Og) (w : World) (hs : OgS o) (ht : Tab w) (d : Tri) (hd : made false o.f 0 = d) :
    Calls Tryz.prog 45 #[.int .u8 102, OV o] w fun z w' => z = .returned (V d) ∧ Below w.heap.size w w' := by
  have HT := Lib.hid ht
  have HD := Lib.hid hd
  have il := hs.il
  have fl := hs.fl
  have rl := rt_length_le o.f
  have e0 := hs.b.e0
  have e1 := hs.e1
  clear ht hd
  go_enter Tryz.func45, Tryz.ntmps45
  go_wp2_with fail
  with_reducible refine (madeL o.f 0 _ (by omega) d HD.out).mono ?_
  rintro x w1 ⟨rfl, hb⟩
  have H1 : Hid (HeldL w [(w.heap.size + 1, #[.bool false, .string ⟨#[]⟩, .int .i64 0]), (w.heap.size, #[S o.i, S o.f, .int .i64 o.e])] w1) := Lib.hid (HeldL.keep (HeldL.alloc (HeldL.alloc (HeldL.refl w) (w.heap.size) #[S o.i, S o.f, .int .i64 o.e] 42 (by simp)) (w.heap.size + 1) #[.bool false, .string ⟨#[]⟩, .int .i64 0] 90 (by simp)) hb)
  clear hb
  have r0 : w1.cell? ⟨w.heap.size + 1, 0, none⟩ = some (.bool false) := (H1.out.f (List.Mem.head _)).cell 0
  have rz0 : w1.frozen? ⟨w.heap.size + 1, 0, none⟩ = false := (H1.out.f (List.Mem.head _)).frozen 0
  have r1 : w1.cell? ⟨w.heap.size + 1, 1, none⟩ = some (.string ⟨#[]⟩) := (H1.out.f (List.Mem.head _)).cell 1
  have rz1 : w1.frozen? ⟨w.heap.size + 1, 1, none⟩ = false := (H1.out.f (List.Mem.head _)).frozen 1
  have r2 : w1.cell? ⟨w.heap.size + 1, 2, none⟩ = some (.int .i64 0) := (H1.out.f (List.Mem.head _)).cell 2
  have rz2 : w1.frozen? ⟨w.heap.size + 1, 2, none⟩ = false := (H1.out.f (List.Mem.head _)).frozen 2
  have rl : w.heap.size + 1 < w1.heap.size := (H1.out.f (List.Mem.head _)).lt
  go_wp2
  exact bodyPost_ret (v := V d) (by simp [results, Tryz.results45, go_sem, r0, r1, r2]) rfl ⟨rfl, (HeldL.store3 [] [(w.heap.size, #[S o.i, S o.f, .int .i64 o.e])] H1.out (.bool d.neg) (S d.l) (.int .i64 d.e)).bel⟩

set_option maxRecDepth 100000 in
set_option maxHeartbeats 1600000 in
theorem val_w (o : Og) (w : World) (hs : OgS o) (ht : Tab w) (d : Tri) (hd : made false (dig (rt o.f).length) 0 = d) :
    Calls Tryz.prog 45 #[.int .u8 119, OV o] w fun z w' => z = .returned (V d) ∧ Below w.heap.size w w' := by
  have HT := Lib.hid ht
  have HD := Lib.hid hd
  have il := hs.il
  have fl := hs.fl
  have rl := rt_length_le o.f
  have e0 := hs.b.e0
  have e1 := hs.e1
  clear ht hd
  go_enter Tryz.func45, Tryz.ntmps45
  go_wp2_with fail
  have H1 : Hid (HeldL w [(w.heap.size + 1, #[.bool false, .string ⟨#[]⟩, .int .i64 0]), (w.heap.size, #[S o.i, S o.f, .int .i64 o.e])] ((w.alloc (.cells #[S o.i, S o.f, .int .i64 o.e] 42)).alloc (.cells #[.bool false, .string ⟨#[]⟩, .int .i64 0] 90))) := Lib.hid ((HeldL.alloc (HeldL.alloc (HeldL.refl w) (w.heap.size) #[S o.i, S o.f, .int .i64 o.e] 42 (by simp)) (w.heap.size + 1) #[.bool false, .string ⟨#[]⟩, .int .i64 0] 90 (by simp)))
  generalize ((w.alloc (.cells #[S o.i, S o.f, .int .i64 o.e] 42)).alloc (.cells #[.bool false, .string ⟨#[]⟩, .int .i64 0] 90)) = w1 at *
  have o0 : w1.cell? ⟨w.heap.size, 0, none⟩ = some (S o.i) := (H1.out.f (List.Mem.tail _ (List.Mem.head _))).cell 0
  have o1 : w1.cell? ⟨w.heap.size, 1, none⟩ = some (S o.f) := (H1.out.f (List.Mem.tail _ (List.Mem.head _))).cell 1
  have o2 : w1.cell? ⟨w.heap.size, 2, none⟩ = some (.int .i64 o.e) := (H1.out.f (List.Mem.tail _ (List.Mem.head _))).cell 2
  have ol : w.heap.size < w1.heap.size := (H1.out.f (List.Mem.tail _ (List.Mem.head _))).lt
  go_loopw [5] (fun i wr => ∃ k : Nat, (rt o.f).length ≤ k ∧ k ≤ o.f.length ∧ i = .int .i64 (k : Int) ∧ w1 = wr) (fun i _ => (intOf i).toNat)
  case atStart => exact ⟨o.f.length, rl, Nat.le_refl _, rfl, rfl⟩
  case round =>
    obtain ⟨k, hk1, hk2, rfl, rfl⟩ := hrel
    by_cases h0 : k = 0
    · have hrt : (rt o.f).length = k := by omega
      have h0i : ¬ (0 : Int) < (k : Int) := by omega
      clear h0
      subst hrt
      go_wp2_with fail
      with_reducible refine (ofN (rt o.f).length _ (by omega) (HT.out.below H1.out.bel)).mono ?_
      rintro x w2 ⟨rfl, hb⟩
      clear o0 o1 o2 ol
      have H2 : Hid (HeldL w [(w.heap.size + 1, #[.bool false, .string ⟨#[]⟩, .int .i64 0]), (w.heap.size, #[S o.i, S o.f, .int .i64 o.e])] w2) := Lib.hid (HeldL.keep H1.out hb)
      clear H1
      clear hb
      have dgl := (dig_length_le (rt o.f).length 18).2 (by omega)
      go_wp2_with fail
      with_reducible refine (madeL (dig (rt o.f).length) 0 _ (by omega) d HD.out).mono ?_
      rintro x w3 ⟨rfl, hb⟩
      have H3 : Hid (HeldL w [(w.heap.size + 1, #[.bool false, .string ⟨#[]⟩, .int .i64 0]), (w.heap.size, #[S o.i, S o.f, .int .i64 o.e])] w3) := Lib.hid (HeldL.keep H2.out hb)
      clear H2
      clear hb
      have r0 : w3.cell? ⟨w.heap.size + 1, 0, none⟩ = some (.bool false) := (H3.out.f (List.Mem.head _)).cell 0
      have rz0 : w3.frozen? ⟨w.heap.size + 1, 0, none⟩ = false := (H3.out.f (List.Mem.head _)).frozen 0
      have r1 : w3.cell? ⟨w.heap.size + 1, 1, none⟩ = some (.string ⟨#[]⟩) := (H3.out.f (List.Mem.head _)).cell 1
      have rz1 : w3.frozen? ⟨w.heap.size + 1, 1, none⟩ = false := (H3.out.f (List.Mem.head _)).frozen 1
      have r2 : w3.cell? ⟨w.heap.size + 1, 2, none⟩ = some (.int .i64 0) := (H3.out.f (List.Mem.head _)).cell 2
      have rz2 : w3.frozen? ⟨w.heap.size + 1, 2, none⟩ = false := (H3.out.f (List.Mem.head _)).frozen 2
      have rl : w.heap.size + 1 < w3.heap.size := (H3.out.f (List.Mem.head _)).lt
      go_wp2
      exact bodyPost_ret (v := V d) (by simp [results, Tryz.results45, go_sem, r0, r1, r2]) rfl ⟨rfl, (HeldL.store3 [] [(w.heap.size, #[S o.i, S o.f, .int .i64 o.e])] H3.out (.bool d.neg) (S d.l) (.int .i64 d.e)).bel⟩
    · have hkp : 0 < k := by omega
      have hkpi : (0 : Int) < (k : Int) := by omega
      have hix : k - 1 < (⟨o.f.toArray⟩ : ByteArray).size := by rw [arr_size]; omega
      have hat := rt_at o.f hkp hk1 hk2
      have hki : (k : Int) - 1 = ((k - 1 : Nat) : Int) := by omega
      have hsz : (⟨o.f.toArray⟩ : ByteArray).size = o.f.length := arr_size _
      by_cases hlt : (rt o.f).length < k
      · rw [decide_eq_true hlt] at hat
        go_wp2_with fail
        go_roundw
        case rel => exact ⟨k - 1, by omega, by omega, by go_num, by first | rfl | trivial⟩
        case measure => simp [intOf]; omega
      · rw [decide_eq_false hlt] at hat
        have hrt : (rt o.f).length = k := by omega
        subst hrt
        go_wp2_with fail
        with_reducible refine (ofN (rt o.f).length _ (by omega) (HT.out.below H1.out.bel)).mono ?_
        rintro x w2 ⟨rfl, hb⟩
        clear o0 o1 o2 ol
        have H2 : Hid (HeldL w [(w.heap.size + 1, #[.bool false, .string ⟨#[]⟩, .int .i64 0]), (w.heap.size, #[S o.i, S o.f, .int .i64 o.e])] w2) := Lib.hid (HeldL.keep H1.out hb)
        clear H1
        clear hb
        have dgl := (dig_length_le (rt o.f).length 18).2 (by omega)
        go_wp2_with fail
        with_reducible refine (madeL (dig (rt o.f).length) 0 _ (by omega) d HD.out).mono ?_
        rintro x w3 ⟨rfl, hb⟩
        have H3 : Hid (HeldL w [(w.heap.size + 1, #[.bool false, .string ⟨#[]⟩, .int .i64 0]), (w.heap.size, #[S o.i, S o.f, .int .i64 o.e])] w3) := Lib.hid (HeldL.keep H2.out hb)
        clear H2
        clear hb
        have r0 : w3.cell? ⟨w.heap.size + 1, 0, none⟩ = some (.bool false) := (H3.out.f (List.Mem.head _)).cell 0
        have rz0 : w3.frozen? ⟨w.heap.size + 1, 0, none⟩ = false := (H3.out.f (List.Mem.head _)).frozen 0
        have r1 : w3.cell? ⟨w.heap.size + 1, 1, none⟩ = some (.string ⟨#[]⟩) := (H3.out.f (List.Mem.head _)).cell 1
        have rz1 : w3.frozen? ⟨w.heap.size + 1, 1, none⟩ = false := (H3.out.f (List.Mem.head _)).frozen 1
        have r2 : w3.cell? ⟨w.heap.size + 1, 2, none⟩ = some (.int .i64 0) := (H3.out.f (List.Mem.head _)).cell 2
        have rz2 : w3.frozen? ⟨w.heap.size + 1, 2, none⟩ = false := (H3.out.f (List.Mem.head _)).frozen 2
        have rl : w.heap.size + 1 < w3.heap.size := (H3.out.f (List.Mem.head _)).lt
        go_wp2
        exact bodyPost_ret (v := V d) (by simp [results, Tryz.results45, go_sem, r0, r1, r2]) rfl ⟨rfl, (HeldL.store3 [] [(w.heap.size, #[S o.i, S o.f, .int .i64 o.e])] H3.out (.bool d.neg) (S d.l) (.int .i64 d.e)).bel⟩

set_option maxRecDepth 100000 in
set_option maxHeartbeats 1600000 in
theorem val_t (o : Og) (w : World) (hs : OgS o) (ht : Tab w) (d : Tri) (hd : made false (rt o.f) 0 = d) :
    Calls Tryz.prog 45 #[.int .u8 116, OV o] w fun z w' => z = .returned (V d) ∧ Below w.heap.size w w' := by
  have HT := Lib.hid ht
  have HD := Lib.hid hd
  have il := hs.il
  have fl := hs.fl
  have rl := rt_length_le o.f
  have e0 := hs.b.e0
  have e1 := hs.e1
  clear ht hd
  go_enter Tryz.func45, Tryz.ntmps45
  go_wp2_with fail
  have H1 : Hid (HeldL w [(w.heap.size + 1, #[.bool false, .string ⟨#[]⟩, .int .i64 0]), (w.heap.size, #[S o.i, S o.f, .int .i64 o.e])] ((w.alloc (.cells #[S o.i, S o.f, .int .i64 o.e] 42)).alloc (.cells #[.bool false, .string ⟨#[]⟩, .int .i64 0] 90))) := Lib.hid ((HeldL.alloc (HeldL.alloc (HeldL.refl w) (w.heap.size) #[S o.i, S o.f, .int .i64 o.e] 42 (by simp)) (w.heap.size + 1) #[.bool false, .string ⟨#[]⟩, .int .i64 0] 90 (by simp)))
  generalize ((w.alloc (.cells #[S o.i, S o.f, .int .i64 o.e] 42)).alloc (.cells #[.bool false, .string ⟨#[]⟩, .int .i64 0] 90)) = w1 at *
  have o0 : w1.cell? ⟨w.heap.size, 0, none⟩ = some (S o.i) := (H1.out.f (List.Mem.tail _ (List.Mem.head _))).cell 0
  have o1 : w1.cell? ⟨w.heap.size, 1, none⟩ = some (S o.f) := (H1.out.f (List.Mem.tail _ (List.Mem.head _))).cell 1
  have o2 : w1.cell? ⟨w.heap.size, 2, none⟩ = some (.int .i64 o.e) := (H1.out.f (List.Mem.tail _ (List.Mem.head _))).cell 2
  have ol : w.heap.size < w1.heap.size := (H1.out.f (List.Mem.tail _ (List.Mem.head _))).lt
  go_loopw [5] (fun i wr => ∃ k : Nat, (rt o.f).length ≤ k ∧ k ≤ o.f.length ∧ i = .int .i64 (k : Int) ∧ w1 = wr) (fun i _ => (intOf i).toNat)
  case atStart => exact ⟨o.f.length, rl, Nat.le_refl _, rfl, rfl⟩
  case round =>
    obtain ⟨k, hk1, hk2, rfl, rfl⟩ := hrel
    by_cases h0 : k = 0
    · have hrt : (rt o.f).length = k := by omega
      have h0i : ¬ (0 : Int) < (k : Int) := by omega
      clear h0
      subst hrt
      have RTT := rt_take o.f
      go_wp2_with fail
      with_reducible refine (madeL (rt o.f) 0 _ (by omega) d HD.out).mono ?_
      rintro x w2 ⟨rfl, hb⟩
      clear o0 o1 o2 ol
      have H2 : Hid (HeldL w [(w.heap.size + 1, #[.bool false, .string ⟨#[]⟩, .int .i64 0]), (w.heap.size, #[S o.i, S o.f, .int .i64 o.e])] w2) := Lib.hid (HeldL.keep H1.out hb)
      clear H1
      clear hb
      have r0 : w2.cell? ⟨w.heap.size + 1, 0, none⟩ = some (.bool false) := (H2.out.f (List.Mem.head _)).cell 0
      have rz0 : w2.frozen? ⟨w.heap.size + 1, 0, none⟩ = false := (H2.out.f (List.Mem.head _)).frozen 0
      have r1 : w2.cell? ⟨w.heap.size + 1, 1, none⟩ = some (.string ⟨#[]⟩) := (H2.out.f (List.Mem.head _)).cell 1
      have rz1 : w2.frozen? ⟨w.heap.size + 1, 1, none⟩ = false := (H2.out.f (List.Mem.head _)).frozen 1
      have r2 : w2.cell? ⟨w.heap.size + 1, 2, none⟩ = some (.int .i64 0) := (H2.out.f (List.Mem.head _)).cell 2
      have rz2 : w2.frozen? ⟨w.heap.size + 1, 2, none⟩ = false := (H2.out.f (List.Mem.head _)).frozen 2
      have rl : w.heap.size + 1 < w2.heap.size := (H2.out.f (List.Mem.head _)).lt
      go_wp2
      exact bodyPost_ret (v := V d) (by simp [results, Tryz.results45, go_sem, r0, r1, r2]) rfl ⟨rfl, (HeldL.store3 [] [(w.heap.size, #[S o.i, S o.f, .int .i64 o.e])] H2.out (.bool d.neg) (S d.l) (.int .i64 d.e)).bel⟩
    · have hkp : 0 < k := by omega
      have hkpi : (0 : Int) < (k : Int) := by omega
      have hix : k - 1 < (⟨o.f.toArray⟩ : ByteArray).size := by rw [arr_size]; omega
      have hat := rt_at o.f hkp hk1 hk2
      have hki : (k : Int) - 1 = ((k - 1 : Nat) : Int) := by omega
      have hsz : (⟨o.f.toArray⟩ : ByteArray).size = o.f.length := arr_size _
      by_cases hlt : (rt o.f).length < k
      · rw [decide_eq_true hlt] at hat
        go_wp2_with fail
        go_roundw
        case rel => exact ⟨k - 1, by omega, by omega, by go_num, by first | rfl | trivial⟩
        case measure => simp [intOf]; omega
      · rw [decide_eq_false hlt] at hat
        have hrt : (rt o.f).length = k := by omega
        subst hrt
        have RTT := rt_take o.f
        go_wp2_with fail
        with_reducible refine (madeL (rt o.f) 0 _ (by omega) d HD.out).mono ?_
        rintro x w2 ⟨rfl, hb⟩
        clear o0 o1 o2 ol
        have H2 : Hid (HeldL w [(w.heap.size + 1, #[.bool false, .string ⟨#[]⟩, .int .i64 0]), (w.heap.size, #[S o.i, S o.f, .int .i64 o.e])] w2) := Lib.hid (HeldL.keep H1.out hb)
        clear H1
        clear hb
        have r0 : w2.cell? ⟨w.heap.size + 1, 0, none⟩ = some (.bool false) := (H2.out.f (List.Mem.head _)).cell 0
        have rz0 : w2.frozen? ⟨w.heap.size + 1, 0, none⟩ = false := (H2.out.f (List.Mem.head _)).frozen 0
        have r1 : w2.cell? ⟨w.heap.size + 1, 1, none⟩ = some (.string ⟨#[]⟩) := (H2.out.f (List.Mem.head _)).cell 1
        have rz1 : w2.frozen? ⟨w.heap.size + 1, 1, none⟩ = false := (H2.out.f (List.Mem.head _)).frozen 1
        have r2 : w2.cell? ⟨w.heap.size + 1, 2, none⟩ = some (.int .i64 0) := (H2.out.f (List.Mem.head _)).cell 2
        have rz2 : w2.frozen? ⟨w.heap.size + 1, 2, none⟩ = false := (H2.out.f (List.Mem.head _)).frozen 2
        have rl : w.heap.size + 1 < w2.heap.size := (H2.out.f (List.Mem.head _)).lt
        go_wp2
        exact bodyPost_ret (v := V d) (by simp [results, Tryz.results45, go_sem, r0, r1, r2]) rfl ⟨rfl, (HeldL.store3 [] [(w.heap.size, #[S o.i, S o.f, .int .i64 o.e])] H2.out (.bool d.neg) (S d.l) (.int .i64 d.e)).bel⟩

set_option maxRecDepth 100000 in
set_option maxHeartbeats 1600000 in
theorem val_c (o : Og) (w : World) (hs : OgS o) (ht : Tab w) (d : Tri) (hd : made false (dig o.e.toNat) 0 = d) :
    Calls Tryz.prog 45 #[.int .u8 99, OV o] w fun z w' => z = .returned (V d) ∧ Below w.heap.size w w' := by
  have HT := Lib.hid ht
  have HD := Lib.hid hd
  have il := hs.il
  have fl := hs.fl
  have rl := rt_length_le o.f
  have e0 := hs.b.e0
  have e1 := hs.e1
  clear ht hd
  go_enter Tryz.func45, Tryz.ntmps45
  go_wp2_with fail
  have H1 : Hid (HeldL w [(w.heap.size + 1, #[.bool false, .string ⟨#[]⟩, .int .i64 0]), (w.heap.size, #[S o.i, S o.f, .int .i64 o.e])] ((w.alloc (.cells #[S o.i, S o.f, .int .i64 o.e] 42)).alloc (.cells #[.bool false, .string ⟨#[]⟩, .int .i64 0] 90))) := Lib.hid ((HeldL.alloc (HeldL.alloc (HeldL.refl w) (w.heap.size) #[S o.i, S o.f, .int .i64 o.e] 42 (by simp)) (w.heap.size + 1) #[.bool false, .string ⟨#[]⟩, .int .i64 0] 90 (by simp)))
  generalize ((w.alloc (.cells #[S o.i, S o.f, .int .i64 o.e] 42)).alloc (.cells #[.bool false, .string ⟨#[]⟩, .int .i64 0] 90)) = w1 at *
  have o0 : w1.cell? ⟨w.heap.size, 0, none⟩ = some (S o.i) := (H1.out.f (List.Mem.tail _ (List.Mem.head _))).cell 0
  have o1 : w1.cell? ⟨w.heap.size, 1, none⟩ = some (S o.f) := (H1.out.f (List.Mem.tail _ (List.Mem.head _))).cell 1
  have o2 : w1.cell? ⟨w.heap.size, 2, none⟩ = some (.int .i64 o.e) := (H1.out.f (List.Mem.tail _ (List.Mem.head _))).cell 2
  have ol : w.heap.size < w1.heap.size := (H1.out.f (List.Mem.tail _ (List.Mem.head _))).lt
  go_loopw [5] (fun i wr => ∃ k : Nat, (rt o.f).length ≤ k ∧ k ≤ o.f.length ∧ i = .int .i64 (k : Int) ∧ w1 = wr) (fun i _ => (intOf i).toNat)
  case atStart => exact ⟨o.f.length, rl, Nat.le_refl _, rfl, rfl⟩
  case round =>
    obtain ⟨k, hk1, hk2, rfl, rfl⟩ := hrel
    by_cases h0 : k = 0
    · have hrt : (rt o.f).length = k := by omega
      have h0i : ¬ (0 : Int) < (k : Int) := by omega
      clear h0
      subst hrt
      go_wp2_with fail
      with_reducible refine (ofI o.e _ e0 (by omega) (HT.out.below H1.out.bel)).mono ?_
      rintro x w2 ⟨rfl, hb⟩
      clear o0 o1 o2 ol
      have H2 : Hid (HeldL w [(w.heap.size + 1, #[.bool false, .string ⟨#[]⟩, .int .i64 0]), (w.heap.size, #[S o.i, S o.f, .int .i64 o.e])] w2) := Lib.hid (HeldL.keep H1.out hb)
      clear H1
      clear hb
      have dgl := (dig_length_le o.e.toNat 18).2 (by omega)
      go_wp2_with fail
      with_reducible refine (madeL (dig o.e.toNat) 0 _ (by omega) d HD.out).mono ?_
      rintro x w3 ⟨rfl, hb⟩
      have H3 : Hid (HeldL w [(w.heap.size + 1, #[.bool false, .string ⟨#[]⟩, .int .i64 0]), (w.heap.size, #[S o.i, S o.f, .int .i64 o.e])] w3) := Lib.hid (HeldL.keep H2.out hb)
      clear H2
      clear hb
      have r0 : w3.cell? ⟨w.heap.size + 1, 0, none⟩ = some (.bool false) := (H3.out.f (List.Mem.head _)).cell 0
      have rz0 : w3.frozen? ⟨w.heap.size + 1, 0, none⟩ = false := (H3.out.f (List.Mem.head _)).frozen 0
      have r1 : w3.cell? ⟨w.heap.size + 1, 1, none⟩ = some (.string ⟨#[]⟩) := (H3.out.f (List.Mem.head _)).cell 1
      have rz1 : w3.frozen? ⟨w.heap.size + 1, 1, none⟩ = false := (H3.out.f (List.Mem.head _)).frozen 1
      have r2 : w3.cell? ⟨w.heap.size + 1, 2, none⟩ = some (.int .i64 0) := (H3.out.f (List.Mem.head _)).cell 2
      have rz2 : w3.frozen? ⟨w.heap.size + 1, 2, none⟩ = false := (H3.out.f (List.Mem.head _)).frozen 2
      have rl : w.heap.size + 1 < w3.heap.size := (H3.out.f (List.Mem.head _)).lt
      go_wp2
      exact bodyPost_ret (v := V d) (by simp [results, Tryz.results45, go_sem, r0, r1, r2]) rfl ⟨rfl, (HeldL.store3 [] [(w.heap.size, #[S o.i, S o.f, .int .i64 o.e])] H3.out (.bool d.neg) (S d.l) (.int .i64 d.e)).bel⟩
    · have hkp : 0 < k := by omega
      have hkpi : (0 : Int) < (k : Int) := by omega
      have hix : k - 1 < (⟨o.f.toArray⟩ : ByteArray).size := by rw [arr_size]; omega
      have hat := rt_at o.f hkp hk1 hk2
      have hki : (k : Int) - 1 = ((k - 1 : Nat) : Int) := by omega
      have hsz : (⟨o.f.toArray⟩ : ByteArray).size = o.f.length := arr_size _
      by_cases hlt : (rt o.f).length < k
      · rw [decide_eq_true hlt] at hat
        go_wp2_with fail
        go_roundw
        case rel => exact ⟨k - 1, by omega, by omega, by go_num, by first | rfl | trivial⟩
        case measure => simp [intOf]; omega
      · rw [decide_eq_false hlt] at hat
        have hrt : (rt o.f).length = k := by omega
        subst hrt
        go_wp2_with fail
        with_reducible refine (ofI o.e _ e0 (by omega) (HT.out.below H1.out.bel)).mono ?_
        rintro x w2 ⟨rfl, hb⟩
        clear o0 o1 o2 ol
        have H2 : Hid (HeldL w [(w.heap.size + 1, #[.bool false, .string ⟨#[]⟩, .int .i64 0]), (w.heap.size, #[S o.i, S o.f, .int .i64 o.e])] w2) := Lib.hid (HeldL.keep H1.out hb)
        clear H1
        clear hb
        have dgl := (dig_length_le o.e.toNat 18).2 (by omega)
        go_wp2_with fail
        with_reducible refine (madeL (dig o.e.toNat) 0 _ (by omega) d HD.out).mono ?_
        rintro x w3 ⟨rfl, hb⟩
        have H3 : Hid (HeldL w [(w.heap.size + 1, #[.bool false, .string ⟨#[]⟩, .int .i64 0]), (w.heap.size, #[S o.i, S o.f, .int .i64 o.e])] w3) := Lib.hid (HeldL.keep H2.out hb)
        clear H2
        clear hb
        have r0 : w3.cell? ⟨w.heap.size + 1, 0, none⟩ = some (.bool false) := (H3.out.f (List.Mem.head _)).cell 0
        have rz0 : w3.frozen? ⟨w.heap.size + 1, 0, none⟩ = false := (H3.out.f (List.Mem.head _)).frozen 0
        have r1 : w3.cell? ⟨w.heap.size + 1, 1, none⟩ = some (.string ⟨#[]⟩) := (H3.out.f (List.Mem.head _)).cell 1
        have rz1 : w3.frozen? ⟨w.heap.size + 1, 1, none⟩ = false := (H3.out.f (List.Mem.head _)).frozen 1
        have r2 : w3.cell? ⟨w.heap.size + 1, 2, none⟩ = some (.int .i64 0) := (H3.out.f (List.Mem.head _)).cell 2
        have rz2 : w3.frozen? ⟨w.heap.size + 1, 2, none⟩ = false := (H3.out.f (List.Mem.head _)).frozen 2
        have rl : w.heap.size + 1 < w3.heap.size := (H3.out.f (List.Mem.head _)).lt
        go_wp2
        exact bodyPost_ret (v := V d) (by simp [results, Tryz.results45, go_sem, r0, r1, r2]) rfl ⟨rfl, (HeldL.store3 [] [(w.heap.size, #[S o.i, S o.f, .int .i64 o.e])] H3.out (.bool d.neg) (S d.l) (.int .i64 d.e)).bel⟩

set_option maxRecDepth 100000 in
set_option maxHeartbeats 1600000 in
theorem val_e (o : Og) (w : World) (hs : OgS o) (ht : Tab w) (d : Tri) (hd : made false (dig o.e.toNat) 0 = d) :
    Calls Tryz.prog 45 #[.int .u8 101, OV o] w fun z w' => z = .returned (V d) ∧ Below w.heap.size w w' := by
  have HT := Lib.hid ht
  have HD := Lib.hid hd
  have il := hs.il
  have fl := hs.fl
  have rl := rt_length_le o.f
  have e0 := hs.b.e0
  have e1 := hs.e1
  clear ht hd
  go_enter Tryz.func45, Tryz.ntmps45
  go_wp2_with fail
  have H1 : Hid (HeldL w [(w.heap.size + 1, #[.bool false, .string ⟨#[]⟩, .int .i64 0]), (w.heap.size, #[S o.i, S o.f, .int .i64 o.e])] ((w.alloc (.cells #[S o.i, S o.f, .int .i64 o.e] 42)).alloc (.cells #[.bool false, .string ⟨#[]⟩, .int .i64 0] 90))) := Lib.hid ((HeldL.alloc (HeldL.alloc (HeldL.refl w) (w.heap.size) #[S o.i, S o.f, .int .i64 o.e] 42 (by simp)) (w.heap.size + 1) #[.bool false, .string ⟨#[]⟩, .int .i64 0] 90 (by simp)))
  generalize ((w.alloc (.cells #[S o.i, S o.f, .int .i64 o.e] 42)).alloc (.cells #[.bool false, .string ⟨#[]⟩, .int .i64 0] 90)) = w1 at *
  have o0 : w1.cell? ⟨w.heap.size, 0, none⟩ = some (S o.i) := (H1.out.f (List.Mem.tail _ (List.Mem.head _))).cell 0
  have o1 : w1.cell? ⟨w.heap.size, 1, none⟩ = some (S o.f) := (H1.out.f (List.Mem.tail _ (List.Mem.head _))).cell 1
  have o2 : w1.cell? ⟨w.heap.size, 2, none⟩ = some (.int .i64 o.e) := (H1.out.f (List.Mem.tail _ (List.Mem.head _))).cell 2
  have ol : w.heap.size < w1.heap.size := (H1.out.f (List.Mem.tail _ (List.Mem.head _))).lt
  go_loopw [5] (fun i wr => ∃ k : Nat, (rt o.f).length ≤ k ∧ k ≤ o.f.length ∧ i = .int .i64 (k : Int) ∧ w1 = wr) (fun i _ => (intOf i).toNat)
  case atStart => exact ⟨o.f.length, rl, Nat.le_refl _, rfl, rfl⟩
  case round =>
    obtain ⟨k, hk1, hk2, rfl, rfl⟩ := hrel
    by_cases h0 : k = 0
    · have hrt : (rt o.f).length = k := by omega
      have h0i : ¬ (0 : Int) < (k : Int) := by omega
      clear h0
      subst hrt
      go_wp2_with fail
      with_reducible refine (ofI o.e _ e0 (by omega) (HT.out.below H1.out.bel)).mono ?_
      rintro x w2 ⟨rfl, hb⟩
      clear o0 o1 o2 ol
      have H2 : Hid (HeldL w [(w.heap.size + 1, #[.bool false, .string ⟨#[]⟩, .int .i64 0]), (w.heap.size, #[S o.i, S o.f, .int .i64 o.e])] w2) := Lib.hid (HeldL.keep H1.out hb)
      clear H1
      clear hb
      have dgl := (dig_length_le o.e.toNat 18).2 (by omega)
      go_wp2_with fail
      with_reducible refine (madeL (dig o.e.toNat) 0 _ (by omega) d HD.out).mono ?_
      rintro x w3 ⟨rfl, hb⟩
      have H3 : Hid (HeldL w [(w.heap.size + 1, #[.bool false, .string ⟨#[]⟩, .int .i64 0]), (w.heap.size, #[S o.i, S o.f, .int .i64 o.e])] w3) := Lib.hid (HeldL.keep H2.out hb)
      clear H2
      clear hb
      have r0 : w3.cell? ⟨w.heap.size + 1, 0, none⟩ = some (.bool false) := (H3.out.f (List.Mem.head _)).cell 0
      have rz0 : w3.frozen? ⟨w.heap.size + 1, 0, none⟩ = false := (H3.out.f (List.Mem.head _)).frozen 0
      have r1 : w3.cell? ⟨w.heap.size + 1, 1, none⟩ = some (.string ⟨#[]⟩) := (H3.out.f (List.Mem.head _)).cell 1
      have rz1 : w3.frozen? ⟨w.heap.size + 1, 1, none⟩ = false := (H3.out.f (List.Mem.head _)).frozen 1
      have r2 : w3.cell? ⟨w.heap.size + 1, 2, none⟩ = some (.int .i64 0) := (H3.out.f (List.Mem.head _)).cell 2
      have rz2 : w3.frozen? ⟨w.heap.size + 1, 2, none⟩ = false := (H3.out.f (List.Mem.head _)).frozen 2
      have rl : w.heap.size + 1 < w3.heap.size := (H3.out.f (List.Mem.head _)).lt
      go_wp2
      exact bodyPost_ret (v := V d) (by simp [results, Tryz.results45, go_sem, r0, r1, r2]) rfl ⟨rfl, (HeldL.store3 [] [(w.heap.size, #[S o.i, S o.f, .int .i64 o.e])] H3.out (.bool d.neg) (S d.l) (.int .i64 d.e)).bel⟩
    · have hkp : 0 < k := by omega
      have hkpi : (0 : Int) < (k : Int) := by omega
      have hix : k - 1 < (⟨o.f.toArray⟩ : ByteArray).size := by rw [arr_size]; omega
      have hat := rt_at o.f hkp hk1 hk2
      have hki : (k : Int) - 1 = ((k - 1 : Nat) : Int) := by omega
      have hsz : (⟨o.f.toArray⟩ : ByteArray).size = o.f.length := arr_size _
      by_cases hlt : (rt o.f).length < k
      · rw [decide_eq_true hlt] at hat
        go_wp2_with fail
        go_roundw
        case rel => exact ⟨k - 1, by omega, by omega, by go_num, by first | rfl | trivial⟩
        case measure => simp [intOf]; omega
      · rw [decide_eq_false hlt] at hat
        have hrt : (rt o.f).length = k := by omega
        subst hrt
        go_wp2_with fail
        with_reducible refine (ofI o.e _ e0 (by omega) (HT.out.below H1.out.bel)).mono ?_
        rintro x w2 ⟨rfl, hb⟩
        clear o0 o1 o2 ol
        have H2 : Hid (HeldL w [(w.heap.size + 1, #[.bool false, .string ⟨#[]⟩, .int .i64 0]), (w.heap.size, #[S o.i, S o.f, .int .i64 o.e])] w2) := Lib.hid (HeldL.keep H1.out hb)
        clear H1
        clear hb
        have dgl := (dig_length_le o.e.toNat 18).2 (by omega)
        go_wp2_with fail
        with_reducible refine (madeL (dig o.e.toNat) 0 _ (by omega) d HD.out).mono ?_
        rintro x w3 ⟨rfl, hb⟩
        have H3 : Hid (HeldL w [(w.heap.size + 1, #[.bool false, .string ⟨#[]⟩, .int .i64 0]), (w.heap.size, #[S o.i, S o.f, .int .i64 o.e])] w3) := Lib.hid (HeldL.keep H2.out hb)
        clear H2
        clear hb
        have r0 : w3.cell? ⟨w.heap.size + 1, 0, none⟩ = some (.bool false) := (H3.out.f (List.Mem.head _)).cell 0
        have rz0 : w3.frozen? ⟨w.heap.size + 1, 0, none⟩ = false := (H3.out.f (List.Mem.head _)).frozen 0
        have r1 : w3.cell? ⟨w.heap.size + 1, 1, none⟩ = some (.string ⟨#[]⟩) := (H3.out.f (List.Mem.head _)).cell 1
        have rz1 : w3.frozen? ⟨w.heap.size + 1, 1, none⟩ = false := (H3.out.f (List.Mem.head _)).frozen 1
        have r2 : w3.cell? ⟨w.heap.size + 1, 2, none⟩ = some (.int .i64 0) := (H3.out.f (List.Mem.head _)).cell 2
        have rz2 : w3.frozen? ⟨w.heap.size + 1, 2, none⟩ = false := (H3.out.f (List.Mem.head _)).frozen 2
        have rl : w.heap.size + 1 < w3.heap.size := (H3.out.f (List.Mem.head _)).lt
        go_wp2
        exact bodyPost_ret (v := V d) (by simp [results, Tryz.results45, go_sem, r0, r1, r2]) rfl ⟨rfl, (HeldL.store3 [] [(w.heap.size, #[S o.i, S o.f, .int .i64 o.e])] H3.out (.bool d.neg) (S d.l) (.int .i64 d.e)).bel⟩

theorem value_as (op : UInt8) (o : Og) (w : World) (hs : OgS o) (ht : Tab w) (ho : opsB.contains op = true) :
    Calls Tryz.prog 45 #[.int .u8 ((op : UInt8).toNat : Int), OV o] w fun z w' => z = .returned (V (nf o.f.length ((numV op o : Nat) : Int))) ∧ Below w.heap.size w w' := by
  have hc : op = 110 ∨ op = 105 ∨ op = 118 ∨ op = 119 ∨ op = 102 ∨ op = 116 ∨ op = 99 ∨ op = 101 := by simpa [opsB] using ho
  have hm : op ≠ 110 → made false (wholeV op o) 0 = nf o.f.length ((numV op o : Nat) : Int) := made_whole hs
  rcases hc with rfl | rfl | rfl | rfl | rfl | rfl | rfl | rfl
  · exact val_n o w hs ht _ (made_num hs)
  · exact val_i o w hs ht _ (hm (by decide))
  · exact val_v o w hs ht _ (hm (by decide))
  · exact val_w o w hs ht _ (hm (by decide))
  · exact val_f o w hs ht _ (hm (by decide))
  · exact val_t o w hs ht _ (hm (by decide))
  · exact val_c o w hs ht _ (hm (by decide))
  · exact val_e o w hs ht _ (hm (by decide))

set_option maxRecDepth 100000 in
set_option maxHeartbeats 1600000 in
theorem left_0 (g : Tri) (w : World) :
    Calls Tryz.prog 44 #[V g, .int .i64 0] w fun z w' => z = .returned (V g) ∧ Below w.heap.size w w' := by
  go_enter Tryz.func44, Tryz.ntmps44
  go_upto_region 1 with fail
  have H1 : Hid (HeldL w [(w.heap.size + 1, #[.bool false, .string ⟨#[]⟩, .int .i64 0]), (w.heap.size, #[.bool g.neg, S g.l, .int .i64 g.e])] ((w.alloc (.cells #[.bool g.neg, S g.l, .int .i64 g.e] 90)).alloc (.cells #[.bool false, .string ⟨#[]⟩, .int .i64 0] 90))) := Lib.hid ((HeldL.alloc (HeldL.alloc (HeldL.refl w) (w.heap.size) #[.bool g.neg, S g.l, .int .i64 g.e] 90 (by simp)) (w.heap.size + 1) #[.bool false, .string ⟨#[]⟩, .int .i64 0] 90 (by simp)))
  generalize ((w.alloc (.cells #[.bool g.neg, S g.l, .int .i64 g.e] 90)).alloc (.cells #[.bool false, .string ⟨#[]⟩, .int .i64 0] 90)) = w1 at *
  have x0 : w1.cell? ⟨w.heap.size, 0, none⟩ = some (.bool g.neg) := (H1.out.f (List.Mem.tail _ (List.Mem.head _))).cell 0
  have x1 : w1.cell? ⟨w.heap.size, 1, none⟩ = some (S g.l) := (H1.out.f (List.Mem.tail _ (List.Mem.head _))).cell 1
  have x2 : w1.cell? ⟨w.heap.size, 2, none⟩ = some (.int .i64 g.e) := (H1.out.f (List.Mem.tail _ (List.Mem.head _))).cell 2
  have xl : w.heap.size < w1.heap.size := (H1.out.f (List.Mem.tail _ (List.Mem.head _))).lt
  have r0 : w1.cell? ⟨w.heap.size + 1, 0, none⟩ = some (.bool false) := (H1.out.f (List.Mem.head _)).cell 0
  have rz0 : w1.frozen? ⟨w.heap.size + 1, 0, none⟩ = false := (H1.out.f (List.Mem.head _)).frozen 0
  have r1 : w1.cell? ⟨w.heap.size + 1, 1, none⟩ = some (.string ⟨#[]⟩) := (H1.out.f (List.Mem.head _)).cell 1
  have rz1 : w1.frozen? ⟨w.heap.size + 1, 1, none⟩ = false := (H1.out.f (List.Mem.head _)).frozen 1
  have r2 : w1.cell? ⟨w.heap.size + 1, 2, none⟩ = some (.int .i64 0) := (H1.out.f (List.Mem.head _)).cell 2
  have rz2 : w1.frozen? ⟨w.heap.size + 1, 2, none⟩ = false := (H1.out.f (List.Mem.head _)).frozen 2
  have rl : w.heap.size + 1 < w1.heap.size := (H1.out.f (List.Mem.head _)).lt
  go_wp2
  exact bodyPost_ret (v := V g) (by simp [results, Tryz.results44, go_sem, r0, r1, r2]) rfl ⟨rfl, (HeldL.store3 [] [(w.heap.size, #[.bool g.neg, S g.l, .int .i64 g.e])] H1.out (.bool g.neg) (S g.l) (.int .i64 g.e)).bel⟩

set_option maxRecDepth 100000 in
set_option maxHeartbeats 1600000 in
theorem left_m (g : Tri) (m : Nat) (w : World) (hm : 1 ≤ m) (hm2 : m ≤ 1000000000) (ht : Tab w) (a p : List UInt8) (hgl : g.l.length ≤ 1000000) (hgi : made g.neg g.l g.e = g) (hp : partsT g = (a, p)) (al : a.length ≤ 1000000) (da : isDig a = true) (pl : p.length ≤ 1000) (d1 d2 d : Tri) (h1 : made false (dig (val a % m)) 0 = d1) (h2 : made false p (-(p.length : Int)) = d2)
    (hadd : ∀ w : World, Calls Tryz.prog 68 #[V d1, V d2] w fun z w' => z = .returned (V d) ∧ Below w.heap.size w w') :
    Calls Tryz.prog 44 #[V g, .int .i64 (m : Int)] w fun z w' => z = .returned (V d) ∧ Below w.heap.size w w' := by
  have HT := Lib.hid ht
  have HP := Lib.hid hp
  have HG := Lib.hid hgi
  have H1' := Lib.hid h1
  have H2' := Lib.hid h2
  have HA := Lib.hid hadd
  have HDA := Lib.hid da
  have hmi : ¬ (m : Int) = 0 := by omega
  have hr := Nat.mod_lt (val a) (show 0 < m by omega)
  obtain ⟨q, hqq⟩ : ∃ q, val a / m = q := ⟨_, rfl⟩
  obtain ⟨r, hrr⟩ : ∃ r, val a % m = r := ⟨_, rfl⟩
  rw [hrr] at H1' hr
  have HRR := Lib.hid hrr
  have HQQ := Lib.hid hqq
  have dgl := (dig_length_le r 18).2 (by omega)
  clear ht hp hgi h1 h2 hadd da hrr hqq
  go_enter Tryz.func44, Tryz.ntmps44
  go_upto_region 1 with fail
  have H1 : Hid (HeldL w [(w.heap.size + 1, #[.bool false, .string ⟨#[]⟩, .int .i64 0]), (w.heap.size, #[.bool g.neg, S g.l, .int .i64 g.e])] ((w.alloc (.cells #[.bool g.neg, S g.l, .int .i64 g.e] 90)).alloc (.cells #[.bool false, .string ⟨#[]⟩, .int .i64 0] 90))) := Lib.hid ((HeldL.alloc (HeldL.alloc (HeldL.refl w) (w.heap.size) #[.bool g.neg, S g.l, .int .i64 g.e] 90 (by simp)) (w.heap.size + 1) #[.bool false, .string ⟨#[]⟩, .int .i64 0] 90 (by simp)))
  generalize ((w.alloc (.cells #[.bool g.neg, S g.l, .int .i64 g.e] 90)).alloc (.cells #[.bool false, .string ⟨#[]⟩, .int .i64 0] 90)) = w1 at *
  have x0 : w1.cell? ⟨w.heap.size, 0, none⟩ = some (.bool g.neg) := (H1.out.f (List.Mem.tail _ (List.Mem.head _))).cell 0
  have x1 : w1.cell? ⟨w.heap.size, 1, none⟩ = some (S g.l) := (H1.out.f (List.Mem.tail _ (List.Mem.head _))).cell 1
  have x2 : w1.cell? ⟨w.heap.size, 2, none⟩ = some (.int .i64 g.e) := (H1.out.f (List.Mem.tail _ (List.Mem.head _))).cell 2
  have xl : w.heap.size < w1.heap.size := (H1.out.f (List.Mem.tail _ (List.Mem.head _))).lt
  go_wp2_with fail
  with_reducible refine (parts_as g.neg ⟨g.l.toArray⟩ g.e _ (by rw [arr_size]; exact hgl) g HG.out a p HP.out).mono ?_
  rintro x w2 ⟨rfl, hb⟩
  clear x0 x1 x2 xl
  have H2 : Hid (HeldL w [(w.heap.size + 1, #[.bool false, .string ⟨#[]⟩, .int .i64 0]), (w.heap.size, #[.bool g.neg, S g.l, .int .i64 g.e])] w2) := Lib.hid (HeldL.keep H1.out hb)
  clear H1
  clear hb
  go_wp2_with fail
  with_reducible refine (divQ a m q r _ al HDA.out hm hm2 HQQ.out HRR.out).mono ?_
  rintro x w3 ⟨rfl, hb⟩
  have H3 : Hid (HeldL w [(w.heap.size + 1, #[.bool false, .string ⟨#[]⟩, .int .i64 0]), (w.heap.size, #[.bool g.neg, S g.l, .int .i64 g.e])] w3) := Lib.hid (HeldL.keep H2.out hb)
  clear H2
  clear hb
  go_wp2_with fail
  with_reducible refine (ofN r _ (by omega) (HT.out.below H3.out.bel)).mono ?_
  rintro x w4 ⟨rfl, hb⟩
  have H4 : Hid (HeldL w [(w.heap.size + 1, #[.bool false, .string ⟨#[]⟩, .int .i64 0]), (w.heap.size, #[.bool g.neg, S g.l, .int .i64 g.e])] w4) := Lib.hid (HeldL.keep H3.out hb)
  clear H3
  clear hb
  go_wp2_with fail
  with_reducible refine (madeL (dig r) 0 _ (by omega) d1 H1'.out).mono ?_
  rintro x w5 ⟨rfl, hb⟩
  have H5 : Hid (HeldL w [(w.heap.size + 1, #[.bool false, .string ⟨#[]⟩, .int .i64 0]), (w.heap.size, #[.bool g.neg, S g.l, .int .i64 g.e])] w5) := Lib.hid (HeldL.keep H4.out hb)
  clear H4
  clear hb
  go_wp2_with fail
  with_reducible refine (madeL p (-(p.length : Int)) _ (by omega) d2 H2'.out).mono ?_
  rintro x w6 ⟨rfl, hb⟩
  have H6 : Hid (HeldL w [(w.heap.size + 1, #[.bool false, .string ⟨#[]⟩, .int .i64 0]), (w.heap.size, #[.bool g.neg, S g.l, .int .i64 g.e])] w6) := Lib.hid (HeldL.keep H5.out hb)
  clear H5
  clear hb
  go_wp2_with fail
  with_reducible refine (HA.out _).mono ?_
  rintro x w7 ⟨rfl, hb⟩
  have H7 : Hid (HeldL w [(w.heap.size + 1, #[.bool false, .string ⟨#[]⟩, .int .i64 0]), (w.heap.size, #[.bool g.neg, S g.l, .int .i64 g.e])] w7) := Lib.hid (HeldL.keep H6.out hb)
  clear H6
  clear hb
  have r0 : w7.cell? ⟨w.heap.size + 1, 0, none⟩ = some (.bool false) := (H7.out.f (List.Mem.head _)).cell 0
  have rz0 : w7.frozen? ⟨w.heap.size + 1, 0, none⟩ = false := (H7.out.f (List.Mem.head _)).frozen 0
  have r1 : w7.cell? ⟨w.heap.size + 1, 1, none⟩ = some (.string ⟨#[]⟩) := (H7.out.f (List.Mem.head _)).cell 1
  have rz1 : w7.frozen? ⟨w.heap.size + 1, 1, none⟩ = false := (H7.out.f (List.Mem.head _)).frozen 1
  have r2 : w7.cell? ⟨w.heap.size + 1, 2, none⟩ = some (.int .i64 0) := (H7.out.f (List.Mem.head _)).cell 2
  have rz2 : w7.frozen? ⟨w.heap.size + 1, 2, none⟩ = false := (H7.out.f (List.Mem.head _)).frozen 2
  have rl : w.heap.size + 1 < w7.heap.size := (H7.out.f (List.Mem.head _)).lt
  go_wp2
  exact bodyPost_ret (v := V d) (by simp [results, Tryz.results44, go_sem, r0, r1, r2]) rfl ⟨rfl, (HeldL.store3 [] [(w.heap.size, #[.bool g.neg, S g.l, .int .i64 g.e])] H7.out (.bool d.neg) (S d.l) (.int .i64 d.e)).bel⟩

theorem left_as {op : UInt8} {o : Og} (hs : OgS o) (m : Nat) (hm : m ≤ 1000000000) (w : World) (ht : Tab w) :
    Calls Tryz.prog 44 #[V (nf o.f.length ((numV op o : Nat) : Int)), .int .i64 (m : Int)] w fun z w' => z = .returned (V (nf o.f.length ((leftV m o.f.length (numV op o) : Nat) : Int))) ∧ Below w.heap.size w w' := by
  have hf := num_fit (op := op) hs
  have hlf := left_fit (op := op) hs m
  obtain ⟨K, hK⟩ : ∃ K, o.f.length = K := ⟨_, rfl⟩
  obtain ⟨z, hz⟩ : ∃ z, numV op o = z := ⟨_, rfl⟩
  have hzl := num_lt (op := op) hs
  have hK40 := hs.fl
  rw [hK] at hf hlf hK40 ⊢
  rw [hz] at hf hlf hzl ⊢
  by_cases h0 : m = 0
  · subst h0
    have : leftV 0 K z = z := by unfold leftV; rw [if_pos rfl]
    rw [this]
    exact left_0 _ w
  · obtain ⟨p, hp, dp, pl, _, pv⟩ := parts_nf hf
    have hlen := nf_length (k := K) (z := (z : Int)) (m := 200) (by simpa using hzl)
    have hdl : (dig (z / 10 ^ K)).length ≤ 200 := (dig_length_le _ _).2 (Nat.lt_of_le_of_lt (Nat.div_le_self _ _) hzl)
    have hr : z / 10 ^ K % m < m := Nat.mod_lt _ (by omega)
    have hf1 : Fit K ((z / 10 ^ K % m * 10 ^ K : Nat) : Int) := by
      refine fit_of (m := 200) (by omega) (Nat.lt_of_le_of_lt ?_ hzl) (by decide)
      exact Nat.le_trans (Nat.mul_le_mul_right _ (Nat.mod_le _ _)) (Nat.div_mul_le_self _ _)
    have hf2 : Fit K ((z % 10 ^ K : Nat) : Int) := fit_of (m := 200) (by omega) (Nat.lt_of_le_of_lt (Nat.mod_le _ _) hzl) (by decide)
    have hsum : ((leftV m K z : Nat) : Int) = ((z / 10 ^ K % m * 10 ^ K : Nat) : Int) + ((z % 10 ^ K : Nat) : Int) := by
      unfold leftV
      rw [if_neg h0, Int.natCast_add]
    have m1 : made false (dig (val (dig (z / 10 ^ K)) % m)) 0 = nf K ((z / 10 ^ K % m * 10 ^ K : Nat) : Int) := by rw [val_dig]; exact made_k hf1
    have m2 : made false p (-(p.length : Int)) = nf K ((z % 10 ^ K : Nat) : Int) := by
      refine made_nf dp (by omega) ?_ hf2
      rw [show (-(p.length : Int) + (K : Int)).toNat = K - p.length by omega]
      exact pv
    refine left_m (nf K (z : Int)) m w (by omega) hm ht (dig (z / 10 ^ K)) p (by omega) (nf_made hf) hp (by omega) (isDig_dig _) (by omega) _ _ _ m1 m2 ?_
    intro w2
    rw [hsum]
    have l1 := nf_length (k := K) (z := ((z / 10 ^ K % m * 10 ^ K : Nat) : Int)) (m := 200) (by
      rw [Int.natAbs_natCast]
      exact Nat.lt_of_le_of_lt (Nat.le_trans (Nat.mul_le_mul_right _ (Nat.mod_le _ _)) (Nat.div_mul_le_self _ _)) hzl)
    have l2 := nf_length (k := K) (z := ((z % 10 ^ K : Nat) : Int)) (m := 200) (by
      rw [Int.natAbs_natCast]
      exact Nat.lt_of_le_of_lt (Nat.mod_le _ _) hzl)
    refine addD _ ⟨(nf K ((z / 10 ^ K % m * 10 ^ K : Nat) : Int)).l.toArray⟩ _ _ ⟨(nf K ((z % 10 ^ K : Nat) : Int)).l.toArray⟩ _ w2 (by rw [arr_size]; omega) (by rw [arr_size]; omega) K _ _ hf1 hf2 (by rw [← hsum]; exact hlf) (nf_made hf1) (nf_made hf2)
end Go.Proofs.YtkjhdehpcanciaaGreatDoor

namespace Go.Proofs.YtkjhdehpcanciaaGreatDoor
open Go.RowKit Florin
set_option linter.unusedVariables false
set_option linter.unusedSimpArgs false
attribute [local go_sem ↓] Go.wp_at_zero Go.wp_at_succ
theorem HeldL.tail {w : World} {x : Nat × Array Value} {L : List (Nat × Array Value)} {W : World} (h : HeldL w (x :: L) W) : HeldL w L W :=
  ⟨fun p hp => h.box p (List.Mem.tail _ hp), fun p hp => h.own p (List.Mem.tail _ hp), (List.pairwise_cons.1 h.desc).2, h.bel⟩
theorem cmp_le (a b : Int) : (Lib.compareInt a b ≤ 0) ↔ a ≤ b := by
  unfold Lib.compareInt
  split
  · constructor
    · intro _; omega
    · intro _; decide
  · split
    · constructor
      · intro h; exact absurd h (by decide)
      · intro h; omega
    · constructor
      · intro _; omega
      · intro _; decide
theorem cmpV {K a b : Nat} (ha : a < 10 ^ 200) (hb : b < 10 ^ 200) (hK : K ≤ 100) (d g : Tri) (hd : nf K (a : Int) = d) (hg : nf K (b : Int) = g) (c : Int) (hc : Lib.compareInt (a : Int) (b : Int) = c) (w : World) :
    Calls Tryz.prog 48 #[V d, V g] w fun z w' => z = .returned (.int .i64 c) ∧ Below w.heap.size w w' := by
  subst hd hg
  have fa := fit_of hK ha (by decide)
  have fb := fit_of hK hb (by decide)
  have l1 := nf_length (k := K) (z := (a : Int)) (m := 200) (by rw [Int.natAbs_natCast]; exact ha)
  have l2 := nf_length (k := K) (z := (b : Int)) (m := 200) (by rw [Int.natAbs_natCast]; exact hb)
  exact cmpD _ ⟨(nf K (a : Int)).l.toArray⟩ _ _ ⟨(nf K (b : Int)).l.toArray⟩ _ w (by rw [arr_size]; omega) (by rw [arr_size]; omega) K _ _ fa fb (nf_made fa) (nf_made fb) c hc
theorem bd_lt {y K : Nat} (h : y < 1000000000) (hK : K ≤ 40) : y * 10 ^ K < 10 ^ 200 := by
  have h9 : (10 : Nat) ^ 9 = 1000000000 := by decide
  have h1 : y * 10 ^ K < 10 ^ 9 * 10 ^ K := Nat.mul_lt_mul_of_pos_right (by rw [h9]; exact h) (ten_pos K)
  rw [← Nat.pow_add] at h1
  exact Nat.lt_of_lt_of_le h1 (pow_le (by omega))
/-- What the law reckons of one range. -/
def rngV (Z K : Nat) (y : Nat × Nat) : Bool := decide (Z % 10 ^ K = 0) && (decide (y.1 * 10 ^ K ≤ Z) && decide (Z ≤ y.2 * 10 ^ K))
theorem take_any {α : Type} (P : α → Bool) {xs : List α} {k : Nat} {x : α} (hx : xs[k]? = some x) : (xs.take (k + 1)).any P = ((xs.take k).any P || P x) := by
  obtain ⟨hj, hxj⟩ := List.getElem?_eq_some_iff.1 hx
  rw [List.take_succ_eq_append_getElem hj, hxj, List.any_append]
  simp
theorem rng_cells {w wq : World} {g cap base k : Nat} {rs : List (Nat × Nat)} {y : Nat × Nat} (ho : w.ownsRow base 64 2 (.slice (some ⟨g, 0, none⟩) rs.length cap) rs.length (rngC rs)) (hq : Below w.heap.size w wq) (hx : rs[k]? = some y) :
    wq.cell? ⟨g, k * 2, none⟩ = some (.int .i64 ((y.1 : Nat) : Int)) ∧ wq.cell? ⟨g, k * 2 + 1, none⟩ = some (.int .i64 ((y.2 : Nat) : Int)) := by
  obtain ⟨hj, hxj⟩ := List.getElem?_eq_some_iff.1 hx
  obtain ⟨c, hA, hc⟩ := ListAt.get2 (sz := 2) (fun x c h => by obtain rfl := h; rfl) (rng_list2 rs) k hj
  rw [hxj] at hA
  obtain rfl := hA
  have hgl := (ho.lt g rfl).2
  constructor
  · rw [hq.cell (show g < _ from hgl), ho.cellAt _ (by omega), show (rngC rs)[k * 2]? = _ from hc 0 (by decide)]; rfl
  · rw [hq.cell (show g < _ from hgl), ho.cellAt _ (by omega), show (rngC rs)[k * 2 + 1]? = _ from hc 1 (by decide)]; rfl
set_option maxRecDepth 100000 in
set_option maxHeartbeats 3200000 in
theorem holdsL_s (x : RelT) (sa : Option Addr) (sn sc base : Nat) (o : Og) (w : World) (hs : OgS o) (ht : Tab w) (hx : RelB x) (hr : ∀ y ∈ x.rs, y.1 < 1000000000 ∧ y.2 < 1000000000) (hv : Rngs w base x.rs (.slice sa sn sc)) :
    Calls Tryz.prog 21 #[.agg #[.int .u8 ((x.op : UInt8).toNat : Int), .int .i64 ((x.mod : Nat) : Int), .bool x.nt, .slice sa sn sc], OV o] w fun z w' => z = .returned (.bool (inV x o != x.nt)) ∧ Below w.heap.size w w' := by
  have HV := Lib.hid hv
  have HT := Lib.hid ht
  have HR := Lib.hid hr
  have hop := hx.1
  have hmd := hx.2
  have hsn : sn = x.rs.length ∧ sn ≤ sc ∧ sc ≤ maxLen ∧ (0 < x.rs.length → ∃ g, sa = some ⟨g, 0, none⟩) := by
    rcases hv.2 with ⟨hv0, h0⟩ | ⟨g, cap, cur, hv0, _, _, hcap, hcm, _⟩
    · injection hv0 with h1 h2 h3
      subst h1 h2 h3
      exact ⟨by omega, Nat.le_refl _, Nat.zero_le _, fun h => by omega⟩
    · injection hv0 with h1 h2 h3
      subst h1 h2 h3
      exact ⟨rfl, hcap, hcm, fun _ => ⟨g, rfl⟩⟩
  obtain ⟨hsn1, hsn2, hsn3, hsn4⟩ := hsn
  subst hsn1
  have HSA := Lib.hid hsn4
  have hcmi : (sc : Int) ≤ 9223372036854775807 := by unfold maxLen at hsn3; omega
  have hZ := num_lt (op := x.op) hs
  have hLZ := left_le x.mod o.f.length (numV x.op o)
  have HVA : Hid (∀ w : World, Tab w → Calls Tryz.prog 45 #[.int .u8 ((x.op : UInt8).toNat : Int), OV o] w fun z w' => z = .returned (V (nf o.f.length ((numV x.op o : Nat) : Int))) ∧ Below w.heap.size w w') := Lib.hid (fun w ht => value_as x.op o w hs ht hop)
  have HLA : Hid (∀ w : World, Tab w → Calls Tryz.prog 44 #[V (nf o.f.length ((numV x.op o : Nat) : Int)), .int .i64 ((x.mod : Nat) : Int)] w fun z w' => z = .returned (V (nf o.f.length ((leftV x.mod o.f.length (numV x.op o) : Nat) : Int))) ∧ Below w.heap.size w w') := Lib.hid (fun w ht => left_as (op := x.op) hs x.mod hmd w ht)
  have HLF := Lib.hid (left_fit (op := x.op) hs x.mod)
  have hK := hs.fl
  have HIV : Hid ((x.rs.any (rngV (leftV x.mod o.f.length (numV x.op o)) o.f.length)) = inV x o) := Lib.hid rfl
  obtain ⟨K, hKK⟩ : ∃ K, o.f.length = K := ⟨_, rfl⟩
  obtain ⟨Z0, hZ0⟩ : ∃ Z, numV x.op o = Z := ⟨_, rfl⟩
  rw [hKK] at HVA HLA HLF hK HIV hLZ
  rw [hZ0] at HVA HLA HLF HIV hLZ hZ
  obtain ⟨Z, hZZ⟩ : ∃ Z, leftV x.mod K Z0 = Z := ⟨_, rfl⟩
  rw [hZZ] at HLA HLF HIV hLZ
  obtain ⟨d0, hd0⟩ : ∃ d, nf K (Z0 : Int) = d := ⟨_, rfl⟩
  obtain ⟨d1, hd1⟩ : ∃ d, nf K (Z : Int) = d := ⟨_, rfl⟩
  rw [hd0] at HVA HLA
  rw [hd1] at HLA
  have HD1 := Lib.hid hd1
  have hZl : Z < 10 ^ 200 := Nat.lt_of_le_of_lt hLZ hZ
  have HZL := Lib.hid hZl
  obtain ⟨p, hp, dp, pl, pz, _⟩ := parts_nf HLF.out
  have hm1 := nf_made HLF.out
  have l1 := nf_length (k := K) (z := (Z : Int)) (m := 200) (by rw [Int.natAbs_natCast]; exact hZl)
  rw [hd1] at hp hm1 l1
  have HP := Lib.hid hp
  have HM1 := Lib.hid hm1
  have HPZ := Lib.hid pz
  obtain ⟨R, hRR⟩ : ∃ R, inV x o = R := ⟨_, rfl⟩
  rw [hRR] at HIV ⊢
  clear hv ht hr hop hx hZ hLZ hKK hZ0 hZZ hd0 hd1 hZl hp hm1 pz hRR hsn3 hsn4 HLF
  go_enter Tryz.func21, Tryz.ntmps21
  go_upto_region 1 with fail
  go_cut [5] from 13 (fun vp w' => ∃ b : Nat, vp = .pointer (some ⟨b, 0, none⟩) ∧ HeldL w ((b, #[.bool d1.neg, S d1.l, .int .i64 d1.e]) :: [(w.heap.size + 1, #[S o.i, S o.f, .int .i64 o.e]), (w.heap.size, #[.int .u8 ((x.op : UInt8).toNat : Int), .int .i64 ((x.mod : Nat) : Int), .bool x.nt, .slice sa x.rs.length sc])]) w')
  case first =>
    have ALL1 : Hid (∀ w' : World, HeldL w [(w.heap.size + 1, #[S o.i, S o.f, .int .i64 o.e]), (w.heap.size, #[.int .u8 ((x.op : UInt8).toNat : Int), .int .i64 ((x.mod : Nat) : Int), .bool x.nt, .slice sa x.rs.length sc])] w' → w'.cell? ⟨w.heap.size, 0, none⟩ = some (.int .u8 ((x.op : UInt8).toNat : Int)) ∧ w'.cell? ⟨w.heap.size, 1, none⟩ = some (.int .i64 ((x.mod : Nat) : Int)) ∧ w'.cell? ⟨w.heap.size, 2, none⟩ = some (.bool x.nt) ∧ w'.cell? ⟨w.heap.size, 3, none⟩ = some (.slice sa x.rs.length sc) ∧ w'.cell? ⟨w.heap.size + 1, 0, none⟩ = some (S o.i) ∧ w'.cell? ⟨w.heap.size + 1, 1, none⟩ = some (S o.f) ∧ w'.cell? ⟨w.heap.size + 1, 2, none⟩ = some (.int .i64 o.e) ∧ HeldL w [(w.heap.size + 1, #[S o.i, S o.f, .int .i64 o.e]), (w.heap.size, #[.int .u8 ((x.op : UInt8).toNat : Int), .int .i64 ((x.mod : Nat) : Int), .bool x.nt, .slice sa x.rs.length sc])] w') := Lib.hid (fun w' h => ⟨(h.f (List.Mem.tail _ (List.Mem.head _))).cell 0, (h.f (List.Mem.tail _ (List.Mem.head _))).cell 1, (h.f (List.Mem.tail _ (List.Mem.head _))).cell 2, (h.f (List.Mem.tail _ (List.Mem.head _))).cell 3, (h.f (List.Mem.head _)).cell 0, (h.f (List.Mem.head _)).cell 1, (h.f (List.Mem.head _)).cell 2, h⟩)
    have KEEP1 : Hid (∀ w' w'' : World, (w'.cell? ⟨w.heap.size, 0, none⟩ = some (.int .u8 ((x.op : UInt8).toNat : Int)) ∧ w'.cell? ⟨w.heap.size, 1, none⟩ = some (.int .i64 ((x.mod : Nat) : Int)) ∧ w'.cell? ⟨w.heap.size, 2, none⟩ = some (.bool x.nt) ∧ w'.cell? ⟨w.heap.size, 3, none⟩ = some (.slice sa x.rs.length sc) ∧ w'.cell? ⟨w.heap.size + 1, 0, none⟩ = some (S o.i) ∧ w'.cell? ⟨w.heap.size + 1, 1, none⟩ = some (S o.f) ∧ w'.cell? ⟨w.heap.size + 1, 2, none⟩ = some (.int .i64 o.e) ∧ HeldL w [(w.heap.size + 1, #[S o.i, S o.f, .int .i64 o.e]), (w.heap.size, #[.int .u8 ((x.op : UInt8).toNat : Int), .int .i64 ((x.mod : Nat) : Int), .bool x.nt, .slice sa x.rs.length sc])] w') → Below w'.heap.size w' w'' → (w''.cell? ⟨w.heap.size, 0, none⟩ = some (.int .u8 ((x.op : UInt8).toNat : Int)) ∧ w''.cell? ⟨w.heap.size, 1, none⟩ = some (.int .i64 ((x.mod : Nat) : Int)) ∧ w''.cell? ⟨w.heap.size, 2, none⟩ = some (.bool x.nt) ∧ w''.cell? ⟨w.heap.size, 3, none⟩ = some (.slice sa x.rs.length sc) ∧ w''.cell? ⟨w.heap.size + 1, 0, none⟩ = some (S o.i) ∧ w''.cell? ⟨w.heap.size + 1, 1, none⟩ = some (S o.f) ∧ w''.cell? ⟨w.heap.size + 1, 2, none⟩ = some (.int .i64 o.e) ∧ HeldL w [(w.heap.size + 1, #[S o.i, S o.f, .int .i64 o.e]), (w.heap.size, #[.int .u8 ((x.op : UInt8).toNat : Int), .int .i64 ((x.mod : Nat) : Int), .bool x.nt, .slice sa x.rs.length sc])] w'')) := Lib.hid (fun w' w'' h hb => ALL1.out _ (HeldL.keep (h.2.2.2.2.2.2.2) hb))
    have TAB1 : Hid (∀ w' : World, (w'.cell? ⟨w.heap.size, 0, none⟩ = some (.int .u8 ((x.op : UInt8).toNat : Int)) ∧ w'.cell? ⟨w.heap.size, 1, none⟩ = some (.int .i64 ((x.mod : Nat) : Int)) ∧ w'.cell? ⟨w.heap.size, 2, none⟩ = some (.bool x.nt) ∧ w'.cell? ⟨w.heap.size, 3, none⟩ = some (.slice sa x.rs.length sc) ∧ w'.cell? ⟨w.heap.size + 1, 0, none⟩ = some (S o.i) ∧ w'.cell? ⟨w.heap.size + 1, 1, none⟩ = some (S o.f) ∧ w'.cell? ⟨w.heap.size + 1, 2, none⟩ = some (.int .i64 o.e) ∧ HeldL w [(w.heap.size + 1, #[S o.i, S o.f, .int .i64 o.e]), (w.heap.size, #[.int .u8 ((x.op : UInt8).toNat : Int), .int .i64 ((x.mod : Nat) : Int), .bool x.nt, .slice sa x.rs.length sc])] w') → Tab w') := Lib.hid (fun w' h => HT.out.below (h.2.2.2.2.2.2.2).bel)
    have HS1 : Hid (HeldL w [(w.heap.size + 1, #[S o.i, S o.f, .int .i64 o.e]), (w.heap.size, #[.int .u8 ((x.op : UInt8).toNat : Int), .int .i64 ((x.mod : Nat) : Int), .bool x.nt, .slice sa x.rs.length sc])] _) := Lib.hid (HeldL.alloc (HeldL.alloc (HeldL.refl w) (w.heap.size) #[.int .u8 ((x.op : UInt8).toNat : Int), .int .i64 ((x.mod : Nat) : Int), .bool x.nt, .slice sa x.rs.length sc] 50 (by simp)) (w.heap.size + 1) #[S o.i, S o.f, .int .i64 o.e] 42 (by simp))
    refine wp_region_held_drew (S := fun w' => w'.cell? ⟨w.heap.size, 0, none⟩ = some (.int .u8 ((x.op : UInt8).toNat : Int)) ∧ w'.cell? ⟨w.heap.size, 1, none⟩ = some (.int .i64 ((x.mod : Nat) : Int)) ∧ w'.cell? ⟨w.heap.size, 2, none⟩ = some (.bool x.nt) ∧ w'.cell? ⟨w.heap.size, 3, none⟩ = some (.slice sa x.rs.length sc) ∧ w'.cell? ⟨w.heap.size + 1, 0, none⟩ = some (S o.i) ∧ w'.cell? ⟨w.heap.size + 1, 1, none⟩ = some (S o.f) ∧ w'.cell? ⟨w.heap.size + 1, 2, none⟩ = some (.int .i64 o.e) ∧ HeldL w [(w.heap.size + 1, #[S o.i, S o.f, .int .i64 o.e]), (w.heap.size, #[.int .u8 ((x.op : UInt8).toNat : Int), .int .i64 ((x.mod : Nat) : Int), .bool x.nt, .slice sa x.rs.length sc])] w') (by kernel_rfl) (ALL1.out _ (HeldL.drew HS1.out)) (fun hHeld => ?_)
    refine wpAnyH_take (i := 0) (oi := { dst := some 13, op := Go.Op.fieldAddr 50 (Go.Operand.tmp 2) 0, type := 0, pos := "law.go:60", after := #[], guard := none }) (v := ?_) rfl (by kernel_rfl) (by kernel_rfl) (by kernel_rfl) (fun _ _ _ h => h) (Or.inl ⟨by rfl, ?_⟩) hHeld ?_
    case refine_2 => (intro w hSw; (try dsimp only at hSw); go_simp <;> with_reducible rfl)
    try simp only [Act.put, List.setIfInBounds_toArray, List.set_cons_zero, List.set_cons_succ]
    refine wpAnyH_take (i := 1) (oi := { dst := some 14, op := Go.Op.load 5 (Go.Operand.tmp 13), type := 5, pos := "law.go:60", after := #[{ on := 0, ground := Go.Ground.data }], guard := none }) (v := ?_) rfl (by kernel_rfl) (by kernel_rfl) (by kernel_rfl) (fun _ _ _ h => h) (Or.inl ⟨by rfl, ?_⟩) hHeld ?_
    case refine_2 => (intro w hSw; (try dsimp only at hSw); go_simp <;> with_reducible rfl)
    try simp only [Act.put, List.setIfInBounds_toArray, List.set_cons_zero, List.set_cons_succ]
    refine wpAnyH_take (i := 2) (oi := { dst := some 15, op := Go.Op.load 42 (Go.Operand.tmp 3), type := 42, pos := "law.go:60", after := #[], guard := none }) (v := ?_) rfl (by kernel_rfl) (by kernel_rfl) (by kernel_rfl) (fun _ _ _ h => h) (Or.inl ⟨by rfl, ?_⟩) hHeld ?_
    case refine_2 => (intro w hSw; (try dsimp only at hSw); go_simp <;> with_reducible rfl)
    try simp only [Act.put, List.setIfInBounds_toArray, List.set_cons_zero, List.set_cons_succ]
    refine wpAnyH_take (i := 4) (oi := { dst := some 17, op := Go.Op.fieldAddr 50 (Go.Operand.tmp 2) 1, type := 0, pos := "law.go:60", after := #[], guard := none }) (v := ?_) rfl (by kernel_rfl) (by kernel_rfl) (by kernel_rfl) (fun _ _ _ h => h) (Or.inl ⟨by rfl, ?_⟩) hHeld ?_
    case refine_2 => (intro w hSw; (try dsimp only at hSw); go_simp <;> with_reducible rfl)
    try simp only [Act.put, List.setIfInBounds_toArray, List.set_cons_zero, List.set_cons_succ]
    refine wpAnyH_take (i := 5) (oi := { dst := some 18, op := Go.Op.load 3 (Go.Operand.tmp 17), type := 3, pos := "law.go:60", after := #[{ on := 4, ground := Go.Ground.data }], guard := none }) (v := ?_) rfl (by kernel_rfl) (by kernel_rfl) (by kernel_rfl) (fun _ _ _ h => h) (Or.inl ⟨by rfl, ?_⟩) hHeld ?_
    case refine_2 => (intro w hSw; (try dsimp only at hSw); go_simp <;> with_reducible rfl)
    try simp only [Act.put, List.setIfInBounds_toArray, List.set_cons_zero, List.set_cons_succ]
    refine wpAnyH_ready (rs := [3, 7]) (by kernel_rfl) (by simp) ?_
    refine (AllReadyH.cons (o := { dst := some 16, op := Go.Op.call { callee := Go.Callee.value (Go.Operand.func 45), args := #[Go.Operand.tmp 14, Go.Operand.tmp 15], argTypes := #[5, 42] }, type := 90, pos := "law.go:60", after := #[{ on := 1, ground := Go.Ground.data }, { on := 2, ground := Go.Ground.data }], guard := none }) rfl (fun KK hK => ?_) (AllReadyH.cons (o := { dst := some 5, op := Go.Op.alloc 90, type := 0, pos := "law.go:60", after := #[], guard := none }) rfl (fun KK hK => ?_) AllReadyH.nil))
    ·
      go_simp
      with_reducible refine (HVA.out _ (TAB1.out _ hHeld)).mono ?_
      rintro x wA ⟨rfl, hb⟩
      go_wp2_with fail
      refine hK.out _ _ (KEEP1.out _ _ hHeld hb) (fun hHeld2 => ?_)
      clear hK hHeld hb
      have hHeld := hHeld2
      clear hHeld2
      try simp only [Act.put, List.setIfInBounds_toArray, List.set_cons_zero, List.set_cons_succ]
      refine wpAnyH_ready (rs := [6, 7]) (by kernel_rfl) (by simp) ?_
      refine (AllReadyH.cons (o := { dst := some 19, op := Go.Op.call { callee := Go.Callee.value (Go.Operand.func 44), args := #[Go.Operand.tmp 16, Go.Operand.tmp 18], argTypes := #[90, 3] }, type := 90, pos := "law.go:60", after := #[{ on := 3, ground := Go.Ground.data }, { on := 5, ground := Go.Ground.data }, { on := 3, ground := Go.Ground.chain }], guard := none }) rfl (fun KK hK => ?_) (AllReadyH.cons (o := { dst := some 5, op := Go.Op.alloc 90, type := 0, pos := "law.go:60", after := #[], guard := none }) rfl (fun KK hK => ?_) AllReadyH.nil))
      ·
        go_simp
        with_reducible refine (HLA.out _ (TAB1.out _ hHeld)).mono ?_
        rintro x wB ⟨rfl, hb⟩
        go_wp2_with fail
        refine hK.out _ _ (KEEP1.out _ _ hHeld hb) (fun hHeld2 => ?_)
        clear hK hHeld hb
        have hHeld := hHeld2
        clear hHeld2
        try simp only [Act.put, List.setIfInBounds_toArray, List.set_cons_zero, List.set_cons_succ]
        refine wpAnyH_ready (rs := [7]) (by kernel_rfl) (by simp) ?_
        refine (AllReadyH.cons (o := { dst := some 5, op := Go.Op.alloc 90, type := 0, pos := "law.go:60", after := #[], guard := none }) rfl (fun KK hK => ?_) AllReadyH.nil)
        have hH0 := hHeld
        go_simp
        refine hK.out _ _ (ALL1.out _ (HeldL.skip (hHeld.2.2.2.2.2.2.2) _)) (fun hHeld2 => ?_)
        clear hK hHeld
        have hHeld := hHeld2
        clear hHeld2
        try simp only [Act.put, List.setIfInBounds_toArray, List.set_cons_zero, List.set_cons_succ]
        refine wpAnyH_ready (rs := [8]) (by kernel_rfl) (by simp) ?_
        refine (AllReadyH.cons (o := { dst := none, op := Go.Op.store 90 (Go.Operand.tmp 5) (Go.Operand.tmp 19), type := 0, pos := "law.go:60", after := #[{ on := 7, ground := Go.Ground.data }, { on := 6, ground := Go.Ground.data }, { on := 6, ground := Go.Ground.chain }, { on := 0, ground := Go.Ground.phase }, { on := 1, ground := Go.Ground.phase }, { on := 2, ground := Go.Ground.phase }, { on := 3, ground := Go.Ground.phase }, { on := 4, ground := Go.Ground.phase }, { on := 5, ground := Go.Ground.phase }, { on := 6, ground := Go.Ground.phase }, { on := 7, ground := Go.Ground.phase }], guard := none }) rfl (fun KK hK => ?_) AllReadyH.nil)
        go_simp
        refine hK.out _ _ (ALL1.out _ (HeldL.skip (hH0.2.2.2.2.2.2.2) _)) (fun hHeld2 => ?_)
        clear hK hHeld
        have hHeld := hHeld2
        clear hHeld2
        try simp only [Act.put, List.setIfInBounds_toArray, List.set_cons_zero, List.set_cons_succ]
        refine wpAnyH_done (by kernel_rfl) ?_ _
        go_wp2
        go_meet
        case rel => exact ⟨_, rfl, HeldL.alloc (hH0.2.2.2.2.2.2.2) _ _ _ rfl⟩
      ·
        go_simp
        have HN : Hid (HeldL w ((wA.heap.size, #[.bool false, .string ⟨#[]⟩, .int .i64 0]) :: [(w.heap.size + 1, #[S o.i, S o.f, .int .i64 o.e]), (w.heap.size, #[.int .u8 ((x.op : UInt8).toNat : Int), .int .i64 ((x.mod : Nat) : Int), .bool x.nt, .slice sa x.rs.length sc])]) _) := Lib.hid (HeldL.alloc (hHeld.2.2.2.2.2.2.2) (wA.heap.size) #[.bool false, .string ⟨#[]⟩, .int .i64 0] 90 (by first | rfl | simp))
        refine hK.out _ _ (ALL1.out _ (HeldL.tail HN.out)) (fun hHeld2 => ?_)
        clear hK hHeld
        have hHeld := hHeld2
        clear hHeld2
        try simp only [Act.put, List.setIfInBounds_toArray, List.set_cons_zero, List.set_cons_succ]
        refine wpAnyH_ready (rs := [6]) (by kernel_rfl) (by simp) ?_
        refine (AllReadyH.cons (o := { dst := some 19, op := Go.Op.call { callee := Go.Callee.value (Go.Operand.func 44), args := #[Go.Operand.tmp 16, Go.Operand.tmp 18], argTypes := #[90, 3] }, type := 90, pos := "law.go:60", after := #[{ on := 3, ground := Go.Ground.data }, { on := 5, ground := Go.Ground.data }, { on := 3, ground := Go.Ground.chain }], guard := none }) rfl (fun KK hK => ?_) AllReadyH.nil)
        go_simp
        with_reducible refine (HLA.out _ (TAB1.out _ hHeld)).mono ?_
        rintro x wB ⟨rfl, hb⟩
        go_wp2_with fail
        refine hK.out _ _ (KEEP1.out _ _ hHeld hb) (fun hHeld2 => ?_)
        have HM : Hid (HeldL w ((wA.heap.size, #[.bool false, .string ⟨#[]⟩, .int .i64 0]) :: [(w.heap.size + 1, #[S o.i, S o.f, .int .i64 o.e]), (w.heap.size, #[.int .u8 ((x.op : UInt8).toNat : Int), .int .i64 ((x.mod : Nat) : Int), .bool x.nt, .slice sa x.rs.length sc])]) wB) := Lib.hid (HeldL.keep HN.out hb)
        clear HN
        have HN := HM
        clear HM
        clear hK hHeld hb
        have hHeld := hHeld2
        clear hHeld2
        try simp only [Act.put, List.setIfInBounds_toArray, List.set_cons_zero, List.set_cons_succ]
        refine wpAnyH_ready (rs := [8]) (by kernel_rfl) (by simp) ?_
        refine (AllReadyH.cons (o := { dst := none, op := Go.Op.store 90 (Go.Operand.tmp 5) (Go.Operand.tmp 19), type := 0, pos := "law.go:60", after := #[{ on := 7, ground := Go.Ground.data }, { on := 6, ground := Go.Ground.data }, { on := 6, ground := Go.Ground.chain }, { on := 0, ground := Go.Ground.phase }, { on := 1, ground := Go.Ground.phase }, { on := 2, ground := Go.Ground.phase }, { on := 3, ground := Go.Ground.phase }, { on := 4, ground := Go.Ground.phase }, { on := 5, ground := Go.Ground.phase }, { on := 6, ground := Go.Ground.phase }, { on := 7, ground := Go.Ground.phase }], guard := none }) rfl (fun KK hK => ?_) AllReadyH.nil)
        obtain ⟨nn0, nn1, nn2, nnz0, nnz1, nnz2, nnl⟩ := (HN.out.f (List.Mem.head _)).three
        go_simp
        refine hK.out _ _ (ALL1.out _ (HeldL.tail (HeldL.store3 [] [(w.heap.size + 1, #[S o.i, S o.f, .int .i64 o.e]), (w.heap.size, #[.int .u8 ((x.op : UInt8).toNat : Int), .int .i64 ((x.mod : Nat) : Int), .bool x.nt, .slice sa x.rs.length sc])] HN.out (.bool d1.neg) (S d1.l) (.int .i64 d1.e)))) (fun hHeld2 => ?_)
        clear hK hHeld
        have hHeld := hHeld2
        clear hHeld2
        try simp only [Act.put, List.setIfInBounds_toArray, List.set_cons_zero, List.set_cons_succ]
        refine wpAnyH_done (by kernel_rfl) ?_ _
        go_wp2
        go_meet
        case rel => exact ⟨_, rfl, HeldL.store3 [] [(w.heap.size + 1, #[S o.i, S o.f, .int .i64 o.e]), (w.heap.size, #[.int .u8 ((x.op : UInt8).toNat : Int), .int .i64 ((x.mod : Nat) : Int), .bool x.nt, .slice sa x.rs.length sc])] HN.out (.bool d1.neg) (S d1.l) (.int .i64 d1.e)⟩
    ·
      go_simp
      have HN : Hid (HeldL w ((w.heap.size + 1 + 1, #[.bool false, .string ⟨#[]⟩, .int .i64 0]) :: [(w.heap.size + 1, #[S o.i, S o.f, .int .i64 o.e]), (w.heap.size, #[.int .u8 ((x.op : UInt8).toNat : Int), .int .i64 ((x.mod : Nat) : Int), .bool x.nt, .slice sa x.rs.length sc])]) _) := Lib.hid (HeldL.alloc (hHeld.2.2.2.2.2.2.2) (w.heap.size + 1 + 1) #[.bool false, .string ⟨#[]⟩, .int .i64 0] 90 (by first | rfl | simp))
      refine hK.out _ _ (ALL1.out _ (HeldL.tail HN.out)) (fun hHeld2 => ?_)
      clear hK hHeld
      have hHeld := hHeld2
      clear hHeld2
      try simp only [Act.put, List.setIfInBounds_toArray, List.set_cons_zero, List.set_cons_succ]
      refine wpAnyH_ready (rs := [3]) (by kernel_rfl) (by simp) ?_
      refine (AllReadyH.cons (o := { dst := some 16, op := Go.Op.call { callee := Go.Callee.value (Go.Operand.func 45), args := #[Go.Operand.tmp 14, Go.Operand.tmp 15], argTypes := #[5, 42] }, type := 90, pos := "law.go:60", after := #[{ on := 1, ground := Go.Ground.data }, { on := 2, ground := Go.Ground.data }], guard := none }) rfl (fun KK hK => ?_) AllReadyH.nil)
      go_simp
      with_reducible refine (HVA.out _ (TAB1.out _ hHeld)).mono ?_
      rintro x wA ⟨rfl, hb⟩
      go_wp2_with fail
      refine hK.out _ _ (KEEP1.out _ _ hHeld hb) (fun hHeld2 => ?_)
      have HM : Hid (HeldL w ((w.heap.size + 1 + 1, #[.bool false, .string ⟨#[]⟩, .int .i64 0]) :: [(w.heap.size + 1, #[S o.i, S o.f, .int .i64 o.e]), (w.heap.size, #[.int .u8 ((x.op : UInt8).toNat : Int), .int .i64 ((x.mod : Nat) : Int), .bool x.nt, .slice sa x.rs.length sc])]) wA) := Lib.hid (HeldL.keep HN.out hb)
      clear HN
      have HN := HM
      clear HM
      clear hK hHeld hb
      have hHeld := hHeld2
      clear hHeld2
      try simp only [Act.put, List.setIfInBounds_toArray, List.set_cons_zero, List.set_cons_succ]
      refine wpAnyH_ready (rs := [6]) (by kernel_rfl) (by simp) ?_
      refine (AllReadyH.cons (o := { dst := some 19, op := Go.Op.call { callee := Go.Callee.value (Go.Operand.func 44), args := #[Go.Operand.tmp 16, Go.Operand.tmp 18], argTypes := #[90, 3] }, type := 90, pos := "law.go:60", after := #[{ on := 3, ground := Go.Ground.data }, { on := 5, ground := Go.Ground.data }, { on := 3, ground := Go.Ground.chain }], guard := none }) rfl (fun KK hK => ?_) AllReadyH.nil)
      go_simp
      with_reducible refine (HLA.out _ (TAB1.out _ hHeld)).mono ?_
      rintro x wB ⟨rfl, hb⟩
      go_wp2_with fail
      refine hK.out _ _ (KEEP1.out _ _ hHeld hb) (fun hHeld2 => ?_)
      have HM : Hid (HeldL w ((w.heap.size + 1 + 1, #[.bool false, .string ⟨#[]⟩, .int .i64 0]) :: [(w.heap.size + 1, #[S o.i, S o.f, .int .i64 o.e]), (w.heap.size, #[.int .u8 ((x.op : UInt8).toNat : Int), .int .i64 ((x.mod : Nat) : Int), .bool x.nt, .slice sa x.rs.length sc])]) wB) := Lib.hid (HeldL.keep HN.out hb)
      clear HN
      have HN := HM
      clear HM
      clear hK hHeld hb
      have hHeld := hHeld2
      clear hHeld2
      try simp only [Act.put, List.setIfInBounds_toArray, List.set_cons_zero, List.set_cons_succ]
      refine wpAnyH_ready (rs := [8]) (by kernel_rfl) (by simp) ?_
      refine (AllReadyH.cons (o := { dst := none, op := Go.Op.store 90 (Go.Operand.tmp 5) (Go.Operand.tmp 19), type := 0, pos := "law.go:60", after := #[{ on := 7, ground := Go.Ground.data }, { on := 6, ground := Go.Ground.data }, { on := 6, ground := Go.Ground.chain }, { on := 0, ground := Go.Ground.phase }, { on := 1, ground := Go.Ground.phase }, { on := 2, ground := Go.Ground.phase }, { on := 3, ground := Go.Ground.phase }, { on := 4, ground := Go.Ground.phase }, { on := 5, ground := Go.Ground.phase }, { on := 6, ground := Go.Ground.phase }, { on := 7, ground := Go.Ground.phase }], guard := none }) rfl (fun KK hK => ?_) AllReadyH.nil)
      obtain ⟨nn0, nn1, nn2, nnz0, nnz1, nnz2, nnl⟩ := (HN.out.f (List.Mem.head _)).three
      go_simp
      refine hK.out _ _ (ALL1.out _ (HeldL.tail (HeldL.store3 [] [(w.heap.size + 1, #[S o.i, S o.f, .int .i64 o.e]), (w.heap.size, #[.int .u8 ((x.op : UInt8).toNat : Int), .int .i64 ((x.mod : Nat) : Int), .bool x.nt, .slice sa x.rs.length sc])] HN.out (.bool d1.neg) (S d1.l) (.int .i64 d1.e)))) (fun hHeld2 => ?_)
      clear hK hHeld
      have hHeld := hHeld2
      clear hHeld2
      try simp only [Act.put, List.setIfInBounds_toArray, List.set_cons_zero, List.set_cons_succ]
      refine wpAnyH_done (by kernel_rfl) ?_ _
      go_wp2
      go_meet
      case rel => exact ⟨_, rfl, HeldL.store3 [] [(w.heap.size + 1, #[S o.i, S o.f, .int .i64 o.e]), (w.heap.size, #[.int .u8 ((x.op : UInt8).toNat : Int), .int .i64 ((x.mod : Nat) : Int), .bool x.nt, .slice sa x.rs.length sc])] HN.out (.bool d1.neg) (S d1.l) (.int .i64 d1.e)⟩
  case rest =>
  obtain ⟨b1, hvp, hh⟩ := hcut
  subst hvp
  have H1 : Hid (HeldL w ((b1, #[.bool d1.neg, S d1.l, .int .i64 d1.e]) :: [(w.heap.size + 1, #[S o.i, S o.f, .int .i64 o.e]), (w.heap.size, #[.int .u8 ((x.op : UInt8).toNat : Int), .int .i64 ((x.mod : Nat) : Int), .bool x.nt, .slice sa x.rs.length sc])]) wc) := Lib.hid hh
  clear hh
  generalize wc = w1 at *
  have x0 : w1.cell? ⟨b1, 0, none⟩ = some (.bool d1.neg) := (H1.out.f (List.Mem.head _)).cell 0
  have x1 : w1.cell? ⟨b1, 1, none⟩ = some (S d1.l) := (H1.out.f (List.Mem.head _)).cell 1
  have x2 : w1.cell? ⟨b1, 2, none⟩ = some (.int .i64 d1.e) := (H1.out.f (List.Mem.head _)).cell 2
  have xl : b1 < w1.heap.size := (H1.out.f (List.Mem.head _)).lt
  go_wp2_with fail
  with_reducible refine (parts_as d1.neg ⟨d1.l.toArray⟩ d1.e _ (by rw [arr_size]; omega) d1 HM1.out (dig (Z / 10 ^ K)) p HP.out).mono ?_
  rintro x w2 ⟨rfl, hb⟩
  clear x0 x1 x2 xl
  have H2 : Hid (HeldL w [(b1, #[.bool d1.neg, S d1.l, .int .i64 d1.e]), (w.heap.size + 1, #[S o.i, S o.f, .int .i64 o.e]), (w.heap.size, #[.int .u8 ((x.op : UInt8).toNat : Int), .int .i64 ((x.mod : Nat) : Int), .bool x.nt, .slice sa x.rs.length sc])] w2) := Lib.hid (HeldL.keep H1.out hb)
  clear H1
  clear hb
  have r0 : w2.cell? ⟨w.heap.size, 0, none⟩ = some (.int .u8 ((x.op : UInt8).toNat : Int)) := (H2.out.f (List.Mem.tail _ (List.Mem.tail _ (List.Mem.head _)))).cell 0
  have r1 : w2.cell? ⟨w.heap.size, 1, none⟩ = some (.int .i64 ((x.mod : Nat) : Int)) := (H2.out.f (List.Mem.tail _ (List.Mem.tail _ (List.Mem.head _)))).cell 1
  have r2 : w2.cell? ⟨w.heap.size, 2, none⟩ = some (.bool x.nt) := (H2.out.f (List.Mem.tail _ (List.Mem.tail _ (List.Mem.head _)))).cell 2
  have r3 : w2.cell? ⟨w.heap.size, 3, none⟩ = some (.slice sa x.rs.length sc) := (H2.out.f (List.Mem.tail _ (List.Mem.tail _ (List.Mem.head _)))).cell 3
  have rl : w.heap.size < w2.heap.size := (H2.out.f (List.Mem.tail _ (List.Mem.tail _ (List.Mem.head _)))).lt
  go_wp2_with fail
  go_loopw [8, 28] (fun v8 i wr => ∃ k : Nat, k ≤ x.rs.length ∧ i = .int .i64 (k : Int) ∧ v8 = .bool ((x.rs.take k).any (rngV Z K)) ∧ HeldL w [(b1, #[.bool d1.neg, S d1.l, .int .i64 d1.e]), (w.heap.size + 1, #[S o.i, S o.f, .int .i64 o.e]), (w.heap.size, #[.int .u8 ((x.op : UInt8).toNat : Int), .int .i64 ((x.mod : Nat) : Int), .bool x.nt, .slice sa x.rs.length sc])] wr) (fun _ i _ => x.rs.length - (intOf i).toNat)
  case atStart => exact ⟨0, Nat.zero_le _, rfl, rfl, H2.out⟩
  case round =>
    obtain ⟨k, hk, rfl, rfl, hh⟩ := hrel
    obtain ⟨wo, hwo⟩ : ∃ W : World, W = wr := ⟨_, rfl⟩
    subst hwo
    clear r0 r1 r2 r3 rl
    have H3 : Hid (HeldL w [(b1, #[.bool d1.neg, S d1.l, .int .i64 d1.e]), (w.heap.size + 1, #[S o.i, S o.f, .int .i64 o.e]), (w.heap.size, #[.int .u8 ((x.op : UInt8).toNat : Int), .int .i64 ((x.mod : Nat) : Int), .bool x.nt, .slice sa x.rs.length sc])] wo) := Lib.hid hh
    clear hh H2
    obtain ⟨acc, hacc⟩ : ∃ a, (x.rs.take k).any (rngV Z K) = a := ⟨_, rfl⟩
    rw [hacc]
    have HAC := Lib.hid hacc
    clear hacc
    by_cases hlt : k < x.rs.length
    · have hlti : (k : Int) < (x.rs.length : Int) := Int.ofNat_lt.2 hlt
      obtain ⟨g, hg⟩ := HSA.out (by omega)
      subst hg
      have hgl := (HV.out.lt g rfl).2
      obtain ⟨y, hy⟩ : ∃ y, x.rs[k] = y := ⟨_, rfl⟩
      have HYK : Hid (x.rs[k]? = some y) := Lib.hid (by rw [List.getElem?_eq_getElem hlt, hy])
      have hyb := HR.out y (by rw [← hy]; exact List.getElem_mem hlt)
      clear hy
      obtain ⟨hy1, hy2⟩ := hyb
      obtain ⟨e0, e1⟩ := rng_cells HV.out H3.out.bel HYK.out
      obtain ⟨Y1, hY1⟩ : ∃ Y, y.1 = Y := ⟨_, rfl⟩
      obtain ⟨Y2, hY2⟩ : ∃ Y, y.2 = Y := ⟨_, rfl⟩
      rw [hY1] at e0 hy1
      rw [hY2] at e1 hy2
      have HYY : Hid (y = (Y1, Y2)) := Lib.hid (by rw [← hY1, ← hY2])
      clear hY1 hY2
      obtain ⟨dl, hdl⟩ : ∃ d, nf K ((Y1 * 10 ^ K : Nat) : Int) = d := ⟨_, rfl⟩
      obtain ⟨dh, hdh⟩ : ∃ d, nf K ((Y2 * 10 ^ K : Nat) : Int) = d := ⟨_, rfl⟩
      have f1 := fit_of (K := K) (by omega) (bd_lt hy1 hK) (by decide)
      have f2 := fit_of (K := K) (by omega) (bd_lt hy2 hK) (by decide)
      have HML : Hid (made false (dig Y1) 0 = dl) := Lib.hid ((made_k f1).trans hdl)
      have HMH : Hid (made false (dig Y2) 0 = dh) := Lib.hid ((made_k f2).trans hdh)
      have HB1 := Lib.hid (bd_lt hy1 hK)
      have HB2 := Lib.hid (bd_lt hy2 hK)
      have HDL := Lib.hid hdl
      have HDH := Lib.hid hdh
      have y1l := (dig_length_le Y1 18).2 (by omega)
      have y2l := (dig_length_le Y2 18).2 (by omega)
      clear hdl hdh f1 f2
      have hk0 : (0 : Int) ≤ (k : Int) := Int.natCast_nonneg k
      have hkc : (k : Int) < (sc : Int) := Int.ofNat_lt.2 (Nat.lt_of_lt_of_le hlt hsn2)
      have glr : g < wo.heap.size := Nat.lt_of_lt_of_le hgl H3.out.bel.size
      go_wp2_with fail
      with_reducible refine (ofN Y1 _ (by omega) (HT.out.below (HeldL.alloc H3.out (wo.heap.size) #[.int .i64 (Y1 : Int), .int .i64 (Y2 : Int)] 64 (by simp)).bel)).mono ?_
      rintro x w4 ⟨rfl, hb⟩
      have H4 : Hid (HeldL w [(wo.heap.size, #[.int .i64 (Y1 : Int), .int .i64 (Y2 : Int)]), (b1, #[.bool d1.neg, S d1.l, .int .i64 d1.e]), (w.heap.size + 1, #[S o.i, S o.f, .int .i64 o.e]), (w.heap.size, #[.int .u8 ((x.op : UInt8).toNat : Int), .int .i64 ((x.mod : Nat) : Int), .bool x.nt, .slice (some ⟨g, 0, none⟩) x.rs.length sc])] w4) := Lib.hid (HeldL.keep (HeldL.alloc H3.out (wo.heap.size) #[.int .i64 (Y1 : Int), .int .i64 (Y2 : Int)] 64 (by simp)) hb)
      clear H3
      clear hb
      go_wp2_with fail
      with_reducible refine (madeL (dig Y1) 0 _ (by omega) dl HML.out).mono ?_
      rintro x w5 ⟨rfl, hb⟩
      have H5 : Hid (HeldL w [(wo.heap.size, #[.int .i64 (Y1 : Int), .int .i64 (Y2 : Int)]), (b1, #[.bool d1.neg, S d1.l, .int .i64 d1.e]), (w.heap.size + 1, #[S o.i, S o.f, .int .i64 o.e]), (w.heap.size, #[.int .u8 ((x.op : UInt8).toNat : Int), .int .i64 ((x.mod : Nat) : Int), .bool x.nt, .slice (some ⟨g, 0, none⟩) x.rs.length sc])] w5) := Lib.hid (HeldL.keep H4.out hb)
      clear H4
      clear hb
      clear e0 e1
      have y0 : w5.cell? ⟨wo.heap.size, 0, none⟩ = some (.int .i64 (Y1 : Int)) := (H5.out.f (List.Mem.head _)).cell 0
      have y1 : w5.cell? ⟨wo.heap.size, 1, none⟩ = some (.int .i64 (Y2 : Int)) := (H5.out.f (List.Mem.head _)).cell 1
      have yl : wo.heap.size < w5.heap.size := (H5.out.f (List.Mem.head _)).lt
      go_wp2_with fail
      with_reducible refine (ofN Y2 _ (by omega) (HT.out.below (HeldL.alloc H5.out (w5.heap.size) #[.bool dl.neg, S dl.l, .int .i64 dl.e] 90 (by simp)).bel)).mono ?_
      rintro x w6 ⟨rfl, hb⟩
      clear y0 y1 yl
      have H6 : Hid (HeldL w [(w5.heap.size, #[.bool dl.neg, S dl.l, .int .i64 dl.e]), (wo.heap.size, #[.int .i64 (Y1 : Int), .int .i64 (Y2 : Int)]), (b1, #[.bool d1.neg, S d1.l, .int .i64 d1.e]), (w.heap.size + 1, #[S o.i, S o.f, .int .i64 o.e]), (w.heap.size, #[.int .u8 ((x.op : UInt8).toNat : Int), .int .i64 ((x.mod : Nat) : Int), .bool x.nt, .slice (some ⟨g, 0, none⟩) x.rs.length sc])] w6) := Lib.hid (HeldL.keep (HeldL.alloc H5.out (w5.heap.size) #[.bool dl.neg, S dl.l, .int .i64 dl.e] 90 (by simp)) hb)
      clear H5
      clear hb
      go_wp2_with fail
      with_reducible refine (madeL (dig Y2) 0 _ (by omega) dh HMH.out).mono ?_
      rintro x w7 ⟨rfl, hb⟩
      have H7 : Hid (HeldL w [(w5.heap.size, #[.bool dl.neg, S dl.l, .int .i64 dl.e]), (wo.heap.size, #[.int .i64 (Y1 : Int), .int .i64 (Y2 : Int)]), (b1, #[.bool d1.neg, S d1.l, .int .i64 d1.e]), (w.heap.size + 1, #[S o.i, S o.f, .int .i64 o.e]), (w.heap.size, #[.int .u8 ((x.op : UInt8).toNat : Int), .int .i64 ((x.mod : Nat) : Int), .bool x.nt, .slice (some ⟨g, 0, none⟩) x.rs.length sc])] w7) := Lib.hid (HeldL.keep H6.out hb)
      clear H6
      clear hb
      go_upto_region 9 with fail
      have H8 : Hid (HeldL w [(w7.heap.size, #[.bool dh.neg, S dh.l, .int .i64 dh.e]), (w5.heap.size, #[.bool dl.neg, S dl.l, .int .i64 dl.e]), (wo.heap.size, #[.int .i64 (Y1 : Int), .int .i64 (Y2 : Int)]), (b1, #[.bool d1.neg, S d1.l, .int .i64 d1.e]), (w.heap.size + 1, #[S o.i, S o.f, .int .i64 o.e]), (w.heap.size, #[.int .u8 ((x.op : UInt8).toNat : Int), .int .i64 ((x.mod : Nat) : Int), .bool x.nt, .slice (some ⟨g, 0, none⟩) x.rs.length sc])] (w7.alloc (.cells #[.bool dh.neg, S dh.l, .int .i64 dh.e] 90))) := Lib.hid ((HeldL.alloc H7.out (w7.heap.size) #[.bool dh.neg, S dh.l, .int .i64 dh.e] 90 (by simp)))
      generalize (w7.alloc (.cells #[.bool dh.neg, S dh.l, .int .i64 dh.e] 90)) = w8 at *
      clear H7
      cases acc with
      | true =>
        go_wp2_with fail
        go_roundw
        case rel => exact ⟨k + 1, hlt, by go_num, by rw [take_any _ HYK.out, HAC.out]; rfl, HeldL.tail (HeldL.tail (HeldL.tail H8.out))⟩
        case measure => simp [intOf]; omega
      | false =>
        by_cases hp0 : p = []
        · have hz0 := HPZ.out.1 hp0
          subst hp0
          obtain ⟨c1, hc1⟩ : ∃ c, Lib.compareInt ((Y1 * 10 ^ K : Nat) : Int) (Z : Int) = c := ⟨_, rfl⟩
          have hc1i := cmp_le ((Y1 * 10 ^ K : Nat) : Int) (Z : Int)
          rw [hc1] at hc1i
          have HC1 := Lib.hid hc1
          clear hc1
          have l0 : w8.cell? ⟨w5.heap.size, 0, none⟩ = some (.bool dl.neg) := (H8.out.f (List.Mem.tail _ (List.Mem.head _))).cell 0
          have l1 : w8.cell? ⟨w5.heap.size, 1, none⟩ = some (S dl.l) := (H8.out.f (List.Mem.tail _ (List.Mem.head _))).cell 1
          have l2 : w8.cell? ⟨w5.heap.size, 2, none⟩ = some (.int .i64 dl.e) := (H8.out.f (List.Mem.tail _ (List.Mem.head _))).cell 2
          have ll : w5.heap.size < w8.heap.size := (H8.out.f (List.Mem.tail _ (List.Mem.head _))).lt
          have x0 : w8.cell? ⟨b1, 0, none⟩ = some (.bool d1.neg) := (H8.out.f (List.Mem.tail _ (List.Mem.tail _ (List.Mem.tail _ (List.Mem.head _))))).cell 0
          have x1 : w8.cell? ⟨b1, 1, none⟩ = some (S d1.l) := (H8.out.f (List.Mem.tail _ (List.Mem.tail _ (List.Mem.tail _ (List.Mem.head _))))).cell 1
          have x2 : w8.cell? ⟨b1, 2, none⟩ = some (.int .i64 d1.e) := (H8.out.f (List.Mem.tail _ (List.Mem.tail _ (List.Mem.tail _ (List.Mem.head _))))).cell 2
          have xl : b1 < w8.heap.size := (H8.out.f (List.Mem.tail _ (List.Mem.tail _ (List.Mem.tail _ (List.Mem.head _))))).lt
          go_wp2_with fail
          with_reducible refine (cmpV HB1.out HZL.out (by omega) dl d1 HDL.out HD1.out c1 HC1.out _).mono ?_
          rintro x w9 ⟨rfl, hb⟩
          clear l0 l1 l2 ll x0 x1 x2 xl
          have H9 : Hid (HeldL w [(w7.heap.size, #[.bool dh.neg, S dh.l, .int .i64 dh.e]), (w5.heap.size, #[.bool dl.neg, S dl.l, .int .i64 dl.e]), (wo.heap.size, #[.int .i64 (Y1 : Int), .int .i64 (Y2 : Int)]), (b1, #[.bool d1.neg, S d1.l, .int .i64 d1.e]), (w.heap.size + 1, #[S o.i, S o.f, .int .i64 o.e]), (w.heap.size, #[.int .u8 ((x.op : UInt8).toNat : Int), .int .i64 ((x.mod : Nat) : Int), .bool x.nt, .slice (some ⟨g, 0, none⟩) x.rs.length sc])] w9) := Lib.hid (HeldL.keep H8.out hb)
          clear H8
          clear hb
          by_cases h1 : c1 ≤ 0
          · have q1 : Y1 * 10 ^ K ≤ Z := Int.ofNat_le.1 (hc1i.1 h1)
            obtain ⟨c2, hc2⟩ : ∃ c, Lib.compareInt (Z : Int) ((Y2 * 10 ^ K : Nat) : Int) = c := ⟨_, rfl⟩
            have hc2i := cmp_le (Z : Int) ((Y2 * 10 ^ K : Nat) : Int)
            rw [hc2] at hc2i
            have HC2 := Lib.hid hc2
            clear hc2 hc1i HC1
            have x0 : w9.cell? ⟨b1, 0, none⟩ = some (.bool d1.neg) := (H9.out.f (List.Mem.tail _ (List.Mem.tail _ (List.Mem.tail _ (List.Mem.head _))))).cell 0
            have x1 : w9.cell? ⟨b1, 1, none⟩ = some (S d1.l) := (H9.out.f (List.Mem.tail _ (List.Mem.tail _ (List.Mem.tail _ (List.Mem.head _))))).cell 1
            have x2 : w9.cell? ⟨b1, 2, none⟩ = some (.int .i64 d1.e) := (H9.out.f (List.Mem.tail _ (List.Mem.tail _ (List.Mem.tail _ (List.Mem.head _))))).cell 2
            have xl : b1 < w9.heap.size := (H9.out.f (List.Mem.tail _ (List.Mem.tail _ (List.Mem.tail _ (List.Mem.head _))))).lt
            have h0 : w9.cell? ⟨w7.heap.size, 0, none⟩ = some (.bool dh.neg) := (H9.out.f (List.Mem.head _)).cell 0
            have h1 : w9.cell? ⟨w7.heap.size, 1, none⟩ = some (S dh.l) := (H9.out.f (List.Mem.head _)).cell 1
            have h2 : w9.cell? ⟨w7.heap.size, 2, none⟩ = some (.int .i64 dh.e) := (H9.out.f (List.Mem.head _)).cell 2
            have hl : w7.heap.size < w9.heap.size := (H9.out.f (List.Mem.head _)).lt
            go_wp2_with fail
            with_reducible refine (cmpV HZL.out HB2.out (by omega) d1 dh HD1.out HDH.out c2 HC2.out _).mono ?_
            rintro x w10 ⟨rfl, hb⟩
            clear x0 x1 x2 xl h0 h1 h2 hl
            have H10 : Hid (HeldL w [(w7.heap.size, #[.bool dh.neg, S dh.l, .int .i64 dh.e]), (w5.heap.size, #[.bool dl.neg, S dl.l, .int .i64 dl.e]), (wo.heap.size, #[.int .i64 (Y1 : Int), .int .i64 (Y2 : Int)]), (b1, #[.bool d1.neg, S d1.l, .int .i64 d1.e]), (w.heap.size + 1, #[S o.i, S o.f, .int .i64 o.e]), (w.heap.size, #[.int .u8 ((x.op : UInt8).toNat : Int), .int .i64 ((x.mod : Nat) : Int), .bool x.nt, .slice (some ⟨g, 0, none⟩) x.rs.length sc])] w10) := Lib.hid (HeldL.keep H9.out hb)
            clear H9
            clear hb
            by_cases h2 : c2 ≤ 0
            · have q2 : Z ≤ Y2 * 10 ^ K := Int.ofNat_le.1 (hc2i.1 h2)
              have HVV : Hid (rngV Z K y = true) := Lib.hid (by rw [HYY.out]; unfold rngV; rw [decide_eq_true hz0, decide_eq_true q1, decide_eq_true q2]; rfl)
              clear hc2i HC2 q1 q2 hz0
              go_wp2_with fail
              go_roundw
              case rel => exact ⟨k + 1, hlt, by go_num, by rw [take_any _ HYK.out, HAC.out, HVV.out]; first | rfl | (congr 1; exact decide_eq_false (by omega)), HeldL.tail (HeldL.tail (HeldL.tail H10.out))⟩
              case measure => simp [intOf]; omega
            · have q2 : ¬ Z ≤ Y2 * 10 ^ K := fun h => h2 (hc2i.2 (Int.ofNat_le.2 h))
              have HVV : Hid (rngV Z K y = false) := Lib.hid (by rw [HYY.out]; unfold rngV; rw [decide_eq_false q2, Bool.and_false, Bool.and_false])
              clear hc2i HC2 q1 q2 hz0
              go_wp2_with fail
              go_roundw
              case rel => exact ⟨k + 1, hlt, by go_num, by rw [take_any _ HYK.out, HAC.out, HVV.out]; first | rfl | (congr 1; exact decide_eq_false (by omega)), HeldL.tail (HeldL.tail (HeldL.tail H10.out))⟩
              case measure => simp [intOf]; omega
          · have q1 : ¬ Y1 * 10 ^ K ≤ Z := fun h => h1 (hc1i.2 (Int.ofNat_le.2 h))
            have HVV : Hid (rngV Z K y = false) := Lib.hid (by rw [HYY.out]; unfold rngV; rw [decide_eq_false q1, Bool.false_and, Bool.and_false])
            clear hc1i HC1 q1 hz0
            go_wp2_with fail
            go_roundw
            case rel => exact ⟨k + 1, hlt, by go_num, by rw [take_any _ HYK.out, HAC.out, HVV.out]; first | rfl | (congr 1; exact decide_eq_false (by omega)), HeldL.tail (HeldL.tail (HeldL.tail H9.out))⟩
            case measure => simp [intOf]; omega
        · have hz0 : ¬ Z % 10 ^ K = 0 := fun h => hp0 (HPZ.out.2 h)
          have HVV : Hid (rngV Z K y = false) := Lib.hid (by unfold rngV; rw [decide_eq_false hz0, Bool.false_and])
          have hpe := ne_empty hp0
          have hpe2 := empty_of hpe
          clear hz0
          go_wp2_with fail
          go_roundw
          case rel => exact ⟨k + 1, hlt, by go_num, by rw [take_any _ HYK.out, HAC.out, HVV.out]; first | rfl | (congr 1; exact decide_eq_false (by omega)), HeldL.tail (HeldL.tail (HeldL.tail H8.out))⟩
          case measure => simp [intOf]; omega
    · obtain rfl : k = x.rs.length := by omega
      have hlti : ¬ (x.rs.length : Int) < (x.rs.length : Int) := by omega
      have HAR : Hid (acc = R) := Lib.hid (by rw [← HAC.out, List.take_length]; exact HIV.out)
      have r0 : wo.cell? ⟨w.heap.size, 0, none⟩ = some (.int .u8 ((x.op : UInt8).toNat : Int)) := (H3.out.f (List.Mem.tail _ (List.Mem.tail _ (List.Mem.head _)))).cell 0
      have r1 : wo.cell? ⟨w.heap.size, 1, none⟩ = some (.int .i64 ((x.mod : Nat) : Int)) := (H3.out.f (List.Mem.tail _ (List.Mem.tail _ (List.Mem.head _)))).cell 1
      have r2 : wo.cell? ⟨w.heap.size, 2, none⟩ = some (.bool x.nt) := (H3.out.f (List.Mem.tail _ (List.Mem.tail _ (List.Mem.head _)))).cell 2
      have r3 : wo.cell? ⟨w.heap.size, 3, none⟩ = some (.slice sa x.rs.length sc) := (H3.out.f (List.Mem.tail _ (List.Mem.tail _ (List.Mem.head _)))).cell 3
      have rl : w.heap.size < wo.heap.size := (H3.out.f (List.Mem.tail _ (List.Mem.tail _ (List.Mem.head _)))).lt
      rw [HAR.out]
      go_wp2
      go_ret
      exact ⟨by first | rfl | (cases R <;> cases x.nt <;> rfl), H3.out.bel⟩

theorem holdsL_as (x : RelT) (v : Value) (base : Nat) (o : Og) (w : World) (hs : OgS o) (ht : Tab w) (hx : RelB x) (hr : ∀ y ∈ x.rs, y.1 < 1000000000 ∧ y.2 < 1000000000) (hv : Rngs w base x.rs v) (r : Bool) (hh : holdsP x o = r) :
    Calls Tryz.prog 21 #[.agg #[.int .u8 ((x.op : UInt8).toNat : Int), .int .i64 ((x.mod : Nat) : Int), .bool x.nt, v], OV o] w fun z w' => z = .returned (.bool r) ∧ Below w.heap.size w w' := by
  subst hh
  obtain ⟨sa, sn, sc, hsv⟩ := own_slice hv
  subst hsv
  have h := holdsL_s x sa sn sc base o w hs ht hx hr hv
  rw [in_law hs.b hx.1 (fun y hy => (hr y hy).2)] at h
  exact h
end Go.Proofs.YtkjhdehpcanciaaGreatDoor

namespace Go.Proofs.YtkjhdehpcanciaaGreatDoor
open Go.RowKit Florin
set_option linter.unusedVariables false
set_option linter.unusedSimpArgs false
attribute [local go_sem ↓] Go.wp_at_zero Go.wp_at_succ
/-- A relation whose numbers are small. -/
def RelN (x : RelT) : Prop := RelB x ∧ ∀ y ∈ x.rs, y.1 < 1000000000 ∧ y.2 < 1000000000
theorem RelN.b {x : RelT} (h : RelN x) : RelB x := h.1
theorem RelN.r {x : RelT} (h : RelN x) : ∀ y ∈ x.rs, y.1 < 1000000000 ∧ y.2 < 1000000000 := h.2
def RuleN (u : RuleT) : Prop := ∀ a ∈ u.any, ∀ x ∈ a, RelN x
theorem RuleN.b {u : RuleT} (h : RuleN u) : RuleB u := fun a ha x hx => (h a ha x hx).1
theorem own_g {w : World} {base : Nat} {e : TypeId} {sz : Nat} {sa : Option Addr} {sn sc n : Nat} {xs : List Value} (h : w.ownsRow base e sz (.slice sa sn sc) n xs) : sn = n ∧ n ≤ sc ∧ sc ≤ maxLen ∧ (0 < n → ∃ g, sa = some ⟨g, 0, none⟩ ∧ g < w.heap.size) := by
  rcases h.2 with ⟨hv0, h0⟩ | ⟨g, cap, cur, hv0, _, _, hcap, hcm, _⟩
  · injection hv0 with h1 h2 h3
    subst h1 h2 h3
    exact ⟨by omega, by omega, Nat.zero_le _, fun h => by omega⟩
  · injection hv0 with h1 h2 h3
    subst h1 h2 h3
    exact ⟨rfl, hcap, hcm, fun _ => ⟨g, rfl, (h.lt g rfl).2⟩⟩
theorem cond_cell {w wq : World} {base g n cap k : Nat} {us : List (List RelT)} {a : List RelT} (h : CondAt w base us (.slice (some ⟨g, 0, none⟩) n cap)) (hq : Below w.heap.size w wq) (hx : us[k]? = some a) :
    ∃ ra rn rc, wq.cell? ⟨g, k, none⟩ = some (.slice ra rn rc) ∧ AllAt w 0 a (.slice ra rn rc) := by
  obtain ⟨cs, ho, hl⟩ := h
  obtain ⟨hj, hxj⟩ := List.getElem?_eq_some_iff.1 hx
  obtain ⟨c, hA, hc⟩ := ListAt.get2 (sz := 1) (fun x c h => by obtain ⟨u, rfl, _⟩ := h; rfl) hl k hj
  rw [hxj] at hA
  obtain ⟨u, rfl, hrg⟩ := hA
  have HRG := hrg
  obtain ⟨csx, hox, hlx⟩ := hrg
  obtain ⟨ra, rn, rc, hsv⟩ := own_slice hox
  subst hsv
  have hgl := (ho.lt g rfl).2
  have hnn := (own_g ho).1
  subst hnn
  refine ⟨ra, rn, rc, ?_, HRG⟩
  rw [hq.cell (show g < _ from hgl), ho.cellAt _ (by omega)]
  have := hc 0 (by decide)
  rw [Nat.mul_one, Nat.add_zero] at this
  rw [this]; rfl
theorem relt_cells {w wq : World} {base g n cap k : Nat} {a : List RelT} {x : RelT} (h : AllAt w base a (.slice (some ⟨g, 0, none⟩) n cap)) (hq : Below w.heap.size w wq) (hx : a[k]? = some x) :
    ∃ ra rn rc, wq.cell? ⟨g, k * 4, none⟩ = some (.int .u8 ((x.op : UInt8).toNat : Int)) ∧ wq.cell? ⟨g, k * 4 + 1, none⟩ = some (.int .i64 ((x.mod : Nat) : Int)) ∧ wq.cell? ⟨g, k * 4 + 2, none⟩ = some (.bool x.nt) ∧ wq.cell? ⟨g, k * 4 + 3, none⟩ = some (.slice ra rn rc) ∧ Rngs w 0 x.rs (.slice ra rn rc) := by
  obtain ⟨cs, ho, hl⟩ := h
  obtain ⟨hj, hxj⟩ := List.getElem?_eq_some_iff.1 hx
  obtain ⟨c, hA, hc⟩ := ListAt.get2 (sz := 4) (fun x c h => by obtain ⟨u, rfl, _⟩ := h; rfl) hl k hj
  rw [hxj] at hA
  obtain ⟨u, rfl, hrg⟩ := hA
  obtain ⟨ra, rn, rc, hsv⟩ := own_slice hrg
  subst hsv
  have hgl := (ho.lt g rfl).2
  have hnn := (own_g ho).1
  subst hnn
  refine ⟨ra, rn, rc, ?_, ?_, ?_, ?_, hrg⟩
  · rw [hq.cell (show g < _ from hgl), ho.cellAt _ (by omega), show cs[k * 4]? = _ from hc 0 (by decide)]; rfl
  · rw [hq.cell (show g < _ from hgl), ho.cellAt _ (by omega), show cs[k * 4 + 1]? = _ from hc 1 (by decide)]; rfl
  · rw [hq.cell (show g < _ from hgl), ho.cellAt _ (by omega), show cs[k * 4 + 2]? = _ from hc 2 (by decide)]; rfl
  · rw [hq.cell (show g < _ from hgl), ho.cellAt _ (by omega), show cs[k * 4 + 3]? = _ from hc 3 (by decide)]; rfl
theorem all_take {α : Type} (P : α → Bool) {xs : List α} {k : Nat} {x : α} (hx : xs[k]? = some x) : (xs.take (k + 1)).all P = ((xs.take k).all P && P x) := by
  obtain ⟨hj, hxj⟩ := List.getElem?_eq_some_iff.1 hx
  rw [List.take_succ_eq_append_getElem hj, hxj, List.all_append]
  simp
set_option maxRecDepth 100000 in
set_option maxHeartbeats 3200000 in
theorem meetsL_s (u : RuleT) (sa : Option Addr) (sn sc base : Nat) (o : Og) (w : World) (hs : OgS o) (ht : Tab w) (hx : RuleN u) (hv : CondAt w base u.any (.slice sa sn sc)) :
    Calls Tryz.prog 23 #[.agg #[.int .i64 ((u.cat : Nat) : Int), .slice sa sn sc, S u.smp], OV o] w fun z w' => z = .returned (.bool (meetsP u o)) ∧ Below w.heap.size w w' := by
  have HT := Lib.hid ht
  have HX := Lib.hid hx
  have HS := Lib.hid hs
  have HV := Lib.hid hv
  obtain ⟨cs0, ho0, hl0⟩ := hv
  obtain ⟨hn, hn2, hn3, hn4⟩ := own_g ho0
  have HG := Lib.hid hn4
  subst hn
  clear ht hx hs hl0 ho0 hn4 cs0
  have hcmi : (sc : Int) ≤ 9223372036854775807 := by unfold maxLen at hn3; omega
  obtain ⟨R, hR⟩ : ∃ R, meetsP u o = R := ⟨_, rfl⟩
  rw [hR]
  obtain ⟨c5, hc5⟩ : ∃ b, (u.cat == 5) = b := ⟨_, rfl⟩
  have HRR : Hid ((c5 || u.any.any fun a => allP' a o) = R) := Lib.hid (by rw [← hR, ← hc5]; rfl)
  have HC5 := Lib.hid hc5
  clear hR hc5
  go_enter Tryz.func23, Tryz.ntmps23
  go_upto_region 1 with fail
  have H1 : Hid (HeldL w [(w.heap.size + 1, #[S o.i, S o.f, .int .i64 o.e]), (w.heap.size, #[.int .i64 ((u.cat : Nat) : Int), .slice sa u.any.length sc, S u.smp])] _) := Lib.hid (HeldL.alloc (HeldL.alloc (HeldL.refl w) (w.heap.size) #[.int .i64 ((u.cat : Nat) : Int), .slice sa u.any.length sc, S u.smp] 39 (by simp)) (w.heap.size + 1) #[S o.i, S o.f, .int .i64 o.e] 42 (by simp))
  generalize ((w.alloc (.cells #[.int .i64 ((u.cat : Nat) : Int), .slice sa u.any.length sc, S u.smp] 39)).alloc (.cells #[S o.i, S o.f, .int .i64 o.e] 42)) = w1 at *
  have r0 : w1.cell? ⟨w.heap.size, 0, none⟩ = some (.int .i64 ((u.cat : Nat) : Int)) := (H1.out.f (List.Mem.tail _ (List.Mem.head _))).cell 0
  have r1 : w1.cell? ⟨w.heap.size, 1, none⟩ = some (.slice sa u.any.length sc) := (H1.out.f (List.Mem.tail _ (List.Mem.head _))).cell 1
  have rl : w.heap.size < w1.heap.size := (H1.out.f (List.Mem.tail _ (List.Mem.head _))).lt
  go_cut [5] from 11 (fun v5 w' => v5 = .bool c5 ∧ w1 = w')
  case first =>
    cases c5 with
    | true =>
      have h5i : (u.cat : Int) = 5 := by have := beq_iff_eq.1 HC5.out; omega
      go_wp2
      go_meet
      case rel => exact ⟨by first | rfl | simp [h5i], rfl⟩
    | false =>
      have h5i : ¬ (u.cat : Int) = 5 := by have := beq_eq_false_iff_ne.1 HC5.out; omega
      have h5b : ((u.cat : Int) == 5) = false := by simpa using h5i
      go_wp2
      go_meet
      case rel => exact ⟨by first | rfl | simp [h5i, h5b], rfl⟩
  case rest =>
  obtain ⟨rfl, rfl⟩ := hcut
  go_wp2_with fail
  go_loopw [5, 17] (fun v5 i wr => ∃ k : Nat, k ≤ u.any.length ∧ i = .int .i64 (k : Int) ∧ v5 = .bool (c5 || (u.any.take k).any fun a => allP' a o) ∧ HeldL w [(w.heap.size + 1, #[S o.i, S o.f, .int .i64 o.e]), (w.heap.size, #[.int .i64 ((u.cat : Nat) : Int), .slice sa u.any.length sc, S u.smp])] wr) (fun _ i _ => u.any.length - (intOf i).toNat)
  case atStart => exact ⟨0, Nat.zero_le _, rfl, by rw [List.take_zero]; show Value.bool c5 = .bool (c5 || false); rw [Bool.or_false], H1.out⟩
  case round =>
    obtain ⟨k, hk, rfl, rfl, hh⟩ := hrel
    obtain ⟨wo, hwo⟩ : ∃ W : World, W = wr := ⟨_, rfl⟩
    subst hwo
    have H2 := Lib.hid hh
    clear hh r0 r1 rl H1
    obtain ⟨acc, hacc⟩ : ∃ b, (c5 || (u.any.take k).any fun a => allP' a o) = b := ⟨_, rfl⟩
    rw [hacc]
    have HAC := Lib.hid hacc
    clear hacc
    by_cases hlt : k < u.any.length
    · have hlti : (k : Int) < (u.any.length : Int) := Int.ofNat_lt.2 hlt
      obtain ⟨g, hg, hgl⟩ := HG.out (by omega)
      subst hg
      obtain ⟨a, ha⟩ : ∃ a, u.any[k] = a := ⟨_, rfl⟩
      have HAK : Hid (u.any[k]? = some a) := Lib.hid (by rw [List.getElem?_eq_getElem hlt, ha])
      have HXA : Hid (∀ x ∈ a, RelN x) := Lib.hid (HX.out a (by rw [← ha]; exact List.getElem_mem hlt))
      clear ha
      obtain ⟨ga, gn, gc, e0, hall⟩ := cond_cell HV.out H2.out.bel HAK.out
      have HALL := Lib.hid hall
      obtain ⟨cs1, ho1, hl1⟩ := hall
      obtain ⟨hm1, hm2, hm3, hm4⟩ := own_g ho1
      subst hm1
      have HGG := Lib.hid hm4
      have hgci : (gc : Int) ≤ 9223372036854775807 := by unfold maxLen at hm3; omega
      clear hl1 hm4 ho1 cs1
      have hk0 : (0 : Int) ≤ (k : Int) := Int.natCast_nonneg k
      have hkc : (k : Int) < (sc : Int) := Int.ofNat_lt.2 (Nat.lt_of_lt_of_le hlt hn2)
      have glr : g < wo.heap.size := Nat.lt_of_lt_of_le hgl H2.out.bel.size
      go_wp2_with fail
      go_loopw [8, 23] (fun v8 i wr => ∃ j : Nat, j ≤ a.length ∧ i = .int .i64 (j : Int) ∧ v8 = .bool ((a.take j).all fun x => holdsP x o) ∧ HeldL w [(w.heap.size + 1, #[S o.i, S o.f, .int .i64 o.e]), (w.heap.size, #[.int .i64 ((u.cat : Nat) : Int), .slice (some ⟨g, 0, none⟩) u.any.length sc, S u.smp])] wr) (fun _ i _ => a.length - (intOf i).toNat)
      case atStart => exact ⟨0, Nat.zero_le _, rfl, rfl, H2.out⟩
      case round =>
        obtain ⟨j, hj, rfl, rfl, hh⟩ := hrel
        obtain ⟨wi, hwi⟩ : ∃ W : World, W = wr := ⟨_, rfl⟩
        subst hwi
        have H3 := Lib.hid hh
        clear hh e0 H2 glr
        obtain ⟨ok, hok⟩ : ∃ b, ((a.take j).all fun x => holdsP x o) = b := ⟨_, rfl⟩
        rw [hok]
        have HOK := Lib.hid hok
        clear hok
        by_cases hjt : j < a.length
        · have hjti : (j : Int) < (a.length : Int) := Int.ofNat_lt.2 hjt
          obtain ⟨g2, hg2, hg2l⟩ := HGG.out (by omega)
          subst hg2
          obtain ⟨x, hxx⟩ : ∃ x, a[j] = x := ⟨_, rfl⟩
          have HXJ : Hid (a[j]? = some x) := Lib.hid (by rw [List.getElem?_eq_getElem hjt, hxx])
          have HXN : Hid (RelN x) := Lib.hid (HXA.out x (by rw [← hxx]; exact List.getElem_mem hjt))
          clear hxx
          obtain ⟨ra, rn, rc, e0, e1, e2, e3, hrg⟩ := relt_cells HALL.out H3.out.bel HXJ.out
          have HRG := Lib.hid hrg
          clear hrg
          have hj0 : (0 : Int) ≤ (j : Int) := Int.natCast_nonneg j
          have hjc : (j : Int) < (gc : Int) := Int.ofNat_lt.2 (Nat.lt_of_lt_of_le hjt hm2)
          have glr : g2 < wi.heap.size := Nat.lt_of_lt_of_le hg2l H3.out.bel.size
          go_upto_region 9 with fail
          have H4 : Hid (HeldL w ((wi.heap.size, #[.int .u8 ((x.op : UInt8).toNat : Int), .int .i64 ((x.mod : Nat) : Int), .bool x.nt, .slice ra rn rc]) :: [(w.heap.size + 1, #[S o.i, S o.f, .int .i64 o.e]), (w.heap.size, #[.int .i64 ((u.cat : Nat) : Int), .slice (some ⟨g, 0, none⟩) u.any.length sc, S u.smp])]) _) := Lib.hid (HeldL.alloc H3.out (wi.heap.size) #[.int .u8 ((x.op : UInt8).toNat : Int), .int .i64 ((x.mod : Nat) : Int), .bool x.nt, .slice ra rn rc] 50 (by simp))
          generalize (wi.alloc (.cells #[.int .u8 ((x.op : UInt8).toNat : Int), .int .i64 ((x.mod : Nat) : Int), .bool x.nt, .slice ra rn rc] 50)) = w4 at *
          obtain ⟨bx, hbx⟩ : ∃ b, wi.heap.size = b := ⟨_, rfl⟩
          rw [hbx] at H4
          simp only [hbx]
          clear e0 e1 e2 e3 H3 hbx glr
          cases ok with
          | false =>
            go_wp2_with fail
            go_roundw
            case rel => exact ⟨j + 1, hjt, by go_num, by rw [all_take _ HXJ.out, HOK.out]; rfl, HeldL.tail H4.out⟩
            case measure => simp [intOf]; omega
          | true =>
            obtain ⟨b, hb⟩ : ∃ b, holdsP x o = b := ⟨_, rfl⟩
            have HB := Lib.hid hb
            clear hb
            have x0 : w4.cell? ⟨bx, 0, none⟩ = some (.int .u8 ((x.op : UInt8).toNat : Int)) := (H4.out.f (List.Mem.head _)).cell 0
            have x1 : w4.cell? ⟨bx, 1, none⟩ = some (.int .i64 ((x.mod : Nat) : Int)) := (H4.out.f (List.Mem.head _)).cell 1
            have x2 : w4.cell? ⟨bx, 2, none⟩ = some (.bool x.nt) := (H4.out.f (List.Mem.head _)).cell 2
            have x3 : w4.cell? ⟨bx, 3, none⟩ = some (.slice ra rn rc) := (H4.out.f (List.Mem.head _)).cell 3
            have xl : bx < w4.heap.size := (H4.out.f (List.Mem.head _)).lt
            have o0 : w4.cell? ⟨w.heap.size + 1, 0, none⟩ = some (S o.i) := (H4.out.f (List.Mem.tail _ (List.Mem.head _))).cell 0
            have o1 : w4.cell? ⟨w.heap.size + 1, 1, none⟩ = some (S o.f) := (H4.out.f (List.Mem.tail _ (List.Mem.head _))).cell 1
            have o2 : w4.cell? ⟨w.heap.size + 1, 2, none⟩ = some (.int .i64 o.e) := (H4.out.f (List.Mem.tail _ (List.Mem.head _))).cell 2
            have ol : w.heap.size + 1 < w4.heap.size := (H4.out.f (List.Mem.tail _ (List.Mem.head _))).lt
            go_wp2_with fail
            with_reducible refine (holdsL_as x (.slice ra rn rc) 0 o _ HS.out (HT.out.below H4.out.bel) (RelN.b HXN.out) (RelN.r HXN.out) (Rngs.kept HRG.out (grown_of_below H4.out.bel none) (Apart.none _ _)) b HB.out).mono ?_
            rintro z w5 ⟨rfl, hb⟩
            have H5 := Lib.hid (HeldL.keep H4.out hb)
            clear hb x0 x1 x2 x3 xl o0 o1 o2 ol H4
            go_wp2_with fail
            go_roundw
            case rel => exact ⟨j + 1, hjt, by go_num, by rw [all_take _ HXJ.out, HOK.out, HB.out]; first | rfl | (cases b <;> rfl), HeldL.tail H5.out⟩
            case measure => simp [intOf]; omega
        · obtain rfl : j = a.length := by omega
          have hjti : ¬ (a.length : Int) < (a.length : Int) := by omega
          have HOA : Hid (allP' a o = ok) := Lib.hid (by have h := HOK.out; rw [List.take_length] at h; exact h)
          cases acc with
          | true =>
            go_wp2_with fail
            go_roundw
            case rel => exact ⟨k + 1, hlt, by go_num, by rw [take_any _ HAK.out, ← Bool.or_assoc, HAC.out]; rfl, H3.out⟩
            case measure => simp [intOf]; omega
          | false =>
            go_wp2_with fail
            go_roundw
            case rel => exact ⟨k + 1, hlt, by go_num, by rw [take_any _ HAK.out, ← Bool.or_assoc, HAC.out, HOA.out]; first | rfl | (cases ok <;> rfl), H3.out⟩
            case measure => simp [intOf]; omega
    · obtain rfl : k = u.any.length := by omega
      have hlti : ¬ (u.any.length : Int) < (u.any.length : Int) := by omega
      have HRA : Hid (acc = R) := Lib.hid (by rw [← HAC.out, List.take_length]; exact HRR.out)
      go_wp2
      go_ret
      exact ⟨by rw [HRA.out]; rfl, H2.out.bel⟩
theorem meetsL_as (u : RuleT) (v : Value) (base : Nat) (o : Og) (w : World) (hs : OgS o) (ht : Tab w) (hx : RuleN u) (hv : CondAt w base u.any v) (r : Bool) (hr : meetsP u o = r) :
    Calls Tryz.prog 23 #[.agg #[.int .i64 ((u.cat : Nat) : Int), v, S u.smp], OV o] w fun z w' => z = .returned (.bool r) ∧ Below w.heap.size w w' := by
  subst hr
  have hv' := hv
  obtain ⟨cs, ho, _⟩ := hv'
  obtain ⟨sa, sn, sc, hsv⟩ := own_slice ho
  subst hsv
  exact meetsL_s u sa sn sc base o w hs ht hx hv
theorem rule_at {w wq : World} {base g n cap k : Nat} {us : List RuleT} {u : RuleT} (h : RulesAt w base us (.slice (some ⟨g, 0, none⟩) n cap)) (hq : Below w.heap.size w wq) (hx : us[k]? = some u) :
    ∃ ra rn rc, wq.cell? ⟨g, k * 3, none⟩ = some (.int .i64 ((u.cat : Nat) : Int)) ∧ wq.cell? ⟨g, k * 3 + 1, none⟩ = some (.slice ra rn rc) ∧ wq.cell? ⟨g, k * 3 + 2, none⟩ = some (S u.smp) ∧ CondAt w 0 u.any (.slice ra rn rc) := by
  obtain ⟨cs, ho, hl⟩ := h
  obtain ⟨hj, hxj⟩ := List.getElem?_eq_some_iff.1 hx
  obtain ⟨c, hA, hc⟩ := ListAt.get2 (sz := 3) (fun x c h => by obtain ⟨u, rfl, _⟩ := h; rfl) hl k hj
  rw [hxj] at hA
  obtain ⟨v, rfl, hrg⟩ := hA
  have HRG := hrg
  obtain ⟨csx, hox, hlx⟩ := hrg
  obtain ⟨ra, rn, rc, hsv⟩ := own_slice hox
  subst hsv
  have hgl := (ho.lt g rfl).2
  have hnn := (own_g ho).1
  subst hnn
  refine ⟨ra, rn, rc, ?_, ?_, ?_, HRG⟩
  · rw [hq.cell (show g < _ from hgl), ho.cellAt _ (by omega), show cs[k * 3]? = _ from hc 0 (by decide)]; rfl
  · rw [hq.cell (show g < _ from hgl), ho.cellAt _ (by omega), show cs[k * 3 + 1]? = _ from hc 1 (by decide)]; rfl
  · rw [hq.cell (show g < _ from hgl), ho.cellAt _ (by omega), show cs[k * 3 + 2]? = _ from hc 2 (by decide)]; rfl
set_option maxRecDepth 100000 in
set_option maxHeartbeats 6400000 in
theorem pickL_s (us : List RuleT) (sa : Option Addr) (sn sc base : Nat) (o : Og) (w : World) (hs : OgS o) (ht : Tab w) (hx : ∀ u ∈ us, RuleN u) (hv : RulesAt w base us (.slice sa sn sc)) (r : Nat) (hr : pickP us o = r) :
    Calls Tryz.prog 25 #[.slice sa sn sc, OV o] w fun z w' => z = .returned (.int .i64 ((r : Nat) : Int)) ∧ Below w.heap.size w w' := by
  have HT := Lib.hid ht
  have HX := Lib.hid hx
  have HS := Lib.hid hs
  have HV := Lib.hid hv
  have HR := Lib.hid hr
  obtain ⟨cs0, ho0, hl0⟩ := hv
  obtain ⟨hn, hn2, hn3, hn4⟩ := own_g ho0
  have HG := Lib.hid hn4
  subst hn
  clear ht hx hs hl0 ho0 hn4 cs0 hr
  have hcmi : (sc : Int) ≤ 9223372036854775807 := by unfold maxLen at hn3; omega
  go_enter Tryz.func25, Tryz.ntmps25
  go_wp2_with fail
  go_loopw [5] (fun i wr => ∃ c : Nat, c ≤ 5 ∧ i = .int .i64 (c : Int) ∧ (∀ d, d < c → (us.any fun u => u.cat == d && meetsP u o) = false) ∧ HeldL w [(w.heap.size, #[S o.i, S o.f, .int .i64 o.e])] wr) (fun i _ => 5 - (intOf i).toNat)
  case atStart => exact ⟨0, Nat.zero_le _, rfl, fun d hd => absurd hd (by omega), HeldL.alloc (HeldL.refl w) (w.heap.size) #[S o.i, S o.f, .int .i64 o.e] 42 (by simp)⟩
  case round =>
    obtain ⟨c, hc5, rfl, hno, hbb⟩ := hrel
    have HNO := Lib.hid hno
    have H1 := Lib.hid hbb
    clear hno hbb
    by_cases hcl : c < 5
    · have hcli : (c : Int) < 5 := by omega
      go_wp2_with fail
      go_loopw [14] (fun i wr => ∃ k : Nat, k ≤ us.length ∧ i = .int .i64 (k : Int) ∧ (us.take k).any (fun u => u.cat == c && meetsP u o) = false ∧ HeldL w [(w.heap.size, #[S o.i, S o.f, .int .i64 o.e])] wr) (fun i _ => us.length - (intOf i).toNat)
      case atStart => exact ⟨0, Nat.zero_le _, rfl, rfl, H1.out⟩
      case round =>
        obtain ⟨k, hk, rfl, hany, hbb⟩ := hrel
        obtain ⟨wo, hwo⟩ : ∃ W : World, W = wr := ⟨_, rfl⟩
        subst hwo
        have HAN := Lib.hid hany
        have H2 := Lib.hid hbb
        clear hany hbb H1
        by_cases hlt : k < us.length
        · have hlti : (k : Int) < (us.length : Int) := Int.ofNat_lt.2 hlt
          obtain ⟨g, hg, hgl⟩ := HG.out (by omega)
          subst hg
          obtain ⟨u, hu⟩ : ∃ u, us[k] = u := ⟨_, rfl⟩
          have HUK : Hid (us[k]? = some u) := Lib.hid (by rw [List.getElem?_eq_getElem hlt, hu])
          have HUM : Hid (u ∈ us) := Lib.hid (by rw [← hu]; exact List.getElem_mem hlt)
          clear hu
          obtain ⟨ra, rn, rc, e0, e1, e2, hrg⟩ := rule_at HV.out H2.out.bel HUK.out
          have HRG := Lib.hid hrg
          clear hrg
          have hk0 : (0 : Int) ≤ (k : Int) := Int.natCast_nonneg k
          have hkc : (k : Int) < (sc : Int) := Int.ofNat_lt.2 (Nat.lt_of_lt_of_le hlt hn2)
          have glr : g < wo.heap.size := Nat.lt_of_lt_of_le hgl H2.out.bel.size
          go_upto_region 7 with fail
          have H3 : Hid (HeldL w [(wo.heap.size, #[.int .i64 ((u.cat : Nat) : Int), .slice ra rn rc, S u.smp]), (w.heap.size, #[S o.i, S o.f, .int .i64 o.e])] _) := Lib.hid (HeldL.alloc H2.out (wo.heap.size) #[.int .i64 ((u.cat : Nat) : Int), .slice ra rn rc, S u.smp] 39 (by simp))
          generalize (wo.alloc (.cells #[.int .i64 ((u.cat : Nat) : Int), .slice ra rn rc, S u.smp] 39)) = w3 at *
          obtain ⟨bx, hbx⟩ : ∃ b, wo.heap.size = b := ⟨_, rfl⟩
          rw [hbx] at H3
          simp only [hbx]
          clear e0 e1 e2 H2 hbx glr
          have x0 : w3.cell? ⟨bx, 0, none⟩ = some (.int .i64 ((u.cat : Nat) : Int)) := (H3.out.f (List.Mem.head _)).cell 0
          have x1 : w3.cell? ⟨bx, 1, none⟩ = some (.slice ra rn rc) := (H3.out.f (List.Mem.head _)).cell 1
          have x2 : w3.cell? ⟨bx, 2, none⟩ = some (S u.smp) := (H3.out.f (List.Mem.head _)).cell 2
          have xl : bx < w3.heap.size := (H3.out.f (List.Mem.head _)).lt
          have o0 : w3.cell? ⟨w.heap.size, 0, none⟩ = some (S o.i) := (H3.out.f (List.Mem.tail _ (List.Mem.head _))).cell 0
          have o1 : w3.cell? ⟨w.heap.size, 1, none⟩ = some (S o.f) := (H3.out.f (List.Mem.tail _ (List.Mem.head _))).cell 1
          have o2 : w3.cell? ⟨w.heap.size, 2, none⟩ = some (.int .i64 o.e) := (H3.out.f (List.Mem.tail _ (List.Mem.head _))).cell 2
          have ol : w.heap.size < w3.heap.size := (H3.out.f (List.Mem.tail _ (List.Mem.head _))).lt
          by_cases hct : u.cat = c
          · subst hct
            cases hh : meetsP u o with
            | true =>
              have HE := Lib.hid hh
              clear hh
              have HRR : Hid (r = u.cat) := Lib.hid (by rw [← HR.out]; exact pick_at hcl HNO.out (evany_yes HUM.out (by rw [HE.out]; simp)))
              go_wp2_with fail
              with_reducible refine (meetsL_as u (.slice ra rn rc) 0 o _ HS.out (HT.out.below H3.out.bel) (HX.out u HUM.out) (CondAt.kept HRG.out (grown_of_below H3.out.bel none) (Apart.none _ _)) true HE.out).mono ?_
              rintro x w4 ⟨rfl, hb⟩
              have H4 := Lib.hid (HeldL.keep H3.out hb)
              clear hb x0 x1 x2 xl o0 o1 o2 ol H3
              go_wp2
              go_ret
              exact ⟨by rw [HRR.out]; rfl, H4.out.bel⟩
            | false =>
              have HE := Lib.hid hh
              clear hh
              go_wp2_with fail
              with_reducible refine (meetsL_as u (.slice ra rn rc) 0 o _ HS.out (HT.out.below H3.out.bel) (HX.out u HUM.out) (CondAt.kept HRG.out (grown_of_below H3.out.bel none) (Apart.none _ _)) false HE.out).mono ?_
              rintro x w4 ⟨rfl, hb⟩
              have H4 := Lib.hid (HeldL.keep H3.out hb)
              clear hb x0 x1 x2 xl o0 o1 o2 ol H3
              go_wp2
              go_roundw
              case rel => exact ⟨k + 1, hlt, by go_num, tkn_any HAN.out HUK.out (by rw [HE.out]; simp), HeldL.tail H4.out⟩
              case measure => simp [intOf]; omega
          · have hcti : ¬ (u.cat : Int) = (c : Int) := by omega
            have hctb : ((u.cat : Int) == (c : Int)) = false := by simpa using hcti
            go_wp2
            go_roundw
            case rel => exact ⟨k + 1, hlt, by go_num, tkn_any HAN.out HUK.out (by simp [hct]), HeldL.tail H3.out⟩
            case measure => simp [intOf]; omega
        · obtain rfl : k = us.length := by omega
          have hlti : ¬ (us.length : Int) < (us.length : Int) := by omega
          have HNX : Hid ((us.any fun u => u.cat == c && meetsP u o) = false) := Lib.hid (by have h := HAN.out; rw [List.take_length] at h; exact h)
          go_wp2
          go_roundw
          case rel => exact ⟨c + 1, by omega, by go_num, fun d hd => by rcases Nat.lt_succ_iff_lt_or_eq.1 hd with h | h; exact HNO.out d h; rw [h]; exact HNX.out, H2.out⟩
          case measure => simp [intOf]; omega
    · obtain rfl : c = 5 := by omega
      have HRR : Hid (r = 5) := Lib.hid (by rw [← HR.out]; exact pick_none HNO.out)
      go_wp2
      go_ret
      exact ⟨by rw [HRR.out]; rfl, H1.out.bel⟩
theorem pickL_as (us : List RuleT) (v : Value) (base : Nat) (o : Og) (w : World) (hs : OgS o) (ht : Tab w) (hx : ∀ u ∈ us, RuleN u) (hv : RulesAt w base us v) (r : Nat) (hr : pickP us o = r) :
    Calls Tryz.prog 25 #[v, OV o] w fun z w' => z = .returned (.int .i64 ((r : Nat) : Int)) ∧ Below w.heap.size w w' := by
  have hv' := hv
  obtain ⟨cs, ho, _⟩ := hv'
  obtain ⟨sa, sn, sc, hsv⟩ := own_slice ho
  subst hsv
  exact pickL_s us sa sn sc base o w hs ht hx hv r hr
end Go.Proofs.YtkjhdehpcanciaaGreatDoor

namespace Go.Proofs.YtkjhdehpcanciaaGreatDoor
open Go.RowKit Florin
set_option linter.unusedVariables false
set_option linter.unusedSimpArgs false
attribute [local go_sem ↓] Go.wp_at_zero Go.wp_at_succ
theorem Box.keep {W w : World} {b : Nat} {cs : Array Value} (h : Box W b cs) (hb : Below W.heap.size W w) : Box w b cs := h.below hb h.lt
theorem rulesN {rs : List RuleT} (h : RulesF rs) : ∀ u ∈ rs, RuleN u := by
  intro u hu a ha x hx
  have hF := (((h.all u hu).rels a ha).2) x hx
  refine ⟨⟨hF.op, by have := hF.md; omega⟩, fun y hy => ?_⟩
  obtain ⟨h1, h2⟩ := hF.rs y hy
  exact ⟨by omega, by omega⟩
set_option maxRecDepth 100000 in
set_option maxHeartbeats 6400000 in
theorem evalHolds_walk (ms : List MadeM) (v : Value) (a1 : Option Addr) (len1 cap1 : Nat) (L1 : List UInt8) (a2 : Option Addr) (len2 cap2 : Nat) (L2 : List UInt8) (e : Int) (w : World) (hv : MadesAt w ms v) (hi1 : InB w a1 len1 cap1 L1) (hi2 : InB w a2 len2 cap2 L2) (_he : (Lit.int .i64 e).wf = true) (ht : Tab w) (hw : Wds w) :
    Calls Tryz.prog 6 #[v, .slice a1 len1 cap1, .slice a2 len2 cap2, .int .i64 e] w fun x w' => x = .returned (.bool true) ∧ Below w.heap.size w w' := by
  clear _he
  have HT := Lib.hid ht
  have HW := Lib.hid hw
  have HV := Lib.hid hv
  have HI1 := Lib.hid hi1
  have HI2 := Lib.hid hi2
  have hc1 := hi1.2.1
  have hm1 := hi1.2.2.1
  have hc2 := hi2.2.1
  have hm2 := hi2.2.2.1
  have hL1 := hi1.1
  have hL2 := hi2.1
  obtain ⟨_, ⟨a, c, e0, _⟩, _⟩ := hv
  subst e0
  clear ht hw hi1 hi2
  go_enter Tryz.func6, Tryz.ntmps6
  go_wp2_with fail
  with_reducible refine (head7 _ HT.out HW.out).mono ?_
  rintro x w1 ⟨rfl, hb⟩
  have B1 := Lib.hid hb
  clear hb
  go_wp2_with fail
  with_reducible refine (few_as ms _ w1 (HV.out.below B1.out)).mono ?_
  rintro x w2 ⟨⟨b, rfl, hf⟩, hb⟩
  have B2 : Hid (Below w.heap.size w w2) := Lib.hid (B1.out.trans (hb.mono B1.out.size))
  clear hb B1
  cases b with
  | false =>
    clear hf
    go_wp2
    go_ret
    exact ⟨rfl, B2.out⟩
  | true =>
  have HF := Lib.hid (hf rfl)
  clear hf
  by_cases hg1 : 40 < len1
  · have hg1i : (40 : Int) < (len1 : Int) := by omega
    go_wp2
    go_ret
    exact ⟨rfl, B2.out⟩
  have hg1i : ¬ (40 : Int) < (len1 : Int) := by omega
  by_cases hg2 : 40 < len2
  · have hg2i : (40 : Int) < (len2 : Int) := by omega
    go_wp2
    go_ret
    exact ⟨rfl, B2.out⟩
  have hg2i : ¬ (40 : Int) < (len2 : Int) := by omega
  obtain ⟨ek, hek, hand⟩ : ∃ k : Nat, k ≤ 15 ∧ bits .and .i64 e 15 = (k : Int) := and_mask e 15 (by decide)
  obtain ⟨vs, hvs, il, fl, o, ho, hoB⟩ := og_small L1 L2 (by omega) (by omega) (e := (ek : Int)) (by omega)
  have HVS := Lib.hid hvs
  have HO := Lib.hid ho
  have HB := Lib.hid hoB
  clear hvs ho hoB hL1 hL2
  go_wp2_with fail
  with_reducible refine (shown_as a1 len1 cap1 L1 a2 len2 cap2 L2 w2 (HI1.out.below B2.out) (HI2.out.below B2.out) (by omega) (by omega) vs HVS.out).mono ?_
  rintro x w4 ⟨rfl, hb⟩
  have B4 : Hid (Below w.heap.size w w4) := Lib.hid (B2.out.trans (hb.mono B2.out.size))
  clear hb B2 HI1 HI2
  go_wp2_with fail
  with_reducible refine (of_as vs (ek : Int) w4 il fl o HO.out).mono ?_
  rintro x w5 ⟨rfl, hb⟩
  have B5 : Hid (Below w.heap.size w w5) := Lib.hid (B4.out.trans (hb.mono B4.out.size))
  clear hb B4 HVS HO hand
  have HOB := Lib.hid (BoxT.new w5 (#[S o.i, S o.f, .int .i64 o.e] : Array Value) 42)
  have NB := Lib.hid ((Below.refl w5.heap.size w5).alloc (Nat.le_refl _) (.cells (#[S o.i, S o.f, .int .i64 o.e] : Array Value) 42))
  go_upto_region 6 with fail
  generalize w5.alloc (.cells #[S o.i, S o.f, .int .i64 o.e] 42) = w6 at *
  obtain ⟨ob, hob⟩ : ∃ n, w5.heap.size = n := ⟨_, rfl⟩
  rw [hob] at HOB
  simp only [hob]
  have B6 : Hid (Below w.heap.size w w6) := Lib.hid (B5.out.trans (NB.out.mono B5.out.size))
  clear NB B5 hob
  go_wp2_with fail
  with_reducible refine (allM_as ms _ 0 w6 (HT.out.below B6.out) (HW.out.below B6.out) (HV.out.below B6.out) HF.out.L HF.out.B HF.out.R).mono ?_
  rintro x w3 ⟨u, rfl, hru, hb⟩
  obtain ⟨a3, c3, h3⟩ := hru.form
  subst h3
  have HRU0 := Lib.hid hru
  have B3 : Hid (Below w.heap.size w w3) := Lib.hid (B6.out.trans (hb.mono B6.out.size))
  have HOB3 : Hid (Box w3 ob #[S o.i, S o.f, .int .i64 o.e]) := Lib.hid (HOB.out.box.keep hb)
  have HMF := Lib.hid (mades_F HF.out)
  obtain ⟨rs, hrs⟩ : ∃ rs, madesMn ms = rs := ⟨_, rfl⟩
  rw [hrs] at HRU0 HMF
  rw [hrs]
  clear hru hb hrs HV HOB B6 HF hg1 hg1i hg2 hg2i hc1 hm1 hc2 hm2 il fl
  have HRN := Lib.hid (rulesN HMF.out)
  have HT3 := Lib.hid (HT.out.below B3.out)
  obtain ⟨pk, hpk⟩ : ∃ pk, pickP rs o = pk := ⟨_, rfl⟩
  have HPK := Lib.hid hpk
  clear hpk HT HW HMF hek
  have HRU0' := HRU0.out
  obtain ⟨cs0, ho0, hl0⟩ := HRU0'
  obtain ⟨_, hn2, hn3, hn4⟩ := own_g ho0
  have HG := Lib.hid hn4
  have hcmi : (c3 : Int) ≤ 9223372036854775807 := by unfold maxLen at hn3; omega
  clear hl0 ho0 hn4 cs0
  go_wp2_with fail
  go_loopw [46] (fun i wr => ∃ k : Nat, k ≤ rs.length ∧ i = .int .i64 (k : Int) ∧ HeldL w3 [] wr) (fun i _ => rs.length - (intOf i).toNat)
  case atStart => exact ⟨0, Nat.zero_le _, rfl, HeldL.refl w3⟩
  case round =>
    obtain ⟨k, hk, rfl, hh⟩ := hrel
    obtain ⟨wo, hwo⟩ : ∃ W : World, W = wr := ⟨_, rfl⟩
    subst hwo
    have H2 := Lib.hid hh
    clear hh
    by_cases hlt : k < rs.length
    · have hlti : (k : Int) < (rs.length : Int) := Int.ofNat_lt.2 hlt
      obtain ⟨g, hg, hgl⟩ := HG.out (by omega)
      subst hg
      obtain ⟨u, hu⟩ : ∃ u, rs[k] = u := ⟨_, rfl⟩
      have HUK : Hid (rs[k]? = some u) := Lib.hid (by rw [List.getElem?_eq_getElem hlt, hu])
      have HUN : Hid (RuleN u) := Lib.hid (HRN.out u (by rw [← hu]; exact List.getElem_mem hlt))
      clear hu
      obtain ⟨ua, un, uc, e0, e1, e2, hcn⟩ := rule_at HRU0.out H2.out.bel HUK.out
      have HCN := Lib.hid hcn
      obtain ⟨cs1, ho1, hl1⟩ := hcn
      obtain ⟨hm1, hm2, hm3, hm4⟩ := own_g ho1
      subst hm1
      have HGU := Lib.hid hm4
      have huci : (uc : Int) ≤ 9223372036854775807 := by unfold maxLen at hm3; omega
      clear hl1 hm4 ho1 cs1
      have hk0 : (0 : Int) ≤ (k : Int) := Int.natCast_nonneg k
      have hkc : (k : Int) < (c3 : Int) := Int.ofNat_lt.2 (Nat.lt_of_lt_of_le hlt hn2)
      have glr : g < wo.heap.size := Nat.lt_of_lt_of_le hgl H2.out.bel.size
      go_upto_region 10 with fail
      have H4 : Hid (HeldL w3 [(wo.heap.size, #[.int .i64 ((u.cat : Nat) : Int), .slice ua u.any.length uc, S u.smp])] _) := Lib.hid (HeldL.alloc H2.out (wo.heap.size) #[.int .i64 ((u.cat : Nat) : Int), .slice ua u.any.length uc, S u.smp] 39 (by simp))
      generalize (wo.alloc (.cells #[.int .i64 ((u.cat : Nat) : Int), .slice ua u.any.length uc, S u.smp] 39)) = w4 at *
      obtain ⟨ub, hub⟩ : ∃ b, wo.heap.size = b := ⟨_, rfl⟩
      rw [hub] at H4
      simp only [hub]
      clear e0 e1 e2 H2 hub glr hlti hk0 hkc
      have u1 : w4.cell? ⟨ub, 1, none⟩ = some (.slice ua u.any.length uc) := (H4.out.f (List.Mem.head _)).cell 1
      have ul : ub < w4.heap.size := (H4.out.f (List.Mem.head _)).lt
      go_wp2_with fail
      go_loopw [53] (fun i wr => ∃ j : Nat, j ≤ u.any.length ∧ i = .int .i64 (j : Int) ∧ HeldL w3 [(ub, #[.int .i64 ((u.cat : Nat) : Int), .slice ua u.any.length uc, S u.smp])] wr) (fun i _ => u.any.length - (intOf i).toNat)
      case atStart => exact ⟨0, Nat.zero_le _, rfl, H4.out⟩
      case round =>
        obtain ⟨j, hj, rfl, hh⟩ := hrel
        obtain ⟨wi, hwi⟩ : ∃ W : World, W = wr := ⟨_, rfl⟩
        subst hwi
        have H5 := Lib.hid hh
        clear hh H4 u1 ul
        by_cases hjt : j < u.any.length
        · have hjti : (j : Int) < (u.any.length : Int) := Int.ofNat_lt.2 hjt
          obtain ⟨g2, hg2, hg2l⟩ := HGU.out (by omega)
          subst hg2
          obtain ⟨al, ha⟩ : ∃ a, u.any[j] = a := ⟨_, rfl⟩
          have HAJ : Hid (u.any[j]? = some al) := Lib.hid (by rw [List.getElem?_eq_getElem hjt, ha])
          have HXA : Hid (∀ x ∈ al, RelN x) := Lib.hid (HUN.out al (by rw [← ha]; exact List.getElem_mem hjt))
          clear ha
          obtain ⟨ga, gn, gc, e0, hall⟩ := cond_cell HCN.out H5.out.bel HAJ.out
          have HALL := Lib.hid hall
          obtain ⟨cs1, ho1, hl1⟩ := hall
          obtain ⟨hm1, hq2, hq3, hq4⟩ := own_g ho1
          subst hm1
          have HGG := Lib.hid hq4
          have hgci : (gc : Int) ≤ 9223372036854775807 := by unfold maxLen at hq3; omega
          clear hl1 hq4 ho1 cs1
          have hj0 : (0 : Int) ≤ (j : Int) := Int.natCast_nonneg j
          have hjc : (j : Int) < (uc : Int) := Int.ofNat_lt.2 (Nat.lt_of_lt_of_le hjt hm2)
          have glr : g2 < wi.heap.size := Nat.lt_of_lt_of_le hg2l H5.out.bel.size
          go_wp2_with fail
          go_loopw [59] (fun i wr => ∃ n : Nat, n ≤ al.length ∧ i = .int .i64 (n : Int) ∧ HeldL w3 [(ub, #[.int .i64 ((u.cat : Nat) : Int), .slice (some ⟨g2, 0, none⟩) u.any.length uc, S u.smp])] wr) (fun i _ => al.length - (intOf i).toNat)
          case atStart => exact ⟨0, Nat.zero_le _, rfl, H5.out⟩
          case round =>
            obtain ⟨n, hn, rfl, hh⟩ := hrel
            obtain ⟨wz, hwz⟩ : ∃ W : World, W = wr := ⟨_, rfl⟩
            subst hwz
            have H6 := Lib.hid hh
            clear hh e0 H5 glr hjti hj0 hjc
            by_cases hnt : n < al.length
            · have hnti : (n : Int) < (al.length : Int) := Int.ofNat_lt.2 hnt
              obtain ⟨g3, hg3, hg3l⟩ := HGG.out (by omega)
              subst hg3
              obtain ⟨x, hxx⟩ : ∃ x, al[n] = x := ⟨_, rfl⟩
              have HXJ : Hid (al[n]? = some x) := Lib.hid (by rw [List.getElem?_eq_getElem hnt, hxx])
              have HXN : Hid (RelN x) := Lib.hid (HXA.out x (by rw [← hxx]; exact List.getElem_mem hnt))
              clear hxx
              obtain ⟨ra, rn, rc, e0, e1, e2, e3, hrg⟩ := relt_cells HALL.out H6.out.bel HXJ.out
              have HRG := Lib.hid hrg
              clear hrg
              have hn0 : (0 : Int) ≤ (n : Int) := Int.natCast_nonneg n
              have hnc : (n : Int) < (gc : Int) := Int.ofNat_lt.2 (Nat.lt_of_lt_of_le hnt hq2)
              have glr : g3 < wz.heap.size := Nat.lt_of_lt_of_le hg3l H6.out.bel.size
              go_upto_region 16 with fail
              have H7 : Hid (HeldL w3 [(wz.heap.size, #[.int .u8 ((x.op : UInt8).toNat : Int), .int .i64 ((x.mod : Nat) : Int), .bool x.nt, .slice ra rn rc]), (ub, #[.int .i64 ((u.cat : Nat) : Int), .slice (some ⟨g2, 0, none⟩) u.any.length uc, S u.smp])] _) := Lib.hid (HeldL.alloc H6.out (wz.heap.size) #[.int .u8 ((x.op : UInt8).toNat : Int), .int .i64 ((x.mod : Nat) : Int), .bool x.nt, .slice ra rn rc] 50 (by simp))
              generalize (wz.alloc (.cells #[.int .u8 ((x.op : UInt8).toNat : Int), .int .i64 ((x.mod : Nat) : Int), .bool x.nt, .slice ra rn rc] 50)) = w7 at *
              obtain ⟨xb, hxb⟩ : ∃ b, wz.heap.size = b := ⟨_, rfl⟩
              rw [hxb] at H7
              simp only [hxb]
              clear e0 e1 e2 e3 H6 hxb glr hnti hn0 hnc
              have HX7 : Hid (Box w7 xb #[.int .u8 ((x.op : UInt8).toNat : Int), .int .i64 ((x.mod : Nat) : Int), .bool x.nt, .slice ra rn rc]) := Lib.hid ((H7.out.f (List.Mem.head _)))
              have HO7 : Hid (Box w7 ob #[S o.i, S o.f, .int .i64 o.e]) := Lib.hid (HOB3.out.keep H7.out.bel)
              have HT7 := Lib.hid (HT3.out.below H7.out.bel)
              have HR7 : Hid (Rngs w7 0 x.rs (.slice ra rn rc)) := Lib.hid (Rngs.kept HRG.out (grown_of_below H7.out.bel none) (Apart.none _ _))
              have olt := HO7.out.lt
              have xlt := HX7.out.lt
              cases hh : holdsP x o with
              | true =>
                have HE := Lib.hid hh
                clear hh
                have KS : Hid (∀ w' : World, Below w7.heap.size w7 w' → (w'.cell? ⟨xb, 0, none⟩ = some (.int .u8 ((x.op : UInt8).toNat : Int)) ∧ w'.cell? ⟨xb, 1, none⟩ = some (.int .i64 ((x.mod : Nat) : Int)) ∧ w'.cell? ⟨xb, 2, none⟩ = some (.bool x.nt) ∧ w'.cell? ⟨xb, 3, none⟩ = some (.slice ra rn rc) ∧ w'.cell? ⟨ob, 0, none⟩ = some (S o.i) ∧ w'.cell? ⟨ob, 1, none⟩ = some (S o.f) ∧ w'.cell? ⟨ob, 2, none⟩ = some (.int .i64 o.e) ∧ Below w7.heap.size w7 w')) := Lib.hid (fun w' h => ⟨(h.cell (p := ⟨xb, 0, none⟩) xlt).trans (HX7.out.cell 0), (h.cell (p := ⟨xb, 1, none⟩) xlt).trans (HX7.out.cell 1), (h.cell (p := ⟨xb, 2, none⟩) xlt).trans (HX7.out.cell 2), (h.cell (p := ⟨xb, 3, none⟩) xlt).trans (HX7.out.cell 3), (h.cell (p := ⟨ob, 0, none⟩) olt).trans (HO7.out.cell 0), (h.cell (p := ⟨ob, 1, none⟩) olt).trans (HO7.out.cell 1), (h.cell (p := ⟨ob, 2, none⟩) olt).trans (HO7.out.cell 2), h⟩)
                have KEEP : Hid (∀ w' w'' : World, (w'.cell? ⟨xb, 0, none⟩ = some (.int .u8 ((x.op : UInt8).toNat : Int)) ∧ w'.cell? ⟨xb, 1, none⟩ = some (.int .i64 ((x.mod : Nat) : Int)) ∧ w'.cell? ⟨xb, 2, none⟩ = some (.bool x.nt) ∧ w'.cell? ⟨xb, 3, none⟩ = some (.slice ra rn rc) ∧ w'.cell? ⟨ob, 0, none⟩ = some (S o.i) ∧ w'.cell? ⟨ob, 1, none⟩ = some (S o.f) ∧ w'.cell? ⟨ob, 2, none⟩ = some (.int .i64 o.e) ∧ Below w7.heap.size w7 w') → Below w'.heap.size w' w'' → (w''.cell? ⟨xb, 0, none⟩ = some (.int .u8 ((x.op : UInt8).toNat : Int)) ∧ w''.cell? ⟨xb, 1, none⟩ = some (.int .i64 ((x.mod : Nat) : Int)) ∧ w''.cell? ⟨xb, 2, none⟩ = some (.bool x.nt) ∧ w''.cell? ⟨xb, 3, none⟩ = some (.slice ra rn rc) ∧ w''.cell? ⟨ob, 0, none⟩ = some (S o.i) ∧ w''.cell? ⟨ob, 1, none⟩ = some (S o.f) ∧ w''.cell? ⟨ob, 2, none⟩ = some (.int .i64 o.e) ∧ Below w7.heap.size w7 w'')) := Lib.hid (fun w' w'' h hb => KS.out _ (h.2.2.2.2.2.2.2.trans (hb.mono h.2.2.2.2.2.2.2.size)))
                have BEL : Hid (∀ w' : World, (w'.cell? ⟨xb, 0, none⟩ = some (.int .u8 ((x.op : UInt8).toNat : Int)) ∧ w'.cell? ⟨xb, 1, none⟩ = some (.int .i64 ((x.mod : Nat) : Int)) ∧ w'.cell? ⟨xb, 2, none⟩ = some (.bool x.nt) ∧ w'.cell? ⟨xb, 3, none⟩ = some (.slice ra rn rc) ∧ w'.cell? ⟨ob, 0, none⟩ = some (S o.i) ∧ w'.cell? ⟨ob, 1, none⟩ = some (S o.f) ∧ w'.cell? ⟨ob, 2, none⟩ = some (.int .i64 o.e) ∧ Below w7.heap.size w7 w') → Below w7.heap.size w7 w') := Lib.hid (fun w' h => h.2.2.2.2.2.2.2)
                go_region_held3 (fun w' => w'.cell? ⟨xb, 0, none⟩ = some (.int .u8 ((x.op : UInt8).toNat : Int)) ∧ w'.cell? ⟨xb, 1, none⟩ = some (.int .i64 ((x.mod : Nat) : Int)) ∧ w'.cell? ⟨xb, 2, none⟩ = some (.bool x.nt) ∧ w'.cell? ⟨xb, 3, none⟩ = some (.slice ra rn rc) ∧ w'.cell? ⟨ob, 0, none⟩ = some (S o.i) ∧ w'.cell? ⟨ob, 1, none⟩ = some (S o.f) ∧ w'.cell? ⟨ob, 2, none⟩ = some (.int .i64 o.e) ∧ Below w7.heap.size w7 w')
                  (first | exact KS.out _ (Below.refl _ w7).drew | exact KEEP.out _ _ (by assumption) hb | assumption)
                  (first | (go_at_call 20; (with_reducible refine (holds_as x (.slice ra rn rc) 0 o _ HB.out.b (HT7.out.below (BEL.out _ (by assumption))) (RelN.b HXN.out) (Rngs.kept HR7.out (grown_of_below (BEL.out _ (by assumption)) none) (Apart.none _ _)) true HE.out).mono ?_); rintro y w8 ⟨rfl, hb⟩) | (go_at_call 21; (with_reducible refine (holdsL_as x (.slice ra rn rc) 0 o _ HB.out (HT7.out.below (BEL.out _ (by assumption))) (RelN.b HXN.out) (RelN.r HXN.out) (Rngs.kept HR7.out (grown_of_below (BEL.out _ (by assumption)) none) (Apart.none _ _)) true HE.out).mono ?_); rintro y w8 ⟨rfl, hb⟩))
                have Bw8 : Hid (Below w7.heap.size w7 w8) := Lib.hid (BEL.out _ (by assumption))
                clear KS KEEP BEL
                have H8 := Lib.hid (HeldL.keep H7.out Bw8.out)
                clear Bw8 H7 HX7 HO7 HT7 HR7 olt xlt
                go_wp2_with fail
                go_roundw
                case rel => exact ⟨n + 1, hnt, by go_num, HeldL.tail H8.out⟩
                case measure => simp [intOf]; omega
              | false =>
                have HE := Lib.hid hh
                clear hh
                have KS : Hid (∀ w' : World, Below w7.heap.size w7 w' → (w'.cell? ⟨xb, 0, none⟩ = some (.int .u8 ((x.op : UInt8).toNat : Int)) ∧ w'.cell? ⟨xb, 1, none⟩ = some (.int .i64 ((x.mod : Nat) : Int)) ∧ w'.cell? ⟨xb, 2, none⟩ = some (.bool x.nt) ∧ w'.cell? ⟨xb, 3, none⟩ = some (.slice ra rn rc) ∧ w'.cell? ⟨ob, 0, none⟩ = some (S o.i) ∧ w'.cell? ⟨ob, 1, none⟩ = some (S o.f) ∧ w'.cell? ⟨ob, 2, none⟩ = some (.int .i64 o.e) ∧ Below w7.heap.size w7 w')) := Lib.hid (fun w' h => ⟨(h.cell (p := ⟨xb, 0, none⟩) xlt).trans (HX7.out.cell 0), (h.cell (p := ⟨xb, 1, none⟩) xlt).trans (HX7.out.cell 1), (h.cell (p := ⟨xb, 2, none⟩) xlt).trans (HX7.out.cell 2), (h.cell (p := ⟨xb, 3, none⟩) xlt).trans (HX7.out.cell 3), (h.cell (p := ⟨ob, 0, none⟩) olt).trans (HO7.out.cell 0), (h.cell (p := ⟨ob, 1, none⟩) olt).trans (HO7.out.cell 1), (h.cell (p := ⟨ob, 2, none⟩) olt).trans (HO7.out.cell 2), h⟩)
                have KEEP : Hid (∀ w' w'' : World, (w'.cell? ⟨xb, 0, none⟩ = some (.int .u8 ((x.op : UInt8).toNat : Int)) ∧ w'.cell? ⟨xb, 1, none⟩ = some (.int .i64 ((x.mod : Nat) : Int)) ∧ w'.cell? ⟨xb, 2, none⟩ = some (.bool x.nt) ∧ w'.cell? ⟨xb, 3, none⟩ = some (.slice ra rn rc) ∧ w'.cell? ⟨ob, 0, none⟩ = some (S o.i) ∧ w'.cell? ⟨ob, 1, none⟩ = some (S o.f) ∧ w'.cell? ⟨ob, 2, none⟩ = some (.int .i64 o.e) ∧ Below w7.heap.size w7 w') → Below w'.heap.size w' w'' → (w''.cell? ⟨xb, 0, none⟩ = some (.int .u8 ((x.op : UInt8).toNat : Int)) ∧ w''.cell? ⟨xb, 1, none⟩ = some (.int .i64 ((x.mod : Nat) : Int)) ∧ w''.cell? ⟨xb, 2, none⟩ = some (.bool x.nt) ∧ w''.cell? ⟨xb, 3, none⟩ = some (.slice ra rn rc) ∧ w''.cell? ⟨ob, 0, none⟩ = some (S o.i) ∧ w''.cell? ⟨ob, 1, none⟩ = some (S o.f) ∧ w''.cell? ⟨ob, 2, none⟩ = some (.int .i64 o.e) ∧ Below w7.heap.size w7 w'')) := Lib.hid (fun w' w'' h hb => KS.out _ (h.2.2.2.2.2.2.2.trans (hb.mono h.2.2.2.2.2.2.2.size)))
                have BEL : Hid (∀ w' : World, (w'.cell? ⟨xb, 0, none⟩ = some (.int .u8 ((x.op : UInt8).toNat : Int)) ∧ w'.cell? ⟨xb, 1, none⟩ = some (.int .i64 ((x.mod : Nat) : Int)) ∧ w'.cell? ⟨xb, 2, none⟩ = some (.bool x.nt) ∧ w'.cell? ⟨xb, 3, none⟩ = some (.slice ra rn rc) ∧ w'.cell? ⟨ob, 0, none⟩ = some (S o.i) ∧ w'.cell? ⟨ob, 1, none⟩ = some (S o.f) ∧ w'.cell? ⟨ob, 2, none⟩ = some (.int .i64 o.e) ∧ Below w7.heap.size w7 w') → Below w7.heap.size w7 w') := Lib.hid (fun w' h => h.2.2.2.2.2.2.2)
                go_region_held3 (fun w' => w'.cell? ⟨xb, 0, none⟩ = some (.int .u8 ((x.op : UInt8).toNat : Int)) ∧ w'.cell? ⟨xb, 1, none⟩ = some (.int .i64 ((x.mod : Nat) : Int)) ∧ w'.cell? ⟨xb, 2, none⟩ = some (.bool x.nt) ∧ w'.cell? ⟨xb, 3, none⟩ = some (.slice ra rn rc) ∧ w'.cell? ⟨ob, 0, none⟩ = some (S o.i) ∧ w'.cell? ⟨ob, 1, none⟩ = some (S o.f) ∧ w'.cell? ⟨ob, 2, none⟩ = some (.int .i64 o.e) ∧ Below w7.heap.size w7 w')
                  (first | exact KS.out _ (Below.refl _ w7).drew | exact KEEP.out _ _ (by assumption) hb | assumption)
                  (first | (go_at_call 20; (with_reducible refine (holds_as x (.slice ra rn rc) 0 o _ HB.out.b (HT7.out.below (BEL.out _ (by assumption))) (RelN.b HXN.out) (Rngs.kept HR7.out (grown_of_below (BEL.out _ (by assumption)) none) (Apart.none _ _)) false HE.out).mono ?_); rintro y w8 ⟨rfl, hb⟩) | (go_at_call 21; (with_reducible refine (holdsL_as x (.slice ra rn rc) 0 o _ HB.out (HT7.out.below (BEL.out _ (by assumption))) (RelN.b HXN.out) (RelN.r HXN.out) (Rngs.kept HR7.out (grown_of_below (BEL.out _ (by assumption)) none) (Apart.none _ _)) false HE.out).mono ?_); rintro y w8 ⟨rfl, hb⟩))
                have Bw8 : Hid (Below w7.heap.size w7 w8) := Lib.hid (BEL.out _ (by assumption))
                clear KS KEEP BEL
                have H8 := Lib.hid (HeldL.keep H7.out Bw8.out)
                clear Bw8 H7 HX7 HO7 HT7 HR7 olt xlt
                go_wp2_with fail
                go_roundw
                case rel => exact ⟨n + 1, hnt, by go_num, HeldL.tail H8.out⟩
                case measure => simp [intOf]; omega
            · obtain rfl : n = al.length := by omega
              have hnti : ¬ (al.length : Int) < (al.length : Int) := by omega
              go_wp2_with fail
              go_roundw
              case rel => exact ⟨j + 1, hjt, by go_num, H6.out⟩
              case measure => simp [intOf]; omega
        · obtain rfl : j = u.any.length := by omega
          have hjti : ¬ (u.any.length : Int) < (u.any.length : Int) := by omega
          have HU5 : Hid (Box wi ub #[.int .i64 ((u.cat : Nat) : Int), .slice ua u.any.length uc, S u.smp]) := Lib.hid (H5.out.f (List.Mem.head _))
          have HO5 : Hid (Box wi ob #[S o.i, S o.f, .int .i64 o.e]) := Lib.hid (HOB3.out.keep H5.out.bel)
          have HT5 := Lib.hid (HT3.out.below H5.out.bel)
          have HC5 : Hid (CondAt wi 0 u.any (.slice ua u.any.length uc)) := Lib.hid (CondAt.kept HCN.out (grown_of_below H5.out.bel none) (Apart.none _ _))
          have olt := HO5.out.lt
          have ult := HU5.out.lt
          go_upto_region 20 with fail
          cases hh : meetsP u o with
          | true =>
            have HE := Lib.hid hh
            clear hh
            have KS : Hid (∀ w' : World, Below wi.heap.size wi w' → (w'.cell? ⟨ub, 0, none⟩ = some (.int .i64 ((u.cat : Nat) : Int)) ∧ w'.cell? ⟨ub, 1, none⟩ = some (.slice ua u.any.length uc) ∧ w'.cell? ⟨ub, 2, none⟩ = some (S u.smp) ∧ w'.cell? ⟨ob, 0, none⟩ = some (S o.i) ∧ w'.cell? ⟨ob, 1, none⟩ = some (S o.f) ∧ w'.cell? ⟨ob, 2, none⟩ = some (.int .i64 o.e) ∧ Below wi.heap.size wi w')) := Lib.hid (fun w' h => ⟨(h.cell (p := ⟨ub, 0, none⟩) ult).trans (HU5.out.cell 0), (h.cell (p := ⟨ub, 1, none⟩) ult).trans (HU5.out.cell 1), (h.cell (p := ⟨ub, 2, none⟩) ult).trans (HU5.out.cell 2), (h.cell (p := ⟨ob, 0, none⟩) olt).trans (HO5.out.cell 0), (h.cell (p := ⟨ob, 1, none⟩) olt).trans (HO5.out.cell 1), (h.cell (p := ⟨ob, 2, none⟩) olt).trans (HO5.out.cell 2), h⟩)
            have KEEP : Hid (∀ w' w'' : World, (w'.cell? ⟨ub, 0, none⟩ = some (.int .i64 ((u.cat : Nat) : Int)) ∧ w'.cell? ⟨ub, 1, none⟩ = some (.slice ua u.any.length uc) ∧ w'.cell? ⟨ub, 2, none⟩ = some (S u.smp) ∧ w'.cell? ⟨ob, 0, none⟩ = some (S o.i) ∧ w'.cell? ⟨ob, 1, none⟩ = some (S o.f) ∧ w'.cell? ⟨ob, 2, none⟩ = some (.int .i64 o.e) ∧ Below wi.heap.size wi w') → Below w'.heap.size w' w'' → (w''.cell? ⟨ub, 0, none⟩ = some (.int .i64 ((u.cat : Nat) : Int)) ∧ w''.cell? ⟨ub, 1, none⟩ = some (.slice ua u.any.length uc) ∧ w''.cell? ⟨ub, 2, none⟩ = some (S u.smp) ∧ w''.cell? ⟨ob, 0, none⟩ = some (S o.i) ∧ w''.cell? ⟨ob, 1, none⟩ = some (S o.f) ∧ w''.cell? ⟨ob, 2, none⟩ = some (.int .i64 o.e) ∧ Below wi.heap.size wi w'')) := Lib.hid (fun w' w'' h hb => KS.out _ (h.2.2.2.2.2.2.trans (hb.mono h.2.2.2.2.2.2.size)))
            have BEL : Hid (∀ w' : World, (w'.cell? ⟨ub, 0, none⟩ = some (.int .i64 ((u.cat : Nat) : Int)) ∧ w'.cell? ⟨ub, 1, none⟩ = some (.slice ua u.any.length uc) ∧ w'.cell? ⟨ub, 2, none⟩ = some (S u.smp) ∧ w'.cell? ⟨ob, 0, none⟩ = some (S o.i) ∧ w'.cell? ⟨ob, 1, none⟩ = some (S o.f) ∧ w'.cell? ⟨ob, 2, none⟩ = some (.int .i64 o.e) ∧ Below wi.heap.size wi w') → Below wi.heap.size wi w') := Lib.hid (fun w' h => h.2.2.2.2.2.2)
            go_region_held3 (fun w' => w'.cell? ⟨ub, 0, none⟩ = some (.int .i64 ((u.cat : Nat) : Int)) ∧ w'.cell? ⟨ub, 1, none⟩ = some (.slice ua u.any.length uc) ∧ w'.cell? ⟨ub, 2, none⟩ = some (S u.smp) ∧ w'.cell? ⟨ob, 0, none⟩ = some (S o.i) ∧ w'.cell? ⟨ob, 1, none⟩ = some (S o.f) ∧ w'.cell? ⟨ob, 2, none⟩ = some (.int .i64 o.e) ∧ Below wi.heap.size wi w')
              (first | exact KS.out _ (Below.refl _ wi).drew | exact KEEP.out _ _ (by assumption) hb | assumption)
              (first | (go_at_call 22; (with_reducible refine (meets_as u (.slice ua u.any.length uc) 0 o _ HB.out.b (HT5.out.below (BEL.out _ (by assumption))) HUN.out.b (CondAt.kept HC5.out (grown_of_below (BEL.out _ (by assumption)) none) (Apart.none _ _)) true HE.out).mono ?_); rintro y w8 ⟨rfl, hb⟩) | (go_at_call 23; (with_reducible refine (meetsL_as u (.slice ua u.any.length uc) 0 o _ HB.out (HT5.out.below (BEL.out _ (by assumption))) HUN.out (CondAt.kept HC5.out (grown_of_below (BEL.out _ (by assumption)) none) (Apart.none _ _)) true HE.out).mono ?_); rintro y w8 ⟨rfl, hb⟩))
            have Bw8 : Hid (Below wi.heap.size wi w8) := Lib.hid (BEL.out _ (by assumption))
            clear KS KEEP BEL
            have H8 := Lib.hid (HeldL.keep H5.out Bw8.out)
            clear Bw8 H5 HU5 HO5 HT5 HC5 olt ult
            go_wp2_with fail
            go_roundw
            case rel => exact ⟨k + 1, hlt, by go_num, HeldL.tail H8.out⟩
            case measure => simp [intOf]; omega
          | false =>
            have HE := Lib.hid hh
            clear hh
            have KS : Hid (∀ w' : World, Below wi.heap.size wi w' → (w'.cell? ⟨ub, 0, none⟩ = some (.int .i64 ((u.cat : Nat) : Int)) ∧ w'.cell? ⟨ub, 1, none⟩ = some (.slice ua u.any.length uc) ∧ w'.cell? ⟨ub, 2, none⟩ = some (S u.smp) ∧ w'.cell? ⟨ob, 0, none⟩ = some (S o.i) ∧ w'.cell? ⟨ob, 1, none⟩ = some (S o.f) ∧ w'.cell? ⟨ob, 2, none⟩ = some (.int .i64 o.e) ∧ Below wi.heap.size wi w')) := Lib.hid (fun w' h => ⟨(h.cell (p := ⟨ub, 0, none⟩) ult).trans (HU5.out.cell 0), (h.cell (p := ⟨ub, 1, none⟩) ult).trans (HU5.out.cell 1), (h.cell (p := ⟨ub, 2, none⟩) ult).trans (HU5.out.cell 2), (h.cell (p := ⟨ob, 0, none⟩) olt).trans (HO5.out.cell 0), (h.cell (p := ⟨ob, 1, none⟩) olt).trans (HO5.out.cell 1), (h.cell (p := ⟨ob, 2, none⟩) olt).trans (HO5.out.cell 2), h⟩)
            have KEEP : Hid (∀ w' w'' : World, (w'.cell? ⟨ub, 0, none⟩ = some (.int .i64 ((u.cat : Nat) : Int)) ∧ w'.cell? ⟨ub, 1, none⟩ = some (.slice ua u.any.length uc) ∧ w'.cell? ⟨ub, 2, none⟩ = some (S u.smp) ∧ w'.cell? ⟨ob, 0, none⟩ = some (S o.i) ∧ w'.cell? ⟨ob, 1, none⟩ = some (S o.f) ∧ w'.cell? ⟨ob, 2, none⟩ = some (.int .i64 o.e) ∧ Below wi.heap.size wi w') → Below w'.heap.size w' w'' → (w''.cell? ⟨ub, 0, none⟩ = some (.int .i64 ((u.cat : Nat) : Int)) ∧ w''.cell? ⟨ub, 1, none⟩ = some (.slice ua u.any.length uc) ∧ w''.cell? ⟨ub, 2, none⟩ = some (S u.smp) ∧ w''.cell? ⟨ob, 0, none⟩ = some (S o.i) ∧ w''.cell? ⟨ob, 1, none⟩ = some (S o.f) ∧ w''.cell? ⟨ob, 2, none⟩ = some (.int .i64 o.e) ∧ Below wi.heap.size wi w'')) := Lib.hid (fun w' w'' h hb => KS.out _ (h.2.2.2.2.2.2.trans (hb.mono h.2.2.2.2.2.2.size)))
            have BEL : Hid (∀ w' : World, (w'.cell? ⟨ub, 0, none⟩ = some (.int .i64 ((u.cat : Nat) : Int)) ∧ w'.cell? ⟨ub, 1, none⟩ = some (.slice ua u.any.length uc) ∧ w'.cell? ⟨ub, 2, none⟩ = some (S u.smp) ∧ w'.cell? ⟨ob, 0, none⟩ = some (S o.i) ∧ w'.cell? ⟨ob, 1, none⟩ = some (S o.f) ∧ w'.cell? ⟨ob, 2, none⟩ = some (.int .i64 o.e) ∧ Below wi.heap.size wi w') → Below wi.heap.size wi w') := Lib.hid (fun w' h => h.2.2.2.2.2.2)
            go_region_held3 (fun w' => w'.cell? ⟨ub, 0, none⟩ = some (.int .i64 ((u.cat : Nat) : Int)) ∧ w'.cell? ⟨ub, 1, none⟩ = some (.slice ua u.any.length uc) ∧ w'.cell? ⟨ub, 2, none⟩ = some (S u.smp) ∧ w'.cell? ⟨ob, 0, none⟩ = some (S o.i) ∧ w'.cell? ⟨ob, 1, none⟩ = some (S o.f) ∧ w'.cell? ⟨ob, 2, none⟩ = some (.int .i64 o.e) ∧ Below wi.heap.size wi w')
              (first | exact KS.out _ (Below.refl _ wi).drew | exact KEEP.out _ _ (by assumption) hb | assumption)
              (first | (go_at_call 22; (with_reducible refine (meets_as u (.slice ua u.any.length uc) 0 o _ HB.out.b (HT5.out.below (BEL.out _ (by assumption))) HUN.out.b (CondAt.kept HC5.out (grown_of_below (BEL.out _ (by assumption)) none) (Apart.none _ _)) false HE.out).mono ?_); rintro y w8 ⟨rfl, hb⟩) | (go_at_call 23; (with_reducible refine (meetsL_as u (.slice ua u.any.length uc) 0 o _ HB.out (HT5.out.below (BEL.out _ (by assumption))) HUN.out (CondAt.kept HC5.out (grown_of_below (BEL.out _ (by assumption)) none) (Apart.none _ _)) false HE.out).mono ?_); rintro y w8 ⟨rfl, hb⟩))
            have Bw8 : Hid (Below wi.heap.size wi w8) := Lib.hid (BEL.out _ (by assumption))
            clear KS KEEP BEL
            have H8 := Lib.hid (HeldL.keep H5.out Bw8.out)
            clear Bw8 H5 HU5 HO5 HT5 HC5 olt ult
            go_wp2_with fail
            go_roundw
            case rel => exact ⟨k + 1, hlt, by go_num, HeldL.tail H8.out⟩
            case measure => simp [intOf]; omega
    · obtain rfl : k = rs.length := by omega
      have hlti : ¬ (rs.length : Int) < (rs.length : Int) := by omega
      have HO5 : Hid (Box wo ob #[S o.i, S o.f, .int .i64 o.e]) := Lib.hid (HOB3.out.keep H2.out.bel)
      have HT5 := Lib.hid (HT3.out.below H2.out.bel)
      have HR5 := Lib.hid (HRU0.out.move H2.out.bel)
      have olt := HO5.out.lt
      go_upto_region 23 with fail
      have KS : Hid (∀ w' : World, Below wo.heap.size wo w' → (w'.cell? ⟨ob, 0, none⟩ = some (S o.i) ∧ w'.cell? ⟨ob, 1, none⟩ = some (S o.f) ∧ w'.cell? ⟨ob, 2, none⟩ = some (.int .i64 o.e) ∧ Below wo.heap.size wo w')) := Lib.hid (fun w' h => ⟨(h.cell (p := ⟨ob, 0, none⟩) olt).trans (HO5.out.cell 0), (h.cell (p := ⟨ob, 1, none⟩) olt).trans (HO5.out.cell 1), (h.cell (p := ⟨ob, 2, none⟩) olt).trans (HO5.out.cell 2), h⟩)
      have KEEP : Hid (∀ w' w'' : World, (w'.cell? ⟨ob, 0, none⟩ = some (S o.i) ∧ w'.cell? ⟨ob, 1, none⟩ = some (S o.f) ∧ w'.cell? ⟨ob, 2, none⟩ = some (.int .i64 o.e) ∧ Below wo.heap.size wo w') → Below w'.heap.size w' w'' → (w''.cell? ⟨ob, 0, none⟩ = some (S o.i) ∧ w''.cell? ⟨ob, 1, none⟩ = some (S o.f) ∧ w''.cell? ⟨ob, 2, none⟩ = some (.int .i64 o.e) ∧ Below wo.heap.size wo w'')) := Lib.hid (fun w' w'' h hb => KS.out _ (h.2.2.2.trans (hb.mono h.2.2.2.size)))
      have BEL : Hid (∀ w' : World, (w'.cell? ⟨ob, 0, none⟩ = some (S o.i) ∧ w'.cell? ⟨ob, 1, none⟩ = some (S o.f) ∧ w'.cell? ⟨ob, 2, none⟩ = some (.int .i64 o.e) ∧ Below wo.heap.size wo w') → Below wo.heap.size wo w') := Lib.hid (fun w' h => h.2.2.2)
      go_region_held3 (fun w' => w'.cell? ⟨ob, 0, none⟩ = some (S o.i) ∧ w'.cell? ⟨ob, 1, none⟩ = some (S o.f) ∧ w'.cell? ⟨ob, 2, none⟩ = some (.int .i64 o.e) ∧ Below wo.heap.size wo w')
        (first | exact KS.out _ (Below.refl _ wo).drew | exact KEEP.out _ _ (by assumption) hb | assumption)
        (first | (go_at_call 24; (first | (with_reducible refine (pick_as rs _ _ o _ HB.out.b (HT5.out.below (BEL.out _ (by assumption))) (fun u hu => (HRN.out u hu).b) (HR5.out.move (BEL.out _ (by assumption))) pk HPK.out).mono ?_) | (with_reducible refine (pick_nil o _ HB.out.b (HT5.out.below (BEL.out _ (by assumption)))).mono ?_)); rintro y w8 ⟨rfl, hb⟩) | (go_at_call 25; (with_reducible refine (pickL_as rs _ _ o _ HB.out (HT5.out.below (BEL.out _ (by assumption))) HRN.out (HR5.out.move (BEL.out _ (by assumption))) pk HPK.out).mono ?_); rintro y w8 ⟨rfl, hb⟩))
      have Bw8 : Hid (Below wo.heap.size wo w8) := Lib.hid (BEL.out _ (by assumption))
      clear KS KEEP BEL
      go_wp2
      go_ret
      exact ⟨by first | rfl | simp, B3.out.trans ((H2.out.bel.trans (Bw8.out.mono H2.out.bel.size)).mono B3.out.size)⟩
end Go.Proofs.YtkjhdehpcanciaaGreatDoor
