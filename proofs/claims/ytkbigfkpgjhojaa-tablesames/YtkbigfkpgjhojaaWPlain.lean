/- Numbers as groups of seven bits, and texts: what is laid, what is read. No program here. -/
namespace Florin

/-- A number's bytes. -/
def vnum (n : Nat) : List UInt8 := if _h : n < 128 then [UInt8.ofNat n] else UInt8.ofNat (n % 128 + 128) :: vnum (n / 128)
  termination_by n
  decreasing_by omega
theorem vnum_lt {n : Nat} (h : n < 128) : vnum n = [UInt8.ofNat n] := by unfold vnum; rw [dif_pos h]
theorem vnum_ge {n : Nat} (h : 128 ≤ n) : vnum n = UInt8.ofNat (n % 128 + 128) :: vnum (n / 128) := by conv => lhs; unfold vnum; rw [dif_neg (by omega)]
theorem vnum_pos (n : Nat) : 0 < (vnum n).length := by unfold vnum; split <;> simp
theorem vnum_le : ∀ (k n : Nat), n < 128 ^ (k + 1) → (vnum n).length ≤ k + 1
  | 0, n, h => by rw [vnum_lt (by simpa using h)]; simp
  | k + 1, n, h => by
    by_cases h1 : n < 128
    · rw [vnum_lt h1]; simp
    · rw [vnum_ge (by omega), List.length_cons]
      have := vnum_le k (n / 128) (by rw [Nat.pow_succ] at h; omega)
      omega
theorem vnum_nine {n : Nat} (h : n < 9223372036854775808) : (vnum n).length ≤ 9 := vnum_le 8 n h
theorem byte_nat {n : Nat} (h : n < 256) : (UInt8.ofNat n).toNat = n := by simp [UInt8.toNat_ofNat']; omega

/-- What is read of a number, from group i on, n so far: the number and how many bytes it has; (0, 0): none. -/
def rdW (i n : Nat) : List UInt8 → Nat × Nat
  | [] => (0, 0)
  | c :: l => if 9 ≤ i then (0, 0) else if 128 ≤ c.toNat then rdW (i + 1) (n + c.toNat % 128 * 128 ^ i) l else if c.toNat = 0 ∧ 0 < i then (0, 0) else (n + c.toNat % 128 * 128 ^ i, i + 1)
def rdV (l : List UInt8) : Nat × Nat := rdW 0 0 l
theorem rdW_nine (n : Nat) (l : List UInt8) {i : Nat} (h : 9 ≤ i) : rdW i n l = (0, 0) := by cases l with | nil => rfl | cons c l => unfold rdW; rw [if_pos h]
theorem rdW_more {i n : Nat} {c : UInt8} {l : List UInt8} (hi : i < 9) (hc : 128 ≤ c.toNat) : rdW i n (c :: l) = rdW (i + 1) (n + c.toNat % 128 * 128 ^ i) l := by conv => lhs; unfold rdW; rw [if_neg (by omega), if_pos hc]
theorem rdW_zero {i n : Nat} {c : UInt8} {l : List UInt8} (hi : 0 < i) (hc : c.toNat = 0) : rdW i n (c :: l) = (0, 0) := by
  unfold rdW
  by_cases h : 9 ≤ i
  · rw [if_pos h]
  · rw [if_neg h, if_neg (by omega), if_pos ⟨hc, hi⟩]
theorem rdW_last {i n : Nat} {c : UInt8} {l : List UInt8} (hi : i < 9) (hc : c.toNat < 128) (h0 : ¬ (c.toNat = 0 ∧ 0 < i)) : rdW i n (c :: l) = (n + c.toNat % 128 * 128 ^ i, i + 1) := by
  conv => lhs; unfold rdW; rw [if_neg (by omega), if_neg (by omega), if_neg h0]
theorem rdW_vnum (rest : List UInt8) : ∀ (k m i n : Nat), m < 128 ^ (k + 1) → i + (vnum m).length ≤ 9 → (m = 0 → i = 0) → rdW i n (vnum m ++ rest) = (n + m * 128 ^ i, i + (vnum m).length)
  | k, m, i, n, hk, hl, h0 => by
    by_cases h : m < 128
    · rw [vnum_lt h] at hl ⊢
      have hb := byte_nat (n := m) (by omega)
      rw [List.length_singleton] at hl
      show rdW i n (UInt8.ofNat m :: rest) = _
      rw [rdW_last (by omega) (by omega) (by rw [hb]; rintro ⟨h1, h2⟩; have := h0 h1; omega), hb, Nat.mod_eq_of_lt h]
      rfl
    · cases k with
      | zero => exact absurd hk (by omega)
      | succ k =>
        rw [vnum_ge (by omega)] at hl ⊢
        rw [List.length_cons] at hl ⊢
        have hb := byte_nat (n := m % 128 + 128) (by omega)
        rw [List.cons_append, rdW_more (by omega) (by omega), rdW_vnum rest k (m / 128) (i + 1) _ (by rw [Nat.pow_succ] at hk; omega) (by omega) (by omega), hb]
        refine Prod.ext ?_ ?_
        · show n + (m % 128 + 128) % 128 * 128 ^ i + m / 128 * 128 ^ (i + 1) = n + m * 128 ^ i
          rw [show (m % 128 + 128) % 128 = m % 128 by omega, Nat.pow_succ]
          have : m * 128 ^ i = m % 128 * 128 ^ i + m / 128 * (128 ^ i * 128) := by
            conv => lhs; rw [← Nat.mod_add_div m 128]
            rw [Nat.add_mul, Nat.mul_comm 128 (m / 128), Nat.mul_assoc, Nat.mul_comm 128]
          omega
        · show i + 1 + (vnum (m / 128)).length = i + ((vnum (m / 128)).length + 1)
          omega
theorem rdV_vnum {n : Nat} (h : n < 9223372036854775808) (rest : List UInt8) : rdV (vnum n ++ rest) = (n, (vnum n).length) := by
  have := rdW_vnum rest 8 n 0 0 h (by have := vnum_nine h; omega) (fun _ => rfl)
  unfold rdV
  rw [this]
  simp
theorem rdW_cut : ∀ (k m i n : Nat), k < (vnum m).length → rdW i n ((vnum m).take k) = (0, 0)
  | 0, _, _, _, _ => rfl
  | k + 1, m, i, n, h => by
    by_cases h1 : m < 128
    · rw [vnum_lt h1, List.length_singleton] at h; omega
    · rw [vnum_ge (by omega)] at h ⊢
      rw [List.length_cons] at h
      rw [List.take_succ_cons]
      by_cases h9 : 9 ≤ i
      · exact rdW_nine _ _ h9
      · rw [rdW_more (by omega) (by rw [byte_nat (by omega)]; omega)]
        exact rdW_cut k (m / 128) _ _ (by omega)
theorem rdV_cut {k m : Nat} (h : k < (vnum m).length) : rdV ((vnum m).take k) = (0, 0) := rdW_cut k m 0 0 h
theorem pow_nine {i : Nat} (h : i ≤ 9) : 128 ^ i ≤ 9223372036854775808 := Nat.le_trans (Nat.pow_le_pow_right (by decide) h) (by decide)
theorem grp_lt {i n c : Nat} (h : n < 128 ^ i) (hc : c < 128) : n + c * 128 ^ i < 128 ^ (i + 1) := by
  have h1 : c * 128 ^ i ≤ 127 * 128 ^ i := Nat.mul_le_mul_right _ (by omega)
  rw [Nat.pow_succ]
  omega
theorem rdW_le : ∀ (l : List UInt8) (i n : Nat), n < 128 ^ i → (rdW i n l).1 < 9223372036854775808 ∧ (rdW i n l).2 ≤ i + l.length ∧ (rdW i n l).2 ≤ 9 ∧ ((rdW i n l).2 = 0 → (rdW i n l).1 = 0) ∧ ((rdW i n l).2 = 0 ∨ i < (rdW i n l).2)
  | [], i, n, h => ⟨by show 0 < _; omega, Nat.zero_le _, Nat.zero_le _, fun _ => rfl, .inl rfl⟩
  | c :: l, i, n, h => by
    by_cases h9 : 9 ≤ i
    · rw [rdW_nine _ _ h9]; exact ⟨by show 0 < _; omega, Nat.zero_le _, Nat.zero_le _, fun _ => rfl, .inl rfl⟩
    · by_cases hc : 128 ≤ c.toNat
      · rw [rdW_more (by omega) hc]
        have ih := rdW_le l (i + 1) (n + c.toNat % 128 * 128 ^ i) (grp_lt h (Nat.mod_lt _ (by decide)))
        refine ⟨ih.1, ?_, ih.2.2.1, ih.2.2.2.1, ?_⟩
        · have := ih.2.1; rw [List.length_cons]; omega
        · rcases ih.2.2.2.2 with h1 | h1
          · exact .inl h1
          · exact .inr (by omega)
      · by_cases h0 : c.toNat = 0 ∧ 0 < i
        · rw [rdW_zero h0.2 h0.1]; exact ⟨by show 0 < _; omega, Nat.zero_le _, Nat.zero_le _, fun _ => rfl, .inl rfl⟩
        · rw [rdW_last (by omega) (by omega) h0]
          have hg := grp_lt (i := i) (n := n) (c := c.toNat % 128) h (Nat.mod_lt _ (by decide))
          have hp := pow_nine (i := i + 1) (by omega)
          refine ⟨?_, ?_, ?_, fun h => absurd h (by simp), .inr (by simp)⟩
          · show n + c.toNat % 128 * 128 ^ i < _; omega
          · show i + 1 ≤ i + (l.length + 1); omega
          · show i + 1 ≤ 9; omega
theorem rdV_le (l : List UInt8) : (rdV l).1 < 9223372036854775808 ∧ (rdV l).2 ≤ l.length ∧ ((rdV l).2 = 0 → (rdV l).1 = 0) := by
  have := rdW_le l 0 0 (by decide)
  refine ⟨this.1, ?_, this.2.2.2.1⟩
  have h := this.2.1
  rw [Nat.zero_add] at h
  exact h
/-- What is read is what a number's bytes are. -/
theorem rdW_is : ∀ (l : List UInt8) (i n : Nat), (rdW i n l).2 ≠ 0 → ∃ m, (rdW i n l).1 = n + m * 128 ^ i ∧ (rdW i n l).2 = i + (vnum m).length ∧ l.take (vnum m).length = vnum m ∧ (m = 0 → i = 0)
  | [], i, n, h => absurd rfl h
  | c :: l, i, n, h => by
    by_cases h9 : 9 ≤ i
    · rw [rdW_nine _ _ h9] at h; exact absurd rfl h
    · by_cases hc : 128 ≤ c.toNat
      · rw [rdW_more (by omega) hc] at h ⊢
        obtain ⟨m, h1, h2, h3, h4⟩ := rdW_is l (i + 1) _ h
        have hm : m ≠ 0 := fun e => by have := h4 e; omega
        have hc2 := c.toNat_lt
        refine ⟨m * 128 + c.toNat % 128, ?_, ?_, ?_, fun e => by omega⟩
        · rw [h1, Nat.pow_succ, Nat.add_mul, Nat.mul_assoc, Nat.mul_comm 128 (128 ^ i)]; omega
        · rw [vnum_ge (by omega), List.length_cons, show (m * 128 + c.toNat % 128) / 128 = m by omega, h2]; omega
        · rw [vnum_ge (by omega), List.length_cons, show (m * 128 + c.toNat % 128) / 128 = m by omega, List.take_succ_cons, h3]
          congr 1
          apply UInt8.toNat_inj.1
          rw [byte_nat (by omega)]; omega
      · by_cases h0 : c.toNat = 0 ∧ 0 < i
        · rw [rdW_zero h0.2 h0.1] at h; exact absurd rfl h
        · rw [rdW_last (by omega) (by omega) h0]
          refine ⟨c.toNat, by rw [Nat.mod_eq_of_lt (by omega)], ?_, ?_, fun e => by rcases Nat.eq_zero_or_pos i with h | h; exact h; exact absurd ⟨e, h⟩ h0⟩
          · rw [vnum_lt (by omega)]; rfl
          · rw [vnum_lt (by omega)]
            show [c] = _
            congr 1
            apply UInt8.toNat_inj.1
            rw [byte_nat (by omega)]
theorem rdV_is {l : List UInt8} (h : (rdV l).2 ≠ 0) : (rdV l).2 = (vnum (rdV l).1).length ∧ l.take (rdV l).2 = vnum (rdV l).1 := by
  obtain ⟨m, h1, h2, h3, _⟩ := rdW_is l 0 0 h
  have e : (rdV l).1 = m := by show (rdW 0 0 l).1 = m; rw [h1]; simp
  have e2 : (rdV l).2 = (vnum m).length := by show (rdW 0 0 l).2 = _; rw [h2]; simp
  rw [e, e2]
  exact ⟨rfl, h3⟩

/-- A reader: what is left, and whether there was an error. -/
abbrev RS := List UInt8 × Bool
def numR (st : RS) : Nat × RS := if (rdV st.1).2 = 0 then (0, ([], true)) else ((rdV st.1).1, (st.1.drop (rdV st.1).2, st.2))
def textR (st : RS) : List UInt8 × RS := if (numR st).2.1.length < (numR st).1 then ([], ([], true)) else ((numR st).2.1.take (numR st).1, ((numR st).2.1.drop (numR st).1, (numR st).2.2))
def cntR (st : RS) (most : Int) : Nat × RS := if most < ((numR st).1 : Int) then (0, ([], true)) else numR st
abbrev badR : RS := ([], true)
theorem numR_no {st : RS} (h : (rdV st.1).2 = 0) : numR st = (0, badR) := by unfold numR; rw [if_pos h]
theorem numR_yes {st : RS} (h : ¬ (rdV st.1).2 = 0) : numR st = ((rdV st.1).1, (st.1.drop (rdV st.1).2, st.2)) := by unfold numR; rw [if_neg h]
theorem numR_bad : numR badR = (0, badR) := numR_no rfl
theorem textR_no {st : RS} (h : (numR st).2.1.length < (numR st).1) : textR st = ([], badR) := by unfold textR; rw [if_pos h]
theorem textR_yes {st : RS} (h : ¬ (numR st).2.1.length < (numR st).1) : textR st = ((numR st).2.1.take (numR st).1, ((numR st).2.1.drop (numR st).1, (numR st).2.2)) := by unfold textR; rw [if_neg h]
theorem textR_bad : textR badR = ([], badR) := by rw [textR_yes (by rw [numR_bad]; decide), numR_bad]; rfl
theorem cntR_no {st : RS} {most : Int} (h : most < ((numR st).1 : Int)) : cntR st most = (0, badR) := by unfold cntR; rw [if_pos h]
theorem cntR_yes {st : RS} {most : Int} (h : ¬ most < ((numR st).1 : Int)) : cntR st most = numR st := by unfold cntR; rw [if_neg h]
theorem cntR_bad (most : Int) : cntR badR most = (0, badR) := by
  by_cases h : most < ((numR badR).1 : Int)
  · exact cntR_no h
  · rw [cntR_yes h, numR_bad]
theorem numR_lt (st : RS) : (numR st).1 < 9223372036854775808 := by
  by_cases h : (rdV st.1).2 = 0
  · rw [numR_no h]; decide
  · rw [numR_yes h]; exact (rdV_le st.1).1
theorem numR_len (st : RS) : (numR st).2.1.length ≤ st.1.length := by
  by_cases h : (rdV st.1).2 = 0
  · rw [numR_no h]; exact Nat.zero_le _
  · rw [numR_yes h]; simp
theorem textR_len (st : RS) : (textR st).2.1.length ≤ st.1.length ∧ (textR st).1.length ≤ st.1.length := by
  have h0 := numR_len st
  by_cases h : (numR st).2.1.length < (numR st).1
  · rw [textR_no h]; exact ⟨Nat.zero_le _, Nat.zero_le _⟩
  · rw [textR_yes h]
    constructor
    · show ((numR st).2.1.drop _).length ≤ _; rw [List.length_drop]; omega
    · show ((numR st).2.1.take _).length ≤ _; rw [List.length_take]; omega
/-- Read behind what was laid. -/
theorem numR_vnum {n : Nat} (h : n < 9223372036854775808) (rest : List UInt8) (f : Bool) : numR (vnum n ++ rest, f) = (n, (rest, f)) := by
  have e := rdV_vnum h rest
  have hp := vnum_pos n
  rw [numR_yes (by rw [e]; show ¬ (vnum n).length = 0; omega)]
  show ((rdV (vnum n ++ rest)).1, ((vnum n ++ rest).drop (rdV (vnum n ++ rest)).2, f)) = _
  rw [e]
  simp
theorem textR_vnum (s : List UInt8) (h : s.length < 9223372036854775808) (rest : List UInt8) (f : Bool) : textR (vnum s.length ++ (s ++ rest), f) = (s, (rest, f)) := by
  have e := numR_vnum h (s ++ rest) f
  rw [textR_yes (by rw [e]; simp), e]
  simp
/-- A number, or a text. -/
abbrev WI := Bool × Int × List UInt8
def layI (x : WI) : List UInt8 := if x.1 then vnum x.2.2.length ++ x.2.2 else vnum x.2.1.toNat
def rdI (x : WI) (st : RS) : RS := if x.1 then (textR st).2 else (numR st).2
theorem layI_pos (x : WI) : 0 < (layI x).length := by
  unfold layI
  split
  · rw [List.length_append]; have := vnum_pos x.2.2.length; omega
  · exact vnum_pos _
def okI (x : WI) : Prop := x.2.1 < 9223372036854775808 ∧ x.2.2.length < 9223372036854775808
theorem rdI_lay (x : WI) (h : okI x) (rest : List UInt8) (f : Bool) : rdI x (layI x ++ rest, f) = (rest, f) := by
  unfold rdI layI
  cases x.1 with
  | true => simp only [if_true]; rw [List.append_assoc, textR_vnum _ h.2]
  | false => simp only [Bool.false_eq_true, if_false]; rw [numR_vnum (by have := h.1; omega)]
theorem rdI_bad (x : WI) : rdI x badR = badR := by unfold rdI; cases x.1 with | true => simp only [if_true]; rw [textR_bad] | false => simp only [Bool.false_eq_true, if_false]; rw [numR_bad]
theorem numR_cut {m k : Nat} (h : k < (vnum m).length) (f : Bool) : numR ((vnum m).take k, f) = (0, badR) := numR_no (by show (rdV ((vnum m).take k)).2 = 0; rw [rdV_cut h])
theorem rdI_cut (x : WI) (hx : okI x) (k : Nat) (h : k < (layI x).length) (f : Bool) : rdI x ((layI x).take k, f) = badR := by
  unfold rdI layI at *
  cases hb : x.1 with
  | false =>
    rw [hb] at h
    simp only [Bool.false_eq_true, if_false] at h ⊢
    rw [numR_cut h]
  | true =>
    rw [hb] at h
    simp only [if_true] at h ⊢
    rw [List.length_append] at h
    by_cases hk : k < (vnum x.2.2.length).length
    · rw [List.take_append_of_le_length (by omega)]
      have e := numR_cut (m := x.2.2.length) hk f
      rw [textR_yes (by rw [e]; decide), e]
      rfl
    · rw [List.take_append, List.take_of_length_le (by omega)]
      have e := numR_vnum hx.2 (x.2.2.take (k - (vnum x.2.2.length).length)) f
      rw [textR_no (by rw [e]; show (x.2.2.take _).length < _; rw [List.length_take]; omega)]
def layL (l : List WI) : List UInt8 := l.flatMap layI
def rdL (l : List WI) (st : RS) : RS := l.foldl (fun st x => rdI x st) st
theorem rdL_bad : ∀ (l : List WI), rdL l badR = badR
  | [] => rfl
  | x :: l => by show rdL l (rdI x badR) = _; rw [rdI_bad]; exact rdL_bad l
theorem rdL_cut : ∀ (l : List WI) (_ : ∀ x ∈ l, okI x) (k : Nat), k < (layL l).length → rdL l ((layL l).take k, false) = badR
  | [], _, k, h => absurd h (Nat.not_lt_zero _)
  | x :: l, hx, k, h => by
    have e : layL (x :: l) = layI x ++ layL l := List.flatMap_cons
    rw [e] at h ⊢
    rw [List.length_append] at h
    show rdL l (rdI x _) = _
    by_cases hk : k < (layI x).length
    · rw [List.take_append_of_le_length (by omega), rdI_cut x (hx x (List.mem_cons_self ..)) k hk]
      exact rdL_bad l
    · rw [List.take_append, List.take_of_length_le (by omega), rdI_lay x (hx x (List.mem_cons_self ..))]
      exact rdL_cut l (fun y hy => hx y (List.mem_cons_of_mem _ hy)) _ (by omega)
end Florin
