/- Plain facts on digits, as lists of bytes: their value, the digits of a number, so many digits of a number. No program here. -/
namespace Florin

def dv (c : UInt8) : Nat := c.toNat - 48
def isD (c : UInt8) : Bool := decide (48 ≤ c.toNat) && decide (c.toNat ≤ 57)
def isDig (l : List UInt8) : Bool := l.all isD
def val (l : List UInt8) : Nat := l.foldl (fun n c => 10 * n + dv c) 0
def trim (l : List UInt8) : List UInt8 := l.dropWhile (fun c => c == 48)
def db (n : Nat) : UInt8 := UInt8.ofNat (48 + n % 10)

/-- The k last digits of n. -/
def digs : Nat → Nat → List UInt8
  | 0, _ => []
  | k + 1, n => digs k (n / 10) ++ [db n]

/-- The digits of n, no nought ahead. -/
def dig (n : Nat) : List UInt8 := if _h : n = 0 then [] else dig (n / 10) ++ [db n]
  termination_by n
  decreasing_by omega

theorem db_nat (n : Nat) : (db n).toNat = 48 + n % 10 := by
  unfold db; simp [UInt8.toNat_ofNat']; omega
theorem dv_db (n : Nat) : dv (db n) = n % 10 := by unfold dv; rw [db_nat]; omega
theorem isD_db (n : Nat) : isD (db n) = true := by unfold isD; rw [db_nat]; simp; omega
theorem dv_lt {c : UInt8} (h : isD c = true) : dv c < 10 := by
  unfold isD at h; simp at h; unfold dv; omega
theorem isD_iff (c : UInt8) : isD c = true ↔ 48 ≤ c.toNat ∧ c.toNat ≤ 57 := by unfold isD; simp
theorem db_mod (n : Nat) : db (n % 10) = db n := by unfold db; rw [Nat.mod_mod]
theorem db_dv {c : UInt8} (h : isD c = true) : db (dv c) = c := by
  rw [isD_iff] at h
  apply UInt8.toNat_inj.1
  rw [db_nat]; unfold dv; omega
theorem db_congr {m n : Nat} (h : m % 10 = n % 10) : db m = db n := by unfold db; rw [h]

theorem val_nil : val [] = 0 := rfl
theorem foldl_val (l : List UInt8) : ∀ m, l.foldl (fun n c => 10 * n + dv c) m = m * 10 ^ l.length + val l := by
  induction l with
  | nil => intro m; simp [val]
  | cons c l ih =>
    intro m
    simp only [List.foldl_cons, List.length_cons, val]
    rw [ih (10 * m + dv c), ih (10 * 0 + dv c), Nat.pow_succ]
    rw [Nat.add_mul, Nat.add_mul, show 10 * m * 10 ^ l.length = m * (10 ^ l.length * 10) by rw [Nat.mul_comm 10 m, Nat.mul_assoc, Nat.mul_comm 10]]
    omega
theorem val_append (a b : List UInt8) : val (a ++ b) = val a * 10 ^ b.length + val b := by
  unfold val; rw [List.foldl_append, foldl_val]; rfl
theorem val_snoc (a : List UInt8) (c : UInt8) : val (a ++ [c]) = 10 * val a + dv c := by
  rw [val_append]; simp [val]; omega
theorem val_cons (c : UInt8) (l : List UInt8) : val (c :: l) = dv c * 10 ^ l.length + val l := by
  rw [show c :: l = [c] ++ l from rfl, val_append]; simp [val]
theorem isDig_append (a b : List UInt8) : isDig (a ++ b) = (isDig a && isDig b) := by unfold isDig; rw [List.all_append]
theorem isDig_cons (c : UInt8) (b : List UInt8) : isDig (c :: b) = (isD c && isDig b) := rfl
theorem isDig_snoc (a : List UInt8) (c : UInt8) : isDig (a ++ [c]) = (isDig a && isD c) := by rw [isDig_append]; simp [isDig]
theorem val_lt (l : List UInt8) (h : isDig l = true) : val l < 10 ^ l.length := by
  induction l with
  | nil => simp [val]
  | cons c l ih =>
    rw [isDig_cons] at h; simp at h
    have h1 := ih h.2
    have h2 := dv_lt h.1
    rw [val_cons, List.length_cons, Nat.pow_succ]
    have : dv c * 10 ^ l.length ≤ 9 * 10 ^ l.length := Nat.mul_le_mul_right _ (by omega)
    omega

/-! the k last digits -/
theorem digs_length (k : Nat) : ∀ n, (digs k n).length = k := by
  induction k with
  | zero => intro n; rfl
  | succ k ih => intro n; simp [digs, ih]
theorem isDig_digs (k : Nat) : ∀ n, isDig (digs k n) = true := by
  induction k with
  | zero => intro n; rfl
  | succ k ih => intro n; simp [digs, isDig_snoc, ih, isD_db]
theorem val_digs (k : Nat) : ∀ n, val (digs k n) = n % 10 ^ k := by
  induction k with
  | zero => intro n; simp [digs, val, Nat.mod_one]
  | succ k ih =>
    intro n
    simp only [digs, val_snoc, ih, dv_db]
    rw [Nat.pow_succ, Nat.mul_comm (10 ^ k) 10, Nat.mod_mul]
    omega
theorem digs_succ' (k : Nat) : ∀ n, digs (k + 1) n = db (n / 10 ^ k) :: digs k n := by
  induction k with
  | zero => intro n; simp [digs]
  | succ k ih =>
    intro n
    rw [digs, ih (n / 10)]
    rw [Nat.div_div_eq_div_mul, ← Nat.pow_succ', show digs (k + 1) n = digs k (n / 10) ++ [db n] from rfl]
    rfl
theorem digs_val (l : List UInt8) (h : isDig l = true) : digs l.length (val l) = l := by
  induction l with
  | nil => rfl
  | cons c l ih =>
    rw [isDig_cons] at h; simp at h
    have h1 := val_lt l h.2
    have hp : 0 < 10 ^ l.length := Nat.pow_pos (by decide)
    rw [List.length_cons, digs_succ', val_cons]
    have e1 : (dv c * 10 ^ l.length + val l) / 10 ^ l.length = dv c := by
      rw [Nat.add_comm, Nat.add_mul_div_right _ _ hp, Nat.div_eq_of_lt h1]; omega
    rw [e1, db_dv h.1]
    have e2 : digs l.length (dv c * 10 ^ l.length + val l) = digs l.length (val l) := by
      have gen : ∀ k m n, digs k (m * 10 ^ k + n) = digs k n := by
        intro k
        induction k with
        | zero => intro m n; rfl
        | succ k ihk =>
          intro m n
          simp only [digs]
          have e3 : (m * 10 ^ (k + 1) + n) / 10 = m * 10 ^ k + n / 10 := by
            rw [Nat.pow_succ, ← Nat.mul_assoc, Nat.add_comm, Nat.add_mul_div_right _ _ (by decide)]; omega
          have e4 : db (m * 10 ^ (k + 1) + n) = db n := by
            apply db_congr; rw [Nat.pow_succ, ← Nat.mul_assoc, Nat.add_comm, Nat.add_mul_mod_self_right]
          rw [e3, e4, ihk]
      exact gen _ _ _
    rw [e2, ih h.2]
/-- Two digit texts of one length and value are one. -/
theorem dig_inj {a b : List UInt8} (ha : isDig a = true) (hb : isDig b = true) (hl : a.length = b.length) (hv : val a = val b) : a = b := by
  rw [← digs_val a ha, ← digs_val b hb, hl, hv]

/-! the digits of a number -/
theorem dig_zero : dig 0 = [] := by rw [dig]; rfl
theorem dig_pos {n : Nat} (h : n ≠ 0) : dig n = dig (n / 10) ++ [db n] := by rw [dig, dif_neg h]
theorem isDig_dig (n : Nat) : isDig (dig n) = true := by
  induction n using Nat.strongRecOn with
  | ind n ih =>
    by_cases h : n = 0
    · subst h; rw [dig_zero]; rfl
    · rw [dig_pos h, isDig_snoc, ih _ (by omega), isD_db]; rfl
theorem val_dig (n : Nat) : val (dig n) = n := by
  induction n using Nat.strongRecOn with
  | ind n ih =>
    by_cases h : n = 0
    · subst h; rw [dig_zero]; rfl
    · rw [dig_pos h, val_snoc, ih _ (by omega), dv_db]; omega
theorem dig_head (n : Nat) : ∀ c l, dig n = c :: l → c ≠ 48 := by
  induction n using Nat.strongRecOn with
  | ind n ih =>
    intro c l hc
    by_cases h : n = 0
    · subst h; rw [dig_zero] at hc; cases hc
    · rw [dig_pos h] at hc
      by_cases h2 : n / 10 = 0
      · rw [h2, dig_zero] at hc
        simp at hc
        obtain ⟨rfl, rfl⟩ := hc
        intro e
        have := congrArg UInt8.toNat e
        rw [db_nat] at this
        simp at this; omega
      · rw [dig_pos h2] at hc
        rw [← dig_pos h2] at hc
        cases hd : dig (n / 10) with
        | nil => have := val_dig (n / 10); rw [hd] at this; simp [val] at this; omega
        | cons c' l' =>
          rw [hd] at hc
          simp at hc
          exact hc.1 ▸ ih _ (by omega) c' l' hd
theorem trim_dig (n : Nat) : trim (dig n) = dig n := by
  unfold trim
  cases h : dig n with
  | nil => rfl
  | cons c l =>
    have := dig_head n c l h
    rw [List.dropWhile_cons]; simp [this]
theorem dv48 : dv 48 = 0 := rfl
theorem trim_nil : trim [] = [] := rfl
theorem trim_cons_zero (l : List UInt8) : trim (48 :: l) = trim l := by unfold trim; simp
theorem trim_cons {c : UInt8} (l : List UInt8) (h : c ≠ 48) : trim (c :: l) = c :: l := by unfold trim; simp [h]
theorem val_trim (l : List UInt8) : val (trim l) = val l := by
  induction l with
  | nil => rfl
  | cons c l ih =>
    by_cases h : c = 48
    · subst h; rw [trim_cons_zero, ih, val_cons, dv48]; omega
    · rw [trim_cons l h]
theorem isDig_trim (l : List UInt8) (h : isDig l = true) : isDig (trim l) = true := by
  induction l with
  | nil => rfl
  | cons c l ih =>
    by_cases h2 : c = 48
    · subst h2; rw [trim_cons_zero]; rw [isDig_cons] at h; simp at h; exact ih h.2
    · rw [trim_cons l h2]; exact h
theorem val_ge_of_head {c : UInt8} {l : List UInt8} (hc : isD c = true) (h : c ≠ 48) : 10 ^ l.length ≤ val (c :: l) := by
  rw [val_cons]
  rw [isD_iff] at hc
  have : 1 ≤ dv c := by
    unfold dv
    have : c.toNat ≠ 48 := fun e => h (UInt8.toNat_inj.1 (by simpa using e))
    omega
  have := Nat.mul_le_mul_right (10 ^ l.length) this
  omega
theorem trim_trim (l : List UInt8) : trim (trim l) = trim l := by
  induction l with
  | nil => rfl
  | cons c l ih =>
    by_cases h2 : c = 48
    · subst h2; rw [trim_cons_zero, ih]
    · rw [trim_cons l h2, trim_cons l h2]
/-- A text of digits without noughts ahead is the digits of its value. -/
theorem dig_val {l : List UInt8} (h : isDig l = true) : dig (val l) = trim l := by
  have key : ∀ k, ∀ l : List UInt8, l.length ≤ k → isDig l = true → trim l = l → dig (val l) = l := by
    intro k
    induction k with
    | zero => intro l hl _ _; cases l with
      | nil => exact dig_zero
      | cons c l => simp at hl
    | succ k ih =>
      intro l hl hd ht
      rcases List.eq_nil_or_concat l with rfl | ⟨a, c, rfl⟩
      · exact dig_zero
      · rw [List.concat_eq_append] at *
        rw [isDig_snoc] at hd; simp at hd
        have hne : val (a ++ [c]) ≠ 0 := by
          cases a with
          | nil =>
            have hc : c ≠ 48 := by intro e; subst e; simp [trim] at ht
            have := val_ge_of_head (l := []) hd.2 hc
            simp at this ⊢; omega
          | cons x a =>
            have hx : x ≠ 48 := by
              intro e; subst e
              rw [List.cons_append, trim_cons_zero] at ht
              have h1 := congrArg List.length ht
              have h2 : (trim (a ++ [c])).length ≤ (a ++ [c]).length := (List.dropWhile_sublist _).length_le
              simp at h1 h2; omega
            have hxd : isD x = true := by have := hd.1; rw [isDig_cons] at this; simp at this; exact this.1
            have := val_ge_of_head (l := a ++ [c]) hxd hx
            have hp : 0 < 10 ^ (a ++ [c]).length := Nat.pow_pos (by decide)
            rw [List.cons_append]; omega
        rw [dig_pos hne, val_snoc]
        have hlt := dv_lt hd.2
        rw [show (10 * val a + dv c) / 10 = val a by omega]
        have hta : trim a = a := by
          cases a with
          | nil => rfl
          | cons x a =>
            by_cases hx : x = 48
            · subst hx
              rw [List.cons_append, trim_cons_zero] at ht
              have h1 := congrArg List.length ht
              have h2 : (trim (a ++ [c])).length ≤ (a ++ [c]).length := (List.dropWhile_sublist _).length_le
              simp at h1 h2; omega
            · exact trim_cons a hx
        rw [ih a (by simp at hl; omega) hd.1 hta]
        congr 1
        rw [← db_dv hd.2]
        congr 1
        apply db_congr
        rw [dv_db]; omega
  rw [← val_trim l]
  refine key _ _ (Nat.le_refl _) (isDig_trim l h) ?_
  exact trim_trim l
theorem trim_length_le (l : List UInt8) : (trim l).length ≤ l.length := (List.dropWhile_sublist _).length_le
/-- How many digits a number has. -/
theorem dig_length_le (n k : Nat) : (dig n).length ≤ k ↔ n < 10 ^ k := by
  constructor
  · intro h
    have h1 := val_lt _ (isDig_dig n)
    rw [val_dig] at h1
    exact Nat.lt_of_lt_of_le h1 (Nat.pow_le_pow_right (by decide) h)
  · intro h
    cases hd : dig n with
    | nil => simp
    | cons c l =>
      have h1 := dig_head n c l hd
      have h2 := isDig_dig n
      rw [hd, isDig_cons] at h2; simp at h2
      have h3 := val_ge_of_head (l := l) h2.1 h1
      rw [← hd, val_dig] at h3
      have h4 : 10 ^ l.length < 10 ^ k := Nat.lt_of_le_of_lt h3 h
      have h5 := (Nat.pow_lt_pow_iff_right (by decide : 1 < 10)).1 h4
      show l.length + 1 ≤ k
      omega
theorem dig_eq_nil (n : Nat) : dig n = [] ↔ n = 0 := by
  constructor
  · intro h; have := val_dig n; rw [h] at this; simpa [val] using this.symm
  · rintro rfl; exact dig_zero
theorem dig_inj' {m n : Nat} (h : dig m = dig n) : m = n := by rw [← val_dig m, h, val_dig]

/-! the digit of a place, from the end on -/
def plc (l : List UInt8) (i : Nat) : Nat := val l / 10 ^ i % 10
theorem plc_ge {l : List UInt8} {i : Nat} (h : isDig l = true) (hi : l.length ≤ i) : plc l i = 0 := by
  unfold plc
  rw [Nat.div_eq_of_lt]
  exact Nat.lt_of_lt_of_le (val_lt l h) (Nat.pow_le_pow_right (by decide) hi)
theorem plc_lt {l : List UInt8} {i : Nat} (h : isDig l = true) (hi : i < l.length) : plc l i = dv (l[l.length - 1 - i]'(by omega)) := by
  induction l with
  | nil => simp at hi
  | cons c l ih =>
    rw [isDig_cons] at h; simp at h
    have h1 := val_lt l h.2
    have hp : 0 < 10 ^ l.length := Nat.pow_pos (by decide)
    unfold plc
    rw [val_cons]
    by_cases e : i = l.length
    · subst e
      rw [Nat.add_comm, Nat.add_mul_div_right _ _ hp, Nat.div_eq_of_lt h1]
      have := dv_lt h.1
      simp
      omega
    · have hi' : i < l.length := by simp at hi; omega
      have ih' := ih h.2 hi'
      have e2 : (c :: l)[(c :: l).length - 1 - i]'(by simp; omega) = l[l.length - 1 - i]'(by omega) := by
        simp only [List.length_cons, Nat.add_sub_cancel]
        rw [List.getElem_cons]
        rw [dif_neg (by omega)]
        congr 1; omega
      rw [e2, ← ih']
      unfold plc
      have e3 : 10 ^ l.length = 10 ^ (l.length - 1 - i) * 10 * 10 ^ i := by
        rw [← Nat.pow_succ, ← Nat.pow_add]; congr 1; omega
      rw [e3, ← Nat.mul_assoc, Nat.add_comm, Nat.add_mul_div_right _ _ (Nat.pow_pos (by decide)), ← Nat.mul_assoc, Nat.add_mul_mod_self_right]

/-! sums, what is left, products, place by place -/
theorem div_mod_split (A k : Nat) : A % 10 ^ (k + 1) = A % 10 ^ k + 10 ^ k * (A / 10 ^ k % 10) := by
  rw [Nat.pow_succ, Nat.mod_mul]
def addC (A B k : Nat) : Nat := (A % 10 ^ k + B % 10 ^ k) / 10 ^ k
theorem addC_zero (A B : Nat) : addC A B 0 = 0 := by simp [addC, Nat.mod_one]
theorem addC_le (A B k : Nat) : addC A B k ≤ 1 := by
  have hp : 0 < 10 ^ k := Nat.pow_pos (by decide)
  have h1 := Nat.mod_lt A hp
  have h2 := Nat.mod_lt B hp
  unfold addC
  generalize 10 ^ k = P at *
  have : A % P + B % P < P * 2 := by omega
  have := Nat.div_lt_of_lt_mul this
  omega
theorem addC_succ (A B k : Nat) : addC A B (k + 1) = (A / 10 ^ k % 10 + B / 10 ^ k % 10 + addC A B k) / 10 := by
  have hp : 0 < 10 ^ k := Nat.pow_pos (by decide)
  unfold addC
  rw [div_mod_split, div_mod_split, Nat.pow_succ]
  generalize 10 ^ k = P at *
  rw [← Nat.div_div_eq_div_mul]
  congr 1
  rw [show A % P + P * (A / P % 10) + (B % P + P * (B / P % 10)) = (A % P + B % P) + P * (A / P % 10 + B / P % 10) by rw [Nat.mul_add]; omega]
  rw [Nat.add_mul_div_left _ _ hp]; omega
theorem add_digit (A B k : Nat) : (A + B) / 10 ^ k % 10 = (A / 10 ^ k % 10 + B / 10 ^ k % 10 + addC A B k) % 10 := by
  have hp : 0 < 10 ^ k := Nat.pow_pos (by decide)
  unfold addC
  generalize 10 ^ k = P at *
  have e : A + B = (A % P + B % P) + P * (A / P + B / P) := by
    have h1 := Nat.mod_add_div A P
    have h2 := Nat.mod_add_div B P
    rw [Nat.mul_add]; omega
  rw [e, Nat.add_mul_div_left _ _ hp]; omega
theorem pow_pos' (k : Nat) : 0 < 10 ^ k := Nat.pow_pos (by decide)

def subC (A B k : Nat) : Nat := if A % 10 ^ k < B % 10 ^ k then 1 else 0
theorem subC_zero (A B : Nat) : subC A B 0 = 0 := by simp [subC, Nat.mod_one]
theorem subC_le (A B k : Nat) : subC A B k ≤ 1 := by unfold subC; split <;> omega
theorem subC_succ (A B k : Nat) : subC A B (k + 1) = if A / 10 ^ k % 10 < B / 10 ^ k % 10 + subC A B k then 1 else 0 := by
  have hp := pow_pos' k
  have h1 := Nat.mod_lt A hp
  have h2 := Nat.mod_lt B hp
  unfold subC
  rw [div_mod_split, div_mod_split]
  generalize 10 ^ k = P at *
  generalize A % P = a at *
  generalize B % P = b at *
  generalize A / P % 10 = x at *
  generalize B / P % 10 = y at *
  by_cases hxy : x < y
  · have : P * (x + 1) ≤ P * y := Nat.mul_le_mul_left _ hxy
    rw [Nat.mul_add] at this
    rw [if_pos (by omega), if_pos (by omega)]
  · by_cases hyx : y < x
    · have : P * (y + 1) ≤ P * x := Nat.mul_le_mul_left _ hyx
      rw [Nat.mul_add] at this
      rw [if_neg (by omega), if_neg (by split <;> omega)]
    · obtain rfl : x = y := by omega
      by_cases hab : a < b
      · rw [if_pos (by omega), if_pos (by rw [if_pos hab]; omega)]
      · rw [if_neg (by omega), if_neg (by rw [if_neg hab]; omega)]
theorem sub_digit (A B k : Nat) (h : B ≤ A) : (A - B) / 10 ^ k % 10 = (A / 10 ^ k % 10 + 10 - B / 10 ^ k % 10 - subC A B k) % 10 := by
  have hp := pow_pos' k
  have h1 := Nat.mod_lt A hp
  have h2 := Nat.mod_lt B hp
  unfold subC
  have ea := Nat.mod_add_div A (10 ^ k)
  have eb := Nat.mod_add_div B (10 ^ k)
  generalize 10 ^ k = P at *
  generalize A % P = a at *
  generalize B % P = b at *
  generalize A / P = x at *
  generalize B / P = y at *
  by_cases hab : a < b
  · rw [if_pos hab]
    have hyx : y < x := by
      rcases Nat.lt_or_ge y x with h3 | h3
      · exact h3
      · have : P * x ≤ P * y := Nat.mul_le_mul_left _ h3
        omega
    have : A - B = (a + P - b) + P * (x - y - 1) := by
      have e1 : P * (x - y - 1) = P * x - P * y - P := by rw [Nat.mul_sub, Nat.mul_sub]; omega
      have e2 : P * (y + 1) ≤ P * x := Nat.mul_le_mul_left _ hyx
      rw [Nat.mul_add] at e2
      rw [e1]; omega
    rw [this, Nat.add_mul_div_left _ _ hp, Nat.div_eq_of_lt (by omega)]
    omega
  · rw [if_neg hab]
    have hyx : y ≤ x := by
      rcases Nat.lt_or_ge x y with h3 | h3
      · have : P * (x + 1) ≤ P * y := Nat.mul_le_mul_left _ h3
        rw [Nat.mul_add] at this; omega
      · exact h3
    have : A - B = (a - b) + P * (x - y) := by
      have e1 : P * (x - y) = P * x - P * y := by rw [Nat.mul_sub]
      have e2 : P * y ≤ P * x := Nat.mul_le_mul_left _ hyx
      rw [e1]; omega
    rw [this, Nat.add_mul_div_left _ _ hp, Nat.div_eq_of_lt (by omega)]
    omega

def mulC (A m k : Nat) : Nat := (A % 10 ^ k * m) / 10 ^ k
theorem mulC_zero (A m : Nat) : mulC A m 0 = 0 := by simp [mulC, Nat.mod_one]
theorem mulC_le (A m k : Nat) : mulC A m k ≤ m := by
  have hp := pow_pos' k
  have h1 := Nat.mod_lt A hp
  unfold mulC
  have : A % 10 ^ k * m ≤ 10 ^ k * m := Nat.mul_le_mul_right _ (by omega)
  have := Nat.div_le_div_right (c := 10 ^ k) this
  rw [Nat.mul_div_cancel_left _ hp] at this
  exact this
theorem mulC_succ (A m k : Nat) : mulC A m (k + 1) = (A / 10 ^ k % 10 * m + mulC A m k) / 10 := by
  have hp := pow_pos' k
  unfold mulC
  rw [div_mod_split, Nat.pow_succ]
  generalize 10 ^ k = P at *
  rw [← Nat.div_div_eq_div_mul, Nat.add_mul, Nat.mul_assoc, Nat.add_mul_div_left _ _ hp]
  congr 1; omega
theorem mul_digit (A m k : Nat) : (A * m) / 10 ^ k % 10 = (A / 10 ^ k % 10 * m + mulC A m k) % 10 := by
  have hp := pow_pos' k
  unfold mulC
  have ea := Nat.mod_add_div A (10 ^ k)
  generalize 10 ^ k = P at *
  have e : A * m = A % P * m + P * (A / P * m) := by rw [← Nat.mul_assoc, ← Nat.add_mul, ea]
  rw [e, Nat.add_mul_div_left _ _ hp]
  generalize A % P * m / P = c
  generalize A / P = x
  have h1 : x * m % 10 = x % 10 * m % 10 := by rw [Nat.mul_mod, Nat.mul_mod (x % 10) m, Nat.mod_mod]
  omega
theorem mulC_end (A m k : Nat) (h : A < 10 ^ k) : mulC A m k * 10 ^ k + A * m % 10 ^ k = A * m := by
  unfold mulC
  rw [Nat.mod_eq_of_lt h, Nat.mul_comm]
  exact Nat.div_add_mod _ _
theorem div_step (v d m : Nat) (hm : 0 < m) (hd : d < 10) : (10 * v + d) / m / 10 = v / m ∧ (10 * v + d) / m % 10 = (v % m * 10 + d) / m ∧ (10 * v + d) % m = (v % m * 10 + d) % m ∧ (v % m * 10 + d) / m < 10 := by
  have ev := Nat.mod_add_div v m
  have hr := Nat.mod_lt v hm
  generalize v % m = r at *
  generalize v / m = q at *
  have e : 10 * v + d = (r * 10 + d) + m * (10 * q) := by
    rw [← ev, Nat.mul_add, Nat.mul_left_comm]; omega
  have hlt : (r * 10 + d) / m < 10 := Nat.div_lt_of_lt_mul (by omega)
  have e1 : (10 * v + d) / m = (r * 10 + d) / m + 10 * q := by rw [e, Nat.add_mul_div_left _ _ hm]
  have e2 : (10 * v + d) % m = (r * 10 + d) % m := by rw [e, Nat.add_mul_mod_self_left]
  rw [e1, e2]
  generalize (r * 10 + d) / m = z at *
  exact ⟨by omega, by omega, rfl, hlt⟩
end Florin
