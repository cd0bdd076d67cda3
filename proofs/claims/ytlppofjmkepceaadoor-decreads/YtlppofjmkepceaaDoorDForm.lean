/- The grammar once more, place by place, as the law's own reader goes: it is the same grammar. No program here. -/
import Derived.Test.YtlppofjmkepceaaDoorDText
namespace Florin

/-- How many digits stand ahead. -/
def rn (l : List UInt8) : Nat := (l.takeWhile isD).length
def signed (l : List UInt8) : Bool := minus l || plus l
/-- From the power on. -/
def formE (l : List UInt8) : Bool := match l with
  | [] => true
  | c :: t => isE c && (let u := if signed t then t.tail else t; decide (rn u ≠ 0) && decide (rn u = u.length))
def formP (l : List UInt8) : Bool :=
  let a := less l
  decide (rn a ≠ 0) && (match a.drop (rn a) with
    | [] => true
    | c :: t => if c == 46 then decide (rn t ≠ 0) && formE (t.drop (rn t)) else formE (c :: t))

theorem rn_cons (c : UInt8) (t : List UInt8) : rn (c :: t) = if isD c then rn t + 1 else 0 := by
  unfold rn; rw [List.takeWhile_cons]; split <;> simp
theorem rn_le (l : List UInt8) : rn l ≤ l.length := by unfold rn; exact (List.takeWhile_prefix isD).length_le
theorem drop_rn (l : List UInt8) : l.drop (rn l) = l.dropWhile isD := by
  induction l with
  | nil => rfl
  | cons c t ih =>
    rw [rn_cons, List.dropWhile_cons]
    split
    · rw [List.drop_succ_cons]; exact ih
    · rfl
theorem bareP_signed (t : List UInt8) : bareP t = if signed t then t.tail else t := by
  unfold bareP signed
  cases minus t <;> cases plus t <;> rfl
theorem rn_all {u : List UInt8} : (decide (rn u ≠ 0) && decide (rn u = u.length)) = sdig u := by
  have h : decide (rn u = u.length) = isDig u := by
    induction u with
    | nil => rfl
    | cons c t ih =>
      rw [rn_cons, isDig_cons]
      by_cases hc : isD c = true
      · rw [hc]; simp only [if_true, List.length_cons, Bool.true_and, ← ih]; simp
      · have hc' : isD c = false := by simpa using hc
        rw [hc']; simp
  rw [h]
  cases u with
  | nil => rfl
  | cons c t =>
    unfold sdig
    rw [isDig_cons, rn_cons]
    cases hc : isD c <;> simp
theorem formE_eq (l : List UInt8) : formE l = match l with
  | [] => true
  | c :: t => isE c && sdig (bareP t) := by
  cases l with
  | nil => rfl
  | cons c t => simp only [formE, bareP_signed, rn_all]

/-- Whatever is written so is a decimal's text. -/
theorem formP_okF (l : List UInt8) (h : formP l = true) : okF l = true := by
  unfold formP at h
  simp only [Bool.and_eq_true, decide_eq_true_eq] at h
  obtain ⟨h1, h2⟩ := h
  rw [drop_rn] at h2
  have hl : less l = (less l).takeWhile isD ++ (less l).dropWhile isD := (List.takeWhile_append_dropWhile).symm
  have hW : sdig ((less l).takeWhile isD) = true := by
    rw [sdig_iff]
    refine ⟨fun e => h1 (by unfold rn; rw [e]; rfl), ?_⟩
    unfold isDig; exact List.all_takeWhile
  have key : ∀ (pt : Bool) (P R : List UInt8), (if pt then sdig P = true else P = []) → (less l).dropWhile isD = (if pt then 46 :: P else []) ++ R → formE R = true → okF l = true := by
    intro pt P R hP hR hE
    have hsg : l = sgnL (minus l) ++ less l := by
      unfold less sgnL minus
      cases l with
      | nil => rfl
      | cons c t =>
        by_cases hc : c = 45
        · subst hc; simp
        · simp [hc]
    rw [formE_eq] at hE
    cases R with
    | nil =>
      have hh : l = render (minus l) ((less l).takeWhile isD) pt P false 101 [] [] := by
        unfold render
        simp only [Bool.false_eq_true, if_false]
        rw [← hR, ← hl]; exact hsg
      rw [hh]
      exact render_ok ⟨hW, hP, by simp⟩
    | cons c t =>
      simp only [Bool.and_eq_true] at hE
      obtain ⟨hc, hq⟩ := hE
      obtain ⟨sgn, hsn, ht⟩ : ∃ sgn : List UInt8, (sgn = [] ∨ sgn = [43] ∨ sgn = [45]) ∧ t = sgn ++ bareP t := by
        unfold bareP
        cases t with
        | nil => exact ⟨[], .inl rfl, rfl⟩
        | cons d u =>
          by_cases h45 : d = 45
          · subst h45; exact ⟨[45], .inr (.inr rfl), by simp [minus]⟩
          · by_cases h43 : d = 43
            · subst h43; exact ⟨[43], .inr (.inl rfl), by simp [minus, plus]⟩
            · exact ⟨[], .inl rfl, by simp [minus, plus, h45, h43]⟩
      have hh : l = render (minus l) ((less l).takeWhile isD) pt P true c sgn (bareP t) := by
        unfold render
        simp only [if_true]
        rw [← ht, ← hR, ← hl]; exact hsg
      rw [hh]
      exact render_ok ⟨hW, hP, by simp; exact ⟨hc, hsn, hq⟩⟩
  cases hd : (less l).dropWhile isD with
  | nil => exact key false [] [] (by simp) (by rw [hd]; rfl) rfl
  | cons c t =>
    rw [hd] at h2
    by_cases hc : c = 46
    · subst hc
      simp only [BEq.rfl, if_true, Bool.and_eq_true, decide_eq_true_eq] at h2
      obtain ⟨h3, h4⟩ := h2
      rw [drop_rn] at h4
      refine key true (t.takeWhile isD) (t.dropWhile isD) ?_ ?_ h4
      · simp only [if_true]
        rw [sdig_iff]
        refine ⟨fun e => h3 (by unfold rn; rw [e]; rfl), ?_⟩
        unfold isDig; exact List.all_takeWhile
      · rw [hd]; simp [List.takeWhile_append_dropWhile]
    · have : (c == 46) = false := by simp [hc]
      simp only [this, Bool.false_eq_true, if_false] at h2
      exact key false [] (c :: t) (by simp) (by rw [hd]; rfl) h2

theorem takeWhile_dig {a b : List UInt8} (h : isDig a = true) (hb : b.takeWhile isD = []) : (a ++ b).takeWhile isD = a ∧ (a ++ b).dropWhile isD = b := by
  have h1 := takeWhile_all (p := isD) a b (fun c hc => isDig_mem h hc)
  refine ⟨by rw [h1.1, hb, List.append_nil], ?_⟩
  rw [h1.2]
  cases b with
  | nil => rfl
  | cons c t =>
    rw [List.takeWhile_cons] at hb
    rw [List.dropWhile_cons]
    split at hb
    · cases hb
    · rename_i hc; simp [hc]
theorem isE_isD {c : UInt8} (h : isE c = true) : isD c = false := by
  cases hd : isD c with
  | false => rfl
  | true => rw [isD_isE hd] at h; cases h
theorem dropWhile_head {p : UInt8 → Bool} {l : List UInt8} {c : UInt8} {t : List UInt8} (h : l.dropWhile p = c :: t) : p c = false := by
  induction l with
  | nil => cases h
  | cons d u ih =>
    rw [List.dropWhile_cons] at h
    split at h
    · exact ih h
    · rename_i hd; injection h with h1 h2; subst h1; simpa using hd
theorem okF_formP (l : List UInt8) (h : okF l = true) : formP l = true := by
  unfold okF at h
  simp only [Bool.and_eq_true, Bool.or_eq_true] at h
  obtain ⟨h1, h2, h3⟩ := h
  have hA : less l = eA l ++ eB l := List.takeWhile_append_dropWhile.symm
  have hW : eA l = whole l ++ pB l := List.takeWhile_append_dropWhile.symm
  have hwd := ((sdig_iff _).1 h2).2
  have hE0 : (eB l).takeWhile isD = [] := by
    cases hb : eB l with
    | nil => rfl
    | cons c t => have := dropWhile_head hb; simp at this; rw [List.takeWhile_cons, isE_isD this]; rfl
  have hEf : formE (eB l) = true := by
    rw [formE_eq]
    cases hb : eB l with
    | nil => rfl
    | cons c t =>
      have hc := dropWhile_head hb
      simp at hc
      rw [hb] at h1
      have hp : pw l = bareP t := by unfold pw; rw [hb]; rfl
      rw [hp] at h1
      simp at h1
      simp [hc, h1]
  have hP0 : (pB l ++ eB l).takeWhile isD = [] := by
    cases hb : pB l with
    | nil => exact hE0
    | cons c t => have := dropWhile_head hb; simp at this; subst this; rfl
  have hless : less l = whole l ++ (pB l ++ eB l) := by rw [hA, hW, List.append_assoc]
  obtain ⟨t1, t2⟩ := takeWhile_dig hwd hP0
  rw [← hless] at t1 t2
  unfold formP
  have hr : rn (less l) ≠ 0 := by
    unfold rn; rw [t1]; intro e; exact ((sdig_iff _).1 h2).1 (List.length_eq_zero_iff.1 e)
  simp only [drop_rn, t2]
  rw [show decide (rn (less l) ≠ 0) = true by simp [hr]]
  simp only [Bool.true_and]
  cases hb : pB l with
  | nil =>
    rw [List.nil_append]
    cases he : eB l with
    | nil => rfl
    | cons c t =>
      have hc := dropWhile_head he
      simp at hc
      have : (c == 46) = false := by
        cases h46 : c == 46 with
        | false => rfl
        | true => have e := (by simpa using h46 : c = 46); subst e; cases hc
      simp only [this, Bool.false_eq_true, if_false]
      rw [← he]; exact hEf
  | cons c t =>
    have hc := dropWhile_head hb
    simp at hc
    subst hc
    have hf : frac l = t := by unfold frac; rw [hb]; rfl
    rw [hb, hf] at h3
    simp at h3
    obtain ⟨u1, u2⟩ := takeWhile_dig ((sdig_iff _).1 h3).2 hE0
    have hr2 : rn (t ++ eB l) ≠ 0 := by
      unfold rn; rw [u1]; intro e; exact ((sdig_iff _).1 h3).1 (List.length_eq_zero_iff.1 e)
    simp only [List.cons_append, BEq.rfl, if_true, u2]
    rw [show decide (rn (t ++ eB l) ≠ 0) = true by simp [hr2], hEf]; rfl
theorem form_eq (l : List UInt8) : formP l = okF l := by
  cases h : okF l with
  | true => exact okF_formP l h
  | false =>
    cases h2 : formP l with
    | false => rfl
    | true => rw [formP_okF l h2] at h; cases h
end Florin
