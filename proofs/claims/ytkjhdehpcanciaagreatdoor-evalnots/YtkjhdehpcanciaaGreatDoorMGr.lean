/- RGram, RGram2, RGram3, RGram4, RGram5, RLink, in one text. -/
import Derived.Test.YtkjhdehpcanciaaGreatDoorMSt
namespace Florin
set_option linter.unusedVariables false
set_option linter.unusedSimpArgs false

theorem sk_idem (l : List UInt8) : sk (sk l) = sk l := by
  unfold sk
  induction l with
  | nil => rfl
  | cons c t ih =>
    rw [List.dropWhile_cons]
    split
    · exact ih
    · rename_i h; rw [List.dropWhile_cons, if_neg h]
theorem sk_blanks (k : Nat) (l : List UInt8) : sk (List.replicate k 32 ++ l) = sk l := by
  induction k with
  | zero => rfl
  | succ k ih => rw [List.replicate_succ, List.cons_append]; exact ih
theorem sk_stop {c : UInt8} (h : c ≠ 32) (t : List UInt8) : sk (c :: t) = c :: t := by
  unfold sk; rw [List.dropWhile_cons, if_neg (by simpa using h)]
/-- Each part begins behind the blanks. -/
theorem tk_sk (g l : List UInt8) : tk g (sk l) = tk g l := by unfold tk; rw [sk_idem]
theorem tkR_sk (g l : List UInt8) : tkR g (sk l) = tkR g l := by unfold tkR; rw [sk_idem]
theorem wd_sk (k : UInt8 → Bool) (l : List UInt8) : wd k (sk l) = wd k l := by unfold wd; rw [sk_idem]
theorem wdR_sk (k : UInt8 → Bool) (l : List UInt8) : wdR k (sk l) = wdR k l := by unfold wdR; rw [sk_idem]
theorem num_sk (n : Nat) (l : List UInt8) : numP n (sk l) = numP n l := by unfold numP; rw [wd_sk, wdR_sk, sk_idem]
theorem range_sk (l : List UInt8) : rangeP (sk l) = rangeP l := by unfold rangeP; rw [num_sk]
theorem ranges_sk (l : List UInt8) : rangesP (sk l) = rangesP l := by unfold rangesP; rw [range_sk]
theorem oper_sk (n : Nat) (l : List UInt8) : operP n (sk l) = operP n l := by unfold operP; rw [wd_sk, wdR_sk, sk_idem]
theorem rel_sk (n : Nat) (l : List UInt8) : relP n (sk l) = relP n l := by unfold relP; rw [oper_sk]
theorem all_sk (n : Nat) (l : List UInt8) : allP n (sk l) = allP n l := by unfold allP; rw [rel_sk]
theorem cond_sk (n : Nat) (l : List UInt8) : condP n (sk l) = condP n l := by unfold condP; rw [all_sk]
theorem mod_sk (l : List UInt8) : modP (sk l) = modP l := by unfold modP; rw [tk_sk, tkR_sk]
theorem sign_sk (l : List UInt8) : signP (sk l) = signP l := by unfold signP; rw [tk_sk, tkR_sk]
theorem cat_sk (s : List Nat) (l : List UInt8) : catP s (sk l) = catP s l := by unfold catP; rw [wd_sk, wdR_sk, sk_idem]

/-- A number's digits. -/
def nuT (n : Nat) : List UInt8 := if n = 0 then [48] else dig n
theorem nuT_dig (n : Nat) : isDig (nuT n) = true := by
  unfold nuT; split
  · rfl
  · exact isDig_dig n
theorem nuT_ne (n : Nat) : nuT n ≠ [] := by
  unfold nuT; split
  · simp
  · rename_i h; rw [Ne, dig_eq_nil]; exact h
theorem nuT_val (n : Nat) : val (nuT n) = n := by
  unfold nuT; split
  · rename_i h; subst h; rfl
  · exact val_dig n
theorem nuT_len {n : Nat} (h : n < 1000000000) : (nuT n).length ≤ 9 := by
  unfold nuT; split
  · decide
  · exact (dig_length_le n 9).2 h
theorem nuT_head (n : Nat) : ¬ (1 < (nuT n).length ∧ (nuT n).head? = some 48) := by
  unfold nuT; split
  · simp
  · intro ⟨_, h2⟩
    cases hd : dig n with
    | nil => rw [hd] at h2; cases h2
    | cons c t => rw [hd] at h2; cases h2; exact dig_head n 48 t hd rfl
/-- Here no byte of a kind stands. -/
def Stops (k : UInt8 → Bool) (l : List UInt8) : Prop := ∀ c t, l = c :: t → k c = false
theorem stops_take {k : UInt8 → Bool} {l : List UInt8} (h : Stops k l) : l.takeWhile k = [] ∧ l.dropWhile k = l := by
  cases l with
  | nil => exact ⟨rfl, rfl⟩
  | cons c t => have := h c t rfl; simp [this]
theorem wd_of {k : UInt8 → Bool} {u r : List UInt8} (hu : ∀ c ∈ u, k c = true) (hs : sk (u ++ r) = u ++ r) (hr : Stops k r) : wd k (u ++ r) = u ∧ wdR k (u ++ r) = r := by
  unfold wd wdR
  rw [hs]
  have := takeWhile_all u r hu
  rw [this.1, this.2, (stops_take hr).1, (stops_take hr).2, List.append_nil]
  exact ⟨rfl, rfl⟩
theorem sk_dig {u r : List UInt8} (hu : isDig u = true) (h0 : u ≠ []) : sk (u ++ r) = u ++ r := by
  cases u with
  | nil => exact absurd rfl h0
  | cons c t =>
    rw [isDig_cons] at hu
    simp only [Bool.and_eq_true] at hu
    exact sk_stop (isD_ne hu.1 (by decide)) _
theorem num_of {n least : Nat} (h : n < 1000000000) (hl : least ≤ n) {r : List UInt8} (hr : Stops isD r) : numP least (nuT n ++ r) = .ok n r := by
  obtain ⟨h1, h2⟩ := wd_of (k := isD) (fun c hc => isDig_mem (nuT_dig n) hc) (sk_dig (nuT_dig n) (nuT_ne n)) hr
  unfold numP
  rw [h1, h2, nuT_val]
  have e1 : (nuT n).isEmpty = false := by cases hh : nuT n with | nil => exact absurd hh (nuT_ne n) | cons => rfl
  rw [if_neg, if_neg, if_neg]
  · omega
  · have := nuT_len h; omega
  · rw [e1]
    simp only [Bool.false_or, Bool.and_eq_true, decide_eq_true_eq, beq_iff_eq]
    exact nuT_head n
/-- A range, written with blanks about its sign. -/
def rngW (g1 g2 : Nat) (two : Bool) (x : Nat × Nat) : List UInt8 := if two then nuT x.1 ++ (List.replicate g1 32 ++ (46 :: 46 :: (List.replicate g2 32 ++ nuT x.2))) else nuT x.1
theorem tk_yes (g l : List UInt8) (k : Nat) (hg : ∀ c t, g = c :: t → c ≠ 32) (h0 : g ≠ []) : tk g (List.replicate k 32 ++ (g ++ l)) = true ∧ tkR g (List.replicate k 32 ++ (g ++ l)) = l := by
  have hs : sk (g ++ l) = g ++ l := by
    cases g with
    | nil => exact absurd rfl h0
    | cons c t => exact sk_stop (hg c t rfl) _
  have hp : pre g (g ++ l) = true := List.isPrefixOf_iff_prefix.2 (List.prefix_append g l)
  unfold tk tkR
  rw [sk_blanks, hs, hp]
  exact ⟨rfl, by rw [if_pos rfl, List.drop_left]⟩
theorem stops_blank (k : Nat) (c : UInt8) (l : List UInt8) (h : isD c = false) : Stops isD (List.replicate k 32 ++ (c :: l)) := by
  intro d t hd
  cases k with
  | zero => cases hd; exact h
  | succ k => rw [List.replicate_succ] at hd; cases hd; decide
theorem range_of (g1 g2 : Nat) (two : Bool) (x : Nat × Nat) (h1 : x.1 ≤ x.2) (h2 : x.2 < 1000000000) (ht : two = false → x.1 = x.2) (r : List UInt8) (hr : Stops isD r) (hd : tk [46, 46] r = false) :
    ∃ r', rangeP (rngW g1 g2 two x ++ r) = .ok x r' ∧ sk r' = sk r := by
  obtain ⟨lo, hi⟩ := x
  simp only at h1 h2 ht
  cases two with
  | false =>
    have := ht rfl; subst this
    refine ⟨tkR [46, 46] r, ?_, ?_⟩
    · unfold rangeP rngW
      simp only [Bool.false_eq_true, if_false]
      rw [num_of h2 (Nat.zero_le _) hr]
      simp only
      rw [if_neg (by rw [hd]; decide)]
    · unfold tkR; rw [if_neg (by rw [show pre [46, 46] (sk r) = false from hd]; decide), sk_idem]
  | true =>
    obtain ⟨a, b⟩ := tk_yes [46, 46] (List.replicate g2 32 ++ nuT hi ++ r) g1 (by intro c t h; cases h; decide) (by simp)
    refine ⟨r, ?_, rfl⟩
    have e : rngW g1 g2 true (lo, hi) ++ r = nuT lo ++ (List.replicate g1 32 ++ ([46, 46] ++ (List.replicate g2 32 ++ nuT hi ++ r))) := by unfold rngW; simp
    have hst : Stops isD (List.replicate g1 32 ++ ([46, 46] ++ (List.replicate g2 32 ++ nuT hi ++ r))) := stops_blank g1 46 _ (by decide)
    unfold rangeP
    rw [e, num_of (by omega) (Nat.zero_le _) hst]
    simp only
    rw [if_pos a, b, List.append_assoc, ← num_sk, sk_blanks, num_sk, num_of h2 h1 hr]
/-- The bytes 32. -/
abbrev bl (k : Nat) : List UInt8 := List.replicate k 32
theorem tk_eq {g l m : List UInt8} (h : sk l = sk m) : tk g l = tk g m ∧ tkR g l = tkR g m := by
  rw [← tk_sk g l, ← tkR_sk g l, h, tk_sk, tkR_sk]; exact ⟨rfl, rfl⟩
theorem tkR_no {g l : List UInt8} (h : tk g l = false) : sk (tkR g l) = sk l := by
  unfold tkR; rw [if_neg (by rw [show pre g (sk l) = false from h]; decide), sk_idem]
/-- Further ranges, each behind a comma. -/
def tailW (h : Nat) : List ((Nat × Nat) × Bool) → List UInt8
  | [] => []
  | x :: xs => bl h ++ (44 :: (bl h ++ (rngW h h x.2 x.1 ++ tailW h xs)))
def RngOK (x : (Nat × Nat) × Bool) : Prop := x.1.1 ≤ x.1.2 ∧ x.1.2 < 1000000000 ∧ (x.2 = false → x.1.1 = x.1.2)
structure EndR (r : List UInt8) : Prop where
  dig : Stops isD r
  dots : tk [46, 46] r = false
  comma : tk [44] r = false
theorem pre_head {c : UInt8} {l g t : List UInt8} {d : UInt8} (hl : sk l = c :: t) (hd : d ≠ c) : tk (d :: g) l = false := by
  unfold tk pre
  rw [hl]
  show (d == c && g.isPrefixOf t) = false
  have : (d == c) = false := by simpa using hd
  rw [this]; rfl
theorem sk_bl_cons (h : Nat) {c : UInt8} (hc : c ≠ 32) (t : List UInt8) : sk (bl h ++ c :: t) = c :: t := by rw [sk_blanks, sk_stop hc]
theorem end_tail (h : Nat) (xs : List ((Nat × Nat) × Bool)) (r : List UInt8) (hr : EndR r) : Stops isD (tailW h xs ++ r) ∧ tk [46, 46] (tailW h xs ++ r) = false := by
  cases xs with
  | nil => exact ⟨hr.dig, hr.dots⟩
  | cons x xs =>
    have e : tailW h (x :: xs) ++ r = bl h ++ (44 :: (bl h ++ (rngW h h x.2 x.1 ++ tailW h xs) ++ r)) := by rw [tailW]; simp
    rw [e]
    exact ⟨stops_blank h 44 _ (by decide), pre_head (sk_bl_cons h (by decide) _) (by decide)⟩
theorem rangesL_of (h : Nat) : ∀ (xs : List ((Nat × Nat) × Bool)) (acc : List (Nat × Nat)) (l r : List UInt8) (k : Nat), l.length < k → (∀ x ∈ xs, RngOK x) → EndR r → sk l = sk (tailW h xs ++ r) → ∃ r', rangesL k acc l = .ok (acc ++ xs.map (·.1)) r' ∧ sk r' = sk r
  | [], acc, l, r, k, hk, _, hr, hl => by
    obtain ⟨k, rfl⟩ : ∃ j, k = j + 1 := ⟨k - 1, by omega⟩
    have hl' : sk l = sk r := hl
    have ht : tk [44] l = false := by rw [(tk_eq hl').1]; exact hr.comma
    refine ⟨tkR [44] l, ?_, ?_⟩
    · unfold rangesL; rw [if_neg (by rw [ht]; decide)]; simp
    · rw [tkR_no ht]; exact hl'
  | x :: xs, acc, l, r, k, hk, hx, hr, hl => by
    obtain ⟨k, rfl⟩ : ∃ j, k = j + 1 := ⟨k - 1, by omega⟩
    have e : tailW h (x :: xs) ++ r = bl h ++ ([44] ++ (bl h ++ (rngW h h x.2 x.1 ++ (tailW h xs ++ r)))) := by rw [tailW]; simp
    obtain ⟨t1, t2⟩ := tk_yes [44] (bl h ++ (rngW h h x.2 x.1 ++ (tailW h xs ++ r))) h (by intro c t hh; cases hh; decide) (by simp)
    rw [e] at hl
    obtain ⟨e1, e2⟩ := tk_eq (g := [44]) hl
    rw [t1] at e1
    rw [t2] at e2
    obtain ⟨o1, o2, o3⟩ := hx x (List.Mem.head _)
    obtain ⟨d1, d2⟩ := end_tail h xs r hr
    obtain ⟨r1, p1, p2⟩ := range_of h h x.2 x.1 o1 o2 o3 (tailW h xs ++ r) d1 d2
    have hlt := tkR_lt e1 (by simp)
    have hle := range_len (l := tkR [44] l) (r := r1) (x := x.1) (by rw [e2, ← range_sk, sk_blanks, range_sk]; exact p1)
    obtain ⟨r', q1, q2⟩ := rangesL_of h xs (acc ++ [x.1]) r1 r k (by omega) (fun y hy => hx y (List.Mem.tail _ hy)) hr p2
    refine ⟨r', ?_, q2⟩
    unfold rangesL
    rw [if_pos e1, e2, ← range_sk, sk_blanks, range_sk, p1]
    simp only
    rw [q1]; simp
/-- Ranges, with commas between. -/
def rngsW (h : Nat) : List ((Nat × Nat) × Bool) → List UInt8
  | [] => []
  | x :: xs => rngW h h x.2 x.1 ++ tailW h xs
theorem ranges_of (h : Nat) (xs : List ((Nat × Nat) × Bool)) (h0 : xs ≠ []) (hx : ∀ x ∈ xs, RngOK x) (r : List UInt8) (hr : EndR r) : ∃ r', rangesP (rngsW h xs ++ r) = .ok (xs.map (·.1)) r' ∧ sk r' = sk r := by
  cases xs with
  | nil => exact absurd rfl h0
  | cons x xs =>
    obtain ⟨o1, o2, o3⟩ := hx x (List.Mem.head _)
    obtain ⟨d1, d2⟩ := end_tail h xs r hr
    obtain ⟨r1, p1, p2⟩ := range_of h h x.2 x.1 o1 o2 o3 (tailW h xs ++ r) d1 d2
    obtain ⟨r', q1, q2⟩ := rangesL_of h xs [x.1] r1 r (r1.length + 1) (by omega) (fun y hy => hx y (List.Mem.tail _ hy)) hr p2
    refine ⟨r', ?_, q2⟩
    unfold rangesP rngsW
    rw [List.append_assoc, p1]
    simp only
    rw [q1]; simp
/-- A relation's text; g: the blanks between its signs, h: those about commas and dots; ts: which ranges are written with both numbers. -/
def relW (g h : Nat) (op : UInt8) (md : Nat) (nt : Bool) (xs : List ((Nat × Nat) × Bool)) : List UInt8 :=
  op :: (bl g ++ ((if md = 0 then [] else 37 :: (bl g ++ (nuT md ++ bl g))) ++ ((if nt then [33, 61] else [61]) ++ (bl g ++ rngsW h xs))))
theorem isL_op {c : UInt8} (h : opsB.contains c = true) : isL c = true ∧ c ≠ 32 := by
  have hm : c ∈ opsB := by simpa using h
  simp only [opsB, List.mem_cons, List.not_mem_nil, or_false] at hm
  rcases hm with rfl | rfl | rfl | rfl | rfl | rfl | rfl | rfl <;> decide
theorem stops_bl {k : UInt8 → Bool} (h32 : k 32 = false) (n : Nat) (c : UInt8) (l : List UInt8) (h : k c = false) : Stops k (bl n ++ (c :: l)) := by
  intro d t hd
  cases n with
  | zero => cases hd; exact h
  | succ n => rw [bl, List.replicate_succ] at hd; cases hd; exact h32
theorem oper_of {n : Nat} (hn : n ≠ 200) {op : UInt8} (ho : opsB.contains op = true) {r : List UInt8} (hr : Stops isL r) : operP n (op :: r) = .ok op r := by
  obtain ⟨a, b⟩ := isL_op ho
  obtain ⟨h1, h2⟩ := wd_of (k := isL) (u := [op]) (r := r) (by intro c hc; simp at hc; subst hc; exact a) (sk_stop b r) hr
  have h1' : wd isL (op :: r) = [op] := h1
  have h2' : wdR isL (op :: r) = r := h2
  unfold operP
  rw [h1', h2']
  simp only
  rw [if_pos ho, if_neg hn]
theorem sign_of (nt : Bool) (l : List UInt8) : ∀ m, sk m = sk ((if nt then [33, 61] else [61]) ++ l) → signP m = .ok nt l := by
  intro m hm
  rw [← sign_sk, hm, sign_sk]
  cases nt with
  | true =>
    obtain ⟨a, b⟩ := tk_yes [33, 61] l 0 (by intro c t h; cases h; decide) (by simp)
    simp only [List.replicate_zero, List.nil_append] at a b
    simp only [if_true]
    unfold signP; rw [if_pos a, b]
  | false =>
    obtain ⟨a, b⟩ := tk_yes [61] l 0 (by intro c t h; cases h; decide) (by simp)
    simp only [List.replicate_zero, List.nil_append] at a b
    have hno : tk [33, 61] ([61] ++ l) = false := pre_head (sk_stop (by decide) l) (by decide)
    have hsk := tkR_no hno
    simp only [Bool.false_eq_true, if_false]
    unfold signP
    rw [if_neg (by rw [hno]; decide)]
    rw [(tk_eq hsk).1, (tk_eq hsk).2, if_pos a, b]
theorem mod_of (g md : Nat) (hm : md < 1000000000) (c : UInt8) (t : List UInt8) (hc : c ≠ 32) (hd : isD c = false) (hp : c ≠ 37) : ∀ l, sk l = sk ((if md = 0 then [] else 37 :: (bl g ++ (nuT md ++ bl g))) ++ (c :: t)) → ∃ r, modP l = .ok md r ∧ sk r = c :: t := by
  intro l hl
  rw [← mod_sk, hl, mod_sk]
  by_cases h0 : md = 0
  · subst h0
    rw [if_pos rfl, List.nil_append]
    have hno : tk [37] (c :: t) = false := pre_head (sk_stop hc t) (fun e => hp e.symm)
    refine ⟨tkR [37] (c :: t), ?_, ?_⟩
    · unfold modP; rw [if_neg (by rw [hno]; decide)]
    · rw [tkR_no hno, sk_stop hc]
  · rw [if_neg h0]
    obtain ⟨a, b⟩ := tk_yes [37] (bl g ++ (nuT md ++ (bl g ++ c :: t))) 0 (by intro c t h; cases h; decide) (by simp)
    simp only [List.replicate_zero, List.nil_append] at a b
    have e : 37 :: (bl g ++ (nuT md ++ bl g)) ++ c :: t = [37] ++ (bl g ++ (nuT md ++ (bl g ++ c :: t))) := by simp
    refine ⟨bl g ++ c :: t, ?_, sk_bl_cons g hc t⟩
    rw [e]
    unfold modP
    rw [if_pos a, b, ← num_sk, sk_blanks, num_sk]
    exact num_of hm (by omega) (stops_bl (by decide) g c t hd)
theorem rel_of (n g h : Nat) (hn : n ≠ 200) (op : UInt8) (ho : opsB.contains op = true) (md : Nat) (hm : md < 1000000000) (nt : Bool) (xs : List ((Nat × Nat) × Bool)) (h0 : xs ≠ []) (hx : ∀ x ∈ xs, RngOK x) (r : List UInt8) (hr : EndR r) :
    ∃ r', relP n (relW g h op md nt xs ++ r) = .ok ⟨op, md, nt, xs.map (·.1)⟩ r' ∧ sk r' = sk r := by
  obtain ⟨r', q1, q2⟩ := ranges_of h xs h0 hx r hr
  obtain ⟨c, t, hct, hc32, hcd, hc37, hcl⟩ : ∃ (c : UInt8) (t : List UInt8), (if nt then ([33, 61] : List UInt8) else [61]) ++ (bl g ++ (rngsW h xs ++ r)) = c :: t ∧ c ≠ 32 ∧ isD c = false ∧ c ≠ 37 ∧ isL c = false := by
    cases nt with
    | true => exact ⟨33, _, rfl, by decide, by decide, by decide, by decide⟩
    | false => exact ⟨61, _, rfl, by decide, by decide, by decide, by decide⟩
  have e : relW g h op md nt xs ++ r = op :: (bl g ++ ((if md = 0 then [] else 37 :: (bl g ++ (nuT md ++ bl g))) ++ (c :: t))) := by
    unfold relW; rw [← hct]; simp
  have hst : Stops isL (bl g ++ ((if md = 0 then [] else 37 :: (bl g ++ (nuT md ++ bl g))) ++ (c :: t))) := by
    by_cases h0 : md = 0
    · rw [if_pos h0, List.nil_append]; exact stops_bl (by decide) g c t hcl
    · rw [if_neg h0, List.cons_append]; exact stops_bl (by decide) g 37 _ (by decide)
  obtain ⟨r1, m1, m2⟩ := mod_of g md hm c t hc32 hcd hc37 (bl g ++ ((if md = 0 then [] else 37 :: (bl g ++ (nuT md ++ bl g))) ++ (c :: t))) (sk_blanks g _)
  have hs := sign_of nt (bl g ++ (rngsW h xs ++ r)) r1 (by rw [m2, hct, sk_stop hc32])
  refine ⟨r', ?_, q2⟩
  unfold relP
  rw [e, oper_of hn ho hst]
  simp only
  rw [m1]
  simp only
  rw [hs]
  simp only
  rw [← ranges_sk, sk_blanks, ranges_sk, q1]
/-! words between relations -/
theorem wd_eq {k : UInt8 → Bool} {l m : List UInt8} (h : sk l = sk m) : wd k l = wd k m ∧ wdR k l = wdR k m := by
  rw [← wd_sk k l, ← wdR_sk k l, h, wd_sk, wdR_sk]; exact ⟨rfl, rfl⟩
theorem tw_yes {g l t : List UInt8} {c : UInt8} (hg : ∀ x ∈ g, isL x = true) (h0 : g ≠ []) (hc : isL c = false) (hl : sk l = g ++ (c :: t)) : tw g l = true ∧ twR g l = c :: t := by
  have hs : sk (g ++ (c :: t)) = g ++ (c :: t) := by rw [← hl, sk_idem]
  obtain ⟨h1, h2⟩ := wd_of (k := isL) hg hs (r := c :: t) (by intro d u hd; cases hd; exact hc)
  obtain ⟨e1, e2⟩ := wd_eq (k := isL) (l := l) (m := g ++ (c :: t)) (by rw [hl, hs])
  unfold tw twR
  rw [e1, e2, h1, h2]
  simp
theorem tw_no {g l : List UInt8} (h : wd isL l ≠ g) : tw g l = false ∧ sk (twR g l) = sk l := by
  have hb : (wd isL l == g) = false := by simpa using h
  unfold tw twR
  rw [hb]
  exact ⟨rfl, by simp [sk_idem]⟩
/-- A relation, as it is written. -/
structure RW where
  g : Nat
  h : Nat
  op : UInt8
  md : Nat
  nt : Bool
  xs : List ((Nat × Nat) × Bool)
def RW.t (y : RW) : List UInt8 := relW y.g y.h y.op y.md y.nt y.xs
def RW.v (y : RW) : RelT := ⟨y.op, y.md, y.nt, y.xs.map (·.1)⟩
structure RW.OK (y : RW) : Prop where
  op : opsB.contains y.op = true
  md : y.md < 1000000000
  ne : y.xs ≠ []
  xs : ∀ x ∈ y.xs, RngOK x
def tailA : List RW → List UInt8
  | [] => []
  | y :: ys => 32 :: 97 :: 110 :: 100 :: 32 :: (y.t ++ tailA ys)
def allW : List RW → List UInt8
  | [] => []
  | y :: ys => y.t ++ tailA ys
structure EndA (r : List UInt8) : Prop extends EndR r where
  nand : wd isL r ≠ [97, 110, 100]
theorem end_word {c : UInt8} {t : List UInt8} (h1 : c ≠ 46) (h2 : c ≠ 44) (hc : c ≠ 32) : EndR (32 :: c :: t) := by
  have hs : sk (32 :: c :: t) = c :: t := by rw [show (32 :: c :: t) = bl 1 ++ (c :: t) from rfl]; exact sk_bl_cons 1 hc t
  exact ⟨by intro d u hd; cases hd; decide, pre_head hs (fun e => h1 e.symm), pre_head hs (fun e => h2 e.symm)⟩
theorem end_tailA (ys : List RW) (r : List UInt8) (hr : EndR r) : EndR (tailA ys ++ r) := by
  cases ys with
  | nil => exact hr
  | cons y ys => exact end_word (by decide) (by decide) (by decide)
theorem allL_of : ∀ (ys : List RW) (acc : List RelT) (l r : List UInt8) (k n : Nat), l.length < k → n + ys.length ≤ 200 → (∀ y ∈ ys, y.OK) → EndA r → sk l = sk (tailA ys ++ r) → ∃ r', allL k n acc l = .ok (acc ++ ys.map RW.v) r' ∧ sk r' = sk r
  | [], acc, l, r, k, n, hk, _, _, hr, hl => by
    obtain ⟨k, rfl⟩ : ∃ j, k = j + 1 := ⟨k - 1, by omega⟩
    have hl' : sk l = sk r := hl
    obtain ⟨t1, t2⟩ := tw_no (g := [97, 110, 100]) (l := l) (by rw [(wd_eq hl').1]; exact hr.nand)
    refine ⟨twR [97, 110, 100] l, ?_, by rw [t2]; exact hl'⟩
    unfold allL; rw [if_neg (by rw [t1]; decide)]; simp
  | y :: ys, acc, l, r, k, n, hk, hn, hy, hr, hl => by
    obtain ⟨k, rfl⟩ : ∃ j, k = j + 1 := ⟨k - 1, by omega⟩
    have e : tailA (y :: ys) ++ r = 32 :: ([97, 110, 100] ++ (32 :: (y.t ++ (tailA ys ++ r)))) := by rw [tailA]; simp
    have hs : sk l = [97, 110, 100] ++ (32 :: (y.t ++ (tailA ys ++ r))) := by
      rw [hl, e, show ∀ m : List UInt8, sk (32 :: m) = sk m from fun m => rfl]
      exact sk_stop (by decide) _
    obtain ⟨t1, t2⟩ := tw_yes (by decide) (by simp) (by decide) hs
    have o := hy y (List.Mem.head _)
    obtain ⟨r1, p1, p2⟩ := rel_of n y.g y.h (by simp at hn; omega) y.op o.op y.md o.md y.nt y.xs o.ne o.xs (tailA ys ++ r) (end_tailA ys r hr.toEndR)
    have hq : relP n (twR [97, 110, 100] l) = .ok y.v r1 := by rw [t2, ← rel_sk, show ∀ m : List UInt8, sk (32 :: m) = sk m from fun m => rfl, rel_sk]; exact p1
    have hlt := twR_lt t1 (by simp)
    have hle := rel_len hq
    obtain ⟨r', q1, q2⟩ := allL_of ys (acc ++ [y.v]) r1 r k (n + 1) (by omega) (by simp at hn; omega) (fun z hz => hy z (List.Mem.tail _ hz)) hr p2
    refine ⟨r', ?_, q2⟩
    unfold allL
    rw [if_pos t1, hq]
    simp only
    rw [q1]; simp
theorem all_of (n : Nat) (ys : List RW) (h0 : ys ≠ []) (hn : n + ys.length ≤ 200) (hy : ∀ y ∈ ys, y.OK) (r : List UInt8) (hr : EndA r) : ∃ r', allP n (allW ys ++ r) = .ok (ys.map RW.v) r' ∧ sk r' = sk r := by
  cases ys with
  | nil => exact absurd rfl h0
  | cons y ys =>
    have o := hy y (List.Mem.head _)
    obtain ⟨r1, p1, p2⟩ := rel_of n y.g y.h (by simp at hn; omega) y.op o.op y.md o.md y.nt y.xs o.ne o.xs (tailA ys ++ r) (end_tailA ys r hr.toEndR)
    obtain ⟨r', q1, q2⟩ := allL_of ys [y.v] r1 r (r1.length + 1) (n + 1) (by omega) (by simp at hn; omega) (fun z hz => hy z (List.Mem.tail _ hz)) hr p2
    refine ⟨r', ?_, q2⟩
    have hq : relP n (y.t ++ (tailA ys ++ r)) = .ok y.v r1 := p1
    unfold allP allW
    rw [List.append_assoc, hq]
    simp only
    rw [q1]; simp
/-- Conditions: alls with or between them, each with so many blanks more behind it. -/
def tailC : List (List RW × Nat) → List UInt8
  | [] => []
  | y :: ys => 32 :: 111 :: 114 :: (bl (y.2 + 1) ++ (allW y.1 ++ tailC ys))
def condW : List (List RW × Nat) → List UInt8
  | [] => []
  | y :: ys => allW y.1 ++ tailC ys
def nRel (ys : List (List RW × Nat)) : Nat := (ys.map fun y => y.1.length).sum
structure EndC (r : List UInt8) : Prop extends EndA r where
  nor : wd isL r ≠ [111, 114]
theorem end_tailC (ys : List (List RW × Nat)) (r : List UInt8) (hr : EndA r) : EndA (tailC ys ++ r) := by
  cases ys with
  | nil => exact hr
  | cons y ys =>
    have e : tailC (y :: ys) ++ r = 32 :: ([111, 114] ++ (32 :: (bl y.2 ++ (allW y.1 ++ tailC ys) ++ r))) := by rw [tailC, bl, List.replicate_succ]; simp
    refine ⟨by rw [e]; exact end_word (by decide) (by decide) (by decide), ?_⟩
    have hs : sk ([111, 114] ++ (32 :: (bl y.2 ++ (allW y.1 ++ tailC ys) ++ r))) = [111, 114] ++ (32 :: (bl y.2 ++ (allW y.1 ++ tailC ys) ++ r)) := sk_stop (by decide) _
    obtain ⟨h1, _⟩ := wd_of (k := isL) (u := [111, 114]) (by decide) hs (by intro d u hd; cases hd; decide)
    rw [e, (wd_eq (k := isL) (l := 32 :: ([111, 114] ++ (32 :: (bl y.2 ++ (allW y.1 ++ tailC ys) ++ r)))) rfl).1, show ∀ m : List UInt8, wd isL (32 :: m) = wd isL m from fun m => rfl, h1]
    decide
theorem condL_of : ∀ (ys : List (List RW × Nat)) (acc : List (List RelT)) (l r : List UInt8) (k n : Nat), l.length < k → n + nRel ys ≤ 200 → (∀ y ∈ ys, y.1 ≠ [] ∧ ∀ z ∈ y.1, z.OK) → EndC r → sk l = sk (tailC ys ++ r) → ∃ r', condL k n acc l = .ok (acc ++ ys.map fun y => y.1.map RW.v) r' ∧ sk r' = sk r
  | [], acc, l, r, k, n, hk, _, _, hr, hl => by
    obtain ⟨k, rfl⟩ : ∃ j, k = j + 1 := ⟨k - 1, by omega⟩
    have hl' : sk l = sk r := hl
    obtain ⟨t1, t2⟩ := tw_no (g := [111, 114]) (l := l) (by rw [(wd_eq hl').1]; exact hr.nor)
    refine ⟨twR [111, 114] l, ?_, by rw [t2]; exact hl'⟩
    unfold condL; rw [if_neg (by rw [t1]; decide)]; simp
  | y :: ys, acc, l, r, k, n, hk, hn, hy, hr, hl => by
    obtain ⟨k, rfl⟩ : ∃ j, k = j + 1 := ⟨k - 1, by omega⟩
    have e : tailC (y :: ys) ++ r = 32 :: ([111, 114] ++ (32 :: (bl y.2 ++ (allW y.1 ++ (tailC ys ++ r))))) := by rw [tailC, bl, List.replicate_succ]; simp
    have hs : sk l = [111, 114] ++ (32 :: (bl y.2 ++ (allW y.1 ++ (tailC ys ++ r)))) := by
      rw [hl, e, show ∀ m : List UInt8, sk (32 :: m) = sk m from fun m => rfl]
      exact sk_stop (by decide) _
    obtain ⟨t1, t2⟩ := tw_yes (by decide) (by simp) (by decide) hs
    obtain ⟨o1, o2⟩ := hy y (List.Mem.head _)
    have hnr : nRel (y :: ys) = y.1.length + nRel ys := by simp [nRel]
    obtain ⟨r1, p1, p2⟩ := all_of n y.1 o1 (by omega) o2 (tailC ys ++ r) (end_tailC ys r hr.toEndA)
    have hq : allP n (twR [111, 114] l) = .ok (y.1.map RW.v) r1 := by rw [t2, ← all_sk, show (32 :: (bl y.2 ++ (allW y.1 ++ (tailC ys ++ r)))) = bl (y.2 + 1) ++ (allW y.1 ++ (tailC ys ++ r)) from rfl, sk_blanks, all_sk]; exact p1
    have hlt := twR_lt t1 (by simp)
    have hle := all_len hq
    obtain ⟨r', q1, q2⟩ := condL_of ys (acc ++ [y.1.map RW.v]) r1 r k (n + (y.1.map RW.v).length) (by omega) (by rw [List.length_map]; omega) (fun z hz => hy z (List.Mem.tail _ hz)) hr p2
    refine ⟨r', ?_, q2⟩
    unfold condL
    rw [if_pos t1, hq]
    simp only
    rw [q1]; simp
theorem cond_of (n : Nat) (ys : List (List RW × Nat)) (h0 : ys ≠ []) (hn : n + nRel ys ≤ 200) (hy : ∀ y ∈ ys, y.1 ≠ [] ∧ ∀ z ∈ y.1, z.OK) (r : List UInt8) (hr : EndC r) : ∃ r', condP n (condW ys ++ r) = .ok (ys.map fun y => y.1.map RW.v) r' ∧ sk r' = sk r := by
  cases ys with
  | nil => exact absurd rfl h0
  | cons y ys =>
    obtain ⟨o1, o2⟩ := hy y (List.Mem.head _)
    have hnr : nRel (y :: ys) = y.1.length + nRel ys := by simp [nRel]
    obtain ⟨r1, p1, p2⟩ := all_of n y.1 o1 (by omega) o2 (tailC ys ++ r) (end_tailC ys r hr.toEndA)
    obtain ⟨r', q1, q2⟩ := condL_of ys [y.1.map RW.v] r1 r (r1.length + 1) (n + (y.1.map RW.v).length) (by omega) (by rw [List.length_map]; omega) (fun z hz => hy z (List.Mem.tail _ hz)) hr p2
    refine ⟨r', ?_, q2⟩
    unfold condP condW
    rw [List.append_assoc, p1]
    simp only
    rw [q1]; simp
end Florin

namespace Florin
set_option linter.unusedVariables false
set_option linter.unusedSimpArgs false

theorem rule_sk (s : List Nat) (n : Nat) (l : List UInt8) : ruleP s n (sk l) = ruleP s n l := by unfold ruleP; rw [cat_sk]
theorem smp_eq {l m : List UInt8} (h : sk l = sk m) : smpP l = smpP m ∧ smpR l = smpR m := by unfold smpP smpR; rw [h]; exact ⟨rfl, rfl⟩
/-- What stands behind a condition: samples, a semicolon, or nothing. -/
structure Behind (X : List UInt8) : Prop where
  head : ∀ c t, X = c :: t → c = 32 ∨ c = 64 ∨ c = 59
  skip : sk X = [] ∨ ∃ c t, sk X = c :: t ∧ (c = 64 ∨ c = 59)
theorem Behind.end {X : List UInt8} (h : Behind X) : EndC X := by
  have hw : wd isL X = [] := by
    unfold wd
    rcases h.skip with h0 | ⟨c, t, h1, h2⟩
    · rw [h0]; rfl
    · rw [h1]; rcases h2 with rfl | rfl <;> rfl
  have ht : ∀ d g, d ≠ 64 → d ≠ 59 → tk (d :: g) X = false := by
    intro d g a b
    rcases h.skip with h0 | ⟨c, t, h1, h2⟩
    · unfold tk pre; rw [h0]; rfl
    · exact pre_head h1 (by rcases h2 with rfl | rfl; exact a; exact b)
  refine ⟨⟨⟨?_, ht _ _ (by decide) (by decide), ht _ _ (by decide) (by decide)⟩, by rw [hw]; simp⟩, by rw [hw]; simp⟩
  intro c t hc
  rcases h.head c t hc with rfl | rfl | rfl <;> decide
/-- A rule, as it is written: q blanks ahead of the colon, a behind it, b ahead of the samples, e behind them. -/
structure UW where
  cat : Nat
  q : Nat
  a : Nat
  c : List (List RW × Nat)
  b : Nat
  s : List UInt8
  e : Nat
def wordW (c : Nat) : List UInt8 := wordB.getD c []
def UW.t (x : UW) : List UInt8 := wordW x.cat ++ (bl x.q ++ (58 :: (bl x.a ++ (condW x.c ++ (bl x.b ++ (x.s ++ bl x.e))))))
def UW.v (x : UW) : RuleT := ⟨x.cat, x.c.map fun y => y.1.map RW.v, x.s⟩
structure SmpOK (s : List UInt8) : Prop where
  head : s = [] ∨ ∃ t, s = 64 :: t
  semi : ∀ c ∈ s, (c != 59) = true
  last : sk s.reverse = s.reverse
structure UW.OK (x : UW) : Prop where
  cat : x.cat < 6
  some : x.cat = 5 ↔ x.c = []
  rels : ∀ y ∈ x.c, y.1 ≠ [] ∧ ∀ z ∈ y.1, z.OK
  smp : SmpOK x.s
theorem word_facts : ∀ c, c < 6 → (∀ x ∈ wordW c, isL x = true) ∧ catB (wordW c) = c ∧ sk (wordW c) = wordW c ∧ wordW c ≠ [] := by decide
theorem sk_app {u r : List UInt8} (h : sk u = u) (h0 : u ≠ []) : sk (u ++ r) = u ++ r := by
  cases u with
  | nil => exact absurd rfl h0
  | cons c t =>
    have hc : c ≠ 32 := by
      intro e; subst e
      have h1 : sk (32 :: t) = sk t := rfl
      have h2 := sk_le t
      rw [h1] at h
      rw [h] at h2
      simp only [List.length_cons] at h2
      omega
    exact sk_stop hc _
theorem cat_of {seen : List Nat} {c : Nat} (hc : c < 6) (hs : seen.contains c = false) {r : List UInt8} (hr : Stops isL r) : catP seen (wordW c ++ r) = .ok c r := by
  obtain ⟨f1, f2, f3, f4⟩ := word_facts c hc
  obtain ⟨h1, h2⟩ := wd_of (k := isL) f1 (sk_app f3 f4) hr
  unfold catP
  rw [h1, h2, f2, if_neg (by omega), if_neg (by rw [hs]; decide)]
/-- Behind a rule: nothing, or a semicolon. -/
def Semi (r : List UInt8) : Prop := r = [] ∨ ∃ t, r = 59 :: t
theorem semi_sk {r : List UInt8} (h : Semi r) : sk r = r := by
  rcases h with rfl | ⟨t, rfl⟩
  · rfl
  · exact sk_stop (by decide) t
theorem behind_semi {r : List UInt8} (h : Semi r) : Behind r := by
  refine ⟨?_, ?_⟩
  · rcases h with rfl | ⟨t, rfl⟩
    · intro c t h; cases h
    · intro c u h; cases h; exact .inr (.inr rfl)
  · rw [semi_sk h]
    rcases h with rfl | ⟨t, rfl⟩
    · exact .inl rfl
    · exact .inr ⟨_, _, rfl, .inr rfl⟩
theorem behind_bl {X : List UInt8} (k : Nat) (h : Behind X) : Behind (bl k ++ X) := by
  refine ⟨?_, by rw [sk_blanks]; exact h.skip⟩
  intro c t hc
  cases k with
  | zero => exact h.head c t hc
  | succ k => rw [bl, List.replicate_succ] at hc; cases hc; exact .inl rfl
theorem behind_smp {s X : List UInt8} (hs : SmpOK s) (h : Behind X) : Behind (s ++ X) := by
  rcases hs.head with rfl | ⟨t, rfl⟩
  · exact h
  · refine ⟨?_, .inr ⟨64, t ++ X, sk_stop (by decide) _, .inl rfl⟩⟩
    intro c u hc; cases hc; exact .inr (.inl rfl)
theorem rtB_bl {s : List UInt8} (k : Nat) (h : sk s.reverse = s.reverse) : rtB (s ++ bl k) = s := by
  show (sk (s ++ bl k).reverse).reverse = s
  rw [List.reverse_append, bl, List.reverse_replicate, sk_blanks, h, List.reverse_reverse]
theorem smp_of {s r : List UInt8} (b e : Nat) (hs : SmpOK s) (hr : Semi r) : smpP (bl b ++ (s ++ (bl e ++ r))) = s ∧ smpR (bl b ++ (s ++ (bl e ++ r))) = r := by
  have hst : (r.takeWhile fun c => c != 59) = [] ∧ (r.dropWhile fun c => c != 59) = r := by
    rcases hr with rfl | ⟨t, rfl⟩ <;> exact ⟨rfl, rfl⟩
  unfold smpP smpR
  rw [sk_blanks]
  rcases hs.head with h0 | ⟨t, h1⟩
  · subst h0
    rw [List.nil_append, sk_blanks, semi_sk hr]
    have : pre [64] r = false := by rcases hr with rfl | ⟨t, rfl⟩ <;> rfl
    rw [this]; exact ⟨rfl, rfl⟩
  · have hk : sk (s ++ (bl e ++ r)) = s ++ (bl e ++ r) := by rw [h1]; exact sk_stop (by decide) _
    have hp : pre [64] (s ++ (bl e ++ r)) = true := by rw [h1]; simp [pre, List.isPrefixOf]
    rw [hk, hp, if_pos rfl, if_pos rfl]
    have hall : ∀ c ∈ s ++ bl e, (c != 59) = true := by
      intro c hc
      rcases List.mem_append.1 hc with h | h
      · exact hs.semi c h
      · rw [List.eq_of_mem_replicate h]; decide
    have := takeWhile_all (p := fun c => c != 59) (s ++ bl e) r hall
    rw [List.append_assoc] at this
    rw [this.1, this.2, hst.1, hst.2, List.append_nil, rtB_bl e hs.last]
    exact ⟨rfl, rfl⟩
theorem rule_of (x : UW) (hx : x.OK) (seen : List Nat) (n : Nat) (hs : seen.contains x.cat = false) (hn : n + nRel x.c ≤ 200) (r : List UInt8) (hr : Semi r) : ruleP seen n (x.t ++ r) = .ok x.v r := by
  have e : x.t ++ r = wordW x.cat ++ (bl x.q ++ ([58] ++ (bl x.a ++ (condW x.c ++ (bl x.b ++ (x.s ++ (bl x.e ++ r))))))) := by unfold UW.t; simp
  have hst : Stops isL (bl x.q ++ ([58] ++ (bl x.a ++ (condW x.c ++ (bl x.b ++ (x.s ++ (bl x.e ++ r))))))) := stops_bl (by decide) _ 58 _ (by decide)
  obtain ⟨t1, t2⟩ := tk_yes [58] (bl x.a ++ (condW x.c ++ (bl x.b ++ (x.s ++ (bl x.e ++ r))))) x.q (by intro c t h; cases h; decide) (by simp)
  have hB : Behind (bl x.b ++ (x.s ++ (bl x.e ++ r))) := behind_bl _ (behind_smp hx.smp (behind_bl _ (behind_semi hr)))
  obtain ⟨r', b1, b2⟩ : ∃ r', bodyP x.cat n (bl x.a ++ (condW x.c ++ (bl x.b ++ (x.s ++ (bl x.e ++ r))))) = .ok (x.c.map fun y => y.1.map RW.v) r' ∧ sk r' = sk (bl x.b ++ (x.s ++ (bl x.e ++ r))) := by
    unfold bodyP
    by_cases h5 : x.cat = 5
    · rw [if_pos h5, hx.some.1 h5]
      exact ⟨_, rfl, sk_blanks _ _⟩
    · rw [if_neg h5, ← cond_sk, sk_blanks, cond_sk]
      exact cond_of n x.c (fun h => h5 (hx.some.2 h)) hn hx.rels _ hB.end
  obtain ⟨s1, s2⟩ := smp_eq b2
  obtain ⟨m1, m2⟩ := smp_of x.b x.e hx.smp hr
  unfold ruleP
  rw [e, cat_of hx.cat hs hst]
  simp only
  unfold colonP
  rw [if_pos t1, t2]
  simp only
  rw [b1]
  simp only
  rw [s1, s2, m1, m2]
  rfl
def endW : Option Nat → List UInt8
  | none => []
  | some k => 59 :: bl k
/-- Rules with a semicolon and blanks between each two; z: with one more at the end. -/
def rulesW (z : Option Nat) : List (UW × Nat) → List UInt8
  | [] => []
  | [x] => x.1.t ++ endW z
  | x :: y :: ys => x.1.t ++ (59 :: (bl x.2 ++ rulesW z (y :: ys)))
theorem sk_bl (k : Nat) : sk (bl k) = [] := by have := sk_blanks k []; rw [List.append_nil] at this; exact this
theorem count_v (c : List (List RW × Nat)) : count (c.map fun y => y.1.map RW.v) = nRel c := by
  unfold count nRel; rw [List.map_map]; congr 1; apply List.map_congr_left; intro y _; simp
theorem rulesL_done {k : Nat} (hk : k ≠ 0) (seen : List Nat) (n : Nat) (acc : List RuleT) {l : List UInt8} (h : sk l = []) : rulesL k seen n acc l = .ok acc [] := by
  obtain ⟨k, rfl⟩ : ∃ j, k = j + 1 := ⟨k - 1, by omega⟩
  unfold rulesL; rw [h]; rfl
theorem rulesL_of (z : Option Nat) : ∀ (xs : List (UW × Nat)) (acc : List RuleT) (seen : List Nat) (l : List UInt8) (k n : Nat), l.length < k → (n + (xs.map fun x => nRel x.1.c).sum ≤ 200) → (∀ x ∈ xs, x.1.OK) → (xs.map fun x => x.1.cat).Nodup → (∀ x ∈ xs, seen.contains x.1.cat = false) → sk l = sk (rulesW z xs) → rulesL k seen n acc l = .ok (acc ++ xs.map fun x => x.1.v) []
  | [], acc, seen, l, k, n, hk, _, _, _, _, hl => by
    rw [rulesL_done (by omega) seen n acc (by rw [hl]; rfl)]; simp
  | [x], acc, seen, l, k, n, hk, hn, hx, hd, hs, hl => by
    obtain ⟨k, rfl⟩ : ∃ j, k = j + 1 := ⟨k - 1, by omega⟩
    have o := hx x (List.Mem.head _)
    have hp := rule_of x.1 o seen n (hs x (List.Mem.head _)) (by simpa using hn) (endW z) (by cases z with | none => exact .inl rfl | some j => exact .inr ⟨_, rfl⟩)
    have hq : ruleP seen n (sk l) = .ok x.1.v (endW z) := by rw [hl, rule_sk]; exact hp
    have hlen := rule_len hq
    have hsl := sk_le l
    have hne : (sk l).isEmpty = false := by cases h : sk l with | nil => rw [h] at hlen; simp at hlen | cons => rfl
    unfold rulesL
    rw [if_neg (by rw [hne]; decide), hq]
    simp only
    cases z with
    | none =>
      have a1 : tk [59] (endW none) = false := rfl
      have a2 : sk (tkR [59] (endW none)) = [] := rfl
      simp only [a1, a2, List.isEmpty_nil, Bool.false_or, if_true, Bool.false_eq_true, if_false]
      rw [rulesL_done (by omega) _ _ _ rfl]; rfl
    | some j =>
      have a1 : tk [59] (endW (some j)) = true := by unfold tk endW; rw [sk_stop (by decide)]; rfl
      have a2 : tkR [59] (endW (some j)) = bl j := by unfold tkR endW; rw [sk_stop (by decide)]; rfl
      simp only [a1, a2, Bool.true_or, if_true]
      rw [rulesL_done (by simp only [endW, List.length_cons] at hlen; omega) _ _ _ (sk_bl j)]; rfl
  | x :: y :: ys, acc, seen, l, k, n, hk, hn, hx, hd, hs, hl => by
    obtain ⟨k, rfl⟩ : ∃ j, k = j + 1 := ⟨k - 1, by omega⟩
    have o := hx x (List.Mem.head _)
    have hn' : n + (nRel x.1.c + ((y :: ys).map fun x => nRel x.1.c).sum) ≤ 200 := by simpa using hn
    have hp := rule_of x.1 o seen n (hs x (List.Mem.head _)) (by omega) (59 :: (bl x.2 ++ rulesW z (y :: ys))) (.inr ⟨_, rfl⟩)
    have hq : ruleP seen n (sk l) = .ok x.1.v (59 :: (bl x.2 ++ rulesW z (y :: ys))) := by rw [hl, rule_sk]; exact hp
    have hlen := rule_len hq
    have hsl := sk_le l
    have hne : (sk l).isEmpty = false := by cases h : sk l with | nil => rw [h] at hlen; simp at hlen | cons => rfl
    have a1 : tk [59] (59 :: (bl x.2 ++ rulesW z (y :: ys))) = true := by unfold tk; rw [sk_stop (by decide)]; rfl
    have a2 : tkR [59] (59 :: (bl x.2 ++ rulesW z (y :: ys))) = bl x.2 ++ rulesW z (y :: ys) := by unfold tkR; rw [sk_stop (by decide)]; rfl
    rw [List.map_cons, List.nodup_cons] at hd
    have ih := rulesL_of z (y :: ys) (acc ++ [x.1.v]) (x.1.cat :: seen) (bl x.2 ++ rulesW z (y :: ys)) k (n + nRel x.1.c) (by simp only [List.length_cons] at hlen; omega) (by omega) (fun w hw => hx w (List.Mem.tail _ hw)) hd.2 (by
      intro w hw
      have h1 := hs w (List.Mem.tail _ hw)
      have h2 : w.1.cat ≠ x.1.cat := fun e => hd.1 (by rw [← e]; exact List.mem_map_of_mem (f := fun x : UW × Nat => x.1.cat) hw)
      rw [List.contains_cons, h1, Bool.or_false]
      simpa using h2) (sk_blanks _ _)
    have hc : count x.1.v.any = nRel x.1.c := count_v x.1.c
    unfold rulesL
    rw [if_neg (by rw [hne]; decide), hq]
    simp only [a1, a2, Bool.true_or, if_true]
    rw [hc, show x.1.v.cat = x.1.cat from rfl, ih]; simp
/-- Rules as they are written are read as these rules. -/
theorem rules_of (p : Nat) (z : Option Nat) (xs : List (UW × Nat)) (hn : (xs.map fun x => nRel x.1.c).sum ≤ 200) (hx : ∀ x ∈ xs, x.1.OK) (hd : (xs.map fun x => x.1.cat).Nodup) : rulesP (bl p ++ rulesW z xs) = .ok (xs.map fun x => x.1.v) [] := by
  unfold rulesP
  rw [rulesL_of z xs [] [] _ _ 0 (Nat.lt_succ_self _) (by omega) hx hd (fun x _ => rfl) (sk_blanks p _)]
  rfl
end Florin

namespace Florin
set_option linter.unusedVariables false
set_option linter.unusedSimpArgs false

def PairOK (x : Nat × Nat) : Prop := x.1 ≤ x.2 ∧ x.2 < 1000000000
structure RelF (x : RelT) : Prop where
  op : opsB.contains x.op = true
  md : x.mod < 1000000000
  ne : x.rs ≠ []
  rs : ∀ y ∈ x.rs, PairOK y
structure RuleF (x : RuleT) : Prop where
  cat : x.cat < 6
  some : x.cat = 5 ↔ x.any = []
  rels : ∀ a ∈ x.any, a ≠ [] ∧ ∀ z ∈ a, RelF z
  smp : SmpOK x.smp
structure RulesF (xs : List RuleT) : Prop where
  all : ∀ x ∈ xs, RuleF x
  cats : (xs.map RuleT.cat).Nodup
  few : (xs.map fun x => count x.any).sum ≤ 200

theorem num_ok {k : Nat} {l r : List UInt8} {x : Nat} (h : numP k l = .ok x r) : k ≤ x ∧ x < 1000000000 := by
  unfold numP at h
  split at h
  · cases h
  · split at h
    · cases h
    · rename_i h9
      split at h
      · cases h
      · rename_i hk
        cases h
        refine ⟨by omega, ?_⟩
        have hd : isDig (wd isD l) = true := by
          unfold isDig wd; rw [List.all_eq_true]; intro c hc; exact List.all_eq_true.1 List.all_takeWhile c hc
        have h1 := val_lt _ hd
        have h2 : 10 ^ (wd isD l).length ≤ 10 ^ 9 := Nat.pow_le_pow_right (by decide) (by omega)
        exact Nat.lt_of_lt_of_le h1 h2
theorem range_ok {l r : List UInt8} {x : Nat × Nat} (h : rangeP l = .ok x r) : PairOK x := by
  unfold rangeP at h
  split at h
  · cases h
  · rename_i lo m h1
    split at h
    · split at h
      · cases h
      · rename_i h2
        cases h
        exact num_ok h2
    · cases h; exact ⟨Nat.le_refl _, (num_ok h1).2⟩
theorem mem_snoc {α : Type} {P : α → Prop} {acc : List α} {x : α} (h : ∀ y ∈ acc, P y) (hx : P x) : ∀ y ∈ acc ++ [x], P y := by
  intro y hy
  rcases List.mem_append.1 hy with h1 | h1
  · exact h y h1
  · rw [List.mem_singleton.1 h1]; exact hx
theorem rangesL_ok : ∀ (k : Nat) (acc : List (Nat × Nat)) (l r : List UInt8) (x : List (Nat × Nat)), rangesL k acc l = .ok x r → acc ≠ [] → (∀ y ∈ acc, PairOK y) → x ≠ [] ∧ ∀ y ∈ x, PairOK y
  | 0, _, _, _, _, h, _, _ => by cases h
  | k + 1, acc, l, r, x, h, h0, ha => by
    unfold rangesL at h
    split at h
    · split at h
      · cases h
      · rename_i h2
        exact rangesL_ok k _ _ _ _ h (by simp) (mem_snoc ha (range_ok h2))
    · cases h; exact ⟨h0, ha⟩
theorem ranges_ok {l r : List UInt8} {x : List (Nat × Nat)} (h : rangesP l = .ok x r) : x ≠ [] ∧ ∀ y ∈ x, PairOK y := by
  unfold rangesP at h
  split at h
  · cases h
  · rename_i h1
    exact rangesL_ok _ _ _ _ _ h (by simp) (by intro y hy; rw [List.mem_singleton.1 hy]; exact range_ok h1)
theorem oper_ok {n : Nat} {l r : List UInt8} {x : UInt8} (h : operP n l = .ok x r) : opsB.contains x = true ∧ n ≠ 200 := by
  unfold operP at h
  split at h
  · split at h
    · split at h
      · cases h
      · rename_i h1 h2; cases h; exact ⟨h1, h2⟩
    · cases h
  · cases h
theorem mod_ok {l r : List UInt8} {x : Nat} (h : modP l = .ok x r) : x < 1000000000 := by
  unfold modP at h
  split at h
  · exact (num_ok h).2
  · cases h; decide
theorem rel_ok {n : Nat} {l r : List UInt8} {x : RelT} (h : relP n l = .ok x r) : RelF x ∧ n ≠ 200 := by
  unfold relP at h
  split at h
  · cases h
  · rename_i h1
    split at h
    · cases h
    · rename_i h2
      split at h
      · cases h
      · rename_i h3
        split at h
        · cases h
        · rename_i h4
          cases h
          exact ⟨⟨(oper_ok h1).1, mod_ok h2, (ranges_ok h4).1, (ranges_ok h4).2⟩, (oper_ok h1).2⟩
theorem allL_ok : ∀ (k n : Nat) (acc : List RelT) (l r : List UInt8) (x : List RelT), allL k n acc l = .ok x r → n ≤ 200 → acc ≠ [] → (∀ y ∈ acc, RelF y) → (x ≠ [] ∧ ∀ y ∈ x, RelF y) ∧ n + x.length ≤ 200 + acc.length
  | 0, _, _, _, _, _, h, _, _, _ => by cases h
  | k + 1, n, acc, l, r, x, h, hn, h0, ha => by
    unfold allL at h
    split at h
    · split at h
      · cases h
      · rename_i h2
        obtain ⟨a, b⟩ := rel_ok h2
        obtain ⟨c, d⟩ := allL_ok k _ _ _ _ _ h (by omega) (by simp) (mem_snoc ha a)
        rw [List.length_append] at d
        simp only [List.length_cons, List.length_nil] at d
        exact ⟨c, by omega⟩
    · cases h; exact ⟨⟨h0, ha⟩, by omega⟩
theorem all_ok {n : Nat} {l r : List UInt8} {x : List RelT} (hn : n ≤ 200) (h : allP n l = .ok x r) : (x ≠ [] ∧ ∀ y ∈ x, RelF y) ∧ n + x.length ≤ 200 := by
  unfold allP at h
  split at h
  · cases h
  · rename_i h1
    obtain ⟨a, b⟩ := rel_ok h1
    obtain ⟨c, d⟩ := allL_ok _ _ _ _ _ _ h (by omega) (by simp) (by intro y hy; rw [List.mem_singleton.1 hy]; exact a)
    simp only [List.length_cons, List.length_nil] at d
    exact ⟨c, by omega⟩
abbrev CondOK (x : List (List RelT)) : Prop := ∀ a ∈ x, a ≠ [] ∧ ∀ z ∈ a, RelF z
theorem cnt_snoc (acc : List (List RelT)) (x : List RelT) : count (acc ++ [x]) = count acc + x.length := by unfold count; simp
theorem condL_ok : ∀ (k n : Nat) (acc : List (List RelT)) (l r : List UInt8) (x : List (List RelT)), condL k n acc l = .ok x r → n ≤ 200 → acc ≠ [] → CondOK acc → (x ≠ [] ∧ CondOK x) ∧ n + count x ≤ 200 + count acc
  | 0, _, _, _, _, _, h, _, _, _ => by cases h
  | k + 1, n, acc, l, r, x, h, hn, h0, ha => by
    unfold condL at h
    split at h
    · split at h
      · cases h
      · rename_i h2
        obtain ⟨a, b⟩ := all_ok hn h2
        obtain ⟨c, d⟩ := condL_ok k _ _ _ _ _ h b (by simp) (mem_snoc ha a)
        rw [cnt_snoc] at d
        exact ⟨c, by omega⟩
    · cases h; exact ⟨⟨h0, ha⟩, by omega⟩
theorem cond_ok {n : Nat} {l r : List UInt8} {x : List (List RelT)} (hn : n ≤ 200) (h : condP n l = .ok x r) : (x ≠ [] ∧ CondOK x) ∧ n + count x ≤ 200 := by
  unfold condP at h
  split at h
  · cases h
  · rename_i y r1 h1
    obtain ⟨a, b⟩ := all_ok hn h1
    obtain ⟨c, d⟩ := condL_ok _ _ _ _ _ _ h b (by simp) (by intro z hz; rw [List.mem_singleton.1 hz]; exact a)
    have e : count [y] = y.length := by unfold count; simp
    rw [e] at d
    exact ⟨c, by omega⟩
theorem rtB_mem {u : List UInt8} {c : UInt8} (h : c ∈ rtB u) : c ∈ u := by
  unfold rtB at h
  have h1 := List.mem_reverse.1 h
  exact List.mem_reverse.1 ((List.dropWhile_sublist _).subset h1)
theorem rtB_cons {c : UInt8} (hc : c ≠ 32) (t : List UInt8) : ∃ u, rtB (c :: t) = c :: u := by
  unfold rtB
  rw [List.reverse_cons, List.dropWhile_append]
  split
  · have : ([c].dropWhile fun c => c == 32) = [c] := by rw [List.dropWhile_cons, if_neg (by simpa using hc)]
    rw [this]; exact ⟨[], rfl⟩
  · exact ⟨_, by rw [List.reverse_append]; rfl⟩
theorem smp_ok (l : List UInt8) : SmpOK (smpP l) := by
  unfold smpP
  split
  · rename_i h
    obtain ⟨t, ht⟩ := List.isPrefixOf_iff_prefix.1 (show ([64] : List UInt8).isPrefixOf (sk l) = true from h)
    refine ⟨.inr ?_, ?_, ?_⟩
    · rw [← ht]
      exact rtB_cons (by decide) _
    · intro c hc
      exact List.all_eq_true.1 List.all_takeWhile c (rtB_mem hc)
    · unfold rtB; rw [List.reverse_reverse]; exact sk_idem _
  · exact ⟨.inl rfl, by simp, rfl⟩
theorem cat_ok {s : List Nat} {l r : List UInt8} {x : Nat} (h : catP s l = .ok x r) : x < 6 ∧ s.contains x = false := by
  unfold catP at h
  split at h
  · cases h
  · rename_i h1
    split at h
    · cases h
    · rename_i h2
      cases h
      refine ⟨?_, by simpa using h2⟩
      have : catB (wd isL l) ≤ wordB.length := List.idxOf_le_length
      have e : wordB.length = 6 := rfl
      omega
theorem rule_ok {s : List Nat} {n : Nat} {l r : List UInt8} {x : RuleT} (hn : n ≤ 200) (h : ruleP s n l = .ok x r) : RuleF x ∧ s.contains x.cat = false ∧ n + count x.any ≤ 200 := by
  unfold ruleP at h
  split at h
  · cases h
  · rename_i h1
    obtain ⟨a, b⟩ := cat_ok h1
    split at h
    · cases h
    · split at h
      · cases h
      · rename_i c _ _ _ _ _ y r3 h3
        cases h
        unfold bodyP at h3
        split at h3
        · rename_i h5
          cases h3
          exact ⟨⟨a, ⟨fun _ => rfl, fun _ => h5⟩, by simp, smp_ok _⟩, b, hn⟩
        · rename_i h5
          obtain ⟨c1, c2⟩ := cond_ok hn h3
          exact ⟨⟨a, ⟨fun e => absurd e h5, fun e => absurd e c1.1⟩, c1.2, smp_ok _⟩, b, c2⟩
theorem rulesL_ok : ∀ (k : Nat) (seen : List Nat) (n : Nat) (acc : List RuleT) (l r : List UInt8) (x : List RuleT), rulesL k seen n acc l = .ok x r → n ≤ 200 → n = (acc.map fun x => count x.any).sum → (∀ y ∈ acc, RuleF y) → (acc.map RuleT.cat).Nodup → (∀ y ∈ acc, seen.contains y.cat = true) → RulesF x
  | 0, _, _, _, _, _, _, h, _, _, _, _, _ => by cases h
  | k + 1, seen, n, acc, l, r, x, h, hn, hs, ha, hd, hc => by
    unfold rulesL at h
    split at h
    · cases h; exact ⟨ha, hd, by omega⟩
    · split at h
      · cases h
      · rename_i y r1 h1
        obtain ⟨a, b, c⟩ := rule_ok hn h1
        split at h
        · refine rulesL_ok k _ _ _ _ _ _ h c (by simp; omega) (mem_snoc ha a) ?_ ?_
          · rw [List.map_append, List.nodup_append]
            refine ⟨hd, by simp, ?_⟩
            intro u hu v hv e
            simp only [List.map_cons, List.map_nil, List.mem_singleton] at hv
            obtain ⟨z, hz, rfl⟩ := List.mem_map.1 hu
            have := hc z hz
            rw [e, hv, b] at this
            cases this
          · refine mem_snoc ?_ (by simp)
            intro z hz; rw [List.contains_cons, hc z hz, Bool.or_true]
        · cases h
theorem rules_ok {l r : List UInt8} {x : List RuleT} (h : rulesP l = .ok x r) : RulesF x :=
  rulesL_ok _ _ _ _ _ _ _ h (by omega) rfl (by simp) (by simp) (by simp)
end Florin

namespace Florin
set_option linter.unusedVariables false
set_option linter.unusedSimpArgs false

def rngV (x : Nat × Nat) : List UInt8 := if x.1 = x.2 then nuT x.1 else nuT x.1 ++ [46, 46] ++ nuT x.2
def joinV (sep : List UInt8) (ls : List (List UInt8)) : List UInt8 := sep.intercalate ls
def signV (b : Bool) : List UInt8 := if b then [32, 33, 61, 32] else [32, 61, 32]
def modV (m : Nat) : List UInt8 := if m = 0 then [] else [32, 37, 32] ++ nuT m
def relV (x : RelT) : List UInt8 := [x.op] ++ modV x.mod ++ signV x.nt ++ joinV [44] (x.rs.map rngV)
def condV (xs : List (List RelT)) : List UInt8 := joinV [32, 111, 114, 32] (xs.map fun a => joinV [32, 97, 110, 100, 32] (a.map relV))
def ruleV (x : RuleT) : List UInt8 := wordW x.cat ++ [58] ++ (if condV x.any = [] then [] else 32 :: condV x.any) ++ (if x.smp = [] then [] else 32 :: x.smp)
def rulesV (xs : List RuleT) : List UInt8 := joinV [59, 32] (xs.map ruleV)
theorem joinV_cons (sep x y : List UInt8) (r : List (List UInt8)) : joinV sep (x :: y :: r) = x ++ sep ++ joinV sep (y :: r) := by
  unfold joinV; simp [List.intercalate, List.intersperse]
theorem joinV_one (sep x : List UInt8) : joinV sep [x] = x := by unfold joinV; simp [List.intercalate]
/-- The plain way of writing. -/
def toRng (x : Nat × Nat) : (Nat × Nat) × Bool := (x, decide (x.1 ≠ x.2))
def toRW (x : RelT) : RW := ⟨1, 0, x.op, x.mod, x.nt, x.rs.map toRng⟩
def toCW (x : List (List RelT)) : List (List RW × Nat) := x.map fun a => (a.map toRW, 0)
def toUW (x : RuleT) : UW := ⟨x.cat, 0, if x.any = [] then 0 else 1, toCW x.any, if x.smp = [] then 0 else 1, x.smp, 0⟩
theorem rng_to (x : Nat × Nat) : rngW 0 0 (toRng x).2 (toRng x).1 = rngV x := by
  unfold rngW rngV toRng
  by_cases h : x.1 = x.2
  · simp [h]
  · simp [h]
theorem tail_to : ∀ (x : Nat × Nat) (xs : List (Nat × Nat)), rngV x ++ tailW 0 (xs.map toRng) = joinV [44] ((x :: xs).map rngV)
  | x, [] => by simp [tailW, joinV_one]
  | x, y :: ys => by
    have ih := tail_to y ys
    have e : joinV [44] ((x :: y :: ys).map rngV) = rngV x ++ [44] ++ joinV [44] ((y :: ys).map rngV) := by rw [List.map_cons, List.map_cons, joinV_cons]
    rw [e, ← ih, List.map_cons, tailW, rng_to]
    simp
theorem rngs_to (xs : List (Nat × Nat)) (h : xs ≠ []) : rngsW 0 (xs.map toRng) = joinV [44] (xs.map rngV) := by
  cases xs with
  | nil => exact absurd rfl h
  | cons x xs => rw [List.map_cons, rngsW, rng_to, tail_to]
theorem rel_to (x : RelT) (h : x.rs ≠ []) : (toRW x).t = relV x := by
  unfold RW.t relW relV toRW
  simp only
  rw [rngs_to x.rs h]
  unfold modV signV
  by_cases h0 : x.mod = 0
  · rw [if_pos h0, if_pos h0]; cases x.nt <;> simp [bl]
  · rw [if_neg h0, if_neg h0]; cases x.nt <;> simp [bl]
theorem tailA_to : ∀ (x : RelT) (xs : List RelT), (∀ z ∈ x :: xs, z.rs ≠ []) → relV x ++ tailA (xs.map toRW) = joinV [32, 97, 110, 100, 32] ((x :: xs).map relV)
  | x, [], _ => by simp [tailA, joinV_one]
  | x, y :: ys, h => by
    have ih := tailA_to y ys (fun z hz => h z (List.Mem.tail _ hz))
    have e : joinV [32, 97, 110, 100, 32] ((x :: y :: ys).map relV) = relV x ++ [32, 97, 110, 100, 32] ++ joinV [32, 97, 110, 100, 32] ((y :: ys).map relV) := by rw [List.map_cons, List.map_cons, joinV_cons]
    rw [e, ← ih, List.map_cons, tailA, rel_to y (h y (List.Mem.tail _ (List.Mem.head _)))]
    simp
theorem all_to (xs : List RelT) (h0 : xs ≠ []) (h : ∀ z ∈ xs, z.rs ≠ []) : allW (xs.map toRW) = joinV [32, 97, 110, 100, 32] (xs.map relV) := by
  cases xs with
  | nil => exact absurd rfl h0
  | cons x xs => rw [List.map_cons, allW, rel_to x (h x (List.Mem.head _)), tailA_to x xs h]
abbrev NeC (xs : List (List RelT)) : Prop := ∀ a ∈ xs, a ≠ [] ∧ ∀ z ∈ a, z.rs ≠ []
theorem tailC_to : ∀ (x : List RelT) (xs : List (List RelT)), NeC (x :: xs) → joinV [32, 97, 110, 100, 32] (x.map relV) ++ tailC (toCW xs) = condV (x :: xs)
  | x, [], _ => by simp [toCW, tailC, condV, joinV_one]
  | x, y :: ys, h => by
    have ih := tailC_to y ys (fun z hz => h z (List.Mem.tail _ hz))
    obtain ⟨a, b⟩ := h y (List.Mem.tail _ (List.Mem.head _))
    have e : condV (x :: y :: ys) = joinV [32, 97, 110, 100, 32] (x.map relV) ++ [32, 111, 114, 32] ++ condV (y :: ys) := by unfold condV; rw [List.map_cons, List.map_cons, joinV_cons]
    have e2 : toCW (y :: ys) = (y.map toRW, 0) :: toCW ys := rfl
    rw [e, ← ih, e2, tailC]
    simp only
    rw [all_to y a b]
    simp [bl]
theorem cond_to (xs : List (List RelT)) (h : NeC xs) : condW (toCW xs) = condV xs := by
  cases xs with
  | nil => rfl
  | cons x xs =>
    obtain ⟨a, b⟩ := h x (List.Mem.head _)
    rw [show toCW (x :: xs) = (x.map toRW, 0) :: toCW xs from rfl, condW]
    simp only
    rw [all_to x a b, tailC_to x xs h]
theorem condV_nil (xs : List (List RelT)) (h : NeC xs) : condV xs = [] ↔ xs = [] := by
  refine ⟨fun e => ?_, fun e => by subst e; rfl⟩
  rw [← cond_to xs h] at e
  cases xs with
  | nil => rfl
  | cons x xs =>
    obtain ⟨a, _⟩ := h x (List.Mem.head _)
    cases x with
    | nil => exact absurd rfl a
    | cons z zs => simp [toCW, condW, allW, RW.t, relW] at e
theorem rule_to (x : RuleT) (h : RuleF x) : (toUW x).t = ruleV x := by
  have hc : NeC x.any := fun a ha => ⟨(h.rels a ha).1, fun z hz => ((h.rels a ha).2 z hz).ne⟩
  unfold UW.t ruleV toUW
  simp only
  rw [cond_to x.any hc]
  by_cases h0 : x.any = []
  · rw [if_pos h0, if_pos ((condV_nil _ hc).2 h0), (condV_nil _ hc).2 h0]
    by_cases h1 : x.smp = []
    · simp [h1, bl]
    · simp [h1, bl]
  · rw [if_neg h0, if_neg (fun e => h0 ((condV_nil _ hc).1 e))]
    by_cases h1 : x.smp = []
    · simp [h1, bl]
    · simp [h1, bl]
theorem rules_to : ∀ (xs : List RuleT), (∀ x ∈ xs, RuleF x) → rulesW none (xs.map fun x => (toUW x, 1)) = rulesV xs
  | [], _ => rfl
  | [x], h => by
    simp only [List.map_cons, List.map_nil, rulesW, endW, rulesV, joinV_one, List.append_nil]
    exact rule_to x (h x (List.Mem.head _))
  | x :: y :: ys, h => by
    have ih := rules_to (y :: ys) (fun z hz => h z (List.Mem.tail _ hz))
    have e : rulesV (x :: y :: ys) = ruleV x ++ [59, 32] ++ rulesV (y :: ys) := by unfold rulesV; rw [List.map_cons, List.map_cons, joinV_cons]
    rw [e, ← ih, List.map_cons, List.map_cons, rulesW]
    simp only
    rw [rule_to x (h x (List.Mem.head _))]
    simp [bl]
theorem rngOK_to {y : Nat × Nat} (h : PairOK y) : RngOK (toRng y) := ⟨h.1, h.2, by intro e; simpa [toRng] using e⟩
theorem relOK_to {x : RelT} (h : RelF x) : (toRW x).OK := ⟨h.op, h.md, by simpa [toRW] using h.ne, by
  intro y hy
  obtain ⟨z, hz, rfl⟩ := List.mem_map.1 hy
  exact rngOK_to (h.rs z hz)⟩
theorem relv_to (x : RelT) : (toRW x).v = x := by
  obtain ⟨a, b, c, d⟩ := x
  simp [toRW, RW.v, toRng, Function.comp_def]
theorem rulev_to (x : RuleT) : (toUW x).v = x := by
  obtain ⟨a, b, c⟩ := x
  simp only [toUW, UW.v, toCW, List.map_map, Function.comp_def, relv_to, List.map_id']
theorem ruleOK_to {x : RuleT} (h : RuleF x) : (toUW x).OK := ⟨h.cat, by
    show x.cat = 5 ↔ toCW x.any = []
    rw [h.some]; unfold toCW; simp, by
    intro y hy
    obtain ⟨a, ha, rfl⟩ := List.mem_map.1 (show y ∈ x.any.map fun a => (a.map toRW, 0) from hy)
    obtain ⟨h1, h2⟩ := h.rels a ha
    refine ⟨by simpa using h1, ?_⟩
    intro z hz
    obtain ⟨w, hw, rfl⟩ := List.mem_map.1 hz
    exact relOK_to (h2 w hw), h.smp⟩
theorem count_to (x : RuleT) : nRel (toUW x).c = count x.any := by
  unfold nRel count toUW toCW
  simp [Function.comp_def]
/-- The text of well formed rules is read as the same rules. -/
theorem rules_back {xs : List RuleT} (h : RulesF xs) : rulesP (rulesV xs) = .ok xs [] := by
  have := rules_of 0 none (xs.map fun x => (toUW x, 1)) (by
    rw [List.map_map]
    have : (xs.map ((fun x => nRel x.1.c) ∘ fun x => (toUW x, 1))) = xs.map fun x => count x.any := List.map_congr_left (fun x _ => count_to x)
    rw [this]; exact h.few) (by
    intro y hy
    obtain ⟨z, hz, rfl⟩ := List.mem_map.1 hy
    exact ruleOK_to (h.all z hz)) (by
    rw [List.map_map]
    exact h.cats)
  rw [rules_to xs h.all, List.map_map] at this
  have e : (xs.map ((fun x => x.1.v) ∘ fun x => (toUW x, 1))) = xs := by
    conv => rhs; rw [← List.map_id xs]
    exact List.map_congr_left (fun x _ => rulev_to x)
  rw [e] at this
  exact this
/-- What was read, written, is read again as the same. -/
theorem rules_again {l r : List UInt8} {xs : List RuleT} (h : rulesP l = .ok xs r) : rulesP (rulesV xs) = .ok xs [] := rules_back (rules_ok h)
end Florin

namespace Florin
set_option linter.unusedVariables false
set_option linter.unusedSimpArgs false

/-! errors of a text of at most 300 bytes -/
def ErrF (e : Int) : Prop := e = 1 ∨ e = 2 ∨ e = 3 ∨ e = 7
theorem num_bad {k : Nat} {l r : List UInt8} {e : Int} (h : numP k l = .bad e r) : ErrF e := by
  unfold numP at h
  split at h
  · cases h; exact .inl rfl
  · split at h
    · cases h; exact .inr (.inl rfl)
    · split at h
      · cases h; exact .inr (.inr (.inl rfl))
      · cases h
theorem range_bad {l r : List UInt8} {e : Int} (h : rangeP l = .bad e r) : ErrF e := by
  unfold rangeP at h
  split at h
  · rename_i h1; cases h; exact num_bad h1
  · split at h
    · split at h
      · rename_i h2; cases h; exact num_bad h2
      · cases h
    · cases h
theorem rangesL_bad : ∀ (k : Nat) (acc : List (Nat × Nat)) (l r : List UInt8) (e : Int), l.length < k → rangesL k acc l = .bad e r → ErrF e
  | 0, _, _, _, _, hk, _ => by omega
  | k + 1, acc, l, r, e, hk, h => by
    unfold rangesL at h
    split at h
    · rename_i ht
      have a1 := tkR_lt ht (by simp)
      split at h
      · rename_i h2; cases h; exact range_bad h2
      · rename_i h2
        have a2 := range_len h2
        exact rangesL_bad k _ _ _ _ (by omega) h
    · cases h
theorem ranges_bad {l r : List UInt8} {e : Int} (h : rangesP l = .bad e r) : ErrF e := by
  unfold rangesP at h
  split at h
  · rename_i h1; cases h; exact range_bad h1
  · exact rangesL_bad _ _ _ _ _ (Nat.lt_succ_self _) h
theorem oper_bad {n : Nat} {l r : List UInt8} {e : Int} (hn : n ≠ 200) (h : operP n l = .bad e r) : ErrF e := by
  unfold operP at h
  split at h
  · split at h
    · simp [hn] at h
    · cases h; exact .inl rfl
  · cases h; exact .inl rfl
theorem rel_bad {n : Nat} {l r : List UInt8} {e : Int} (hn : n ≠ 200) (h : relP n l = .bad e r) : ErrF e := by
  unfold relP at h
  split at h
  · rename_i h1; cases h; exact oper_bad hn h1
  · split at h
    · rename_i h2
      cases h
      unfold modP at h2
      split at h2
      · exact num_bad h2
      · cases h2
    · split at h
      · rename_i h3
        cases h
        unfold signP at h3
        split at h3
        · cases h3
        · split at h3
          · cases h3
          · cases h3; exact .inl rfl
      · split at h
        · rename_i h4; cases h; exact ranges_bad h4
        · cases h
/-! how much is read, and how long its text is -/
theorem wd_wdR (k : UInt8 → Bool) (l : List UInt8) : (wd k l).length + (wdR k l).length ≤ l.length := by
  have := List.takeWhile_append_dropWhile (p := k) (l := sk l)
  have h2 : (sk l).length = (wd k l).length + (wdR k l).length := by
    conv => lhs; rw [← this]
    rw [List.length_append]; rfl
  have h3 := sk_le l
  omega
theorem num_txt {k : Nat} {l r : List UInt8} {x : Nat} (h : numP k l = .ok x r) : (nuT x).length + r.length ≤ l.length ∧ 1 ≤ (nuT x).length := by
  refine ⟨?_, List.length_pos_iff.2 (nuT_ne x)⟩
  unfold numP at h
  split at h
  · cases h
  · rename_i h0
    split at h
    · cases h
    · split at h
      · cases h
      · cases h
        have hd : isDig (wd isD l) = true := by
          unfold isDig wd; rw [List.all_eq_true]; intro c hc; exact List.all_eq_true.1 List.all_takeWhile c hc
        have h1 := (dig_length_le _ _).2 (val_lt _ hd)
        have h2 := wd_wdR isD l
        have h3 : 1 ≤ (wd isD l).length := by
          cases hh : wd isD l with
          | nil => rw [hh] at h0; exact absurd rfl h0
          | cons => simp
        have h4 : (nuT (val (wd isD l))).length ≤ (wd isD l).length := by
          unfold nuT; split
          · simpa using h3
          · exact h1
        omega
theorem range_txt {l r : List UInt8} {x : Nat × Nat} (h : rangeP l = .ok x r) : (rngV x).length + r.length ≤ l.length ∧ 1 ≤ (rngV x).length := by
  unfold rangeP at h
  split at h
  · cases h
  · rename_i lo m h1
    obtain ⟨a1, a2⟩ := num_txt h1
    split at h
    · rename_i ht
      have a3 : (tkR [46, 46] m).length + 2 ≤ m.length := by
        unfold tkR
        rw [if_pos (show pre [46, 46] (sk m) = true from ht), List.length_drop]
        have h1 := (List.isPrefixOf_iff_prefix.1 (show ([46, 46] : List UInt8).isPrefixOf (sk m) = true from ht)).length_le
        have h2 := sk_le m
        simp only [List.length_cons, List.length_nil] at h1 ⊢
        omega
      split at h
      · cases h
      · rename_i h2
        obtain ⟨b1, b2⟩ := num_txt h2
        cases h
        unfold rngV
        split
        · exact ⟨by simp only; omega, a2⟩
        · simp only [List.length_append, List.length_cons, List.length_nil]; exact ⟨by omega, by omega⟩
    · have a3 := tkR_le [46, 46] m
      cases h
      unfold rngV
      rw [if_pos rfl]
      exact ⟨by simp only; omega, a2⟩
/-- The length of what is joined, with the sign behind each. -/
def lenJ (k : Nat) (ls : List (List UInt8)) : Nat := (ls.map fun l => l.length + k).sum
theorem join_len (sep : List UInt8) : ∀ ls : List (List UInt8), (joinV sep ls).length ≤ lenJ sep.length ls ∧ (ls ≠ [] → (joinV sep ls).length + sep.length = lenJ sep.length ls)
  | [] => ⟨Nat.le_refl _, fun h => absurd rfl h⟩
  | [x] => by rw [joinV_one]; simp [lenJ]
  | x :: y :: r => by
    have ih := (join_len sep (y :: r)).2 (by simp)
    have e : lenJ sep.length (x :: y :: r) = x.length + sep.length + lenJ sep.length (y :: r) := by simp [lenJ]
    rw [joinV_cons, e]
    simp only [List.length_append]
    exact ⟨by omega, fun _ => by omega⟩
theorem joinK (sep : List UInt8) (k : Nat) (hk : sep.length = k) (ls : List (List UInt8)) : (joinV sep ls).length ≤ lenJ k ls ∧ (ls ≠ [] → (joinV sep ls).length + k = lenJ k ls) := by
  subst hk; exact join_len sep ls
theorem lenJ_snoc {α : Type} (k : Nat) (f : α → List UInt8) (acc : List α) (x : α) : lenJ k ((acc ++ [x]).map f) = lenJ k (acc.map f) + ((f x).length + k) := by unfold lenJ; simp
theorem rangesL_txt : ∀ (k : Nat) (acc : List (Nat × Nat)) (l r : List UInt8) (x : List (Nat × Nat)), rangesL k acc l = .ok x r → lenJ 1 (x.map rngV) + r.length ≤ lenJ 1 (acc.map rngV) + l.length
  | 0, _, _, _, _, h => by cases h
  | k + 1, acc, l, r, x, h => by
    unfold rangesL at h
    split at h
    · rename_i ht
      have a1 := tkR_lt ht (by simp)
      split at h
      · cases h
      · rename_i h2
        have a2 := (range_txt h2).1
        have ih := rangesL_txt k _ _ _ _ h
        rw [lenJ_snoc] at ih
        omega
    · have a1 := tkR_le [44] l
      cases h; omega
theorem ranges_txt {l r : List UInt8} {x : List (Nat × Nat)} (h : rangesP l = .ok x r) : (joinV [44] (x.map rngV)).length + r.length ≤ l.length ∧ r.length + 1 ≤ l.length := by
  have h0 := (ranges_ok h).1
  unfold rangesP at h
  split at h
  · cases h
  · rename_i y m h1
    obtain ⟨a1, a2⟩ := range_txt h1
    have a3 := rangesL_txt _ _ _ _ _ h
    have a4 := rangesL_len _ _ _ _ _ h
    have a5 := (joinK [44] 1 rfl (x.map rngV)).2 (by simpa using h0)
    have a6 : lenJ 1 ([y].map rngV) = (rngV y).length + 1 := by simp [lenJ]
    rw [a6] at a3
    exact ⟨by omega, by omega⟩
theorem rel_txt {n : Nat} {l r : List UInt8} {x : RelT} (h : relP n l = .ok x r) : (relV x).length + 5 + 4 * r.length ≤ 4 * l.length ∧ r.length + 3 ≤ l.length := by
  unfold relP at h
  split at h
  · cases h
  · rename_i op r1 h1
    have a1 : r1.length + 1 ≤ l.length := by
      unfold operP at h1
      split at h1
      · rename_i c hc
        split at h1
        · split at h1
          · cases h1
          · cases h1
            have := wd_wdR isL l
            rw [hc] at this
            simp only [List.length_cons, List.length_nil] at this
            omega
        · cases h1
      · cases h1
    split at h
    · cases h
    · rename_i m r2 h2
      have a2 : (modV m).length + r2.length ≤ r1.length + 2 ∧ r2.length ≤ r1.length := by
        unfold modP at h2
        split at h2
        · rename_i ht
          have b1 := tkR_lt ht (by simp)
          obtain ⟨b2, b3⟩ := num_txt h2
          unfold modV
          split
          · simp only [List.length_nil]; exact ⟨by omega, by omega⟩
          · simp only [List.length_append, List.length_cons, List.length_nil]; exact ⟨by omega, by omega⟩
        · have := tkR_le [37] r1
          cases h2
          exact ⟨by unfold modV; rw [if_pos rfl]; simp only [List.length_nil]; omega, this⟩
      split at h
      · cases h
      · rename_i b r3 h3
        have a3 : (signV b).length + r3.length ≤ r2.length + 2 ∧ r3.length + 1 ≤ r2.length := by
          unfold signP at h3
          split at h3
          · rename_i ht
            cases h3
            have : (tkR [33, 61] r2).length + 2 ≤ r2.length := by
              unfold tkR
              rw [if_pos (show pre [33, 61] (sk r2) = true from ht), List.length_drop]
              have h1 := (List.isPrefixOf_iff_prefix.1 (show ([33, 61] : List UInt8).isPrefixOf (sk r2) = true from ht)).length_le
              have h2 := sk_le r2
              simp only [List.length_cons, List.length_nil] at h1 ⊢
              omega
            simp only [signV, if_true, List.length_cons, List.length_nil]
            exact ⟨by omega, by omega⟩
          · split at h3
            · rename_i ht
              cases h3
              have b1 := tkR_lt ht (by simp)
              have b2 := tkR_le [33, 61] r2
              simp only [signV, Bool.false_eq_true, if_false, List.length_cons, List.length_nil]
              exact ⟨by omega, by omega⟩
            · cases h3
        split at h
        · cases h
        · rename_i xs r4 h4
          obtain ⟨c1, c2⟩ := ranges_txt h4
          cases h
          unfold relV
          simp only [List.length_append, List.length_cons, List.length_nil]
          exact ⟨by omega, by omega⟩
theorem allL_txt : ∀ (k n : Nat) (acc : List RelT) (l r : List UInt8) (x : List RelT), allL k n acc l = .ok x r → lenJ 5 (x.map relV) + 4 * r.length ≤ lenJ 5 (acc.map relV) + 4 * l.length ∧ 3 * x.length + r.length ≤ 3 * acc.length + l.length
  | 0, _, _, _, _, _, h => by cases h
  | k + 1, n, acc, l, r, x, h => by
    unfold allL at h
    split at h
    · have a1 := twR_le [97, 110, 100] l
      split at h
      · cases h
      · rename_i h2
        obtain ⟨a2, a3⟩ := rel_txt h2
        obtain ⟨b1, b2⟩ := allL_txt k _ _ _ _ _ h
        rw [lenJ_snoc] at b1
        rw [List.length_append] at b2
        simp only [List.length_cons, List.length_nil] at b2
        exact ⟨by omega, by omega⟩
    · have a1 := twR_le [97, 110, 100] l
      cases h; exact ⟨by omega, by omega⟩
def allV (a : List RelT) : List UInt8 := joinV [32, 97, 110, 100, 32] (a.map relV)
theorem all_txt {n : Nat} {l r : List UInt8} {x : List RelT} (h : allP n l = .ok x r) : (allV x).length + 4 + 4 * r.length ≤ 4 * l.length ∧ 3 * x.length + r.length ≤ l.length := by
  have hL := all_len h
  unfold allP at h
  split at h
  · cases h
  · rename_i y m h1
    obtain ⟨a1, a2⟩ := rel_txt h1
    obtain ⟨b1, b2⟩ := allL_txt _ _ _ _ _ _ h
    have a5 := joinK [32, 97, 110, 100, 32] 5 rfl (x.map relV)
    have a6 : lenJ 5 ([y].map relV) = (relV y).length + 5 := by simp [lenJ]
    rw [a6] at b1
    simp only [List.length_cons, List.length_nil] at b2
    refine ⟨?_, by omega⟩
    unfold allV
    have e4 := allL_len _ _ _ _ _ _ h
    by_cases h0 : x = []
    · subst h0
      have e : (joinV [32, 97, 110, 100, 32] (([] : List RelT).map relV)).length = 0 := rfl
      rw [e]
      omega
    · have := a5.2 (by simpa using h0)
      omega
theorem condL_txt : ∀ (k n : Nat) (acc : List (List RelT)) (l r : List UInt8) (x : List (List RelT)), condL k n acc l = .ok x r → lenJ 4 (x.map allV) + 4 * r.length ≤ lenJ 4 (acc.map allV) + 4 * l.length ∧ 3 * count x + r.length ≤ 3 * count acc + l.length
  | 0, _, _, _, _, _, h => by cases h
  | k + 1, n, acc, l, r, x, h => by
    unfold condL at h
    split at h
    · have a1 := twR_le [111, 114] l
      split at h
      · cases h
      · rename_i h2
        obtain ⟨a2, a3⟩ := all_txt h2
        obtain ⟨b1, b2⟩ := condL_txt k _ _ _ _ _ h
        rw [lenJ_snoc] at b1
        rw [cnt_snoc] at b2
        exact ⟨by omega, by omega⟩
    · have a1 := twR_le [111, 114] l
      cases h; exact ⟨by omega, by omega⟩
theorem cond_txt {n : Nat} {l r : List UInt8} {x : List (List RelT)} (h : condP n l = .ok x r) : (condV x).length + 4 * r.length ≤ 4 * l.length ∧ 3 * count x + r.length ≤ l.length := by
  unfold condP at h
  split at h
  · cases h
  · rename_i y m h1
    obtain ⟨a1, a2⟩ := all_txt h1
    obtain ⟨b1, b2⟩ := condL_txt _ _ _ _ _ _ h
    have a5 := (joinK [32, 111, 114, 32] 4 rfl (x.map allV)).1
    have a6 : lenJ 4 ([y].map allV) = (allV y).length + 4 := by simp [lenJ]
    have a7 : count [y] = y.length := by unfold count; simp
    rw [a6] at b1
    rw [a7] at b2
    refine ⟨?_, by omega⟩
    show (joinV [32, 111, 114, 32] (x.map allV)).length + _ ≤ _
    omega
theorem smp_txt (l : List UInt8) : (smpP l).length + (smpR l).length ≤ l.length := by
  have h := sk_le l
  unfold smpP smpR
  split
  · have h1 : (rtB ((sk l).takeWhile fun c => c != 59)).length ≤ ((sk l).takeWhile fun c => c != 59).length := by
      unfold rtB
      rw [List.length_reverse]
      exact Nat.le_trans (List.dropWhile_sublist _).length_le (by rw [List.length_reverse]; exact Nat.le_refl _)
    have h2 := congrArg List.length (List.takeWhile_append_dropWhile (p := fun c => c != 59) (l := sk l))
    rw [List.length_append] at h2
    omega
  · simpa using h
theorem cat_txt {s : List Nat} {l r : List UInt8} {x : Nat} (h : catP s l = .ok x r) : (wordW x).length + r.length ≤ l.length ∧ 3 ≤ (wordW x).length := by
  have hx := (cat_ok h).1
  unfold catP at h
  split at h
  · cases h
  · split at h
    · cases h
    · cases h
      have e : wordW (catB (wd isL l)) = wd isL l := by
        unfold wordW catB
        have hl : wordB.idxOf (wd isL l) < wordB.length := hx
        rw [List.getD_eq_getElem?_getD, List.getElem?_eq_getElem hl, Option.getD_some, List.getElem_idxOf hl]
      have h3 : ∀ c, c < 6 → 3 ≤ (wordW c).length := by decide
      exact ⟨by rw [e]; exact wd_wdR isL l, h3 _ hx⟩
theorem rule_txt {s : List Nat} {n : Nat} {l r : List UInt8} {x : RuleT} (h : ruleP s n l = .ok x r) : (ruleV x).length + 2 + 4 * r.length ≤ 4 * l.length ∧ 3 * count x.any + r.length ≤ l.length := by
  unfold ruleP at h
  split at h
  · cases h
  · rename_i c r1 h1
    obtain ⟨a1, a2⟩ := cat_txt h1
    split at h
    · cases h
    · rename_i r2 h2
      have a3 := colon_len h2
      split at h
      · cases h
      · rename_i y r3 h3
        have a4 : (condV y).length + 4 * r3.length ≤ 4 * r2.length ∧ 3 * count y + r3.length ≤ r2.length := by
          unfold bodyP at h3
          split at h3
          · cases h3
            have e1 : (condV []).length = 0 := rfl
            have e2 : count [] = 0 := rfl
            exact ⟨by omega, by omega⟩
          · exact cond_txt h3
        have a5 := smp_txt r3
        cases h
        have b1 : (if condV y = [] then [] else 32 :: condV y).length ≤ (condV y).length + 1 := by split <;> simp
        have b2 : (if smpP r3 = [] then [] else 32 :: smpP r3).length ≤ (smpP r3).length + 1 := by split <;> simp
        unfold ruleV
        simp only [List.length_append, List.length_cons, List.length_nil] at b1 b2 ⊢
        exact ⟨by omega, by omega⟩
theorem rulesL_txt : ∀ (k : Nat) (seen : List Nat) (n : Nat) (acc : List RuleT) (l r : List UInt8) (x : List RuleT), rulesL k seen n acc l = .ok x r → lenJ 2 (x.map ruleV) ≤ lenJ 2 (acc.map ruleV) + 4 * l.length
  | 0, _, _, _, _, _, _, h => by cases h
  | k + 1, seen, n, acc, l, r, x, h => by
    unfold rulesL at h
    have s1 := sk_le l
    split at h
    · cases h; omega
    · split at h
      · cases h
      · rename_i y r1 h1
        obtain ⟨a1, _⟩ := rule_txt h1
        split at h
        · have ih := rulesL_txt k _ _ _ _ _ _ h
          rw [lenJ_snoc] at ih
          have t1 := tkR_le [59] r1
          have t2 := sk_le (tkR [59] r1)
          split at ih <;> omega
        · cases h
/-- The text of what was read is at most four times as long. -/
theorem rules_txt {l r : List UInt8} {xs : List RuleT} (h : rulesP l = .ok xs r) : (rulesV xs).length ≤ 4 * l.length := by
  have h1 := rulesL_txt _ _ _ _ _ _ _ h
  have h2 := (joinK [59, 32] 2 rfl (xs.map ruleV)).1
  have e : lenJ 2 (([] : List RuleT).map ruleV) = 0 := rfl
  rw [e] at h1
  unfold rulesV
  omega
/-! the errors, with how many relations there can be -/
theorem allL_bad : ∀ (k n : Nat) (acc : List RelT) (l r : List UInt8) (e : Int), l.length < k → 3 * n + l.length < 600 → allL k n acc l = .bad e r → ErrF e
  | 0, _, _, _, _, _, hk, _, _ => by omega
  | k + 1, n, acc, l, r, e, hk, hn, h => by
    unfold allL at h
    split at h
    · rename_i ht
      have a1 := twR_lt ht (by simp)
      split at h
      · rename_i h2; cases h; exact rel_bad (by omega) h2
      · rename_i h2
        have a2 := (rel_txt h2).2
        exact allL_bad k _ _ _ _ _ (by omega) (by omega) h
    · cases h
theorem all_bad {n : Nat} {l r : List UInt8} {e : Int} (hn : 3 * n + l.length < 600) (h : allP n l = .bad e r) : ErrF e := by
  unfold allP at h
  split at h
  · rename_i h1; cases h; exact rel_bad (by omega) h1
  · rename_i h1
    have a2 := (rel_txt h1).2
    exact allL_bad _ _ _ _ _ _ (Nat.lt_succ_self _) (by omega) h
theorem condL_bad : ∀ (k n : Nat) (acc : List (List RelT)) (l r : List UInt8) (e : Int), l.length < k → 3 * n + l.length < 600 → condL k n acc l = .bad e r → ErrF e
  | 0, _, _, _, _, _, hk, _, _ => by omega
  | k + 1, n, acc, l, r, e, hk, hn, h => by
    unfold condL at h
    split at h
    · rename_i ht
      have a1 := twR_lt ht (by simp)
      split at h
      · rename_i h2; cases h; exact all_bad (by omega) h2
      · rename_i h2
        have a2 := (all_txt h2).2
        exact condL_bad k _ _ _ _ _ (by omega) (by omega) h
    · cases h
theorem cond_bad {n : Nat} {l r : List UInt8} {e : Int} (hn : 3 * n + l.length < 600) (h : condP n l = .bad e r) : ErrF e := by
  unfold condP at h
  split at h
  · rename_i h1; cases h; exact all_bad hn h1
  · rename_i h1
    have a2 := (all_txt h1).2
    exact condL_bad _ _ _ _ _ _ (Nat.lt_succ_self _) (by omega) h
theorem rule_bad {s : List Nat} {n : Nat} {l r : List UInt8} {e : Int} (hn : 3 * n + l.length < 600) (h : ruleP s n l = .bad e r) : ErrF e := by
  unfold ruleP at h
  split at h
  · rename_i h1
    cases h
    unfold catP at h1
    split at h1
    · cases h1; exact .inl rfl
    · split at h1
      · cases h1; exact .inr (.inr (.inr rfl))
      · cases h1
  · rename_i h1
    have a1 := cat_len h1
    split at h
    · rename_i h2
      cases h
      unfold colonP at h2
      split at h2
      · cases h2
      · cases h2; exact .inl rfl
    · rename_i h2
      have a2 := colon_len h2
      split at h
      · rename_i h3
        cases h
        unfold bodyP at h3
        split at h3
        · cases h3
        · exact cond_bad (by omega) h3
      · cases h
theorem rulesL_bad : ∀ (k : Nat) (seen : List Nat) (n : Nat) (acc : List RuleT) (l r : List UInt8) (e : Int), l.length < k → 3 * n + l.length < 600 → rulesL k seen n acc l = .bad e r → ErrF e
  | 0, _, _, _, _, _, _, hk, _, _ => by omega
  | k + 1, seen, n, acc, l, r, e, hk, hn, h => by
    unfold rulesL at h
    have s1 := sk_le l
    split at h
    · cases h
    · split at h
      · rename_i h1; cases h; exact rule_bad (by omega) h1
      · rename_i y r1 h1
        have a1 := (rule_txt h1).2
        have a2 := rule_len h1
        have t1 := tkR_le [59] r1
        have t2 := sk_le (tkR [59] r1)
        split at h
        · refine rulesL_bad k _ _ _ _ _ _ ?_ ?_ h
          · split <;> omega
          · split <;> omega
        · cases h; exact .inl rfl
/-- The errors of a text of less than 600 bytes. -/
theorem rules_bad {l r : List UInt8} {e : Int} (hl : l.length < 600) (h : rulesP l = .bad e r) : ErrF e :=
  rulesL_bad _ _ _ _ _ _ _ (Nat.lt_succ_self _) (by omega) h
end Florin

namespace Florin
theorem link_rules (xs : List RuleT) : rulesT xs = rulesV xs := rfl
end Florin
