/- Classes of code points: ranges in order, with others between; what joining, making and going through them tells. -/
namespace Florin
def cTop : Int := 1114111
/-- Ranges from the number a on, each behind the one ahead of it with a number between. -/
def settledFrom : Int → List (Int × Int) → Prop
  | _, [] => True
  | a, x :: t => a ≤ x.1 ∧ x.1 ≤ x.2 ∧ x.2 ≤ cTop ∧ settledFrom (x.2 + 2) t
def settledC (c : List (Int × Int)) : Prop := settledFrom 0 c
def memC (c : List (Int × Int)) (r : Int) : Prop := ∃ x ∈ c, x.1 ≤ r ∧ r ≤ x.2
def hasC (c : List (Int × Int)) (r : Int) : Bool := c.any fun x => decide (x.1 ≤ r) && decide (r ≤ x.2)
theorem hasC_iff (c : List (Int × Int)) (r : Int) : hasC c r = true ↔ memC c r := by
  unfold hasC memC
  rw [List.any_eq_true]
  simp
theorem memC_nil (r : Int) : ¬ memC [] r := by rintro ⟨x, h, _⟩; cases h
theorem memC_cons (x : Int × Int) (t : List (Int × Int)) (r : Int) : memC (x :: t) r ↔ (x.1 ≤ r ∧ r ≤ x.2) ∨ memC t r := by
  constructor
  · rintro ⟨y, hy, h⟩
    cases hy with
    | head => exact .inl h
    | tail _ hy => exact .inr ⟨y, hy, h⟩
  · rintro (h | ⟨y, hy, h⟩)
    · exact ⟨x, List.mem_cons_self .., h⟩
    · exact ⟨y, List.mem_cons_of_mem _ hy, h⟩
theorem memC_append (c d : List (Int × Int)) (r : Int) : memC (c ++ d) r ↔ memC c r ∨ memC d r := by
  constructor
  · rintro ⟨y, hy, h⟩
    rcases List.mem_append.1 hy with hy | hy
    · exact .inl ⟨y, hy, h⟩
    · exact .inr ⟨y, hy, h⟩
  · rintro (⟨y, hy, h⟩ | ⟨y, hy, h⟩)
    · exact ⟨y, List.mem_append.2 (.inl hy), h⟩
    · exact ⟨y, List.mem_append.2 (.inr hy), h⟩
theorem settled_mono {a b : Int} (h : b ≤ a) : ∀ {c : List (Int × Int)}, settledFrom a c → settledFrom b c
  | [], _ => trivial
  | _ :: _, hc => ⟨by have := hc.1; omega, hc.2⟩
theorem settled_ge {a : Int} : ∀ {c : List (Int × Int)}, settledFrom a c → ∀ r, memC c r → a ≤ r ∧ r ≤ cTop
  | [], _, r, h => absurd h (memC_nil r)
  | x :: t, hc, r, h => by
    rcases (memC_cons x t r).1 h with h | h
    · have := hc.1; have := hc.2.2.1; omega
    · have := settled_ge hc.2.2.2 r h
      have := hc.1; have := hc.2.1
      omega
theorem settled_mem {a : Int} : ∀ {c : List (Int × Int)}, settledFrom a c → ∀ x ∈ c, x.1 ≤ x.2
  | _ :: _, hc, x, hx => by
    cases hx with
    | head => exact hc.2.1
    | tail _ hx => exact settled_mem hc.2.2.2 x hx
/-- Two settled classes of the same numbers are one. -/
theorem settled_ext {a b : Int} : ∀ {c d : List (Int × Int)}, settledFrom a c → settledFrom b d → (∀ r, memC c r ↔ memC d r) → c = d
  | [], [], _, _, _ => rfl
  | [], y :: u, _, hd, h => absurd ((h y.1).2 ((memC_cons y u y.1).2 (.inl ⟨Int.le_refl _, hd.2.1⟩))) (memC_nil _)
  | x :: t, [], hc, _, h => absurd ((h x.1).1 ((memC_cons x t x.1).2 (.inl ⟨Int.le_refl _, hc.2.1⟩))) (memC_nil _)
  | x :: t, y :: u, hc, hd, h => by
    have mx : ∀ r, x.1 ≤ r → r ≤ x.2 → memC (y :: u) r := fun r h1 h2 => (h r).1 ((memC_cons x t r).2 (.inl ⟨h1, h2⟩))
    have my : ∀ r, y.1 ≤ r → r ≤ y.2 → memC (x :: t) r := fun r h1 h2 => (h r).2 ((memC_cons y u r).2 (.inl ⟨h1, h2⟩))
    have gx : ∀ r, memC (x :: t) r → x.1 ≤ r := fun r hr => by
      rcases (memC_cons x t r).1 hr with h1 | h1
      · exact h1.1
      · have := (settled_ge hc.2.2.2 r h1).1; have := hc.2.1; omega
    have gy : ∀ r, memC (y :: u) r → y.1 ≤ r := fun r hr => by
      rcases (memC_cons y u r).1 hr with h1 | h1
      · exact h1.1
      · have := (settled_ge hd.2.2.2 r h1).1; have := hd.2.1; omega
    have e1 : x.1 = y.1 := by
      have h1 := gy x.1 (mx x.1 (Int.le_refl _) hc.2.1)
      have h2 := gx y.1 (my y.1 (Int.le_refl _) hd.2.1)
      omega
    have e2 : x.2 = y.2 := by
      rcases Int.lt_trichotomy x.2 y.2 with hlt | he | hlt
      · exfalso
        have h1 := my (x.2 + 1) (by have := hc.2.1; omega) (by omega)
        rcases (memC_cons x t _).1 h1 with h2 | h2
        · omega
        · have := (settled_ge hc.2.2.2 _ h2).1; omega
      · exact he
      · exfalso
        have h1 := mx (y.2 + 1) (by have := hd.2.1; omega) (by omega)
        rcases (memC_cons y u _).1 h1 with h2 | h2
        · omega
        · have := (settled_ge hd.2.2.2 _ h2).1; omega
    have ht : t = u := settled_ext hc.2.2.2 hd.2.2.2 (fun r => by
      constructor
      · intro hr
        have h1 := (h r).1 ((memC_cons x t r).2 (.inr hr))
        rcases (memC_cons y u r).1 h1 with h2 | h2
        · have := (settled_ge hc.2.2.2 r hr).1; omega
        · exact h2
      · intro hr
        have h1 := (h r).2 ((memC_cons y u r).2 (.inr hr))
        rcases (memC_cons x t r).1 h1 with h2 | h2
        · have := (settled_ge hd.2.2.2 r hr).1; omega
        · exact h2)
    rw [ht]
    congr 1
    exact Prod.ext e1 e2
/-- A class with a range that begins no lower than its last one. -/
def joinC (c : List (Int × Int)) (x : Int × Int) : List (Int × Int) :=
  match c.getLast? with
  | none => [x]
  | some y => if x.1 ≤ y.2 + 1 then c.dropLast ++ [(y.1, max y.2 x.2)] else c ++ [x]
/-- Settled, and the last range begins no higher than b. -/
theorem settled_snoc {a : Int} {x : Int × Int} : ∀ {c : List (Int × Int)}, settledFrom a c → (∀ y, c.getLast? = some y → y.2 + 2 ≤ x.1) → (c = [] → a ≤ x.1) → x.1 ≤ x.2 → x.2 ≤ cTop → settledFrom a (c ++ [x])
  | [], _, _, h0, h1, h2 => ⟨h0 rfl, h1, h2, trivial⟩
  | y :: t, hc, hl, _, h1, h2 => by
    refine ⟨hc.1, hc.2.1, hc.2.2.1, settled_snoc hc.2.2.2 (fun z hz => ?_) (fun ht => ?_) h1 h2⟩
    · cases t with
      | nil => simp at hz
      | cons w u => exact hl z (by rw [List.getLast?_cons_cons]; exact hz)
    · subst ht
      exact hl y rfl
theorem settled_init {a : Int} {x : Int × Int} : ∀ {c : List (Int × Int)}, settledFrom a (c ++ [x]) → settledFrom a c ∧ x.1 ≤ x.2 ∧ x.2 ≤ cTop ∧ (∀ y, c.getLast? = some y → y.2 + 2 ≤ x.1) ∧ (c = [] → a ≤ x.1)
  | [], h => ⟨trivial, h.2.1, h.2.2.1, fun y hy => by simp at hy, fun _ => h.1⟩
  | y :: t, h => by
    obtain ⟨h1, h2, h3, h4, h5⟩ := settled_init (c := t) h.2.2.2
    refine ⟨⟨h.1, h.2.1, h.2.2.1, h1⟩, h2, h3, fun z hz => ?_, fun hn => by cases hn⟩
    cases t with
    | nil =>
      simp at hz
      subst hz
      exact h5 rfl
    | cons w u => rw [List.getLast?_cons_cons] at hz; exact h4 z hz
theorem join_settled {c : List (Int × Int)} {x : Int × Int} (hc : settledC c) (h0 : 0 ≤ x.1) (h1 : x.1 ≤ x.2) (h2 : x.2 ≤ cTop) (hl : ∀ y, c.getLast? = some y → y.1 ≤ x.1) :
    settledC (joinC c x) ∧ ∀ r, memC (joinC c x) r ↔ memC c r ∨ (x.1 ≤ r ∧ r ≤ x.2) := by
  unfold joinC
  cases hg : c.getLast? with
  | none =>
    have : c = [] := List.getLast?_eq_none_iff.1 hg
    subst this
    exact ⟨⟨h0, h1, h2, trivial⟩, fun r => by rw [memC_cons]; constructor <;> (intro h; rcases h with h | h <;> first | exact .inr h | exact .inl h | exact absurd h (memC_nil r))⟩
  | some y =>
    have hy := hl y hg
    have hcat : c.dropLast ++ [y] = c := by
      obtain ⟨ys, rfl⟩ := List.getLast?_eq_some_iff.1 hg
      simp
    dsimp only
    have hc2 := hc
    unfold settledC at hc2
    rw [← hcat] at hc2
    obtain ⟨i1, i2, i3, i4, i5⟩ := settled_init hc2
    by_cases hj : x.1 ≤ y.2 + 1
    · rw [if_pos hj]
      refine ⟨settled_snoc i1 i4 i5 ?_ ?_, fun r => ?_⟩
      · show y.1 ≤ max y.2 x.2; omega
      · show max y.2 x.2 ≤ cTop; omega
      · conv => rhs; rw [← hcat]
        rw [memC_append, memC_append, memC_cons, memC_cons]
        constructor
        · rintro (h | h | h)
          · exact .inl (.inl h)
          · have ha := h.1; have hb := h.2
            simp only at ha hb
            by_cases hr : r ≤ y.2
            · exact .inl (.inr (.inl ⟨ha, hr⟩))
            · exact .inr ⟨by omega, by omega⟩
          · exact absurd h (memC_nil r)
        · rintro ((h | h | h) | h)
          · exact .inl h
          · exact .inr (.inl ⟨h.1, by show r ≤ max y.2 x.2; have := h.2; omega⟩)
          · exact absurd h (memC_nil r)
          · exact .inr (.inl ⟨by show y.1 ≤ r; have := h.1; omega, by show r ≤ max y.2 x.2; have := h.2; omega⟩)
    · rw [if_neg hj]
      refine ⟨settled_snoc hc (fun z hz => ?_) (fun hn => by rw [hn] at hg; cases hg) h1 h2, fun r => ?_⟩
      · rw [hg] at hz
        cases hz
        omega
      · rw [memC_append, memC_cons]
        constructor
        · rintro (h | h | h)
          · exact .inl h
          · exact .inr h
          · exact absurd h (memC_nil r)
        · rintro (h | h)
          · exact .inl h
          · exact .inr (.inl h)
theorem join_last {c : List (Int × Int)} {x y : Int × Int} (hl : ∀ z, c.getLast? = some z → z.1 ≤ x.1) (h : (joinC c x).getLast? = some y) : y.1 ≤ x.1 := by
  unfold joinC at h
  cases hg : c.getLast? with
  | none => rw [hg] at h; simp at h; subst h; exact Int.le_refl _
  | some z =>
    rw [hg] at h
    dsimp only at h
    split at h
    · simp at h; subst h; exact hl z hg
    · simp at h; subst h; exact Int.le_refl _
/-- Ranges that rise, made a class. -/
theorem fold_join : ∀ (l c : List (Int × Int)), settledC c → (∀ x ∈ l, 0 ≤ x.1 ∧ x.1 ≤ x.2 ∧ x.2 ≤ cTop) → l.Pairwise (fun x y => x.1 ≤ y.1) → (∀ y, c.getLast? = some y → ∀ x ∈ l, y.1 ≤ x.1) →
    settledC (l.foldl joinC c) ∧ ∀ r, memC (l.foldl joinC c) r ↔ memC c r ∨ memC l r
  | [], c, hc, _, _, _ => ⟨hc, fun r => ⟨.inl, fun h => h.elim id fun h => absurd h (memC_nil r)⟩⟩
  | x :: l, c, hc, hb, hp, hl => by
    have hx := hb x (List.mem_cons_self ..)
    have hlx : ∀ z, c.getLast? = some z → z.1 ≤ x.1 := fun z hz => hl z hz x (List.mem_cons_self ..)
    have hj := join_settled hc hx.1 hx.2.1 hx.2.2 hlx
    have hp2 := List.pairwise_cons.1 hp
    have ih := fold_join l (joinC c x) hj.1 (fun y hy => hb y (List.mem_cons_of_mem _ hy)) hp2.2 (fun y hy z hz => Int.le_trans (join_last hlx hy) (hp2.1 z hz))
    refine ⟨ih.1, fun r => ?_⟩
    rw [List.foldl_cons, ih.2 r, hj.2 r, memC_cons]
    constructor
    · rintro ((h | h) | h)
      · exact .inl h
      · exact .inr (.inl h)
      · exact .inr (.inr h)
    · rintro (h | h | h)
      · exact .inl (.inl h)
      · exact .inl (.inr h)
      · exact .inr h
/-- Whether a number is in a class, and up to where all are likewise. -/
def stretchC (c : List (Int × Int)) (r : Int) : Bool × Int :=
  match c.find? (fun x => decide (r ≤ x.2)) with
  | none => (false, cTop)
  | some x => if x.1 ≤ r then (true, x.2) else (false, x.1 - 1)
theorem stretch_ok {a : Int} : ∀ {c : List (Int × Int)}, settledFrom a c → ∀ r, r ≤ cTop → r ≤ (stretchC c r).2 ∧ (stretchC c r).2 ≤ cTop ∧ ∀ q, r ≤ q → q ≤ (stretchC c r).2 → (memC c q ↔ (stretchC c r).1 = true)
  | [], _, r, hr => ⟨hr, Int.le_refl _, fun q _ _ => ⟨fun h => absurd h (memC_nil q), fun h => by cases h⟩⟩
  | x :: t, hc, r, hr => by
    by_cases hx : r ≤ x.2
    · have e : stretchC (x :: t) r = if x.1 ≤ r then (true, x.2) else (false, x.1 - 1) := by
        unfold stretchC
        rw [List.find?_cons_of_pos (by simpa using hx)]
      rw [e]
      by_cases hl : x.1 ≤ r
      · rw [if_pos hl]
        exact ⟨hx, hc.2.2.1, fun q h1 h2 => ⟨fun _ => rfl, fun _ => (memC_cons x t q).2 (.inl ⟨Int.le_trans hl h1, h2⟩)⟩⟩
      · rw [if_neg hl]
        refine ⟨by show r ≤ x.1 - 1; omega, by show x.1 - 1 ≤ cTop; have := hc.2.1; have := hc.2.2.1; omega, fun q h1 h2 => ⟨fun h => ?_, fun h => by cases h⟩⟩
        exfalso
        have h3 : q ≤ x.1 - 1 := h2
        rcases (memC_cons x t q).1 h with h4 | h4
        · omega
        · have := (settled_ge hc.2.2.2 q h4).1; have := hc.2.1; omega
    · have e : stretchC (x :: t) r = stretchC t r := by
        unfold stretchC
        rw [List.find?_cons_of_neg (by simpa using hx)]
      rw [e]
      obtain ⟨h1, h2, h3⟩ := stretch_ok hc.2.2.2 r hr
      refine ⟨h1, h2, fun q hq1 hq2 => ?_⟩
      rw [memC_cons, ← h3 q hq1 hq2]
      constructor
      · rintro (h | h)
        · omega
        · exact h
      · exact .inr
/-- The code points of which two classes' tests tell that they are to be kept, from lo on. -/
def withC (f : Bool → Bool → Bool) (c o : List (Int × Int)) : Nat → Int → List (Int × Int) → List (Int × Int)
  | 0, _, out => out
  | n + 1, lo, out => if lo ≤ cTop then
      withC f c o n (min (stretchC c lo).2 (stretchC o lo).2 + 1) (if f (stretchC c lo).1 (stretchC o lo).1 then joinC out (lo, min (stretchC c lo).2 (stretchC o lo).2) else out)
    else out
theorem with_ok {f : Bool → Bool → Bool} {c o : List (Int × Int)} (hc : settledC c) (ho : settledC o) : ∀ (n : Nat) (lo : Int) (out : List (Int × Int)), 0 ≤ lo → (cTop + 1 - lo).toNat ≤ n → lo ≤ cTop + 1 → settledC out → (∀ x ∈ out, x.2 < lo) →
    settledC (withC f c o n lo out) ∧ ∀ r, memC (withC f c o n lo out) r ↔ memC out r ∨ (lo ≤ r ∧ r ≤ cTop ∧ f (hasC c r) (hasC o r) = true)
  | 0, lo, out, h0, hn, ht, hs, _ => ⟨hs, fun r => ⟨.inl, fun h => h.elim id fun h => by have := h.1; have := h.2.1; omega⟩⟩
  | n + 1, lo, out, h0, hn, ht, hs, hb => by
    unfold withC
    by_cases hl : lo ≤ cTop
    · rw [if_pos hl]
      obtain ⟨a1, a2, a3⟩ := stretch_ok hc lo hl
      obtain ⟨b1, b2, b3⟩ := stretch_ok ho lo hl
      generalize hhi : min (stretchC c lo).2 (stretchC o lo).2 = hi at *
      have hlh : lo ≤ hi := by omega
      have hht : hi ≤ cTop := by omega
      have hin : ∀ r, lo ≤ r → r ≤ hi → (f (hasC c r) (hasC o r) = true ↔ f (stretchC c lo).1 (stretchC o lo).1 = true) := by
        intro r h1 h2
        have e1 : hasC c r = (stretchC c lo).1 := by rw [Bool.eq_iff_iff, hasC_iff]; exact a3 r h1 (by omega)
        have e2 : hasC o r = (stretchC o lo).1 := by rw [Bool.eq_iff_iff, hasC_iff]; exact b3 r h1 (by omega)
        rw [e1, e2]
      cases hf : f (stretchC c lo).1 (stretchC o lo).1 with
      | false =>
        rw [if_neg (by decide)]
        have ih := with_ok (f := f) hc ho n (hi + 1) out (by omega) (by omega) (by omega) hs (fun x hx => by have := hb x hx; omega)
        refine ⟨ih.1, fun r => ?_⟩
        rw [ih.2 r]
        constructor
        · rintro (h | h)
          · exact .inl h
          · exact .inr ⟨by omega, h.2⟩
        · rintro (h | h)
          · exact .inl h
          · by_cases hr : r ≤ hi
            · have := (hin r h.1 hr).1 h.2.2
              rw [hf] at this
              cases this
            · exact .inr ⟨by omega, h.2⟩
      | true =>
        rw [if_pos rfl]
        have hlast : ∀ y, out.getLast? = some y → y.1 ≤ lo := fun y hy => by
          have hm := List.mem_of_getLast? hy
          have h1 := hb y hm
          have h2 := settled_mem hs y hm
          omega
        have hj := join_settled (x := (lo, hi)) hs h0 hlh hht hlast
        have ih := with_ok (f := f) hc ho n (hi + 1) (joinC out (lo, hi)) (by omega) (by omega) (by omega) hj.1 (fun x hx => by
          have hx2 := settled_mem hj.1 x hx
          rcases (hj.2 x.2).1 ⟨x, hx, hx2, Int.le_refl _⟩ with ⟨y, hy, h1⟩ | h1
          · have := hb y hy; omega
          · have : x.2 ≤ hi := h1.2
            omega)
        refine ⟨ih.1, fun r => ?_⟩
        rw [ih.2 r, hj.2 r]
        constructor
        · rintro ((h | h) | h)
          · exact .inl h
          · have h1 : lo ≤ r := h.1
            have h2 : r ≤ hi := h.2
            exact .inr ⟨h1, by omega, (hin r h1 h2).2 hf⟩
          · exact .inr ⟨by omega, h.2⟩
        · rintro (h | h)
          · exact .inl (.inl h)
          · by_cases hr : r ≤ hi
            · exact .inl (.inr ⟨h.1, hr⟩)
            · exact .inr ⟨by omega, h.2⟩
    · rw [if_neg hl]
      exact ⟨hs, fun r => ⟨.inl, fun h => h.elim id fun h => by have := h.1; have := h.2.1; omega⟩⟩
end Florin
