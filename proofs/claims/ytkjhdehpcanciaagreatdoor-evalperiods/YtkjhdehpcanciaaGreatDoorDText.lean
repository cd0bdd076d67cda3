/- Plain facts on the texts of decimals: the grammar, and how a text is cut at its marks. No program here. -/
import Derived.Test.YtkjhdehpcanciaaGreatDoorDPlain
import Derived.Lib.Strings
import Derived.Lib.IndexAny
import Derived.Lib.IndexMore
namespace Florin

def isE (c : UInt8) : Bool := c == 101 || c == 69
def minus (s : List UInt8) : Bool := s.head? == some 45
def less (s : List UInt8) : List UInt8 := if minus s then s.tail else s
def plus (s : List UInt8) : Bool := s.head? == some 43
def sdig (l : List UInt8) : Bool := !l.isEmpty && isDig l
/-- Without a sign ahead. -/
def bareP (s : List UInt8) : List UInt8 := if minus s then s.tail else if plus s then s.tail else s
def eA (s : List UInt8) : List UInt8 := (less s).takeWhile fun c => !isE c
def eB (s : List UInt8) : List UInt8 := (less s).dropWhile fun c => !isE c
def pw (s : List UInt8) : List UInt8 := bareP (eB s).tail
def pneg (s : List UInt8) : Bool := minus (eB s).tail
def whole (s : List UInt8) : List UInt8 := (eA s).takeWhile fun c => c != 46
def pB (s : List UInt8) : List UInt8 := (eA s).dropWhile fun c => c != 46
def frac (s : List UInt8) : List UInt8 := (pB s).tail
/-- Is it a decimal's text? -/
def okF (s : List UInt8) : Bool := ((eB s).isEmpty || sdig (pw s)) && (sdig (whole s) && ((pB s).isEmpty || sdig (frac s)))
def longF (s : List UInt8) : Bool := decide (10000 < val (pw s)) || decide (1000 < (whole s).length + (frac s).length)
def powF (s : List UInt8) : Int := if pneg s then -(val (pw s) : Int) else val (pw s)
def decF (s : List UInt8) : Tri := made (minus s) (whole s ++ frac s) (powF s - (frac s).length)
def errF (s : List UInt8) : Int := if okF s then (if longF s then 2 else 0) else 1
def triF (s : List UInt8) : Tri := if okF s then (if longF s then zero else decF s) else zero

theorem hasPrefix_one (s : List UInt8) (c : UInt8) : Go.Lib.hasPrefix s [c] = (s.head? == some c) := by
  cases s with
  | nil => rfl
  | cons a t =>
    simp only [Go.Lib.hasPrefix, List.head?_cons, List.isPrefixOf]
    by_cases h : c = a
    · subst h; simp
    · have h' : ¬ a = c := fun e => h e.symm
      rw [show (some a == some c) = false by simp [h'], show (c == a) = false by simp [h]]; rfl
theorem trimPrefix_minus (s : List UInt8) : Go.Lib.trimPrefix s [45] = less s := by
  unfold Go.Lib.trimPrefix less minus
  rw [hasPrefix_one]; simp
theorem trimPrefix_plus (s : List UInt8) : Go.Lib.trimPrefix s [43] = if plus s then s.tail else s := by
  unfold Go.Lib.trimPrefix plus
  rw [hasPrefix_one]; simp
/-- Where the first of two bytes stands. -/
theorem indexAny_eE (l : List UInt8) : (Go.Lib.indexAny l [101, 69] = -1 ∧ l.dropWhile (fun c => !isE c) = [] ∧ l.takeWhile (fun c => !isE c) = l) ∨
    (∃ k : Nat, Go.Lib.indexAny l [101, 69] = k ∧ k < l.length ∧ l.takeWhile (fun c => !isE c) = l.take k ∧ l.dropWhile (fun c => !isE c) = l.drop k ∧ (l.dropWhile (fun c => !isE c)).tail = l.drop (k + 1)) := by
  induction l with
  | nil => left; exact ⟨rfl, rfl, rfl⟩
  | cons a l ih =>
    have hc : List.contains [101, 69] a = isE a := by
      unfold isE; simp [List.contains, List.elem]
      cases a == 101 <;> cases a == 69 <;> rfl
    by_cases h : isE a = true
    · right
      refine ⟨0, ?_, by simp, ?_, ?_, ?_⟩
      · unfold Go.Lib.indexAny; rw [hc, if_pos h]; rfl
      · simp [h]
      · simp [h]
      · simp [h]
    · have h' : isE a = false := by simpa using h
      rcases ih with ⟨i1, i2, i3⟩ | ⟨k, i1, i2, i3, i4, i5⟩
      · left
        refine ⟨?_, ?_, ?_⟩
        · unfold Go.Lib.indexAny; rw [hc, h', i1]; rfl
        · simp [h', i2]
        · simp [h', i3]
      · right
        refine ⟨k + 1, ?_, by simp; omega, ?_, ?_, ?_⟩
        · unfold Go.Lib.indexAny; rw [hc, h', i1]
          have : ((k : Int) == -1) = false := by simp
          rw [this]; simp
        · simp [h', i3]
        · simp [h', i4]
        · simp only [List.dropWhile_cons, h', Bool.not_false, if_true]; rw [i5]; rfl
theorem index_dot (l : List UInt8) : (Go.Lib.index l [46] = -1 ∧ l.dropWhile (fun c => c != 46) = [] ∧ l.takeWhile (fun c => c != 46) = l) ∨
    (∃ k : Nat, Go.Lib.index l [46] = k ∧ k < l.length ∧ l.takeWhile (fun c => c != 46) = l.take k ∧ l.dropWhile (fun c => c != 46) = l.drop k ∧ (l.dropWhile (fun c => c != 46)).tail = l.drop (k + 1)) := by
  induction l with
  | nil => left; exact ⟨rfl, rfl, rfl⟩
  | cons a l ih =>
    by_cases h : a = 46
    · subst h
      right
      exact ⟨0, by unfold Go.Lib.index; simp, by simp, by simp, by simp, by simp⟩
    · have hp : List.isPrefixOf [46] (a :: l) = false := by simp [List.isPrefixOf]; exact fun e => h e.symm
      rcases ih with ⟨i1, i2, i3⟩ | ⟨k, i1, i2, i3, i4, i5⟩
      · left
        refine ⟨?_, ?_, ?_⟩
        · unfold Go.Lib.index; rw [hp, i1]; rfl
        · simp [h, i2]
        · simp [h, i3]
      · right
        refine ⟨k + 1, ?_, by simp; omega, ?_, ?_, ?_⟩
        · unfold Go.Lib.index; rw [hp, i1]
          have : ((k : Int) == -1) = false := by simp
          rw [this]; simp
        · simp [h, i3]
        · simp [h, i4]
        · simp only [List.dropWhile_cons, bne_iff_ne, ne_eq, h, not_false_eq_true, if_true]; rw [i5]; rfl

/-! a decimal's text, written -/
def sgnL (b : Bool) : List UInt8 := if b then [45] else []
def render (neg : Bool) (W : List UInt8) (pt : Bool) (P : List UInt8) (ex : Bool) (c : UInt8) (sgn Q : List UInt8) : List UInt8 :=
  sgnL neg ++ (W ++ ((if pt then 46 :: P else []) ++ (if ex then c :: (sgn ++ Q) else [])))
structure Wf (W : List UInt8) (pt : Bool) (P : List UInt8) (ex : Bool) (c : UInt8) (sgn Q : List UInt8) : Prop where
  w : sdig W = true
  p : if pt then sdig P = true else P = []
  e : if ex then (isE c = true ∧ (sgn = [] ∨ sgn = [43] ∨ sgn = [45]) ∧ sdig Q = true) else (sgn = [] ∧ Q = [])
theorem sdig_iff (l : List UInt8) : sdig l = true ↔ l ≠ [] ∧ isDig l = true := by
  unfold sdig; cases l <;> simp
theorem sdig_cons {l : List UInt8} (h : sdig l = true) : ∃ c t, l = c :: t ∧ isD c = true := by
  rw [sdig_iff] at h
  cases l with
  | nil => exact absurd rfl h.1
  | cons c t => refine ⟨c, t, rfl, ?_⟩; have := h.2; rw [isDig_cons] at this; simp at this; exact this.1
theorem isD_ne {c d : UInt8} (h : isD c = true) (hd : isD d = false) : c ≠ d := by intro e; subst e; rw [h] at hd; cases hd
theorem isD_isE {c : UInt8} (h : isD c = true) : isE c = false := by
  have h1 := isD_ne (d := 101) h (by decide)
  have h2 := isD_ne (d := 69) h (by decide)
  unfold isE; simp [h1, h2]
theorem takeWhile_all {p : UInt8 → Bool} (a b : List UInt8) (h : ∀ c ∈ a, p c = true) : (a ++ b).takeWhile p = a ++ b.takeWhile p ∧ (a ++ b).dropWhile p = b.dropWhile p := by
  induction a with
  | nil => exact ⟨rfl, rfl⟩
  | cons c a ih =>
    have h1 := h c (by simp)
    have h2 := ih (fun d hd => h d (by simp [hd]))
    simp [h1, h2.1, h2.2]
theorem isDig_mem {l : List UInt8} (h : isDig l = true) {c : UInt8} (hc : c ∈ l) : isD c = true := by
  unfold isDig at h; rw [List.all_eq_true] at h; exact h c hc
theorem minus_sgn (b : Bool) {t : List UInt8} (h : minus t = false) : minus (sgnL b ++ t) = b ∧ less (sgnL b ++ t) = t := by
  cases b
  · constructor
    · exact h
    · show less t = t
      unfold less; rw [h]; rfl
  · constructor
    · rfl
    · rfl
theorem minus_dig {c : UInt8} {t : List UInt8} (h : isD c = true) : minus (c :: t) = false := by
  have := isD_ne (d := 45) h (by decide)
  unfold minus; simp [this]
theorem plus_dig {c : UInt8} {t : List UInt8} (h : isD c = true) : plus (c :: t) = false := by
  have := isD_ne (d := 43) h (by decide)
  unfold plus; simp [this]
theorem bareP_sgn {sgn Q : List UInt8} (hs : sgn = [] ∨ sgn = [43] ∨ sgn = [45]) (hq : sdig Q = true) : bareP (sgn ++ Q) = Q ∧ minus (sgn ++ Q) = (sgn == [45]) := by
  obtain ⟨c, t, rfl, hc⟩ := sdig_cons hq
  rcases hs with rfl | rfl | rfl
  · constructor
    · show bareP (c :: t) = _
      unfold bareP; rw [minus_dig hc, plus_dig hc]; rfl
    · exact minus_dig hc
  · exact ⟨rfl, rfl⟩
  · exact ⟨rfl, rfl⟩
/-- What a text that is written so is cut into. -/
theorem render_parts {neg : Bool} {W : List UInt8} {pt : Bool} {P : List UInt8} {ex : Bool} {c : UInt8} {sgn Q : List UInt8} (h : Wf W pt P ex c sgn Q) :
    minus (render neg W pt P ex c sgn Q) = neg ∧ (eB (render neg W pt P ex c sgn Q)).isEmpty = !ex ∧ pw (render neg W pt P ex c sgn Q) = Q ∧ pneg (render neg W pt P ex c sgn Q) = (sgn == [45]) ∧
      whole (render neg W pt P ex c sgn Q) = W ∧ (pB (render neg W pt P ex c sgn Q)).isEmpty = !pt ∧ frac (render neg W pt P ex c sgn Q) = P := by
  obtain ⟨hw, hp, he⟩ := h
  have hW := ((sdig_iff W).1 hw).2
  obtain ⟨c0, t0, e0, hc0⟩ := sdig_cons hw
  have hm : minus (W ++ ((if pt then 46 :: P else []) ++ (if ex then c :: (sgn ++ Q) else []))) = false := by
    rw [e0]; exact minus_dig hc0
  obtain ⟨m1, m2⟩ := minus_sgn neg hm
  have hA : ∀ d ∈ W ++ (if pt then 46 :: P else []), (fun c => !isE c) d = true := by
    intro d hd
    rw [List.mem_append] at hd
    rcases hd with hd | hd
    · simp [isD_isE (isDig_mem hW hd)]
    · cases pt with
      | false => simp at hd
      | true =>
        simp at hd hp
        rcases hd with rfl | hd
        · rfl
        · simp [isD_isE (isDig_mem ((sdig_iff P).1 hp).2 hd)]
  have hE1 : (if ex then c :: (sgn ++ Q) else []).takeWhile (fun c => !isE c) = [] := by
    cases ex with
    | false => rfl
    | true => simp at he; simp [he.1]
  have hE2 : (if ex then c :: (sgn ++ Q) else []).dropWhile (fun c => !isE c) = if ex then c :: (sgn ++ Q) else [] := by
    cases ex with
    | false => rfl
    | true => simp at he; simp [he.1]
  have eAe : eA (render neg W pt P ex c sgn Q) = W ++ (if pt then 46 :: P else []) := by
    unfold eA render; rw [m2, ← List.append_assoc, (takeWhile_all _ _ hA).1, hE1, List.append_nil]
  have eBe : eB (render neg W pt P ex c sgn Q) = if ex then c :: (sgn ++ Q) else [] := by
    unfold eB render; rw [m2, ← List.append_assoc, (takeWhile_all _ _ hA).2, hE2]
  have hD : ∀ d ∈ W, (fun c : UInt8 => c != 46) d = true := by
    intro d hd
    have := isD_ne (d := 46) (isDig_mem hW hd) (by decide)
    simp [this]
  have hP1 : (if pt then 46 :: P else []).takeWhile (fun c : UInt8 => c != 46) = [] := by cases pt <;> rfl
  have hP2 : (if pt then 46 :: P else []).dropWhile (fun c : UInt8 => c != 46) = if pt then 46 :: P else [] := by cases pt <;> rfl
  have we : whole (render neg W pt P ex c sgn Q) = W := by
    unfold whole; rw [eAe, (takeWhile_all _ _ hD).1, hP1, List.append_nil]
  have pe : pB (render neg W pt P ex c sgn Q) = if pt then 46 :: P else [] := by
    unfold pB; rw [eAe, (takeWhile_all _ _ hD).2, hP2]
  refine ⟨m1, ?_, ?_, ?_, we, ?_, ?_⟩
  · rw [eBe]; cases ex <;> rfl
  · unfold pw; rw [eBe]
    cases ex with
    | false => simp at he; simp [he.2]; rfl
    | true => simp at he; exact (bareP_sgn he.2.1 he.2.2).1
  · unfold pneg; rw [eBe]
    cases ex with
    | false => simp at he; simp [he.1]; rfl
    | true => simp at he; exact (bareP_sgn he.2.1 he.2.2).2
  · rw [pe]; cases pt <;> rfl
  · unfold frac; rw [pe]
    cases pt with
    | false => simp at hp; simp [hp]
    | true => rfl
theorem render_ok {neg : Bool} {W : List UInt8} {pt : Bool} {P : List UInt8} {ex : Bool} {c : UInt8} {sgn Q : List UInt8} (h : Wf W pt P ex c sgn Q) : okF (render neg W pt P ex c sgn Q) = true := by
  obtain ⟨h1, h2, h3, h4, h5, h6, h7⟩ := render_parts (neg := neg) h
  unfold okF
  rw [h2, h3, h5, h6, h7, h.w]
  obtain ⟨_, hp, he⟩ := h
  cases ex <;> cases pt <;> simp_all
theorem render_tri {neg : Bool} {W : List UInt8} {pt : Bool} {P : List UInt8} {ex : Bool} {c : UInt8} {sgn Q : List UInt8} (h : Wf W pt P ex c sgn Q) (h1 : val Q ≤ 10000) (h2 : W.length + P.length ≤ 1000) :
    errF (render neg W pt P ex c sgn Q) = 0 ∧ triF (render neg W pt P ex c sgn Q) = made neg (W ++ P) ((if sgn == [45] then -(val Q : Int) else val Q) - P.length) := by
  obtain ⟨r1, r2, r3, r4, r5, r6, r7⟩ := render_parts (neg := neg) h
  have hl : longF (render neg W pt P ex c sgn Q) = false := by unfold longF; rw [r3, r5, r7]; simp; omega
  unfold errF triF
  rw [render_ok h, hl]
  refine ⟨rfl, ?_⟩
  simp only [if_true, Bool.false_eq_true, if_false]
  unfold decF powF
  rw [r1, r3, r4, r5, r7]
theorem render_long {neg : Bool} {W : List UInt8} {pt : Bool} {P : List UInt8} {ex : Bool} {c : UInt8} {sgn Q : List UInt8} (h : Wf W pt P ex c sgn Q) (h1 : 10000 < val Q ∨ 1000 < W.length + P.length) :
    errF (render neg W pt P ex c sgn Q) = 2 ∧ triF (render neg W pt P ex c sgn Q) = zero := by
  obtain ⟨r1, r2, r3, r4, r5, r6, r7⟩ := render_parts (neg := neg) h
  have hl : longF (render neg W pt P ex c sgn Q) = true := by unfold longF; rw [r3, r5, r7]; simp; omega
  unfold errF triF
  rw [render_ok h, hl]
  exact ⟨rfl, rfl⟩
end Florin
