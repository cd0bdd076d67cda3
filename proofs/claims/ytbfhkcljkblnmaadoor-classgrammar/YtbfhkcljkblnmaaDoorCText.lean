/- Texts of classes: what is read of a text's bytes, in plain words. -/
import Derived.Test.YtbfhkcljkblnmaaDoorGPlain
import Derived.Test.YtbfhkcljkblnmaaDoorCPlain
namespace Florin
/-- Without the blanks ahead. -/
def bl (l : List UInt8) : List UInt8 := l.dropWhile fun c => c == 32
def ctk (g l : List UInt8) : Bool := g.isPrefixOf (bl l)
def ctkR (g l : List UInt8) : List UInt8 := if ctk g l then (bl l).drop g.length else bl l
def isMark (c : Nat) : Bool := c == 91 || c == 93 || c == 45 || c == 94 || c == 92 || c == 32
def hexD (c : UInt8) : Option Nat := if 48 ≤ c.toNat ∧ c.toNat ≤ 57 then some (c.toNat - 48) else if 97 ≤ c.toNat ∧ c.toNat ≤ 102 then some (c.toNat - 87) else none
def hexRun : Nat → List UInt8 → List UInt8
  | 0, _ => []
  | _ + 1, [] => []
  | f + 1, c :: t => if (hexD c).isSome then c :: hexRun f t else []
def hexN (l : List UInt8) : Nat := l.foldl (fun n c => n * 16 + (hexD c).getD 0) 0
def codedP (l : List UInt8) : Nat × Nat :=
  if hexRun 6 l = [] ∨ 1114111 < hexN (hexRun 6 l) ∨ ([125] : List UInt8).isPrefixOf (l.drop (hexRun 6 l).length) = false then (0, 0) else (hexN (hexRun 6 l), (hexRun 6 l).length + 4)
def escP (l : List UInt8) : Nat × Nat :=
  if ([117, 123] : List UInt8).isPrefixOf l then codedP (l.drop 2) else match l with
    | [] => (0, 0)
    | c :: _ => if isMark c.toNat then (c.toNat, 2) else (0, 0)
def numP (l : List UInt8) : Nat × Nat :=
  if ([92] : List UInt8).isPrefixOf l then escP (l.drop 1) else if lead l = 0 ∨ isMark (code l) = true then (0, 0) else (code l, lead l)
/-- A number that isn't below another one: it, whether there is one, what is left. -/
def nfP (least : Int) (l : List UInt8) : Int × Bool × List UInt8 :=
  if (numP (bl l)).2 = 0 ∨ ((numP (bl l)).1 : Int) < least then (0, false, bl l) else ((numP (bl l)).1, true, (bl l).drop (numP (bl l)).2)
def spanP (l : List UInt8) : (Int × Int) × Bool × List UInt8 :=
  if (nfP 0 l).2.1 = false then ((0, 0), false, (nfP 0 l).2.2)
  else if ctk [45] (nfP 0 l).2.2 then (((nfP 0 l).1, (nfP (nfP 0 l).1 (ctkR [45] (nfP 0 l).2.2)).1), (nfP (nfP 0 l).1 (ctkR [45] (nfP 0 l).2.2)).2.1, (nfP (nfP 0 l).1 (ctkR [45] (nfP 0 l).2.2)).2.2)
  else (((nfP 0 l).1, (nfP 0 l).1), true, bl (nfP 0 l).2.2)
def spansP : Nat → List UInt8 → List (Int × Int) × Bool × List UInt8
  | 0, l => ([], false, l)
  | f + 1, l => if ctk [93] l then ([], true, ctkR [93] l)
    else if (spanP (bl l)).2.1 = true then ((spanP (bl l)).1 :: (spansP f (spanP (bl l)).2.2).1, (spansP f (spanP (bl l)).2.2).2)
    else ([], false, (spanP (bl l)).2.2)
/-- What is inside: the ranges that stand there, whether what isn't in them is meant, whether this is all right, and what is left. -/
def inP (l : List UInt8) : List UInt8 := ctkR [94] (ctkR [91] l)
def classP (l : List UInt8) : List (Int × Int) × Bool × Bool × List UInt8 :=
  if ctk [91] l then ((spansP ((inP l).length + 1) (inP l)).1, ctk [94] (ctkR [91] l), (spansP ((inP l).length + 1) (inP l)).2.1 && (bl (spansP ((inP l).length + 1) (inP l)).2.2).isEmpty, bl (spansP ((inP l).length + 1) (inP l)).2.2)
  else ([], false, false, bl l)
theorem bl_le (l : List UInt8) : (bl l).length ≤ l.length := (List.dropWhile_suffix _).length_le
theorem bl_idem (l : List UInt8) : bl (bl l) = bl l := by
  induction l with
  | nil => rfl
  | cons c t ih =>
    unfold bl
    rw [List.dropWhile_cons]
    split
    · exact ih
    · rw [List.dropWhile_cons, if_neg (by assumption)]
theorem bl_no {c : UInt8} (h : c ≠ 32) (t : List UInt8) : bl (c :: t) = c :: t := by
  unfold bl; rw [List.dropWhile_cons, if_neg (by simpa using h)]
theorem ctk_bl (g l : List UInt8) : ctk g (bl l) = ctk g l := by unfold ctk; rw [bl_idem]
theorem ctkR_bl (g l : List UInt8) : ctkR g (bl l) = ctkR g l := by unfold ctkR; rw [ctk_bl, bl_idem]
theorem nfP_bl (k : Int) (l : List UInt8) : nfP k (bl l) = nfP k l := by unfold nfP; rw [bl_idem]
theorem spanP_bl (l : List UInt8) : spanP (bl l) = spanP l := by unfold spanP; rw [nfP_bl]
theorem ctkR_le (g l : List UInt8) : (ctkR g l).length ≤ l.length := by
  have := bl_le l
  unfold ctkR
  split
  · rw [List.length_drop]; omega
  · omega
theorem hexRun_le : ∀ (f : Nat) (l : List UInt8), (hexRun f l).length ≤ f ∧ (hexRun f l).length ≤ l.length
  | 0, _ => by simp [hexRun]
  | f + 1, [] => by simp [hexRun]
  | f + 1, c :: t => by
    have := hexRun_le f t
    unfold hexRun
    split
    · simp; omega
    · simp
theorem hexRun_pre : ∀ (f : Nat) (l : List UInt8), hexRun f l = l.take (hexRun f l).length
  | 0, _ => by simp [hexRun]
  | f + 1, [] => by simp [hexRun]
  | f + 1, c :: t => by
    have := hexRun_pre f t
    unfold hexRun
    split
    · rw [List.length_cons, List.take_succ_cons, ← this]
    · simp
theorem pre_len {g l : List UInt8} (h : g.isPrefixOf l = true) : g.length ≤ l.length := (List.isPrefixOf_iff_prefix.1 h).length_le
theorem coded_le (l : List UInt8) : (codedP l).1 ≤ 1114111 ∧ ((codedP l).2 = 0 ∨ 4 < (codedP l).2 ∧ (codedP l).2 ≤ l.length + 3) := by
  unfold codedP
  split
  · simp
  · rename_i h
    have h1 := hexRun_le 6 l
    have h2 : ([125] : List UInt8).isPrefixOf (l.drop (hexRun 6 l).length) = true := by
      cases hq : ([125] : List UInt8).isPrefixOf (l.drop (hexRun 6 l).length) with
      | true => rfl
      | false => exact absurd (.inr (.inr hq)) h
    have h3 := pre_len h2
    have h4 : 0 < (hexRun 6 l).length := List.length_pos_iff.2 (fun e => h (.inl e))
    have h5 : ¬ 1114111 < hexN (hexRun 6 l) := fun e => h (.inr (.inl e))
    simp at h3
    exact ⟨by show hexN _ ≤ _; omega, .inr ⟨by show 4 < _ + 4; omega, by show _ + 4 ≤ _; omega⟩⟩
theorem esc_le (l : List UInt8) : (escP l).1 ≤ 1114111 ∧ ((escP l).2 = 0 ∨ 0 < (escP l).2 ∧ (escP l).2 ≤ l.length + 1) := by
  unfold escP
  split
  · rename_i h
    have h1 := coded_le (l.drop 2)
    have h2 := pre_len h
    rw [List.length_drop] at h1
    simp at h2
    refine ⟨h1.1, ?_⟩
    rcases h1.2 with h3 | h3
    · exact .inl h3
    · exact .inr ⟨by omega, by omega⟩
  · cases l with
    | nil => simp
    | cons c t =>
      dsimp only
      have := c.toNat_lt
      split
      · exact ⟨by show c.toNat ≤ _; omega, .inr ⟨Nat.zero_lt_succ 1, by show 2 ≤ _; simp⟩⟩
      · simp
theorem code_top (l : List UInt8) (h : lead l ≠ 0) : code l ≤ 1114111 := by
  have hl : l ≠ [] := by rintro rfl; exact h rfl
  have hb := bt_lt l 0
  unfold lead at h
  rw [if_neg hl] at h
  unfold code codeN
  generalize bt l 0 = a at *
  generalize bt l 1 = b at *
  rcases wid_cases a with ⟨h1, hw⟩ | ⟨h1, h2, hw⟩ | ⟨h1, h2, hw⟩ | ⟨h1, h2, hw⟩ | ⟨h1, hw⟩
  · rw [hw]; simp; omega
  · rw [hw]; simp; omega
  · rw [hw]; simp; omega
  · rw [lead4 hw] at h
    have h3 : 4 ≤ l.length ∧ sLo a ≤ b ∧ b ≤ sHi a ∧ 128 ≤ bt l 2 ∧ bt l 2 ≤ 191 ∧ 128 ≤ bt l 3 ∧ bt l 3 ≤ 191 := by
      by_cases hq : 4 ≤ l.length ∧ sLo a ≤ b ∧ b ≤ sHi a ∧ 128 ≤ bt l 2 ∧ bt l 2 ≤ 191 ∧ 128 ≤ bt l 3 ∧ bt l 3 ≤ 191
      · exact hq
      · rw [if_neg hq] at h; exact absurd rfl h
    obtain ⟨_, h5, h4, _⟩ := h3
    have h6 := (sl_le a).1
    unfold sHi at h4
    rw [hw]
    simp
    split at h4 <;> (try split at h4) <;> omega
  · exact absurd (lead0 hw) h
theorem num_le (l : List UInt8) : (numP l).1 ≤ 1114111 ∧ ((numP l).2 = 0 ∨ 0 < (numP l).2 ∧ (numP l).2 ≤ l.length) := by
  unfold numP
  split
  · rename_i h
    have h1 := esc_le (l.drop 1)
    have h2 := pre_len h
    rw [List.length_drop] at h1
    simp at h2
    refine ⟨h1.1, ?_⟩
    rcases h1.2 with h3 | h3
    · exact .inl h3
    · exact .inr ⟨by omega, by omega⟩
  · split
    · simp
    · rename_i h
      have h0 : lead l ≠ 0 := fun e => h (.inl e)
      exact ⟨code_top l h0, .inr ⟨Nat.pos_of_ne_zero h0, lead_le l⟩⟩
theorem nf_le (k : Int) (l : List UInt8) : (nfP k l).2.2.length ≤ l.length ∧ ((nfP k l).2.1 = true → (nfP k l).2.2.length < l.length ∧ k ≤ (nfP k l).1 ∧ 0 ≤ (nfP k l).1 ∧ (nfP k l).1 ≤ 1114111) ∧ ((nfP k l).2.1 = false → (nfP k l).1 = 0) := by
  have h1 := bl_le l
  have h2 := num_le (bl l)
  unfold nfP
  split
  · exact ⟨h1, (fun h => by cases h), fun _ => rfl⟩
  · rename_i h
    have h3 : (numP (bl l)).2 ≠ 0 := fun e => h (.inl e)
    have h4 : ¬ ((numP (bl l)).1 : Int) < k := fun e => h (.inr e)
    dsimp only
    refine ⟨by rw [List.length_drop]; omega, (fun _ => ⟨by rw [List.length_drop]; omega, by omega, by omega, by omega⟩), fun h => by cases h⟩
theorem span_le (l : List UInt8) : (spanP l).2.2.length ≤ l.length ∧ ((spanP l).2.1 = true → (spanP l).2.2.length < l.length ∧ 0 ≤ (spanP l).1.1 ∧ (spanP l).1.1 ≤ (spanP l).1.2 ∧ (spanP l).1.2 ≤ 1114111) := by
  have h1 := nf_le 0 l
  unfold spanP
  split
  · exact ⟨h1.1, fun h => by cases h⟩
  · rename_i h
    have h2 := h1.2.1 (by cases hq : (nfP 0 l).2.1 <;> simp_all)
    split
    · have h3 := nf_le (nfP 0 l).1 (ctkR [45] (nfP 0 l).2.2)
      have h4 := ctkR_le [45] (nfP 0 l).2.2
      dsimp only
      refine ⟨by omega, fun h5 => ?_⟩
      have h6 := h3.2.1 h5
      exact ⟨by omega, by omega, by omega, by omega⟩
    · have h3 := bl_le (nfP 0 l).2.2
      dsimp only
      exact ⟨by omega, fun _ => ⟨by omega, by omega, Int.le_refl _, by omega⟩⟩
theorem spans_more : ∀ (f g : Nat) (l : List UInt8), l.length < f → l.length < g → spansP f l = spansP g l
  | 0, _, _, h, _ => absurd h (by omega)
  | _ + 1, 0, _, _, h => absurd h (by omega)
  | f + 1, g + 1, l, hf, hg => by
    unfold spansP
    split
    · rfl
    · split
      · rename_i h
        have h1 := (span_le (bl l)).2 h
        have h2 := bl_le l
        rw [spans_more f g (spanP (bl l)).2.2 (by omega) (by omega)]
      · rfl
theorem spans_end {l : List UInt8} (h : ctk [93] l = true) : spansP (l.length + 1) l = ([], true, ctkR [93] l) := by
  unfold spansP; rw [if_pos h]
theorem spans_bad {l : List UInt8} (h : ctk [93] l = false) (h2 : (spanP (bl l)).2.1 = false) : spansP (l.length + 1) l = ([], false, (spanP (bl l)).2.2) := by
  unfold spansP; rw [if_neg (by rw [h]; decide), if_neg (by rw [h2]; decide)]
theorem spans_ok {l : List UInt8} (h : ctk [93] l = false) (h2 : (spanP (bl l)).2.1 = true) :
    spansP (l.length + 1) l = ((spanP (bl l)).1 :: (spansP ((spanP (bl l)).2.2.length + 1) (spanP (bl l)).2.2).1, (spansP ((spanP (bl l)).2.2.length + 1) (spanP (bl l)).2.2).2) := by
  have h1 := (span_le (bl l)).2 h2
  have h3 := bl_le l
  conv => lhs; unfold spansP
  rw [if_neg (by rw [h]; decide), if_pos h2, spans_more l.length ((spanP (bl l)).2.2.length + 1) _ (by omega) (by omega)]
theorem spans_in : ∀ (f : Nat) (l : List UInt8), ∀ x ∈ (spansP f l).1, 0 ≤ x.1 ∧ x.1 ≤ x.2 ∧ x.2 ≤ 1114111
  | 0, _, x, h => by simp [spansP] at h
  | f + 1, l, x, h => by
    unfold spansP at h
    split at h
    · simp at h
    · split at h
      · rename_i h2
        have h1 := (span_le (bl l)).2 h2
        simp only [List.mem_cons] at h
        rcases h with rfl | h
        · exact h1.2
        · exact spans_in f _ x h
      · simp at h
theorem spans_len : ∀ (f : Nat) (l : List UInt8), (spansP f l).1.length + (spansP f l).2.2.length ≤ l.length
  | 0, l => by simp [spansP]
  | f + 1, l => by
    unfold spansP
    split
    · have := ctkR_le [93] l; simp; omega
    · split
      · rename_i h2
        have h1 := (span_le (bl l)).2 h2
        have h3 := bl_le l
        have h4 := spans_len f (spanP (bl l)).2.2
        simp only [List.length_cons]
        omega
      · have h1 := span_le (bl l)
        have h3 := bl_le l
        simp; omega
end Florin
