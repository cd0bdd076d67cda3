/- One sign; what sets of signs read. -/
import Derived.Test.YtcdjclidckohpaaDoorGlD
import Derived.Test.YtcdjclidckohpaaDoorGlV
namespace Go.Proofs.YtcdjclidckohpaaDoor
open Go.RowKit Florin
set_option linter.unusedVariables false
set_option linter.unusedSimpArgs false
theorem right_as (s : ByteArray) (w : World) (hT : Tabs w) (hs : s.size ≤ 1000000) (r : Bool) (hr : rightL s.data.toList = r) :
    Calls Tryd.prog 12 #[.string s] w fun e w' => e = .returned (.bool r) ∧ Below w.heap.size w w' := by
  go_enter Tryd.func12, Tryd.ntmps12
  go_wp2_with fail
  with_reducible refine (valid_as s _ hT hs r hr).mono ?_
  rintro e w1 ⟨rfl, hb⟩
  go_wp2
  go_ret
  exact ⟨rfl, hb⟩
set_option maxHeartbeats 800000 in
theorem one_as (s : ByteArray) (w : World) (hT : Tabs w) (hs : s.size ≤ 1000000) (b : Bool) (hq : oneL s.data.toList = b) :
    Calls Tryd.prog 13 #[.string s] w fun e w' => e = .returned (.bool b) ∧ Below w.heap.size w w' := by
  rw [← one_count] at hq
  cases hr : rightL s.data.toList with
  | false =>
    rw [hr] at hq
    obtain rfl : b = false := hq.symm
    clear hq
    go_enter Tryd.func13, Tryd.ntmps13
    go_wp2_with fail
    with_reducible refine (right_as s _ hT hs false hr).mono ?_
    rintro e w1 ⟨rfl, hb⟩
    clear hr
    go_wp2
    go_ret
    exact ⟨rfl, hb⟩
  | true =>
    rw [hr, Bool.true_and] at hq
    have HQ := Lib.hid hq
    clear hq
    go_enter Tryd.func13, Tryd.ntmps13
    go_wp2_with fail
    with_reducible refine (right_as s _ hT hs true hr).mono ?_
    rintro e w1 ⟨rfl, hb⟩
    clear hr
    go_wp2_with fail
    with_reducible refine (Tryd.utf8_RuneCountInString s _ (by omega)).mono ?_
    rintro e w2 ⟨rfl, pos, rfl⟩
    generalize Lib.runeCount s = n at HQ ⊢
    have he : ((n : Int) == 1) = b := by
      rw [← HQ.out]
      by_cases h : n = 1
      · subst h; rfl
      · have h2 : ¬ (n : Int) = 1 := by omega
        rw [beq_eq_false_iff_ne.2 h2, beq_eq_false_iff_ne.2 h]
    go_wp2
    go_ret
    exact ⟨rfl, hb.alloc hb.size _⟩
/-- What a set of signs reads. -/
def readG (g : Nat → ByteArray) : Nat → List UInt8 → List UInt8 × Nat
  | 0, _ => ([], 0)
  | f + 1, l => match oneG g l with
    | none => ([], 0)
    | some d => (u8 (48 + d) :: (readG g f (l.drop (g d).size)).1, (g d).size + (readG g f (l.drop (g d).size)).2)
def rdG (g : Nat → ByteArray) (l : List UInt8) : List UInt8 × Nat := readG g (l.length + 1) l
theorem oneG_hit {g : Nat → ByteArray} {l : List UInt8} {d : Nat} (h : oneG g l = some d) : d < 10 ∧ hitG g l d = true ∧ ∀ j, j < d → hitG g l j = false := by
  unfold oneG at h
  rw [List.find?_range_eq_some] at h
  exact ⟨by simpa using h.2.1, h.1, fun j hj => by simpa using h.2.2 j hj⟩
theorem hit_len {g : Nat → ByteArray} {l : List UInt8} {d : Nat} (h : hitG g l d = true) : 0 < (g d).size ∧ (g d).size ≤ l.length ∧ ∃ t, l = (g d).data.toList ++ t ∧ l.drop (g d).size = t := by
  unfold hitG at h
  rw [Bool.and_eq_true] at h
  obtain ⟨t, ht⟩ := List.isPrefixOf_iff_prefix.1 h.2
  have hs := size_list (g d)
  refine ⟨?_, ?_, t, ht.symm, ?_⟩
  · rcases Nat.eq_zero_or_pos (g d).size with h0 | h0
    · rw [h0] at hs
      rw [List.length_eq_zero_iff.1 hs] at h
      exact absurd h.1 (by decide)
    · exact h0
  · rw [← ht, List.length_append]; omega
  · rw [← ht, ← hs, List.drop_left]
theorem readG_more (g : Nat → ByteArray) : ∀ (f k : Nat) (l : List UInt8), l.length < f → l.length < k → readG g f l = readG g k l
  | 0, _, l, h, _ => absurd h (by omega)
  | f + 1, 0, l, _, h => absurd h (by omega)
  | f + 1, k + 1, l, hf, hk => by
    unfold readG
    cases ho : oneG g l with
    | none => rfl
    | some d =>
      have := hit_len (oneG_hit ho).2.1
      dsimp only
      rw [readG_more g f k _ (by rw [List.length_drop]; omega) (by rw [List.length_drop]; omega)]
theorem rdG_no {g : Nat → ByteArray} {l : List UInt8} (h : oneG g l = none) : rdG g l = ([], 0) := by
  unfold rdG readG; rw [h]
theorem rdG_at {g : Nat → ByteArray} {l : List UInt8} {d : Nat} (h : oneG g l = some d) : rdG g l = (u8 (48 + d) :: (rdG g (l.drop (g d).size)).1, (g d).size + (rdG g (l.drop (g d).size)).2) := by
  have := hit_len (oneG_hit h).2.1
  unfold rdG
  rw [show readG g (l.length + 1) l = (match oneG g l with
    | none => ([], 0)
    | some d => (u8 (48 + d) :: (readG g l.length (l.drop (g d).size)).1, (g d).size + (readG g l.length (l.drop (g d).size)).2)) from rfl, h]
  dsimp only
  rw [readG_more g l.length ((l.drop (g d).size).length + 1) _ (by simp; omega) (by simp)]
abbrev OwnB (w : World) (B : Nat) (v : Value) (l : List UInt8) : Prop := w.ownsRow B 5 1 v l.length (l.map bv)
theorem OwnB.below {w w' : World} {B : Nat} {v : Value} {l : List UInt8} (h : OwnB w B v l) (hb : Below w.heap.size w w') : OwnB w' B v l := by
  refine ⟨h.1, ?_⟩
  rcases h.2 with hn | ⟨g, cap, cur, rfl, hB, hg, rest⟩
  · exact .inl hn
  · have hlt : g < w.heap.size := by
      rcases Nat.lt_or_ge g w.heap.size with h' | h'
      · exact h'
      · simp [Array.getElem?_eq_none h'] at hg
    exact .inr ⟨g, cap, cur, rfl, hB, (hb.block g hlt).trans hg, rest⟩
theorem conv_own {w : World} {B : Nat} {v : Value} {l : List UInt8} (h : OwnB w B v l) : (convert 31 9 v).run Tryd.prog w = .ok (S l) w := by
  rcases h.2 with ⟨rfl, hn⟩ | ⟨g, cap, cur, rfl, hB, hg, h1, h2, h3, h4⟩
  · obtain rfl := List.length_eq_zero_iff.1 hn
    rw [run_convert_bytes_string w 31 9 5 none 0 0 Tryd.underlying31 Tryd.underlying5 Tryd.underlying9]
    rfl
  · refine run_convert_bytes_back w 31 9 5 ⟨g, 0, none⟩ cap l Tryd.underlying31 Tryd.underlying5 Tryd.underlying9 ?_
    intro j hj
    exact h.cells rfl j _ (by simp [hj])
end Go.Proofs.YtcdjclidckohpaaDoor
