/- Few ranges, as the law asks it; classes held one beside the other; classes by their numbers. -/
import Derived.Test.YtbfhkcljkblnmaaDoorCrM
namespace Go.Proofs.YtbfhkcljkblnmaaDoor
open Go.RowKit Florin
set_option linter.unusedVariables false
set_option linter.unusedSimpArgs false
attribute [local go_sem ↓] Go.wp_at_zero Go.wp_at_succ
/-- Classes, and ranges that came in, all at hand. -/
structure HeldI (w : World) (L : List (Value × List (Int × Int))) (W : World) : Prop where
  inc : ∀ p ∈ L, InC W p.1 p.2
  bel : Below w.heap.size w W
theorem HeldI.keep {w W W' : World} {L : List (Value × List (Int × Int))} (h : HeldI w L W) (hb : Below W.heap.size W W') : HeldI w L W' :=
  ⟨fun p hp => (h.inc p hp).below hb (Nat.le_refl _), h.bel.trans (hb.mono h.bel.size)⟩
theorem HeldI.add {w W W' : World} {L : List (Value × List (Int × Int))} {v : Value} {c : List (Int × Int)} {B : Nat} (h : HeldI w L W) (hb : Below W.heap.size W W') (ho : OwnC W' B v c) : HeldI w ((v, c) :: L) W' := by
  refine ⟨fun p hp => ?_, h.bel.trans (hb.mono h.bel.size)⟩
  cases hp with
  | head => exact ho.inC
  | tail _ hp => exact (h.inc p hp).below hb (Nat.le_refl _)
theorem HeldI.f {w W : World} {L : List (Value × List (Int × Int))} {v : Value} {c : List (Int × Int)} (h : HeldI w L W) (hm : (v, c) ∈ L) : InC W v c := h.inc _ hm
theorem HeldI.cut {w W : World} {L M : List (Value × List (Int × Int))} (h : HeldI w L W) (hs : ∀ p ∈ M, p ∈ L) : HeldI w M W := ⟨fun p hp => h.inc p (hs p hp), h.bel⟩
/-- How many slices of a row have no more than thirty ranges: all, or not. -/
def fewB (ls : List Nat) : Bool := ls.all fun n => decide (n ≤ 30)
theorem few_take {ls : List Nat} {k : Nat} (hk : k < ls.length) (h : fewB (ls.take k) = true) (h2 : ls[k] ≤ 30) : fewB (ls.take (k + 1)) = true := by
  unfold fewB at *
  rw [List.take_succ_eq_append_getElem hk, List.all_append, h]
  simp [h2]
theorem few_not {ls : List Nat} {k : Nat} (hk : k < ls.length) (h2 : ¬ ls[k] ≤ 30) : fewB ls = false := by
  cases h : fewB ls with
  | false => rfl
  | true =>
    have := List.all_eq_true.1 h _ (List.getElem_mem hk)
    exact absurd (by simpa using this) h2
set_option maxRecDepth 100000 in
set_option maxHeartbeats 1600000 in
theorem few_as (w : World) (g : Nat) (az : List (Option Addr)) (ls cs : List Nat) (ha : az.length = ls.length) (hcs : cs.length = ls.length) (hl : ls.length ≤ 1000)
    (hc : ∀ k (h : k < ls.length), w.cell? ⟨g, k, none⟩ = some (.slice (az[k]'(by omega)) ls[k] (cs[k]'(by omega)))) (b : Bool) (hb : fewB ls = b) (N : Nat) (hN : ls.length = N) :
    Calls Tryd.prog 11 #[.slice (some ⟨g, 0, none⟩) N N] w fun e w' => e = .returned (.bool b) ∧ w' = w := by
  subst hN
  have HC := Lib.hid hc
  have HB := Lib.hid hb
  clear hc hb
  go_enter Tryd.func11, Tryd.ntmps11
  go_wp2_with fail
  go_loop [7] (fun i => ∃ k : Nat, k ≤ ls.length ∧ i = .int .i64 (k : Int) ∧ fewB (ls.take k) = true) (fun i => ls.length - (intOf i).toNat)
  case atStart => exact ⟨0, Nat.zero_le _, rfl, rfl⟩
  case round =>
    obtain ⟨k, hk, rfl, hf⟩ := hrel
    have HF := Lib.hid hf
    clear hf
    by_cases hlt : k < ls.length
    · have hki : (k : Int) < (ls.length : Int) := by omega
      have c0 := HC.out k hlt
      generalize az[k]'(by omega) = a at c0
      generalize cs[k]'(by omega) = cp at c0
      obtain ⟨n, hn⟩ : ∃ n, ls[k] = n := ⟨_, rfl⟩
      rw [hn] at c0
      by_cases h30 : n ≤ 30
      · have h31 : ¬ (30 : Int) < (n : Int) := by omega
        have HT := Lib.hid (few_take hlt HF.out (by rw [hn]; exact h30))
        clear hn
        go_wp2
        go_round
        case rel => exact ⟨k + 1, by omega, by go_num, HT.out⟩
        case measure => simp [intOf]; omega
      · have h31 : (30 : Int) < (n : Int) := by omega
        have HT := Lib.hid (few_not hlt (by rw [hn]; exact h30))
        clear hn
        go_wp2
        go_ret
        exact ⟨by rw [← HB.out, HT.out]; rfl, rfl⟩
    · have HT : Hid (fewB ls = true) := Lib.hid (by have h := HF.out; rw [List.take_of_length_le (by omega)] at h; exact h)
      go_wp2
      go_ret
      exact ⟨by rw [← HB.out, HT.out]; rfl, rfl⟩
/-- Is a number one that a class may have? -/
def topB (r : Int) : Bool := decide (0 ≤ r) && decide (r ≤ 1114111)
theorem hop {f : Bool → Bool → Bool} {c o : List (Int × Int)} (hc : settledC c) (ho : settledC o) (r : Int) : hasC (opC f c o) r = (topB r && f (hasC c r) (hasC o r)) := by
  have h := (opC_ok (f := f) hc ho).2 r
  rw [← hasC_iff] at h
  unfold cTop at h
  unfold topB
  rw [Bool.eq_iff_iff, h]
  simp [and_assoc]
theorem hself {c : List (Int × Int)} (hc : settledC c) (r : Int) : hasC c r = (topB r && hasC c r) := by
  cases h : hasC c r with
  | false => simp
  | true =>
    have h2 := settled_ge (a := 0) hc r ((hasC_iff c r).1 h)
    unfold cTop at h2
    unfold topB
    simp [h2.1, h2.2]
theorem ext_b {c d : List (Int × Int)} (hc : settledC c) (hd : settledC d) (h : ∀ r, hasC c r = hasC d r) : c = d :=
  settled_ext (a := 0) (b := 0) hc hd (fun r => by rw [← hasC_iff, ← hasC_iff, h r])
theorem hnil (r : Int) : hasC [] r = false := rfl
theorem op_set {f : Bool → Bool → Bool} {c o : List (Int × Int)} (hc : settledC c) (ho : settledC o) : settledC (opC f c o) := (opC_ok hc ho).1
theorem nil_set : settledC [] := trivial
abbrev orF : Bool → Bool → Bool := fun a b => a || b
abbrev andF : Bool → Bool → Bool := fun a b => a && b
abbrev minF : Bool → Bool → Bool := fun a b => a && !b
abbrev notF : Bool → Bool → Bool := fun a b => !a
theorem or_at (w : World) (vx vy : Value) (x y : List (Int × Int)) (hx : InC w vx x) (hy : InC w vy y) (sx : settledC x) (sy : settledC y) :
    Calls Tryd.prog 18 #[vx, vy] w fun e w' => ∃ v c, e = .returned v ∧ settledC c ∧ (∀ r, hasC c r = (topB r && (hasC x r || hasC y r))) ∧ OwnC w' w.heap.size v c ∧ Below w.heap.size w w' :=
  (cor_as w vx vy x y hx hy sx sy).mono fun e w' ⟨v, h1, h2, h3⟩ => ⟨v, _, h1, op_set sx sy, fun r => hop sx sy r, h2, h3⟩
theorem and_at (w : World) (vx vy : Value) (x y : List (Int × Int)) (hx : InC w vx x) (hy : InC w vy y) (sx : settledC x) (sy : settledC y) :
    Calls Tryd.prog 19 #[vx, vy] w fun e w' => ∃ v c, e = .returned v ∧ settledC c ∧ (∀ r, hasC c r = (topB r && (hasC x r && hasC y r))) ∧ OwnC w' w.heap.size v c ∧ Below w.heap.size w w' :=
  (cand_as w vx vy x y hx hy sx sy).mono fun e w' ⟨v, h1, h2, h3⟩ => ⟨v, _, h1, op_set sx sy, fun r => hop sx sy r, h2, h3⟩
theorem min_at (w : World) (vx vy : Value) (x y : List (Int × Int)) (hx : InC w vx x) (hy : InC w vy y) (sx : settledC x) (sy : settledC y) :
    Calls Tryd.prog 20 #[vx, vy] w fun e w' => ∃ v c, e = .returned v ∧ settledC c ∧ (∀ r, hasC c r = (topB r && (hasC x r && !hasC y r))) ∧ OwnC w' w.heap.size v c ∧ Below w.heap.size w w' :=
  (cminus_as w vx vy x y hx hy sx sy).mono fun e w' ⟨v, h1, h2, h3⟩ => ⟨v, _, h1, op_set sx sy, fun r => hop sx sy r, h2, h3⟩
theorem not_at (w : World) (vx : Value) (x : List (Int × Int)) (hx : InC w vx x) (sx : settledC x) :
    Calls Tryd.prog 21 #[vx] w fun e w' => ∃ v c, e = .returned v ∧ settledC c ∧ (∀ r, hasC c r = (topB r && !hasC x r)) ∧ OwnC w' w.heap.size v c ∧ Below w.heap.size w w' :=
  (cnot_as w vx x hx sx).mono fun e w' ⟨v, h1, h2, h3⟩ => ⟨v, _, h1, op_set sx nil_set, fun r => hop sx nil_set r, h2, h3⟩
theorem made_at (w : World) (v : Value) (l : List (Int × Int)) (hc : InC w v l) (hl : l.length ≤ 1000000) :
    Calls Tryd.prog 12 #[v] w fun e w' => ∃ v' c, e = .returned v' ∧ settledC c ∧ (∀ r, hasC c r = (topB r && hasC l r)) ∧ OwnC w' w.heap.size v' c ∧ Below w.heap.size w w' :=
  (made_as w v l hc hl).mono fun e w' ⟨v', c, h1, h2, h3, h4, h5⟩ => ⟨v', c, h1, h2, fun r => by
    have h := h3 r
    rw [← hasC_iff, ← hasC_iff] at h
    unfold cTop at h
    unfold topB
    rw [Bool.eq_iff_iff, h]
    simp [and_assoc], h4, h5⟩
end Go.Proofs.YtbfhkcljkblnmaaDoor
