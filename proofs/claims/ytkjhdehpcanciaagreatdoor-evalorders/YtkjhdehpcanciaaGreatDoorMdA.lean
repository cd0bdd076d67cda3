/- Rules as they are made: their cells in memory; gaps, digits, categories. -/
import Derived.Test.YtkjhdehpcanciaaGreatDoorMRd3
import Derived.Deep.Cut
import Derived.Deep.RegionHeld3
namespace Florin
/-- A relation as it is made. -/
structure RelM where
  op : Int
  md : Int
  gp : Int
  nt : Bool
  rs : List (Int × Int)
/-- A rule as it is made. -/
structure MadeM where
  cat : Int
  gp : Int
  smp : Int
  any : List (List RelM)
def mask (n : Int) (m : Nat) : Nat := (n % ((m + 1 : Nat) : Int)).toNat
def gapB (k : Nat) : List UInt8 := List.replicate (if k = 1 then 1 else if k = 2 then 2 else 0) 32
def digB (n : Nat) : List UInt8 := if n = 0 then [48] else dig n
end Florin
namespace Go.Proofs.YtkjhdehpcanciaaGreatDoor
open Go.RowKit Florin
set_option linter.unusedVariables false
set_option linter.unusedSimpArgs false
attribute [local go_sem ↓] Go.wp_at_zero Go.wp_at_succ

/-- What an index of bits keeps. -/
noncomputable def andN (n : Int) (M : Nat) : Nat := (bits .and .i64 n (M : Int)).toNat
theorem andN_is (n : Int) (M : Nat) (hM : M ≤ 9223372036854775807) : bits .and .i64 n (M : Int) = (andN n M : Int) ∧ andN n M ≤ M := by
  obtain ⟨k, hk, h⟩ := and_mask n M hM
  unfold andN
  rw [h]
  exact ⟨rfl, hk⟩
/-- A slice of somebody's, with these cells. -/
def InR (w : World) (sz : Nat) (v : Value) (n : Nat) (cs : List Value) : Prop :=
  ∃ a c, v = .slice a n c ∧ n ≤ c ∧ c ≤ maxLen ∧ cs.length = n * sz ∧ (0 < n → ∃ b off, a = some ⟨b, off, none⟩ ∧ b < w.heap.size ∧ ∀ j, j < n * sz → w.cell? ⟨b, off + j, none⟩ = cs[j]?)
theorem InR.below {w w' : World} {sz : Nat} {v : Value} {n : Nat} {cs : List Value} (h : InR w sz v n cs) (hb : Below w.heap.size w w') : InR w' sz v n cs := by
  obtain ⟨a, c, h1, h2, h3, h4, h5⟩ := h
  refine ⟨a, c, h1, h2, h3, h4, fun hn => ?_⟩
  obtain ⟨b, off, e, hl, hc⟩ := h5 hn
  exact ⟨b, off, e, Nat.lt_of_lt_of_le hl hb.size, fun j hj => (hb.cell (p := ⟨b, off + j, none⟩) hl).trans (hc j hj)⟩
def numC (rs : List (Int × Int)) : List Value := rs.flatMap fun x => [.int .i64 x.1, .int .i64 x.2]
abbrev NumsAt (w : World) (rs : List (Int × Int)) (v : Value) : Prop := InR w 2 v rs.length (numC rs)
def RelmAt (w : World) (r : RelM) (cs : List Value) : Prop := ∃ v, cs = [.int .i64 r.op, .int .i64 r.md, .int .i64 r.gp, .bool r.nt, v] ∧ NumsAt w r.rs v
def AllmAt (w : World) (xs : List RelM) (v : Value) : Prop := ∃ cs, InR w 5 v xs.length cs ∧ ListAt (RelmAt w) xs cs
def AnymAt (w : World) (xs : List (List RelM)) (v : Value) : Prop := ∃ cs, InR w 1 v xs.length cs ∧ ListAt (fun x c => ∃ u, c = [u] ∧ AllmAt w x u) xs cs
def MadeAt (w : World) (m : MadeM) (cs : List Value) : Prop := ∃ v, cs = [.int .i64 m.cat, .int .i64 m.gp, .int .i64 m.smp, v] ∧ AnymAt w m.any v
def MadesAt (w : World) (xs : List MadeM) (v : Value) : Prop := ∃ cs, InR w 4 v xs.length cs ∧ ListAt (MadeAt w) xs cs
theorem RelmAt.below {w w' : World} {r : RelM} {cs : List Value} (h : RelmAt w r cs) (hb : Below w.heap.size w w') : RelmAt w' r cs := by
  obtain ⟨v, h1, h2⟩ := h; exact ⟨v, h1, h2.below hb⟩
theorem AllmAt.below {w w' : World} {xs : List RelM} {v : Value} (h : AllmAt w xs v) (hb : Below w.heap.size w w') : AllmAt w' xs v := by
  obtain ⟨cs, h1, h2⟩ := h; exact ⟨cs, h1.below hb, h2.mono fun x c hx => hx.below hb⟩
theorem AnymAt.below {w w' : World} {xs : List (List RelM)} {v : Value} (h : AnymAt w xs v) (hb : Below w.heap.size w w') : AnymAt w' xs v := by
  obtain ⟨cs, h1, h2⟩ := h; exact ⟨cs, h1.below hb, h2.mono fun x c ⟨u, e, hx⟩ => ⟨u, e, hx.below hb⟩⟩
theorem MadeAt.below {w w' : World} {m : MadeM} {cs : List Value} (h : MadeAt w m cs) (hb : Below w.heap.size w w') : MadeAt w' m cs := by
  obtain ⟨v, h1, h2⟩ := h; exact ⟨v, h1, h2.below hb⟩
theorem MadesAt.below {w w' : World} {xs : List MadeM} {v : Value} (h : MadesAt w xs v) (hb : Below w.heap.size w w') : MadesAt w' xs v := by
  obtain ⟨cs, h1, h2⟩ := h; exact ⟨cs, h1.below hb, h2.mono fun x c hx => hx.below hb⟩

set_option maxRecDepth 100000 in
set_option maxHeartbeats 1600000 in
theorem gap_as (n : Int) (w : World) (g : List UInt8) (hg : gapB (andN n 3) = g) :
    Calls Tryz.prog 31 #[.int .i64 n] w fun e w' => e = .returned (S g) ∧ Below w.heap.size w w' := by
  subst hg
  obtain ⟨h1, h2⟩ := andN_is n 3 (by decide)
  have hc : andN n 3 = 0 ∨ andN n 3 = 1 ∨ andN n 3 = 2 ∨ andN n 3 = 3 := by omega
  rcases hc with h | h | h | h
  all_goals (
    rw [h] at h1 ⊢
    have h3 : bits .and .i64 n 3 = _ := h1
    clear h1 h h2
    go_enter Tryz.func31, Tryz.ntmps31
    go_wp2
    go_ret
    exact ⟨rfl, Below.alloc (Below.refl _ _) (Nat.le_refl _) _⟩)

set_option maxHeartbeats 1600000 in
theorem digits_as (n : Nat) (w : World) (h : n ≤ 9223372036854775807) (ht : Tab w) (t : List UInt8) (hT : digB n = t) :
    Calls Tryz.prog 76 #[.int .i64 (n : Int)] w fun e w' => e = .returned (S t) ∧ Below w.heap.size w w' := by
  subst hT
  unfold digB
  by_cases h0 : n = 0
  · subst h0
    rw [if_pos rfl]
    go_enter Tryz.func76, Tryz.ntmps76
    go_wp2
    go_ret
    exact ⟨rfl, Below.refl _ _⟩
  · rw [if_neg h0]
    have h0i : ¬ (n : Int) = 0 := by omega
    have HT := Lib.hid ht
    clear ht
    go_enter Tryz.func76, Tryz.ntmps76
    go_wp2_with fail
    with_reducible refine (ofN n _ h HT.out).mono ?_
    rintro x w1 ⟨rfl, hb⟩
    have HB := Lib.hid hb
    clear hb
    go_wp2
    go_ret
    exact ⟨rfl, HB.out⟩
end Go.Proofs.YtkjhdehpcanciaaGreatDoor
