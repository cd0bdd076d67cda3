/- Eight bytes of a text as one word. -/
import Derived.Test.YtmmllhdphlnpjaaDoorProg
import Derived.Test.YtmmllhdphlnpjaaDoorGPlain
import Derived.WalkKit
import Derived.WalkSpells
import Derived.WalkLawsBesides
import Derived.Below
import Derived.Lib.Hide
import Derived.IntWalk
import Derived.Deep.RegionHeld3
import Derived.Laws.BitsAllLaws
namespace Go.Proofs.YtmmllhdphlnpjaaDoor
open Go.RowKit Florin
set_option linter.unusedVariables false
set_option linter.unusedSimpArgs false
/-- A word of eight bytes: where a byte is 128 or more, the word shows it. -/
def HiW (s : ByteArray) (x : Nat) : Prop := x < 18446744073709551616 ∧ ∀ (k : Nat) (_ : k < 8) (hk : k < s.size), 128 ≤ (s[k]'hk).toNat → x.testBit (8 * k + 7) = true
theorem bit7 {b : Nat} (h : 128 ≤ b) (h2 : b < 256) : b.testBit 7 = true := by
  rw [Nat.testBit_eq_decide_div_mod_eq]; simp; omega
theorem bit_up {b k : Nat} (h : 128 ≤ b) (h2 : b < 256) : (b * 2 ^ (8 * k)).testBit (8 * k + 7) = true := by
  rw [Nat.testBit_mul_two_pow, Nat.add_sub_cancel_left, bit7 h h2]; simp
theorem or_lt {a b : Nat} (ha : a < 18446744073709551616) (hb : b < 18446744073709551616) : a ||| b < 18446744073709551616 := Nat.or_lt_two_pow (n := 64) ha hb
def wordN (b : Nat → Nat) : Nat := b 0 ||| b 1 * 256 ||| b 2 * 65536 ||| b 3 * 16777216 ||| b 4 * 4294967296 ||| b 5 * 1099511627776 ||| b 6 * 281474976710656 ||| b 7 * 72057594037927936
theorem wrap_cast {n : Nat} (h : n < 18446744073709551616) : IntKind.u64.wrap (n : Int) = (n : Int) := by rw [IntKind.wrap_u64]; omega
set_option maxRecDepth 100000 in
theorem word_val {b0 b1 b2 b3 b4 b5 b6 b7 : Nat} (h0 : b0 < 256) (h1 : b1 < 256) (h2 : b2 < 256) (h3 : b3 < 256) (h4 : b4 < 256) (h5 : b5 < 256) (h6 : b6 < 256) (h7 : b7 < 256) :
    bits .or .u64 (bits .or .u64 (bits .or .u64 (bits .or .u64 (bits .or .u64 (bits .or .u64 (bits .or .u64 (IntKind.u64.wrap (b0 : Int)) (IntKind.u64.wrap (IntKind.u64.wrap (b1 : Int) * 256)))
      (IntKind.u64.wrap (IntKind.u64.wrap (b2 : Int) * 65536))) (IntKind.u64.wrap (IntKind.u64.wrap (b3 : Int) * 16777216))) (IntKind.u64.wrap (IntKind.u64.wrap (b4 : Int) * 4294967296)))
      (IntKind.u64.wrap (IntKind.u64.wrap (b5 : Int) * 1099511627776))) (IntKind.u64.wrap (IntKind.u64.wrap (b6 : Int) * 281474976710656))) (IntKind.u64.wrap (IntKind.u64.wrap (b7 : Int) * 72057594037927936))
    = ((b0 ||| b1 * 256 ||| b2 * 65536 ||| b3 * 16777216 ||| b4 * 4294967296 ||| b5 * 1099511627776 ||| b6 * 281474976710656 ||| b7 * 72057594037927936 : Nat) : Int) := by
  have e : ∀ (b m : Nat) (M : Int), M = (m : Int) → b * m < 18446744073709551616 → b < 256 → IntKind.u64.wrap (IntKind.u64.wrap (b : Int) * M) = ((b * m : Nat) : Int) := by
    intro b m M hM hm hb
    rw [hM, wrap_cast (by omega), ← Int.natCast_mul, wrap_cast hm]
  have l0 : b0 < 18446744073709551616 := by omega
  have l1 : b1 * 256 < 18446744073709551616 := Nat.lt_of_le_of_lt (Nat.mul_le_mul_right _ (Nat.le_of_lt_succ h1)) (by decide)
  have l2 : b2 * 65536 < 18446744073709551616 := Nat.lt_of_le_of_lt (Nat.mul_le_mul_right _ (Nat.le_of_lt_succ h2)) (by decide)
  have l3 : b3 * 16777216 < 18446744073709551616 := Nat.lt_of_le_of_lt (Nat.mul_le_mul_right _ (Nat.le_of_lt_succ h3)) (by decide)
  have l4 : b4 * 4294967296 < 18446744073709551616 := Nat.lt_of_le_of_lt (Nat.mul_le_mul_right _ (Nat.le_of_lt_succ h4)) (by decide)
  have l5 : b5 * 1099511627776 < 18446744073709551616 := Nat.lt_of_le_of_lt (Nat.mul_le_mul_right _ (Nat.le_of_lt_succ h5)) (by decide)
  have l6 : b6 * 281474976710656 < 18446744073709551616 := Nat.lt_of_le_of_lt (Nat.mul_le_mul_right _ (Nat.le_of_lt_succ h6)) (by decide)
  have l7 : b7 * 72057594037927936 < 18446744073709551616 := Nat.lt_of_le_of_lt (Nat.mul_le_mul_right _ (Nat.le_of_lt_succ h7)) (by decide)
  have e1 := e b1 256 256 rfl l1 h1
  have e2 := e b2 65536 65536 rfl l2 h2
  have e3 := e b3 16777216 16777216 rfl l3 h3
  have e4 := e b4 4294967296 4294967296 rfl l4 h4
  have e5 := e b5 1099511627776 1099511627776 rfl l5 h5
  have e6 := e b6 281474976710656 281474976710656 rfl l6 h6
  have e7 := e b7 72057594037927936 72057594037927936 rfl l7 h7
  rw [e1, e2, e3, e4, e5, e6, e7, wrap_cast l0, u64_or_nat _ _ l0 l1, u64_or_nat _ _ (or_lt l0 l1) l2, u64_or_nat _ _ (or_lt (or_lt l0 l1) l2) l3, u64_or_nat _ _ (or_lt (or_lt (or_lt l0 l1) l2) l3) l4,
    u64_or_nat _ _ (or_lt (or_lt (or_lt (or_lt l0 l1) l2) l3) l4) l5, u64_or_nat _ _ (or_lt (or_lt (or_lt (or_lt (or_lt l0 l1) l2) l3) l4) l5) l6, u64_or_nat _ _ (or_lt (or_lt (or_lt (or_lt (or_lt (or_lt l0 l1) l2) l3) l4) l5) l6) l7]
set_option maxRecDepth 100000 in
theorem word_hi {b0 b1 b2 b3 b4 b5 b6 b7 : Nat} (h0 : b0 < 256) (h1 : b1 < 256) (h2 : b2 < 256) (h3 : b3 < 256) (h4 : b4 < 256) (h5 : b5 < 256) (h6 : b6 < 256) (h7 : b7 < 256) :
    (b0 ||| b1 * 256 ||| b2 * 65536 ||| b3 * 16777216 ||| b4 * 4294967296 ||| b5 * 1099511627776 ||| b6 * 281474976710656 ||| b7 * 72057594037927936) < 18446744073709551616 ∧
    ∀ k, k < 8 → 128 ≤ [b0, b1, b2, b3, b4, b5, b6, b7].getD k 0 → (b0 ||| b1 * 256 ||| b2 * 65536 ||| b3 * 16777216 ||| b4 * 4294967296 ||| b5 * 1099511627776 ||| b6 * 281474976710656 ||| b7 * 72057594037927936).testBit (8 * k + 7) = true := by
  refine ⟨or_lt (or_lt (or_lt (or_lt (or_lt (or_lt (or_lt (by omega) (by omega)) (by omega)) (by omega)) (by omega)) (by omega)) (by omega)) (by omega), fun k hk hb => ?_⟩
  simp only [Nat.testBit_or]
  match k, hk, hb with
  | 0, _, hb => have hb2 : 128 ≤ b0 := hb; have := bit_up (k := 0) hb2 h0; simp at this; simp [this]
  | 1, _, hb => have hb2 : 128 ≤ b1 := hb; have := bit_up (k := 1) hb2 h1; simp only [show (2 : Nat) ^ (8 * 1) = 256 from rfl] at this; simp [this]
  | 2, _, hb => have hb2 : 128 ≤ b2 := hb; have := bit_up (k := 2) hb2 h2; simp only [show (2 : Nat) ^ (8 * 2) = 65536 from rfl] at this; simp [this]
  | 3, _, hb => have hb2 : 128 ≤ b3 := hb; have := bit_up (k := 3) hb2 h3; simp only [show (2 : Nat) ^ (8 * 3) = 16777216 from rfl] at this; simp [this]
  | 4, _, hb => have hb2 : 128 ≤ b4 := hb; have := bit_up (k := 4) hb2 h4; simp only [show (2 : Nat) ^ (8 * 4) = 4294967296 from rfl] at this; simp [this]
  | 5, _, hb => have hb2 : 128 ≤ b5 := hb; have := bit_up (k := 5) hb2 h5; simp only [show (2 : Nat) ^ (8 * 5) = 1099511627776 from rfl] at this; simp [this]
  | 6, _, hb => have hb2 : 128 ≤ b6 := hb; have := bit_up (k := 6) hb2 h6; simp only [show (2 : Nat) ^ (8 * 6) = 281474976710656 from rfl] at this; simp [this]
  | 7, _, hb => have hb2 : 128 ≤ b7 := hb; have := bit_up (k := 7) hb2 h7; simp only [show (2 : Nat) ^ (8 * 7) = 72057594037927936 from rfl] at this; simp [this]
set_option maxRecDepth 100000 in
/-- No byte of 128 or more, as the word tells. -/
theorem hi_none {x : Nat} (hx : x < 18446744073709551616) (h : bits .and .u64 (x : Int) 9259542123273814144 = 0) (k : Nat) (hk : k < 8) : x.testBit (8 * k + 7) = false := by
  have h2 : x &&& 9259542123273814144 = 0 := by
    have := u64_and_nat x 9259542123273814144 hx (by decide)
    have h9 : ((9259542123273814144 : Nat) : Int) = 9259542123273814144 := rfl
    rw [h9, h] at this
    omega
  have h3 := congrArg (fun n => Nat.testBit n (8 * k + 7)) h2
  simp only [Nat.testBit_and, Nat.zero_testBit] at h3
  have hm : (9259542123273814144 : Nat).testBit (8 * k + 7) = true := by
    match k, hk with
    | 0, _ => decide
    | 1, _ => decide
    | 2, _ => decide
    | 3, _ => decide
    | 4, _ => decide
    | 5, _ => decide
    | 6, _ => decide
    | 7, _ => decide
  rw [hm, Bool.and_true] at h3
  exact h3
theorem HiW.ascii {s : ByteArray} {x : Nat} (h : HiW s x) (hb : bits .and .u64 (x : Int) 9259542123273814144 = 0) (k : Nat) (hk : k < 8) (hs : k < s.size) : (s[k]'hs).toNat < 128 := by
  rcases Nat.lt_or_ge (s[k]'hs).toNat 128 with h1 | h1
  · exact h1
  · have := h.2 k hk hs h1
    rw [hi_none h.1 hb k hk] at this
    cases this
theorem HiW.or {s t : ByteArray} {x y : Nat} (h : HiW s x) (h2 : HiW t y) : HiW s (x ||| y) ∧ HiW t (x ||| y) ∧ bits .or .u64 (x : Int) (y : Int) = ((x ||| y : Nat) : Int) :=
  ⟨⟨or_lt h.1 h2.1, fun k hk hs hb => by rw [Nat.testBit_or, h.2 k hk hs hb]; rfl⟩, ⟨or_lt h.1 h2.1, fun k hk hs hb => by rw [Nat.testBit_or, h2.2 k hk hs hb, Bool.or_true]⟩, u64_or_nat _ _ h.1 h2.1⟩
end Go.Proofs.YtmmllhdphlnpjaaDoor
