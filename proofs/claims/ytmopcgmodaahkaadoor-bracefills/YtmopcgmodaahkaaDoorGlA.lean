/- Eight bytes of a text as one word. -/
import Derived.Test.YtmopcgmodaahkaaDoorProg
import Derived.Test.YtmopcgmodaahkaaDoorGPlain
import Derived.WalkKit
import Derived.WalkSpells
import Derived.WalkLawsBesides
import Derived.Below
import Derived.Lib.Hide
import Derived.IntWalk
import Derived.Deep.RegionHeld3
import Derived.Laws.BitsAllLaws
namespace Go.Proofs.YtmopcgmodaahkaaDoor
open Go.RowKit Florin
set_option linter.unusedVariables false
set_option linter.unusedSimpArgs false
/-- A word of eight bytes: where a byte is 128 or more, the word shows it. -/
def HiW (s : ByteArray) (x : Nat) : Prop := x < 18446744073709551616 ∧ ∀ (k : Nat) (_ : k < 8) (hk : k < s.size), 128 ≤ (s[k]'hk).toNat → x.testBit (8 * k + 7) = true
theorem bit7 {b : Nat} (h : 128 ≤ b) (h2 : b < 256) : b.testBit 7 = true := by
  rw [Nat.testBit_eq_decide_div_mod_eq]; simp; omega
theorem bit_up {b k : Nat} (h : 128 ≤ b) (h2 : b < 256) : (b * 2 ^ (8 * k)).testBit (8 * k + 7) = true := by
  rw [Nat.testBit_mul_two_pow, Nat.add_sub_cancel_left, bit7 h h2]; simp
theorem or_lt {a b : Nat} (ha : a < 18446744073709551616) (hb : b < 18446744073709551616) : a ||| b < 18446744073709551616 := Nat.or_lt_two_pow (n := 64) ha hb
def wordN (b : Nat → Nat) : Nat := b 0 ||| b 1 * 256 ||| b 2 * 65536 ||| b 3 * 16777216 ||| b 4 * 4294967296 ||| b 5 * 1099511627776 ||| b 6 * 281474976710656 ||| b 7 * 72057594037927936
theorem wrap_cast {n : Nat} (h : n < 18446744073709551616) : IntKind.u64.wrap (n : Int) = (n : Int) := by rw [IntKind.wrap_u64]; omega
set_option maxRecDepth 100000 in
theorem word_val {b0 b1 b2 b3 b4 b5 b6 b7 : Nat} (h0 : b0 < 256) (h1 : b1 < 256) (h2 : b2 < 256) (h3 : b3 < 256) (h4 : b4 < 256) (h5 : b5 < 256) (h6 : b6 < 256) (h7 : b7 < 256) :
    bits .or .u64 (bits .or .u64 (bits .or .u64 (bits .or .u64 (bits .or .u64 (bits .or .u64 (bits .or .u64 (IntKind.u64.wrap (b0 : Int)) (IntKind.u64.wrap (IntKind.u64.wrap (b1 : Int) * 256)))
      (IntKind.u64.wrap (IntKind.u64.wrap (b2 : Int) * 65536))) (IntKind.u64.wrap (IntKind.u64.wrap (b3 : Int) * 16777216))) (IntKind.u64.wrap (IntKind.u64.wrap (b4 : Int) * 4294967296)))
      (IntKind.u64.wrap (IntKind.u64.wrap (b5 : Int) * 1099511627776))) (IntKind.u64.wrap (IntKind.u64.wrap (b6 : Int) * 281474976710656))) (IntKind.u64.wrap (IntKind.u64.wrap (b7 : Int) * 72057594037927936))
    = ((b0 ||| b1 * 256 ||| b2 * 65536 ||| b3 * 16777216 ||| b4 * 4294967296 ||| b5 * 1099511627776 ||| b6 * 281474976710656 ||| b7 * 72057594037927936 : Nat) : Int) := by
  have e : ∀ (b m : Nat) (M : Int), M = (m : Int) → b * m < 18446744073709551616 → b < 256 → IntKind.u64.wrap (IntKind.u64.wrap (b : Int) * M) = ((b * m : Nat) : Int) := by
    intro b m M hM hm hb
    rw [hM, wrap_cast (by omega), ← Int.natCast_mul, wrap_cast hm]
  have l0 : b0 < 18446744073709551616 := by omega
  have l1 : b1 * 256 < 18446744073709551616 := Nat.lt_of_le_of_lt (Nat.mul_le_mul_right _ (Nat.le_of_lt_succ h1)) (by decide)
  have l2 : b2 * 65536 < 18446744073709551616 := Nat.lt_of_le_of_lt (Nat.mul_le_mul_right _ (Nat.le_of_lt_succ h2)) (by decide)
  have l3 : b3 * 16777216 < 18446744073709551616 := Nat.lt_of_le_of_lt (Nat.mul_le_mul_right _ (Nat.le_of_lt_succ h3)) (by decide)
  have l4 : b4 * 4294967296 < 18446744073709551616 := Nat.lt_of_le_of_lt (Nat.mul_le_mul_right _ (Nat.le_of_lt_succ h4)) (by decide)
  have l5 : b5 * 1099511627776 < 18446744073709551616 := Nat.lt_of_le_of_lt (Nat.mul_le_mul_right _ (Nat.le_of_lt_succ h5)) (by decide)
  have l6 : b6 * 281474976710656 < 18446744073709551616 := Nat.lt_of_le_of_lt (Nat.mul_le_mul_right _ (Nat.le_of_lt_succ h6)) (by decide)
  have l7 : b7 * 72057594037927936 < 18446744073709551616 := Nat.lt_of_le_of_lt (Nat.mul_le_mul_right _ (Nat.le_of_lt_succ h7)) (by decide)
  have e1 := e b1 256 256 rfl l1 h1
  have e2 := e b2 65536 65536 rfl l2 h2
  have e3 := e b3 16777216 16777216 rfl l3 h3
  have e4 := e b4 4294967296 4294967296 rfl l4 h4
  have e5 := e b5 1099511627776 1099511627776 rfl l5 h5
  have e6 := e b6 281474976710656 281474976710656 rfl l6 h6
  have e7 := e b7 72057594037927936 72057594037927936 rfl l7 h7
  rw [e1, e2, e3, e4, e5, e6, e7, wrap_cast l0, u64_or_nat _ _ l0 l1, u64_or_nat _ _ (or_lt l0 l1) l2, u64_or_nat _ _ (or_lt (or_lt l0 l1) l2) l3, u64_or_nat _ _ (or_lt (or_lt (or_lt l0 l1) l2) l3) l4,
    u64_or_nat _ _ (or_lt (or_lt (or_lt (or_lt l0 l1) l2) l3) l4) l5, u64_or_nat _ _ (or_lt (or_lt (or_lt (or_lt (or_lt l0 l1) l2) l3) l4) l5) l6, u64_or_nat _ _ (or_lt (or_lt (or_lt (or_lt (or_lt (or_lt l0 l1) l2) l3) l4) l5) l6) l7]
set_option maxRecDepth 100000 in
theorem word_hi {b0 b1 b2 b3 b4 b5 b6 b7 : Nat} (h0 : b0 < 256) (h1 : b1 < 256) (h2 : b2 < 256) (h3 : b3 < 256) (h4 : b4 < 256) (h5 : b5 < 256) (h6 : b6 < 256) (h7 : b7 < 256) :
    (b0 ||| b1 * 256 ||| b2 * 65536 ||| b3 * 16777216 ||| b4 * 4294967296 ||| b5 * 1099511627776 ||| b6 * 281474976710656 ||| b7 * 72057594037927936) < 18446744073709551616 ∧
    ∀ k, k < 8 → 128 ≤ [b0, b1, b2, b3, b4, b5, b6, b7].getD k 0 → (b0 ||| b1 * 256 ||| b2 * 65536 ||| b3 * 16777216 ||| b4 * 4294967296 ||| b5 * 1099511627776 ||| b6 * 281474976710656 ||| b7 * 72057594037927936).testBit (8 * k + 7) = true := by
  refine ⟨or_lt (or_lt (or_lt (or_lt (or_lt (or_lt (or_lt (by omega) (by omega)) (by omega)) (by omega)) (by omega)) (by omega)) (by omega)) (by omega), fun k hk hb => ?_⟩
  simp only [Nat.testBit_or]
  match k, hk, hb with
  | 0, _, hb => have hb2 : 128 ≤ b0 := hb; have := bit_up (k := 0) hb2 h0; simp at this; simp [this]
  | 1, _, hb => have hb2 : 128 ≤ b1 := hb; have := bit_up (k := 1) hb2 h1; simp only [show (2 : Nat) ^ (8 * 1) = 256 from rfl] at this; simp [this]
  | 2, _, hb => have hb2 : 128 ≤ b2 := hb; have := bit_up (k := 2) hb2 h2; simp only [show (2 : Nat) ^ (8 * 2) = 65536 from rfl] at this; simp [this]
  | 3, _, hb => have hb2 : 128 ≤ b3 := hb; have := bit_up (k := 3) hb2 h3; simp only [show (2 : Nat) ^ (8 * 3) = 16777216 from rfl] at this; simp [this]
  | 4, _, hb => have hb2 : 128 ≤ b4 := hb; have := bit_up (k := 4) hb2 h4; simp only [show (2 : Nat) ^ (8 * 4) = 4294967296 from rfl] at this; simp [this]
  | 5, _, hb => have hb2 : 128 ≤ b5 := hb; have := bit_up (k := 5) hb2 h5; simp only [show (2 : Nat) ^ (8 * 5) = 1099511627776 from rfl] at this; simp [this]
  | 6, _, hb => have hb2 : 128 ≤ b6 := hb; have := bit_up (k := 6) hb2 h6; simp only [show (2 : Nat) ^ (8 * 6) = 281474976710656 from rfl] at this; simp [this]
  | 7, _, hb => have hb2 : 128 ≤ b7 := hb; have := bit_up (k := 7) hb2 h7; simp only [show (2 : Nat) ^ (8 * 7) = 72057594037927936 from rfl] at this; simp [this]
set_option maxRecDepth 100000 in
/-- No byte of 128 or more, as the word tells. -/
theorem hi_none {x : Nat} (hx : x < 18446744073709551616) (h : bits .and .u64 (x : Int) 9259542123273814144 = 0) (k : Nat) (hk : k < 8) : x.testBit (8 * k + 7) = false := by
  have h2 : x &&& 9259542123273814144 = 0 := by
    have := u64_and_nat x 9259542123273814144 hx (by decide)
    have h9 : ((9259542123273814144 : Nat) : Int) = 9259542123273814144 := rfl
    rw [h9, h] at this
    omega
  have h3 := congrArg (fun n => Nat.testBit n (8 * k + 7)) h2
  simp only [Nat.testBit_and, Nat.zero_testBit] at h3
  have hm : (9259542123273814144 : Nat).testBit (8 * k + 7) = true := by
    match k, hk with
    | 0, _ => decide
    | 1, _ => decide
    | 2, _ => decide
    | 3, _ => decide
    | 4, _ => decide
    | 5, _ => decide
    | 6, _ => decide
    | 7, _ => decide
  rw [hm, Bool.and_true] at h3
  exact h3
theorem HiW.ascii {s : ByteArray} {x : Nat} (h : HiW s x) (hb : bits .and .u64 (x : Int) 9259542123273814144 = 0) (k : Nat) (hk : k < 8) (hs : k < s.size) : (s[k]'hs).toNat < 128 := by
  rcases Nat.lt_or_ge (s[k]'hs).toNat 128 with h1 | h1
  · exact h1
  · have := h.2 k hk hs h1
    rw [hi_none h.1 hb k hk] at this
    cases this
theorem HiW.or {s t : ByteArray} {x y : Nat} (h : HiW s x) (h2 : HiW t y) : HiW s (x ||| y) ∧ HiW t (x ||| y) ∧ bits .or .u64 (x : Int) (y : Int) = ((x ||| y : Nat) : Int) :=
  ⟨⟨or_lt h.1 h2.1, fun k hk hs hb => by rw [Nat.testBit_or, h.2 k hk hs hb]; rfl⟩, ⟨or_lt h.1 h2.1, fun k hk hs hb => by rw [Nat.testBit_or, h2.2 k hk hs hb, Bool.or_true]⟩, u64_or_nat _ _ h.1 h2.1⟩
set_option maxRecDepth 100000 in
set_option maxHeartbeats 4000000 in
theorem word_as (s : ByteArray) (w : World) (hs : 8 ≤ s.size) :
    Calls Tryd.prog 52 #[.string s] w fun e w' => ∃ x : Nat, e = .returned (.int .u64 (x : Int)) ∧ HiW s x ∧ w' = w.drew := by
  have h0 : 0 < s.size := by omega
  have h1 : 1 < s.size := by omega
  have h2 : 2 < s.size := by omega
  have h3 : 3 < s.size := by omega
  have h4 : 4 < s.size := by omega
  have h5 : 5 < s.size := by omega
  have h6 : 6 < s.size := by omega
  have h7 : 7 < s.size := by omega
  have i0 : (0 : Int) < (s.size : Int) := by omega
  have i1 : (1 : Int) < (s.size : Int) := by omega
  have i2 : (2 : Int) < (s.size : Int) := by omega
  have i3 : (3 : Int) < (s.size : Int) := by omega
  have i4 : (4 : Int) < (s.size : Int) := by omega
  have i5 : (5 : Int) < (s.size : Int) := by omega
  have i6 : (6 : Int) < (s.size : Int) := by omega
  have i7 : (7 : Int) < (s.size : Int) := by omega
  go_enter Tryd.func52, Tryd.ntmps52
  go_wp2_with fail
  refine wp_region_held_drew (S := fun w' => w' = w.drew) (by kernel_rfl) rfl (fun hHeld => ?_)
  refine wpAnyH_take (i := 0) (oi := { dst := some 21, op := Go.Op.move (Go.Operand.tmp 0), type := 9, pos := "utf8.go:466", after := #[], guard := none }) (v := ?_) rfl (by kernel_rfl) (by kernel_rfl) (by kernel_rfl) (fun _ _ _ h => h) (Or.inl ⟨by rfl, ?_⟩) rfl ?_
  case refine_2 => (intro w hSw; (try dsimp only at hSw); subst hSw; go_simp <;> with_reducible rfl)
  try simp only [Act.put, List.setIfInBounds_toArray, List.set_cons_zero, List.set_cons_succ]
  refine wpAnyH_take (i := 1) (oi := { dst := some 22, op := Go.Op.index 9 (Go.Operand.tmp 21) (Go.Operand.const (Go.Value.int Go.IntKind.i64 0)), type := 5, pos := "utf8.go:466", after := #[{ on := 0, ground := Go.Ground.data }], guard := none }) (v := ?_) rfl (by kernel_rfl) (by kernel_rfl) (by kernel_rfl) (fun _ _ _ h => h) (Or.inl ⟨by rfl, ?_⟩) rfl ?_
  case refine_2 => (intro w hSw; (try dsimp only at hSw); subst hSw; go_simp <;> with_reducible rfl)
  try simp only [Act.put, List.setIfInBounds_toArray, List.set_cons_zero, List.set_cons_succ]
  refine wpAnyH_take (i := 2) (oi := { dst := some 23, op := Go.Op.convert 5 111 (Go.Operand.tmp 22), type := 111, pos := "utf8.go:466", after := #[{ on := 1, ground := Go.Ground.data }], guard := none }) (v := ?_) rfl (by kernel_rfl) (by kernel_rfl) (by kernel_rfl) (fun _ _ _ h => h) (Or.inl ⟨by rfl, ?_⟩) rfl ?_
  case refine_2 => (intro w hSw; (try dsimp only at hSw); subst hSw; go_simp <;> with_reducible rfl)
  try simp only [Act.put, List.setIfInBounds_toArray, List.set_cons_zero, List.set_cons_succ]
  refine wpAnyH_take (i := 3) (oi := { dst := some 24, op := Go.Op.move (Go.Operand.tmp 0), type := 9, pos := "utf8.go:466", after := #[], guard := none }) (v := ?_) rfl (by kernel_rfl) (by kernel_rfl) (by kernel_rfl) (fun _ _ _ h => h) (Or.inl ⟨by rfl, ?_⟩) rfl ?_
  case refine_2 => (intro w hSw; (try dsimp only at hSw); subst hSw; go_simp <;> with_reducible rfl)
  try simp only [Act.put, List.setIfInBounds_toArray, List.set_cons_zero, List.set_cons_succ]
  refine wpAnyH_take (i := 4) (oi := { dst := some 25, op := Go.Op.index 9 (Go.Operand.tmp 24) (Go.Operand.const (Go.Value.int Go.IntKind.i64 1)), type := 5, pos := "utf8.go:466", after := #[{ on := 3, ground := Go.Ground.data }], guard := none }) (v := ?_) rfl (by kernel_rfl) (by kernel_rfl) (by kernel_rfl) (fun _ _ _ h => h) (Or.inl ⟨by rfl, ?_⟩) rfl ?_
  case refine_2 => (intro w hSw; (try dsimp only at hSw); subst hSw; go_simp <;> with_reducible rfl)
  try simp only [Act.put, List.setIfInBounds_toArray, List.set_cons_zero, List.set_cons_succ]
  refine wpAnyH_take (i := 5) (oi := { dst := some 26, op := Go.Op.convert 5 111 (Go.Operand.tmp 25), type := 111, pos := "utf8.go:466", after := #[{ on := 4, ground := Go.Ground.data }], guard := none }) (v := ?_) rfl (by kernel_rfl) (by kernel_rfl) (by kernel_rfl) (fun _ _ _ h => h) (Or.inl ⟨by rfl, ?_⟩) rfl ?_
  case refine_2 => (intro w hSw; (try dsimp only at hSw); subst hSw; go_simp <;> with_reducible rfl)
  try simp only [Act.put, List.setIfInBounds_toArray, List.set_cons_zero, List.set_cons_succ]
  refine wpAnyH_take (i := 6) (oi := { dst := some 27, op := Go.Op.binOp Go.BinOp.shl 111 (Go.Operand.tmp 26) (Go.Operand.const (Go.Value.int Go.IntKind.u64 8)) 65, type := 111, pos := "utf8.go:466", after := #[{ on := 5, ground := Go.Ground.data }], guard := none }) (v := ?_) rfl (by kernel_rfl) (by kernel_rfl) (by kernel_rfl) (fun _ _ _ h => h) (Or.inl ⟨by rfl, ?_⟩) rfl ?_
  case refine_2 => (intro w hSw; (try dsimp only at hSw); subst hSw; go_simp <;> with_reducible rfl)
  try simp only [Act.put, List.setIfInBounds_toArray, List.set_cons_zero, List.set_cons_succ]
  refine wpAnyH_take (i := 7) (oi := { dst := some 28, op := Go.Op.binOp Go.BinOp.or 111 (Go.Operand.tmp 23) (Go.Operand.tmp 27) 111, type := 111, pos := "utf8.go:466", after := #[{ on := 2, ground := Go.Ground.data }, { on := 6, ground := Go.Ground.data }], guard := none }) (v := ?_) rfl (by kernel_rfl) (by kernel_rfl) (by kernel_rfl) (fun _ _ _ h => h) (Or.inl ⟨by rfl, ?_⟩) rfl ?_
  case refine_2 => (intro w hSw; (try dsimp only at hSw); subst hSw; go_simp <;> with_reducible rfl)
  try simp only [Act.put, List.setIfInBounds_toArray, List.set_cons_zero, List.set_cons_succ]
  refine wpAnyH_take (i := 8) (oi := { dst := some 29, op := Go.Op.move (Go.Operand.tmp 0), type := 9, pos := "utf8.go:466", after := #[], guard := none }) (v := ?_) rfl (by kernel_rfl) (by kernel_rfl) (by kernel_rfl) (fun _ _ _ h => h) (Or.inl ⟨by rfl, ?_⟩) rfl ?_
  case refine_2 => (intro w hSw; (try dsimp only at hSw); subst hSw; go_simp <;> with_reducible rfl)
  try simp only [Act.put, List.setIfInBounds_toArray, List.set_cons_zero, List.set_cons_succ]
  refine wpAnyH_take (i := 9) (oi := { dst := some 30, op := Go.Op.index 9 (Go.Operand.tmp 29) (Go.Operand.const (Go.Value.int Go.IntKind.i64 2)), type := 5, pos := "utf8.go:466", after := #[{ on := 8, ground := Go.Ground.data }], guard := none }) (v := ?_) rfl (by kernel_rfl) (by kernel_rfl) (by kernel_rfl) (fun _ _ _ h => h) (Or.inl ⟨by rfl, ?_⟩) rfl ?_
  case refine_2 => (intro w hSw; (try dsimp only at hSw); subst hSw; go_simp <;> with_reducible rfl)
  try simp only [Act.put, List.setIfInBounds_toArray, List.set_cons_zero, List.set_cons_succ]
  refine wpAnyH_take (i := 10) (oi := { dst := some 31, op := Go.Op.convert 5 111 (Go.Operand.tmp 30), type := 111, pos := "utf8.go:466", after := #[{ on := 9, ground := Go.Ground.data }], guard := none }) (v := ?_) rfl (by kernel_rfl) (by kernel_rfl) (by kernel_rfl) (fun _ _ _ h => h) (Or.inl ⟨by rfl, ?_⟩) rfl ?_
  case refine_2 => (intro w hSw; (try dsimp only at hSw); subst hSw; go_simp <;> with_reducible rfl)
  try simp only [Act.put, List.setIfInBounds_toArray, List.set_cons_zero, List.set_cons_succ]
  refine wpAnyH_take (i := 11) (oi := { dst := some 32, op := Go.Op.binOp Go.BinOp.shl 111 (Go.Operand.tmp 31) (Go.Operand.const (Go.Value.int Go.IntKind.u64 16)) 65, type := 111, pos := "utf8.go:466", after := #[{ on := 10, ground := Go.Ground.data }], guard := none }) (v := ?_) rfl (by kernel_rfl) (by kernel_rfl) (by kernel_rfl) (fun _ _ _ h => h) (Or.inl ⟨by rfl, ?_⟩) rfl ?_
  case refine_2 => (intro w hSw; (try dsimp only at hSw); subst hSw; go_simp <;> with_reducible rfl)
  try simp only [Act.put, List.setIfInBounds_toArray, List.set_cons_zero, List.set_cons_succ]
  refine wpAnyH_take (i := 12) (oi := { dst := some 33, op := Go.Op.binOp Go.BinOp.or 111 (Go.Operand.tmp 28) (Go.Operand.tmp 32) 111, type := 111, pos := "utf8.go:466", after := #[{ on := 7, ground := Go.Ground.data }, { on := 11, ground := Go.Ground.data }], guard := none }) (v := ?_) rfl (by kernel_rfl) (by kernel_rfl) (by kernel_rfl) (fun _ _ _ h => h) (Or.inl ⟨by rfl, ?_⟩) rfl ?_
  case refine_2 => (intro w hSw; (try dsimp only at hSw); subst hSw; go_simp <;> with_reducible rfl)
  try simp only [Act.put, List.setIfInBounds_toArray, List.set_cons_zero, List.set_cons_succ]
  refine wpAnyH_take (i := 13) (oi := { dst := some 34, op := Go.Op.move (Go.Operand.tmp 0), type := 9, pos := "utf8.go:466", after := #[], guard := none }) (v := ?_) rfl (by kernel_rfl) (by kernel_rfl) (by kernel_rfl) (fun _ _ _ h => h) (Or.inl ⟨by rfl, ?_⟩) rfl ?_
  case refine_2 => (intro w hSw; (try dsimp only at hSw); subst hSw; go_simp <;> with_reducible rfl)
  try simp only [Act.put, List.setIfInBounds_toArray, List.set_cons_zero, List.set_cons_succ]
  refine wpAnyH_take (i := 14) (oi := { dst := some 35, op := Go.Op.index 9 (Go.Operand.tmp 34) (Go.Operand.const (Go.Value.int Go.IntKind.i64 3)), type := 5, pos := "utf8.go:466", after := #[{ on := 13, ground := Go.Ground.data }], guard := none }) (v := ?_) rfl (by kernel_rfl) (by kernel_rfl) (by kernel_rfl) (fun _ _ _ h => h) (Or.inl ⟨by rfl, ?_⟩) rfl ?_
  case refine_2 => (intro w hSw; (try dsimp only at hSw); subst hSw; go_simp <;> with_reducible rfl)
  try simp only [Act.put, List.setIfInBounds_toArray, List.set_cons_zero, List.set_cons_succ]
  refine wpAnyH_take (i := 15) (oi := { dst := some 36, op := Go.Op.convert 5 111 (Go.Operand.tmp 35), type := 111, pos := "utf8.go:466", after := #[{ on := 14, ground := Go.Ground.data }], guard := none }) (v := ?_) rfl (by kernel_rfl) (by kernel_rfl) (by kernel_rfl) (fun _ _ _ h => h) (Or.inl ⟨by rfl, ?_⟩) rfl ?_
  case refine_2 => (intro w hSw; (try dsimp only at hSw); subst hSw; go_simp <;> with_reducible rfl)
  try simp only [Act.put, List.setIfInBounds_toArray, List.set_cons_zero, List.set_cons_succ]
  refine wpAnyH_take (i := 16) (oi := { dst := some 37, op := Go.Op.binOp Go.BinOp.shl 111 (Go.Operand.tmp 36) (Go.Operand.const (Go.Value.int Go.IntKind.u64 24)) 65, type := 111, pos := "utf8.go:466", after := #[{ on := 15, ground := Go.Ground.data }], guard := none }) (v := ?_) rfl (by kernel_rfl) (by kernel_rfl) (by kernel_rfl) (fun _ _ _ h => h) (Or.inl ⟨by rfl, ?_⟩) rfl ?_
  case refine_2 => (intro w hSw; (try dsimp only at hSw); subst hSw; go_simp <;> with_reducible rfl)
  try simp only [Act.put, List.setIfInBounds_toArray, List.set_cons_zero, List.set_cons_succ]
  refine wpAnyH_take (i := 17) (oi := { dst := some 38, op := Go.Op.binOp Go.BinOp.or 111 (Go.Operand.tmp 33) (Go.Operand.tmp 37) 111, type := 111, pos := "utf8.go:466", after := #[{ on := 12, ground := Go.Ground.data }, { on := 16, ground := Go.Ground.data }], guard := none }) (v := ?_) rfl (by kernel_rfl) (by kernel_rfl) (by kernel_rfl) (fun _ _ _ h => h) (Or.inl ⟨by rfl, ?_⟩) rfl ?_
  case refine_2 => (intro w hSw; (try dsimp only at hSw); subst hSw; go_simp <;> with_reducible rfl)
  try simp only [Act.put, List.setIfInBounds_toArray, List.set_cons_zero, List.set_cons_succ]
  refine wpAnyH_take (i := 18) (oi := { dst := some 39, op := Go.Op.move (Go.Operand.tmp 0), type := 9, pos := "utf8.go:466", after := #[], guard := none }) (v := ?_) rfl (by kernel_rfl) (by kernel_rfl) (by kernel_rfl) (fun _ _ _ h => h) (Or.inl ⟨by rfl, ?_⟩) rfl ?_
  case refine_2 => (intro w hSw; (try dsimp only at hSw); subst hSw; go_simp <;> with_reducible rfl)
  try simp only [Act.put, List.setIfInBounds_toArray, List.set_cons_zero, List.set_cons_succ]
  refine wpAnyH_take (i := 19) (oi := { dst := some 40, op := Go.Op.index 9 (Go.Operand.tmp 39) (Go.Operand.const (Go.Value.int Go.IntKind.i64 4)), type := 5, pos := "utf8.go:466", after := #[{ on := 18, ground := Go.Ground.data }], guard := none }) (v := ?_) rfl (by kernel_rfl) (by kernel_rfl) (by kernel_rfl) (fun _ _ _ h => h) (Or.inl ⟨by rfl, ?_⟩) rfl ?_
  case refine_2 => (intro w hSw; (try dsimp only at hSw); subst hSw; go_simp <;> with_reducible rfl)
  try simp only [Act.put, List.setIfInBounds_toArray, List.set_cons_zero, List.set_cons_succ]
  refine wpAnyH_take (i := 20) (oi := { dst := some 41, op := Go.Op.convert 5 111 (Go.Operand.tmp 40), type := 111, pos := "utf8.go:466", after := #[{ on := 19, ground := Go.Ground.data }], guard := none }) (v := ?_) rfl (by kernel_rfl) (by kernel_rfl) (by kernel_rfl) (fun _ _ _ h => h) (Or.inl ⟨by rfl, ?_⟩) rfl ?_
  case refine_2 => (intro w hSw; (try dsimp only at hSw); subst hSw; go_simp <;> with_reducible rfl)
  try simp only [Act.put, List.setIfInBounds_toArray, List.set_cons_zero, List.set_cons_succ]
  refine wpAnyH_take (i := 21) (oi := { dst := some 42, op := Go.Op.binOp Go.BinOp.shl 111 (Go.Operand.tmp 41) (Go.Operand.const (Go.Value.int Go.IntKind.u64 32)) 65, type := 111, pos := "utf8.go:466", after := #[{ on := 20, ground := Go.Ground.data }], guard := none }) (v := ?_) rfl (by kernel_rfl) (by kernel_rfl) (by kernel_rfl) (fun _ _ _ h => h) (Or.inl ⟨by rfl, ?_⟩) rfl ?_
  case refine_2 => (intro w hSw; (try dsimp only at hSw); subst hSw; go_simp <;> with_reducible rfl)
  try simp only [Act.put, List.setIfInBounds_toArray, List.set_cons_zero, List.set_cons_succ]
  refine wpAnyH_take (i := 22) (oi := { dst := some 43, op := Go.Op.binOp Go.BinOp.or 111 (Go.Operand.tmp 38) (Go.Operand.tmp 42) 111, type := 111, pos := "utf8.go:466", after := #[{ on := 17, ground := Go.Ground.data }, { on := 21, ground := Go.Ground.data }], guard := none }) (v := ?_) rfl (by kernel_rfl) (by kernel_rfl) (by kernel_rfl) (fun _ _ _ h => h) (Or.inl ⟨by rfl, ?_⟩) rfl ?_
  case refine_2 => (intro w hSw; (try dsimp only at hSw); subst hSw; go_simp <;> with_reducible rfl)
  try simp only [Act.put, List.setIfInBounds_toArray, List.set_cons_zero, List.set_cons_succ]
  refine wpAnyH_take (i := 23) (oi := { dst := some 44, op := Go.Op.move (Go.Operand.tmp 0), type := 9, pos := "utf8.go:466", after := #[], guard := none }) (v := ?_) rfl (by kernel_rfl) (by kernel_rfl) (by kernel_rfl) (fun _ _ _ h => h) (Or.inl ⟨by rfl, ?_⟩) rfl ?_
  case refine_2 => (intro w hSw; (try dsimp only at hSw); subst hSw; go_simp <;> with_reducible rfl)
  try simp only [Act.put, List.setIfInBounds_toArray, List.set_cons_zero, List.set_cons_succ]
  refine wpAnyH_take (i := 24) (oi := { dst := some 45, op := Go.Op.index 9 (Go.Operand.tmp 44) (Go.Operand.const (Go.Value.int Go.IntKind.i64 5)), type := 5, pos := "utf8.go:466", after := #[{ on := 23, ground := Go.Ground.data }], guard := none }) (v := ?_) rfl (by kernel_rfl) (by kernel_rfl) (by kernel_rfl) (fun _ _ _ h => h) (Or.inl ⟨by rfl, ?_⟩) rfl ?_
  case refine_2 => (intro w hSw; (try dsimp only at hSw); subst hSw; go_simp <;> with_reducible rfl)
  try simp only [Act.put, List.setIfInBounds_toArray, List.set_cons_zero, List.set_cons_succ]
  refine wpAnyH_take (i := 25) (oi := { dst := some 46, op := Go.Op.convert 5 111 (Go.Operand.tmp 45), type := 111, pos := "utf8.go:466", after := #[{ on := 24, ground := Go.Ground.data }], guard := none }) (v := ?_) rfl (by kernel_rfl) (by kernel_rfl) (by kernel_rfl) (fun _ _ _ h => h) (Or.inl ⟨by rfl, ?_⟩) rfl ?_
  case refine_2 => (intro w hSw; (try dsimp only at hSw); subst hSw; go_simp <;> with_reducible rfl)
  try simp only [Act.put, List.setIfInBounds_toArray, List.set_cons_zero, List.set_cons_succ]
  refine wpAnyH_take (i := 26) (oi := { dst := some 47, op := Go.Op.binOp Go.BinOp.shl 111 (Go.Operand.tmp 46) (Go.Operand.const (Go.Value.int Go.IntKind.u64 40)) 65, type := 111, pos := "utf8.go:466", after := #[{ on := 25, ground := Go.Ground.data }], guard := none }) (v := ?_) rfl (by kernel_rfl) (by kernel_rfl) (by kernel_rfl) (fun _ _ _ h => h) (Or.inl ⟨by rfl, ?_⟩) rfl ?_
  case refine_2 => (intro w hSw; (try dsimp only at hSw); subst hSw; go_simp <;> with_reducible rfl)
  try simp only [Act.put, List.setIfInBounds_toArray, List.set_cons_zero, List.set_cons_succ]
  refine wpAnyH_take (i := 27) (oi := { dst := some 48, op := Go.Op.binOp Go.BinOp.or 111 (Go.Operand.tmp 43) (Go.Operand.tmp 47) 111, type := 111, pos := "utf8.go:466", after := #[{ on := 22, ground := Go.Ground.data }, { on := 26, ground := Go.Ground.data }], guard := none }) (v := ?_) rfl (by kernel_rfl) (by kernel_rfl) (by kernel_rfl) (fun _ _ _ h => h) (Or.inl ⟨by rfl, ?_⟩) rfl ?_
  case refine_2 => (intro w hSw; (try dsimp only at hSw); subst hSw; go_simp <;> with_reducible rfl)
  try simp only [Act.put, List.setIfInBounds_toArray, List.set_cons_zero, List.set_cons_succ]
  refine wpAnyH_take (i := 28) (oi := { dst := some 49, op := Go.Op.move (Go.Operand.tmp 0), type := 9, pos := "utf8.go:466", after := #[], guard := none }) (v := ?_) rfl (by kernel_rfl) (by kernel_rfl) (by kernel_rfl) (fun _ _ _ h => h) (Or.inl ⟨by rfl, ?_⟩) rfl ?_
  case refine_2 => (intro w hSw; (try dsimp only at hSw); subst hSw; go_simp <;> with_reducible rfl)
  try simp only [Act.put, List.setIfInBounds_toArray, List.set_cons_zero, List.set_cons_succ]
  refine wpAnyH_take (i := 29) (oi := { dst := some 50, op := Go.Op.index 9 (Go.Operand.tmp 49) (Go.Operand.const (Go.Value.int Go.IntKind.i64 6)), type := 5, pos := "utf8.go:466", after := #[{ on := 28, ground := Go.Ground.data }], guard := none }) (v := ?_) rfl (by kernel_rfl) (by kernel_rfl) (by kernel_rfl) (fun _ _ _ h => h) (Or.inl ⟨by rfl, ?_⟩) rfl ?_
  case refine_2 => (intro w hSw; (try dsimp only at hSw); subst hSw; go_simp <;> with_reducible rfl)
  try simp only [Act.put, List.setIfInBounds_toArray, List.set_cons_zero, List.set_cons_succ]
  refine wpAnyH_take (i := 30) (oi := { dst := some 51, op := Go.Op.convert 5 111 (Go.Operand.tmp 50), type := 111, pos := "utf8.go:466", after := #[{ on := 29, ground := Go.Ground.data }], guard := none }) (v := ?_) rfl (by kernel_rfl) (by kernel_rfl) (by kernel_rfl) (fun _ _ _ h => h) (Or.inl ⟨by rfl, ?_⟩) rfl ?_
  case refine_2 => (intro w hSw; (try dsimp only at hSw); subst hSw; go_simp <;> with_reducible rfl)
  try simp only [Act.put, List.setIfInBounds_toArray, List.set_cons_zero, List.set_cons_succ]
  refine wpAnyH_take (i := 31) (oi := { dst := some 52, op := Go.Op.binOp Go.BinOp.shl 111 (Go.Operand.tmp 51) (Go.Operand.const (Go.Value.int Go.IntKind.u64 48)) 65, type := 111, pos := "utf8.go:466", after := #[{ on := 30, ground := Go.Ground.data }], guard := none }) (v := ?_) rfl (by kernel_rfl) (by kernel_rfl) (by kernel_rfl) (fun _ _ _ h => h) (Or.inl ⟨by rfl, ?_⟩) rfl ?_
  case refine_2 => (intro w hSw; (try dsimp only at hSw); subst hSw; go_simp <;> with_reducible rfl)
  try simp only [Act.put, List.setIfInBounds_toArray, List.set_cons_zero, List.set_cons_succ]
  refine wpAnyH_take (i := 32) (oi := { dst := some 53, op := Go.Op.binOp Go.BinOp.or 111 (Go.Operand.tmp 48) (Go.Operand.tmp 52) 111, type := 111, pos := "utf8.go:466", after := #[{ on := 27, ground := Go.Ground.data }, { on := 31, ground := Go.Ground.data }], guard := none }) (v := ?_) rfl (by kernel_rfl) (by kernel_rfl) (by kernel_rfl) (fun _ _ _ h => h) (Or.inl ⟨by rfl, ?_⟩) rfl ?_
  case refine_2 => (intro w hSw; (try dsimp only at hSw); subst hSw; go_simp <;> with_reducible rfl)
  try simp only [Act.put, List.setIfInBounds_toArray, List.set_cons_zero, List.set_cons_succ]
  refine wpAnyH_take (i := 33) (oi := { dst := some 54, op := Go.Op.move (Go.Operand.tmp 0), type := 9, pos := "utf8.go:466", after := #[], guard := none }) (v := ?_) rfl (by kernel_rfl) (by kernel_rfl) (by kernel_rfl) (fun _ _ _ h => h) (Or.inl ⟨by rfl, ?_⟩) rfl ?_
  case refine_2 => (intro w hSw; (try dsimp only at hSw); subst hSw; go_simp <;> with_reducible rfl)
  try simp only [Act.put, List.setIfInBounds_toArray, List.set_cons_zero, List.set_cons_succ]
  refine wpAnyH_take (i := 34) (oi := { dst := some 55, op := Go.Op.index 9 (Go.Operand.tmp 54) (Go.Operand.const (Go.Value.int Go.IntKind.i64 7)), type := 5, pos := "utf8.go:466", after := #[{ on := 33, ground := Go.Ground.data }], guard := none }) (v := ?_) rfl (by kernel_rfl) (by kernel_rfl) (by kernel_rfl) (fun _ _ _ h => h) (Or.inl ⟨by rfl, ?_⟩) rfl ?_
  case refine_2 => (intro w hSw; (try dsimp only at hSw); subst hSw; go_simp <;> with_reducible rfl)
  try simp only [Act.put, List.setIfInBounds_toArray, List.set_cons_zero, List.set_cons_succ]
  refine wpAnyH_take (i := 35) (oi := { dst := some 56, op := Go.Op.convert 5 111 (Go.Operand.tmp 55), type := 111, pos := "utf8.go:466", after := #[{ on := 34, ground := Go.Ground.data }], guard := none }) (v := ?_) rfl (by kernel_rfl) (by kernel_rfl) (by kernel_rfl) (fun _ _ _ h => h) (Or.inl ⟨by rfl, ?_⟩) rfl ?_
  case refine_2 => (intro w hSw; (try dsimp only at hSw); subst hSw; go_simp <;> with_reducible rfl)
  try simp only [Act.put, List.setIfInBounds_toArray, List.set_cons_zero, List.set_cons_succ]
  refine wpAnyH_take (i := 36) (oi := { dst := some 57, op := Go.Op.binOp Go.BinOp.shl 111 (Go.Operand.tmp 56) (Go.Operand.const (Go.Value.int Go.IntKind.u64 56)) 65, type := 111, pos := "utf8.go:466", after := #[{ on := 35, ground := Go.Ground.data }], guard := none }) (v := ?_) rfl (by kernel_rfl) (by kernel_rfl) (by kernel_rfl) (fun _ _ _ h => h) (Or.inl ⟨by rfl, ?_⟩) rfl ?_
  case refine_2 => (intro w hSw; (try dsimp only at hSw); subst hSw; go_simp <;> with_reducible rfl)
  try simp only [Act.put, List.setIfInBounds_toArray, List.set_cons_zero, List.set_cons_succ]
  refine wpAnyH_take (i := 37) (oi := { dst := some 58, op := Go.Op.binOp Go.BinOp.or 111 (Go.Operand.tmp 53) (Go.Operand.tmp 57) 111, type := 111, pos := "utf8.go:466", after := #[{ on := 32, ground := Go.Ground.data }, { on := 36, ground := Go.Ground.data }], guard := none }) (v := ?_) rfl (by kernel_rfl) (by kernel_rfl) (by kernel_rfl) (fun _ _ _ h => h) (Or.inl ⟨by rfl, ?_⟩) rfl ?_
  case refine_2 => (intro w hSw; (try dsimp only at hSw); subst hSw; go_simp <;> with_reducible rfl)
  try simp only [Act.put, List.setIfInBounds_toArray, List.set_cons_zero, List.set_cons_succ]
  refine wpAnyH_take (i := 38) (oi := { dst := some 2, op := Go.Op.assign (Go.Operand.tmp 58), type := 12, pos := "utf8.go:466", after := #[{ on := 37, ground := Go.Ground.data }, { on := 0, ground := Go.Ground.phase }, { on := 1, ground := Go.Ground.phase }, { on := 2, ground := Go.Ground.phase }, { on := 3, ground := Go.Ground.phase }, { on := 4, ground := Go.Ground.phase }, { on := 5, ground := Go.Ground.phase }, { on := 6, ground := Go.Ground.phase }, { on := 7, ground := Go.Ground.phase }, { on := 8, ground := Go.Ground.phase }, { on := 9, ground := Go.Ground.phase }, { on := 10, ground := Go.Ground.phase }, { on := 11, ground := Go.Ground.phase }, { on := 12, ground := Go.Ground.phase }, { on := 13, ground := Go.Ground.phase }, { on := 14, ground := Go.Ground.phase }, { on := 15, ground := Go.Ground.phase }, { on := 16, ground := Go.Ground.phase }, { on := 17, ground := Go.Ground.phase }, { on := 18, ground := Go.Ground.phase }, { on := 19, ground := Go.Ground.phase }, { on := 20, ground := Go.Ground.phase }, { on := 21, ground := Go.Ground.phase }, { on := 22, ground := Go.Ground.phase }, { on := 23, ground := Go.Ground.phase }, { on := 24, ground := Go.Ground.phase }, { on := 25, ground := Go.Ground.phase }, { on := 26, ground := Go.Ground.phase }, { on := 27, ground := Go.Ground.phase }, { on := 28, ground := Go.Ground.phase }, { on := 29, ground := Go.Ground.phase }, { on := 30, ground := Go.Ground.phase }, { on := 31, ground := Go.Ground.phase }, { on := 32, ground := Go.Ground.phase }, { on := 33, ground := Go.Ground.phase }, { on := 34, ground := Go.Ground.phase }, { on := 35, ground := Go.Ground.phase }, { on := 36, ground := Go.Ground.phase }, { on := 37, ground := Go.Ground.phase }], guard := none }) (v := ?_) rfl (by kernel_rfl) (by kernel_rfl) (by kernel_rfl) (fun _ _ _ h => h) (Or.inl ⟨by rfl, ?_⟩) rfl ?_
  case refine_2 => (intro w hSw; (try dsimp only at hSw); subst hSw; go_simp <;> with_reducible rfl)
  try simp only [Act.put, List.setIfInBounds_toArray, List.set_cons_zero, List.set_cons_succ]
  refine wpAnyH_done (by kernel_rfl) ?_ _
  try clear hHeld
  go_wp2
  go_ret
  refine ⟨_, congrArg (fun z => Ending.returned (Value.int .u64 z)) (word_val (UInt8.toNat_lt _) (UInt8.toNat_lt _) (UInt8.toNat_lt _) (UInt8.toNat_lt _) (UInt8.toNat_lt _) (UInt8.toNat_lt _) (UInt8.toNat_lt _) (UInt8.toNat_lt _)), ⟨(word_hi (UInt8.toNat_lt _) (UInt8.toNat_lt _) (UInt8.toNat_lt _) (UInt8.toNat_lt _) (UInt8.toNat_lt _) (UInt8.toNat_lt _) (UInt8.toNat_lt _) (UInt8.toNat_lt _)).1, fun k hk hks hb => ?_⟩, rfl⟩
  refine (word_hi (UInt8.toNat_lt _) (UInt8.toNat_lt _) (UInt8.toNat_lt _) (UInt8.toNat_lt _) (UInt8.toNat_lt _) (UInt8.toNat_lt _) (UInt8.toNat_lt _) (UInt8.toNat_lt _)).2 k hk ?_
  match k, hk, hks, hb with
  | 0, _, _, hb => exact hb
  | 1, _, _, hb => exact hb
  | 2, _, _, hb => exact hb
  | 3, _, _, hb => exact hb
  | 4, _, _, hb => exact hb
  | 5, _, _, hb => exact hb
  | 6, _, _, hb => exact hb
  | 7, _, _, hb => exact hb
end Go.Proofs.YtmopcgmodaahkaaDoor
