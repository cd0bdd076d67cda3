/- DecR, DecS, OText, IxC, OprA, OprB, OprC, in one text. -/
import Derived.Test.YtkjhdehpcanciaaGreatDoorDecF
import Derived.Laws.RangeAny
import Derived.Laws.RangeString
import Derived.Laws.Runes
import Derived.Deep.LoopGhost
import Derived.WalkMore
import Derived.Deep.RegionWith
import Derived.Deep.DrawnRows
import Derived.Deep.QuietTactic
import Derived.Lib.OthersKept
import Derived.Lib.IndexAny
import Derived.Test.YtkjhdehpcanciaaGreatDoorDText
import Derived.Test.YtkjhdehpcanciaaGreatDoorShwX
import Derived.Deep.Cut
import Derived.Laws.StructEq
namespace Go.Proofs.YtkjhdehpcanciaaGreatDoor
open Go.RowKit Florin
set_option linter.unusedVariables false
set_option linter.unusedSimpArgs false
attribute [local go_sem ↓] Go.wp_at_zero Go.wp_at_succ

theorem encode_shape (r : Int) (h : 128 ≤ r) : (∃ a b : UInt8, Utf8.encode r = ⟨#[a, b]⟩ ∧ 128 ≤ b.toNat) ∨ (∃ a b c : UInt8, Utf8.encode r = ⟨#[a, b, c]⟩) ∨ (∃ a b c d : UInt8, Utf8.encode r = ⟨#[a, b, c, d]⟩) := by
  have hc : ¬ (if Utf8.valid r then r.toNat else Utf8.runeError) < 0x80 := by
    split
    · omega
    · decide
  unfold Utf8.encode
  simp only [hc, if_false]
  generalize (if Utf8.valid r then r.toNat else Utf8.runeError) = c
  split
  · exact .inl ⟨_, _, rfl, by simp [UInt8.toNat_ofNat']; omega⟩
  · split
    · exact .inr (.inl ⟨_, _, _, rfl⟩)
    · exact .inr (.inr ⟨_, _, _, _, rfl⟩)

theorem below_drewN {B : Nat} {w w1 : World} (h : Below B w w1) (n : Nat) : Below B w (w1.drewN n) := ⟨h.os, h.tape, h.output, h.size, h.block⟩
theorem ie_empty (c : UInt8) : Lib.indexByte ByteArray.empty.data.toList c = -1 := rfl
set_option maxRecDepth 100000 in
set_option maxHeartbeats 3200000 in
theorem rune_bad (w : World) : Calls Tryz.prog 113 #[.string ⟨#[101, 69]⟩, .int .i32 65533] w fun x w' => x = .returned (.int .i64 (-1)) ∧ Below w.heap.size w w' := by
  have n0 := fun ty => run_next_ascii (P := Tryz.prog) w ⟨#[101, 69]⟩ 0 ty (by decide) (by decide)
  have n1 := fun ty => run_next_ascii (P := Tryz.prog) w ⟨#[101, 69]⟩ 1 ty (by decide) (by decide)
  have n2 := fun ty => run_next_end (P := Tryz.prog) w ⟨#[101, 69]⟩ 2 ty (by decide)
  go_enter Tryz.func113, Tryz.ntmps113
  go_wp2
  refine wp_loop_rounds 3 ?_
  rw [rounds_succ]
  go_wp2
  rw [rounds_succ]
  go_wp2
  rw [rounds_succ]
  go_wp2
  go_ret
  exact ⟨rfl, below_alloc w _⟩
set_option maxRecDepth 100000 in
set_option maxHeartbeats 3200000 in
theorem rune_high (r : Int) (w : World) (h : 128 ≤ r) (hm : r ≤ 2147483647) (hn : r ≠ 65533) : Calls Tryz.prog 113 #[.string ⟨#[101, 69]⟩, .int .i32 r] w fun x w' => x = .returned (.int .i64 (-1)) ∧ Below w.heap.size w w' := by
  have hn' : (r == 65533) = false := by simp [hn]
  have hE := encode_shape r h
  generalize hv : Lib.validRune r = v
  have HV := Lib.hid hv
  clear hv
  generalize hg : Utf8.encode r = E at hE
  cases v with
  | false =>
    clear hE hg
    go_enter Tryz.func113, Tryz.ntmps113
    go_wp2_with fail
    with_reducible refine (Tryz.utf8_ValidRune r _).mono ?_
    rintro x w' ⟨rfl, rfl⟩
    rw [HV.out]
    go_wp2
    go_ret
    exact ⟨rfl, Below.refl _ _⟩
  | true =>
    rcases hE with ⟨a, b, rfl, hb⟩ | ⟨a, b, c, rfl⟩ | ⟨a, b, c, d, rfl⟩
    · have hb2 : (((⟨#[101, 69]⟩ : ByteArray)[1].toNat : Int) != (((⟨#[a, b]⟩ : ByteArray)[1]'(by show 1 < 2; omega)).toNat : Int)) = true := by
        show ((69 : Int) != (b.toNat : Int)) = true
        simp; omega
      go_enter Tryz.func113, Tryz.ntmps113
      go_wp2_with fail
      with_reducible refine (Tryz.utf8_ValidRune r _).mono ?_
      rintro x w' ⟨rfl, rfl⟩
      rw [HV.out]
      go_wp2
      apply wp_scope_straight
      go_wp2
      refine wp_loop_rounds 1 ?_
      rw [rounds_succ]
      go_wp2
      apply wp_scope_straight
      go_wp2
      go_quiet (fail)
      have BQ := Lib.hid (below_drewN (Below.refl w'.heap.size w') nq)
      generalize w'.drewN nq = wq at *
      go_wp2_with fail
      have hw2 : IntKind.i64.wrap 2 = 2 := by decide
      go_quiet ((go_at_call 138; exact Calls.quiet_of_same (Tryz.strings_IndexByte _ _ _)))
      simp only [ie_empty]
      go_wp2
      rw [Exit.noGoto_ret]
      go_wp2
      rw [Exit.noGoto_ret]
      go_wp2
      go_ret
      exact ⟨rfl, below_drewN BQ.out _⟩
    · go_enter Tryz.func113, Tryz.ntmps113
      go_wp2_with fail
      with_reducible refine (Tryz.utf8_ValidRune r _).mono ?_
      rintro x w' ⟨rfl, rfl⟩
      rw [HV.out]
      go_wp2
      apply wp_scope_straight
      go_wp2
      refine wp_loop_rounds 1 ?_
      rw [rounds_succ]
      go_wp2
      rw [Exit.noGoto_ret]
      go_wp2
      go_ret
      exact ⟨rfl, Below.refl _ _⟩
    · go_enter Tryz.func113, Tryz.ntmps113
      go_wp2_with fail
      with_reducible refine (Tryz.utf8_ValidRune r _).mono ?_
      rintro x w' ⟨rfl, rfl⟩
      rw [HV.out]
      go_wp2
      apply wp_scope_straight
      go_wp2
      refine wp_loop_rounds 1 ?_
      rw [rounds_succ]
      go_wp2
      rw [Exit.noGoto_ret]
      go_wp2
      go_ret
      exact ⟨rfl, Below.refl _ _⟩
end Go.Proofs.YtkjhdehpcanciaaGreatDoor

namespace Go.Proofs.YtkjhdehpcanciaaGreatDoor
open Go.RowKit Florin
set_option linter.unusedVariables false
set_option linter.unusedSimpArgs false

theorem decode_span (s : ByteArray) (pos : Nat) : ∀ j, 0 < j → j < (Utf8.decode s pos).2 → pos + j < s.size ∧ 128 ≤ (s.get! (pos + j)).toNat := by
  intro j h0 hj
  have key : ∀ k, (decide (pos + k < s.size) && (s.get! (pos + k)).toNat / 64 == 2) = true → pos + k < s.size ∧ 128 ≤ (s.get! (pos + k)).toNat := by
    intro k hk
    simp at hk
    exact ⟨hk.1, by omega⟩
  simp only [Utf8.decode] at hj
  split at hj
  · simp at hj; omega
  · split at hj
    · rename_i hc
      rw [Bool.and_eq_true] at hc
      have k1 := key 1 hc.2
      split at hj
      · simp at hj; obtain rfl : j = 1 := by omega
        exact k1
      · simp at hj; omega
    · split at hj
      · rename_i hc
        rw [Bool.and_eq_true, Bool.and_eq_true] at hc
        have k1 := key 1 hc.1.2
        have k2 := key 2 hc.2
        split at hj
        · simp at hj
          rcases (show j = 1 ∨ j = 2 by omega) with rfl | rfl
          · exact k1
          · exact k2
        · simp at hj; omega
      · split at hj
        · rename_i hc
          rw [Bool.and_eq_true, Bool.and_eq_true, Bool.and_eq_true] at hc
          have k1 := key 1 hc.1.1.2
          have k2 := key 2 hc.1.2
          have k3 := key 3 hc.2
          split at hj
          · simp at hj
            rcases (show j = 1 ∨ j = 2 ∨ j = 3 by omega) with rfl | rfl | rfl
            · exact k1
            · exact k2
            · exact k3
          · simp at hj; omega
        · simp at hj; omega
theorem rune_any (r : Nat) (w : World) (h : 128 ≤ r) (hm : r ≤ 2147483647) : Calls Tryz.prog 113 #[.string ⟨#[101, 69]⟩, .int .i32 (r : Int)] w fun x w' => x = .returned (.int .i64 (-1)) ∧ Below w.heap.size w w' := by
  by_cases hr : (r : Int) = 65533
  · rw [hr]; exact rune_bad w
  · exact rune_high r w (by omega) (by omega) hr
theorem noAny_span {s : ByteArray} {i : Nat} (h : Lib.NoAny s.data.toList [101, 69] i) (hi : i < s.size) (ha : 128 ≤ (s[i]'hi).toNat) : Lib.NoAny s.data.toList [101, 69] (i + (Utf8.decode s i).2) := by
  intro j b hj hb
  by_cases hji : j < i
  · exact h j b hji hb
  · have hb2 : 128 ≤ b.toNat := by
      by_cases h0 : j = i
      · subst h0
        rw [Lib.data_getElem? s j hi] at hb
        injection hb with hb; rw [← hb]; exact ha
      · obtain ⟨q1, q2⟩ := decode_span s i (j - i) (by omega) (by omega)
        have e : i + (j - i) = j := by omega
        rw [e] at q1 q2
        rw [Lib.data_getElem? s j q1] at hb
        injection hb with hb
        have := get_at s j q1
        rw [Nat.add_zero] at this
        rw [this] at q2
        rw [← hb]; exact q2
    simp only [List.contains, List.elem]
    have h1 : (b == 101) = false := by simp; intro e; subst e; revert hb2; decide
    have h2 : (b == 69) = false := by simp; intro e; subst e; revert hb2; decide
    rw [h1, h2]

set_option maxRecDepth 1000000 in
set_option maxHeartbeats 8000000 in
theorem ix_short_any (s : ByteArray) (h8 : s.size ≤ 8) : IxOK s := by
  intro w
  have h8z : decide ((8 : Int) < (s.size : Int)) = false := decide_eq_false (by omega)
  go_enter Tryz.func86, Tryz.ntmps86
  go_wp2_with (go_at_call 114; refine (Tryz.strings_shouldUseASCIISet _ _).mono ?_; rintro e w' ⟨rfl, hw⟩; rw [hw, h8z])
  go_loopg [9, 10] s.size (fun g _ _ wx => ∃ i : Nat, i + g = s.size ∧ wx.heap[w.heap.size]? = some (.stringIter s i) ∧ Below w.heap.size w wx ∧ Lib.NoAny s.data.toList [101, 69] i)
  case atStart => exact ⟨0, by omega, World.iter_heap w s 0, below_alloc w _, Lib.NoAny.zero _ _⟩
  case round =>
    obtain ⟨i, hig, hk, hbl, hno⟩ := hrel
    have HN := Lib.hid hno
    have HB := Lib.hid hbl
    have HK := Lib.hid hk
    clear hno hbl hk
    have hlt := (Array.getElem?_eq_some_iff.1 HK.out).1
    cases gk with
    | zero =>
      obtain rfl : i = s.size := by omega
      have hnx := fun ty => Lib.run_next_end_at (P := Tryz.prog) wr w.heap.size s s.size ty HK.out (by omega)
      go_wp2
      go_ret
      exact ⟨by rw [Lib.indexAny_none (by rw [← Lib.size_eq]; exact HN.out)]; rfl, HB.out⟩
    | succ g =>
      have hi : i < s.size := by omega
      obtain ⟨x, hx⟩ : ∃ x : UInt8, s[i]'hi = x := ⟨_, rfl⟩
      have Hx : Hid (s.data.toList[i]? = some x) := Lib.hid (by rw [← hx]; exact Lib.data_getElem? s i hi)
      by_cases hx128 : x.toNat < 128
      · have hnx := fun ty => Lib.run_next_ascii_at (P := Tryz.prog) wr w.heap.size s i ty HK.out hi (by rw [hx]; exact hx128)
        rw [hx] at hnx
        clear hx
        have hcon := Lib.contains_iff_indexByte [101, 69] x
        have hback : ((x.toNat : Int)).toNat.toUInt8 = x := by simp
        have B2 := Lib.hid (Lib.below_iterAt HB.out (Nat.le_refl _) s (i + 1))
        have K2 := Lib.hid (Lib.iterAt_heap wr w.heap.size s i (i + 1) HK.out)
        cases hin : List.contains [101, 69] x
        · rw [hin] at hcon
          have hlt' : ¬ ((0 : Int) ≤ Lib.indexByte [101, 69] x) := of_decide_eq_false hcon.symm
          clear hcon
          go_wp2_with (go_at_call 113; refine (Tryz.strings_IndexRune_ascii _ _ _ (by omega) (by omega)).mono ?_; rintro e w' ⟨rfl, hw⟩; rw [hw, hback])
          go_roundg g
          case measure => omega
          case rel => exact ⟨i + 1, by omega, K2.out, B2.out, HN.out.succ Hx.out hin⟩
        · rw [hin] at hcon
          have hge : (0 : Int) ≤ Lib.indexByte [101, 69] x := of_decide_eq_true hcon.symm
          clear hcon
          go_wp2_with (go_at_call 113; refine (Tryz.strings_IndexRune_ascii _ _ _ (by omega) (by omega)).mono ?_; rintro e w' ⟨rfl, hw⟩; rw [hw, hback])
          go_ret
          exact ⟨by rw [Lib.indexAny_hit HN.out Hx.out hin]; rfl, B2.out⟩
      · have hnx := fun ty => Lib.run_next_any_at (P := Tryz.prog) wr w.heap.size s i ty HK.out hi
        obtain ⟨d1, d2⟩ := decode_high s i hi (by rw [hx]; omega)
        have d3 := decode_le s i
        have d4 : i + (Utf8.decode s i).2 ≤ s.size := by
          by_cases h1 : (Utf8.decode s i).2 = 1
          · omega
          · have := (decode_span s i ((Utf8.decode s i).2 - 1) (by omega) (by omega)).1; omega
        have HS := Lib.hid (noAny_span HN.out hi (by rw [hx]; omega))
        have B2 := Lib.hid (Lib.below_iterAt HB.out (Nat.le_refl _) s (i + (Utf8.decode s i).2))
        have K2 := Lib.hid (Lib.iterAt_heap wr w.heap.size s i (i + (Utf8.decode s i).2) HK.out)
        have L2 : w.heap.size < (wr.iterAt w.heap.size s (i + (Utf8.decode s i).2)).heap.size := by rw [Lib.iterAt_size]; exact hlt
        clear hx
        generalize (Utf8.decode s i).1 = r at *
        generalize (Utf8.decode s i).2 = k at *
        generalize wr.iterAt w.heap.size s (i + k) = wk at *
        go_wp2_with fail
        with_reducible refine (rune_any r wk d1 d3).mono ?_
        rintro e w' ⟨rfl, hb⟩
        have B3 := Lib.hid (B2.out.trans (hb.mono (B' := w.heap.size) (by omega)))
        have K3 := Lib.hid ((hb.block _ L2).trans K2.out)
        clear hb
        go_wp2
        go_roundg (s.size - (i + k))
        case measure => omega
        case rel => exact ⟨i + k, by omega, K3.out, B3.out, HS.out⟩
theorem ix_all (s : ByteArray) (hs : s.size ≤ 1000000) : IxOK s := by
  by_cases h : 8 < s.size
  · exact ix_long s h hs
  · exact ix_short_any s (by omega)
end Go.Proofs.YtkjhdehpcanciaaGreatDoor

namespace Florin

def isC (c : UInt8) : Bool := c == 99 || c == 101
def cA (s : List UInt8) : List UInt8 := s.takeWhile fun c => !isC c
def cB (s : List UInt8) : List UInt8 := s.dropWhile fun c => !isC c
def whO (s : List UInt8) : List UInt8 := (cA s).takeWhile fun c => c != 46
def pbO (s : List UInt8) : List UInt8 := (cA s).dropWhile fun c => c != 46
def frO (s : List UInt8) : List UInt8 := (pbO s).tail
def pwO (s : List UInt8) : List UInt8 := (cB s).tail
def okP (s : List UInt8) : Bool := (cB s).isEmpty || sdig (pwO s)
/-- Is it a sample's number? -/
def okO (s : List UInt8) : Bool := okP s && (sdig (whO s) && ((pbO s).isEmpty || sdig (frO s)))
def longO (s : List UInt8) : Bool := decide (10000 < val (pwO s)) || decide (1000 < (whO s).length + (frO s).length)
def errO (s : List UInt8) : Int := if okO s then (if longO s then 2 else 0) else 1

theorem indexAny_ce (l : List UInt8) : (Go.Lib.indexAny l [99, 101] = -1 ∧ l.dropWhile (fun c => !isC c) = [] ∧ l.takeWhile (fun c => !isC c) = l) ∨
    (∃ k : Nat, Go.Lib.indexAny l [99, 101] = k ∧ k < l.length ∧ l.takeWhile (fun c => !isC c) = l.take k ∧ l.dropWhile (fun c => !isC c) = l.drop k ∧ (l.dropWhile (fun c => !isC c)).tail = l.drop (k + 1)) := by
  induction l with
  | nil => left; exact ⟨rfl, rfl, rfl⟩
  | cons a l ih =>
    have hc : List.contains [99, 101] a = isC a := by
      unfold isC; simp [List.contains, List.elem]
      cases a == 99 <;> cases a == 101 <;> rfl
    by_cases h : isC a = true
    · right
      refine ⟨0, ?_, by simp, ?_, ?_, ?_⟩
      · unfold Go.Lib.indexAny; rw [hc, if_pos h]; rfl
      · simp [h]
      · simp [h]
      · simp [h]
    · have h' : isC a = false := by simpa using h
      rcases ih with ⟨i1, i2, i3⟩ | ⟨k, i1, i2, i3, i4, i5⟩
      · left
        refine ⟨?_, ?_, ?_⟩
        · unfold Go.Lib.indexAny; rw [hc, h', i1]; rfl
        · simp [h', i2]
        · simp [h', i3]
      · right
        refine ⟨k + 1, ?_, by simp; omega, ?_, ?_, ?_⟩
        · unfold Go.Lib.indexAny; rw [hc, h', i1]
          have : ((k : Int) == -1) = false := by simp
          rw [this]; simp
        · simp [h', i3]
        · simp [h', i4]
        · simp only [List.dropWhile_cons, h', Bool.not_false, if_true]; rw [i5]; rfl

/-! place by place -/
/-- The next state; 6: none. -/
def stepO (st : Nat) (c : UInt8) : Nat :=
  if isD c then (if st % 2 = 0 then st + 1 else st) else if st = 1 ∧ c = 46 then 2 else if (st = 1 ∨ st = 3) ∧ isC c = true then 4 else 6
def runO : Nat → List UInt8 → Bool
  | st, [] => st % 2 == 1
  | st, c :: t => if stepO st c = 6 then false else runO (stepO st c) t

theorem cA_cons {c : UInt8} (h : isC c = false) (t : List UInt8) : cA (c :: t) = c :: cA t ∧ cB (c :: t) = cB t := by
  unfold cA cB; simp [h]
theorem cA_hit {c : UInt8} (h : isC c = true) (t : List UInt8) : cA (c :: t) = [] ∧ cB (c :: t) = c :: t := by
  unfold cA cB; simp [h]
theorem isC_isD {c : UInt8} (h : isC c = true) : isD c = false := by
  unfold isC at h
  simp at h
  rcases h with rfl | rfl <;> decide
theorem isD_isC {c : UInt8} (h : isD c = true) : isC c = false := by
  cases h2 : isC c with
  | false => rfl
  | true => rw [isC_isD h2] at h; cases h
theorem run5 (l : List UInt8) : runO 5 l = isDig l := by
  induction l with
  | nil => rfl
  | cons c t ih =>
    rw [isDig_cons]
    cases h : isD c with
    | true => simp [runO, stepO, h, ih]
    | false => simp [runO, stepO, h]
theorem run4 (l : List UInt8) : runO 4 l = sdig l := by
  cases l with
  | nil => rfl
  | cons c t =>
    unfold sdig
    rw [isDig_cons]
    cases h : isD c with
    | true => simp [runO, stepO, h, run5]
    | false => simp [runO, stepO, h]
theorem run3 (l : List UInt8) : runO 3 l = (okP l && isDig (cA l)) := by
  induction l with
  | nil => rfl
  | cons c t ih =>
    cases hc : isC c with
    | true =>
      have hd := isC_isD hc
      unfold okP pwO
      rw [(cA_hit hc t).1, (cA_hit hc t).2]
      simp [runO, stepO, hd, hc, run4, isDig]
    | false =>
      unfold okP pwO at ih ⊢
      rw [(cA_cons hc t).1, (cA_cons hc t).2, isDig_cons]
      cases h : isD c with
      | true => simp [runO, stepO, h, ih]
      | false => simp [runO, stepO, h, hc]
theorem run2 (l : List UInt8) : runO 2 l = (okP l && sdig (cA l)) := by
  cases l with
  | nil => rfl
  | cons c t =>
    cases hc : isC c with
    | true =>
      have hd := isC_isD hc
      unfold okP pwO
      rw [(cA_hit hc t).1, (cA_hit hc t).2]
      simp [runO, stepO, hd, sdig]
    | false =>
      have := run3 t
      unfold okP pwO at this ⊢
      rw [(cA_cons hc t).1, (cA_cons hc t).2]
      unfold sdig
      rw [isDig_cons]
      cases h : isD c with
      | true => simp [runO, stepO, h, this, sdig]
      | false => simp [runO, stepO, h, hc]
theorem run1 (l : List UInt8) : runO 1 l = (okP l && (isDig (whO l) && ((pbO l).isEmpty || sdig (frO l)))) := by
  induction l with
  | nil => rfl
  | cons c t ih =>
    cases hc : isC c with
    | true =>
      have hd := isC_isD hc
      have h46 : c ≠ 46 := by intro e; subst e; revert hc; decide
      unfold okP pwO whO frO pbO
      rw [(cA_hit hc t).1, (cA_hit hc t).2]
      simp [runO, stepO, hd, hc, run4, isDig, h46]
    | false =>
      by_cases h46 : c = 46
      · subst h46
        have := run2 t
        unfold okP pwO at this
        unfold okP pwO whO frO pbO
        rw [(cA_cons hc t).1, (cA_cons hc t).2]
        simp [runO, stepO, show isD 46 = false by decide, this, isDig]
      · unfold okP pwO whO frO pbO at ih ⊢
        rw [(cA_cons hc t).1, (cA_cons hc t).2]
        cases h : isD c with
        | true => simp [runO, stepO, h, ih, h46, isDig_cons]
        | false => simp [runO, stepO, h, hc, h46, isDig_cons]
theorem run0 (l : List UInt8) : runO 0 l = okO l := by
  unfold okO
  cases l with
  | nil => rfl
  | cons c t =>
    cases hc : isC c with
    | true =>
      have hd := isC_isD hc
      unfold okP pwO whO frO pbO
      rw [(cA_hit hc t).1, (cA_hit hc t).2]
      simp [runO, stepO, hd, sdig]
    | false =>
      by_cases h46 : c = 46
      · subst h46
        unfold okP pwO whO frO pbO
        rw [(cA_cons hc t).1, (cA_cons hc t).2]
        simp [runO, stepO, show isD 46 = false by decide, sdig]
      · have := run1 t
        unfold okP pwO whO frO pbO at this ⊢
        rw [(cA_cons hc t).1, (cA_cons hc t).2]
        cases h : isD c with
        | true => simp [runO, stepO, h, this, h46, sdig, isDig_cons]
        | false => simp [runO, stepO, h, hc, h46, sdig, isDig_cons]

/-! a text, written -/
def rendO (W : List UInt8) (pt : Bool) (P : List UInt8) (ex : Bool) (c : UInt8) (Q : List UInt8) : List UInt8 :=
  W ++ ((if pt then 46 :: P else []) ++ (if ex then c :: Q else []))
theorem rend_cut (W : List UInt8) (pt : Bool) (P : List UInt8) (ex : Bool) (c : UInt8) (Q : List UInt8) (hW : isDig W = true) (hP : isDig P = true) (hc : isC c = true) :
    cA (rendO W pt P ex c Q) = W ++ (if pt then 46 :: P else []) ∧ cB (rendO W pt P ex c Q) = if ex then c :: Q else [] := by
  have hA : ∀ d ∈ W ++ (if pt then 46 :: P else []), (!isC d) = true := by
    intro d hd
    rcases List.mem_append.1 hd with h | h
    · rw [isD_isC (isDig_mem hW h)]; rfl
    · cases pt with
      | false => simp at h
      | true =>
        simp at h
        rcases h with rfl | h
        · decide
        · rw [isD_isC (isDig_mem hP h)]; rfl
  have hT := takeWhile_all (W ++ (if pt then 46 :: P else [])) (if ex then c :: Q else []) hA
  unfold rendO cA cB
  rw [← List.append_assoc, hT.1, hT.2]
  cases ex with
  | false => simp
  | true => simp [hc]
theorem rend_parts (W : List UInt8) (pt : Bool) (P : List UInt8) (ex : Bool) (c : UInt8) (Q : List UInt8) (hW : isDig W = true) (hP : isDig P = true) (hc : isC c = true) :
    whO (rendO W pt P ex c Q) = W ∧ pbO (rendO W pt P ex c Q) = (if pt then 46 :: P else []) ∧ pwO (rendO W pt P ex c Q) = (if ex then Q else []) := by
  obtain ⟨h1, h2⟩ := rend_cut W pt P ex c Q hW hP hc
  have hA : ∀ d ∈ W, (d != 46) = true := by
    intro d hd
    have := isD_ne (d := 46) (isDig_mem hW hd) (by decide)
    simpa using this
  have hT := takeWhile_all W (if pt then 46 :: P else []) hA
  unfold whO pbO pwO
  rw [h1, h2, hT.1, hT.2]
  cases pt <;> cases ex <;> simp
theorem rend_ok (W : List UInt8) (pt : Bool) (P : List UInt8) (ex : Bool) (c : UInt8) (Q : List UInt8) (hW : sdig W = true) (hP : isDig P = true) (hp : pt = true → P ≠ []) (hc : isC c = true) (hQ : ex = true → sdig Q = true) :
    okO (rendO W pt P ex c Q) = true := by
  obtain ⟨q1, q2⟩ := (sdig_iff W).1 hW
  obtain ⟨h1, h2⟩ := rend_cut W pt P ex c Q q2 hP hc
  obtain ⟨h3, h4, h5⟩ := rend_parts W pt P ex c Q q2 hP hc
  unfold okO okP frO
  rw [h2, h3, h4, h5, hW]
  cases pt with
  | false => cases ex with
    | false => simp
    | true => simp [hQ rfl]
  | true =>
    have : sdig P = true := (sdig_iff P).2 ⟨hp rfl, hP⟩
    cases ex with
    | false => simp [this]
    | true => simp [hQ rfl, this]
end Florin

namespace Go.Proofs.YtkjhdehpcanciaaGreatDoor
open Go.RowKit Florin
set_option linter.unusedVariables false
set_option linter.unusedSimpArgs false
section
attribute [local go_sem ↓] Go.wp_at_zero Go.wp_at_succ
set_option maxRecDepth 100000 in
set_option maxHeartbeats 3200000 in
theorem rune_badC (w : World) : Calls Tryz.prog 113 #[.string ⟨#[99, 101]⟩, .int .i32 65533] w fun x w' => x = .returned (.int .i64 (-1)) ∧ Below w.heap.size w w' := by
  have n0 := fun ty => run_next_ascii (P := Tryz.prog) w ⟨#[99, 101]⟩ 0 ty (by decide) (by decide)
  have n1 := fun ty => run_next_ascii (P := Tryz.prog) w ⟨#[99, 101]⟩ 1 ty (by decide) (by decide)
  have n2 := fun ty => run_next_end (P := Tryz.prog) w ⟨#[99, 101]⟩ 2 ty (by decide)
  go_enter Tryz.func113, Tryz.ntmps113
  go_wp2
  refine wp_loop_rounds 3 ?_
  rw [rounds_succ]
  go_wp2
  rw [rounds_succ]
  go_wp2
  rw [rounds_succ]
  go_wp2
  go_ret
  exact ⟨rfl, below_alloc w _⟩
set_option maxRecDepth 100000 in
set_option maxHeartbeats 3200000 in
theorem rune_highC (r : Int) (w : World) (h : 128 ≤ r) (hm : r ≤ 2147483647) (hn : r ≠ 65533) : Calls Tryz.prog 113 #[.string ⟨#[99, 101]⟩, .int .i32 r] w fun x w' => x = .returned (.int .i64 (-1)) ∧ Below w.heap.size w w' := by
  have hn' : (r == 65533) = false := by simp [hn]
  have hE := encode_shape r h
  generalize hv : Lib.validRune r = v
  have HV := Lib.hid hv
  clear hv
  generalize hg : Utf8.encode r = E at hE
  cases v with
  | false =>
    clear hE hg
    go_enter Tryz.func113, Tryz.ntmps113
    go_wp2_with fail
    with_reducible refine (Tryz.utf8_ValidRune r _).mono ?_
    rintro x w' ⟨rfl, rfl⟩
    rw [HV.out]
    go_wp2
    go_ret
    exact ⟨rfl, Below.refl _ _⟩
  | true =>
    rcases hE with ⟨a, b, rfl, hb⟩ | ⟨a, b, c, rfl⟩ | ⟨a, b, c, d, rfl⟩
    · have hb2 : (((⟨#[99, 101]⟩ : ByteArray)[1].toNat : Int) != (((⟨#[a, b]⟩ : ByteArray)[1]'(by show 1 < 2; omega)).toNat : Int)) = true := by
        show ((101 : Int) != (b.toNat : Int)) = true
        simp; omega
      go_enter Tryz.func113, Tryz.ntmps113
      go_wp2_with fail
      with_reducible refine (Tryz.utf8_ValidRune r _).mono ?_
      rintro x w' ⟨rfl, rfl⟩
      rw [HV.out]
      go_wp2
      apply wp_scope_straight
      go_wp2
      refine wp_loop_rounds 1 ?_
      rw [rounds_succ]
      go_wp2
      apply wp_scope_straight
      go_wp2
      go_quiet (fail)
      have BQ := Lib.hid (below_drewN (Below.refl w'.heap.size w') nq)
      generalize w'.drewN nq = wq at *
      go_wp2_with fail
      have hw2 : IntKind.i64.wrap 2 = 2 := by decide
      go_quiet ((go_at_call 138; exact Calls.quiet_of_same (Tryz.strings_IndexByte _ _ _)))
      simp only [ie_empty]
      go_wp2
      rw [Exit.noGoto_ret]
      go_wp2
      rw [Exit.noGoto_ret]
      go_wp2
      go_ret
      exact ⟨rfl, below_drewN BQ.out _⟩
    · go_enter Tryz.func113, Tryz.ntmps113
      go_wp2_with fail
      with_reducible refine (Tryz.utf8_ValidRune r _).mono ?_
      rintro x w' ⟨rfl, rfl⟩
      rw [HV.out]
      go_wp2
      apply wp_scope_straight
      go_wp2
      refine wp_loop_rounds 1 ?_
      rw [rounds_succ]
      go_wp2
      rw [Exit.noGoto_ret]
      go_wp2
      go_ret
      exact ⟨rfl, Below.refl _ _⟩
    · go_enter Tryz.func113, Tryz.ntmps113
      go_wp2_with fail
      with_reducible refine (Tryz.utf8_ValidRune r _).mono ?_
      rintro x w' ⟨rfl, rfl⟩
      rw [HV.out]
      go_wp2
      apply wp_scope_straight
      go_wp2
      refine wp_loop_rounds 1 ?_
      rw [rounds_succ]
      go_wp2
      rw [Exit.noGoto_ret]
      go_wp2
      go_ret
      exact ⟨rfl, Below.refl _ _⟩
end
def IxC (s : ByteArray) : Prop := ∀ (w : World), Calls Tryz.prog 86 #[.string s, .string ⟨#[99, 101]⟩] w fun x w' => x = .returned (.int .i64 (Lib.indexAny s.data.toList [99, 101])) ∧ Below w.heap.size w w'
theorem ix_longC (s : ByteArray) (h8 : 8 < s.size) (hs : s.size ≤ 1000000) : IxC s := fun w =>
  (Tryz.strings_IndexAny_long zero256 s ⟨#[99, 101]⟩ w (by decide) h8 (by omega) (by decide) (by
    intro j b hj
    match j, hj with
    | 0, hj => simp at hj; subst hj; decide
    | 1, hj => simp at hj; subst hj; decide
    | j + 2, hj => simp at hj)).mono fun x w' ⟨hx, hw⟩ => ⟨hx, by rw [hw]; exact below_alloc2 w _ _⟩
theorem rune_anyC (r : Nat) (w : World) (h : 128 ≤ r) (hm : r ≤ 2147483647) : Calls Tryz.prog 113 #[.string ⟨#[99, 101]⟩, .int .i32 (r : Int)] w fun x w' => x = .returned (.int .i64 (-1)) ∧ Below w.heap.size w w' := by
  by_cases hr : (r : Int) = 65533
  · rw [hr]; exact rune_badC w
  · exact rune_highC r w (by omega) (by omega) hr
theorem noAny_spanC {s : ByteArray} {i : Nat} (h : Lib.NoAny s.data.toList [99, 101] i) (hi : i < s.size) (ha : 128 ≤ (s[i]'hi).toNat) : Lib.NoAny s.data.toList [99, 101] (i + (Utf8.decode s i).2) := by
  intro j b hj hb
  by_cases hji : j < i
  · exact h j b hji hb
  · have hb2 : 128 ≤ b.toNat := by
      by_cases h0 : j = i
      · subst h0
        rw [Lib.data_getElem? s j hi] at hb
        injection hb with hb; rw [← hb]; exact ha
      · obtain ⟨q1, q2⟩ := decode_span s i (j - i) (by omega) (by omega)
        have e : i + (j - i) = j := by omega
        rw [e] at q1 q2
        rw [Lib.data_getElem? s j q1] at hb
        injection hb with hb
        have := get_at s j q1
        rw [Nat.add_zero] at this
        rw [this] at q2
        rw [← hb]; exact q2
    simp only [List.contains, List.elem]
    have h1 : (b == 99) = false := by simp; intro e; subst e; revert hb2; decide
    have h2 : (b == 101) = false := by simp; intro e; subst e; revert hb2; decide
    rw [h1, h2]

set_option maxRecDepth 1000000 in
set_option maxHeartbeats 8000000 in
theorem ix_short_anyC (s : ByteArray) (h8 : s.size ≤ 8) : IxC s := by
  intro w
  have h8z : decide ((8 : Int) < (s.size : Int)) = false := decide_eq_false (by omega)
  go_enter Tryz.func86, Tryz.ntmps86
  go_wp2_with (go_at_call 114; refine (Tryz.strings_shouldUseASCIISet _ _).mono ?_; rintro e w' ⟨rfl, hw⟩; rw [hw, h8z])
  go_loopg [9, 10] s.size (fun g _ _ wx => ∃ i : Nat, i + g = s.size ∧ wx.heap[w.heap.size]? = some (.stringIter s i) ∧ Below w.heap.size w wx ∧ Lib.NoAny s.data.toList [99, 101] i)
  case atStart => exact ⟨0, by omega, World.iter_heap w s 0, below_alloc w _, Lib.NoAny.zero _ _⟩
  case round =>
    obtain ⟨i, hig, hk, hbl, hno⟩ := hrel
    have HN := Lib.hid hno
    have HB := Lib.hid hbl
    have HK := Lib.hid hk
    clear hno hbl hk
    have hlt := (Array.getElem?_eq_some_iff.1 HK.out).1
    cases gk with
    | zero =>
      obtain rfl : i = s.size := by omega
      have hnx := fun ty => Lib.run_next_end_at (P := Tryz.prog) wr w.heap.size s s.size ty HK.out (by omega)
      go_wp2
      go_ret
      exact ⟨by rw [Lib.indexAny_none (by rw [← Lib.size_eq]; exact HN.out)]; rfl, HB.out⟩
    | succ g =>
      have hi : i < s.size := by omega
      obtain ⟨x, hx⟩ : ∃ x : UInt8, s[i]'hi = x := ⟨_, rfl⟩
      have Hx : Hid (s.data.toList[i]? = some x) := Lib.hid (by rw [← hx]; exact Lib.data_getElem? s i hi)
      by_cases hx128 : x.toNat < 128
      · have hnx := fun ty => Lib.run_next_ascii_at (P := Tryz.prog) wr w.heap.size s i ty HK.out hi (by rw [hx]; exact hx128)
        rw [hx] at hnx
        clear hx
        have hcon := Lib.contains_iff_indexByte [99, 101] x
        have hback : ((x.toNat : Int)).toNat.toUInt8 = x := by simp
        have B2 := Lib.hid (Lib.below_iterAt HB.out (Nat.le_refl _) s (i + 1))
        have K2 := Lib.hid (Lib.iterAt_heap wr w.heap.size s i (i + 1) HK.out)
        cases hin : List.contains [99, 101] x
        · rw [hin] at hcon
          have hlt' : ¬ ((0 : Int) ≤ Lib.indexByte [99, 101] x) := of_decide_eq_false hcon.symm
          clear hcon
          go_wp2_with (go_at_call 113; refine (Tryz.strings_IndexRune_ascii _ _ _ (by omega) (by omega)).mono ?_; rintro e w' ⟨rfl, hw⟩; rw [hw, hback])
          go_roundg g
          case measure => omega
          case rel => exact ⟨i + 1, by omega, K2.out, B2.out, HN.out.succ Hx.out hin⟩
        · rw [hin] at hcon
          have hge : (0 : Int) ≤ Lib.indexByte [99, 101] x := of_decide_eq_true hcon.symm
          clear hcon
          go_wp2_with (go_at_call 113; refine (Tryz.strings_IndexRune_ascii _ _ _ (by omega) (by omega)).mono ?_; rintro e w' ⟨rfl, hw⟩; rw [hw, hback])
          go_ret
          exact ⟨by rw [Lib.indexAny_hit HN.out Hx.out hin]; rfl, B2.out⟩
      · have hnx := fun ty => Lib.run_next_any_at (P := Tryz.prog) wr w.heap.size s i ty HK.out hi
        obtain ⟨d1, d2⟩ := decode_high s i hi (by rw [hx]; omega)
        have d3 := decode_le s i
        have d4 : i + (Utf8.decode s i).2 ≤ s.size := by
          by_cases h1 : (Utf8.decode s i).2 = 1
          · omega
          · have := (decode_span s i ((Utf8.decode s i).2 - 1) (by omega) (by omega)).1; omega
        have HS := Lib.hid (noAny_spanC HN.out hi (by rw [hx]; omega))
        have B2 := Lib.hid (Lib.below_iterAt HB.out (Nat.le_refl _) s (i + (Utf8.decode s i).2))
        have K2 := Lib.hid (Lib.iterAt_heap wr w.heap.size s i (i + (Utf8.decode s i).2) HK.out)
        have L2 : w.heap.size < (wr.iterAt w.heap.size s (i + (Utf8.decode s i).2)).heap.size := by rw [Lib.iterAt_size]; exact hlt
        clear hx
        generalize (Utf8.decode s i).1 = r at *
        generalize (Utf8.decode s i).2 = k at *
        generalize wr.iterAt w.heap.size s (i + k) = wk at *
        go_wp2_with fail
        with_reducible refine (rune_anyC r wk d1 d3).mono ?_
        rintro e w' ⟨rfl, hb⟩
        have B3 := Lib.hid (B2.out.trans (hb.mono (B' := w.heap.size) (by omega)))
        have K3 := Lib.hid ((hb.block _ L2).trans K2.out)
        clear hb
        go_wp2
        go_roundg (s.size - (i + k))
        case measure => omega
        case rel => exact ⟨i + k, by omega, K3.out, B3.out, HS.out⟩
theorem ix_allC (s : ByteArray) (hs : s.size ≤ 1000000) : IxC s := by
  by_cases h : 8 < s.size
  · exact ix_longC s h hs
  · exact ix_short_anyC s (by omega)
theorem ix_asC {s : ByteArray} (h : IxC s) (w : World) (i : Int) (hi : Lib.indexAny s.data.toList [99, 101] = i) :
    Calls Tryz.prog 86 #[.string s, .string ⟨#[99, 101]⟩] w fun x w' => x = .returned (.int .i64 i) ∧ Below w.heap.size w w' := by
  subst hi; exact h w
end Go.Proofs.YtkjhdehpcanciaaGreatDoor

namespace Go.Proofs.YtkjhdehpcanciaaGreatDoor
open Go.RowKit Florin
set_option linter.unusedVariables false
set_option linter.unusedSimpArgs false
attribute [local go_sem ↓] Go.wp_at_zero Go.wp_at_succ

/-- A number as plural rules see it. -/
structure Og where
  i : List UInt8
  f : List UInt8
  e : Int
deriving DecidableEq
abbrev OV (o : Og) : Value := .agg #[S o.i, S o.f, .int .i64 o.e]
/-- The power, held. -/
def kOf (e : Int) : Nat := (min (max e 0) 10000).toNat
theorem kOf_int (e : Int) : ((kOf e : Nat) : Int) = min (max e 0) 10000 := by unfold kOf; omega
theorem kOf_le (e : Int) : kOf e ≤ 10000 := by unfold kOf; omega
/-- What Of returns. -/
def ofP (v : Vs) (e : Int) : Og := ⟨bare (v.i ++ v.f.take (kOf e) ++ zs (kOf e - v.f.length)), v.f.drop (kOf e), (kOf e : Nat)⟩
theorem zeros_Z (n : Int) (w : World) (h : n ≤ 60000) : Calls Tryz.prog 40 #[.int .i64 n] w fun z w' => z = .returned (S (zs n.toNat)) ∧ Below w.heap.size w w' := zeros_as n w h
theorem trim_B (l : List UInt8) (w : World) (h : l.length ≤ 2000000) : Calls Tryz.prog 41 #[S l] w fun z w' => z = .returned (S (bare l)) ∧ Below w.heap.size w w' :=
  (trim_bare ⟨l.toArray⟩ w (by rw [arr_size]; unfold maxLen; omega)).mono fun z w' ⟨hz, hw⟩ => ⟨by rw [hz, arr_list], hw ▸ Below.refl _ _⟩
theorem trim_W (l : List UInt8) (w : World) (h : l.length ≤ 2000000) (t : List UInt8) (ht : bare l = t) : Calls Tryz.prog 41 #[S l] w fun z w' => z = .returned (S t) ∧ w = w' :=
  (trim_bare ⟨l.toArray⟩ w (by rw [arr_size]; unfold maxLen; omega)).mono fun z w' ⟨hz, hw⟩ => ⟨by rw [hz, arr_list, ht], hw⟩
set_option maxRecDepth 100000 in
set_option maxHeartbeats 3200000 in
theorem of_as (v : Vs) (e : Int) (w : World) (il : v.i.length ≤ 900000) (fl : v.f.length ≤ 900000) (o : Og) (ho : ofP v e = o) :
    Calls Tryz.prog 18 #[VV v, .int .i64 e] w fun z w' => z = .returned (OV o) ∧ Below w.heap.size w w' := by
  obtain ⟨K, hK⟩ : ∃ K : Nat, kOf e = K := ⟨_, rfl⟩
  have hk := kOf_int e
  have hk2 := kOf_le e
  rw [hK] at hk hk2
  obtain ⟨m, hm⟩ : ∃ m : Nat, min K v.f.length = m := ⟨_, rfl⟩
  have hmi : min (K : Int) (v.f.length : Int) = (m : Int) := by omega
  have hml : m ≤ v.f.length := by omega
  have hmk : m ≤ K := by omega
  have hk3 : min (max e 0) 10000 = (K : Int) := hk.symm
  have HO : Hid (ofP v e = o) := Lib.hid ho
  have hA : v.i ++ v.f.take K ++ zs (K - v.f.length) = (v.i ++ v.f.take m) ++ zs (K - m) := by
    by_cases h : K ≤ v.f.length
    · rw [show m = K by omega, show K - v.f.length = 0 by omega, show K - K = 0 by omega]
    · rw [show m = v.f.length by omega, List.take_of_length_le (by omega), List.take_of_length_le (Nat.le_refl _)]
  have hB : v.f.drop K = v.f.drop m := by
    by_cases h : K ≤ v.f.length
    · rw [show m = K by omega]
    · rw [show m = v.f.length by omega, List.drop_of_length_le (by omega), List.drop_of_length_le (Nat.le_refl _)]
  unfold ofP at ho
  rw [hK, hA, hB] at ho
  have z60 : (K : Int) - (m : Int) ≤ 60000 := by omega
  have zn : ((K : Int) - (m : Int)).toNat = K - m := by omega
  obtain ⟨Z, hZ⟩ : ∃ Z : Int, (K : Int) - (m : Int) = Z := ⟨_, rfl⟩
  rw [hZ] at z60 zn
  have hwz : IntKind.i64.wrap Z = Z := by rw [IntKind.wrap_i64]; omega
  have HWZ := Lib.hid hwz
  clear hwz
  have zl : (zs Z.toNat).length ≤ 60000 := by rw [zs_length]; omega
  obtain ⟨A, hAA⟩ : ∃ A, v.i ++ v.f.take m ++ zs Z.toNat = A := ⟨_, rfl⟩
  have SA : Hid (((⟨v.i.toArray⟩ : ByteArray) ++ (⟨v.f.toArray⟩ : ByteArray).extract 0 m) ++ (⟨(zs Z.toNat).toArray⟩ : ByteArray) = ⟨A.toArray⟩) := Lib.hid (by rw [ext_take, arr_list, arr_append, arr_append, hAA])
  have SB : Hid ((⟨v.f.toArray⟩ : ByteArray).extract m v.f.length = ⟨(v.f.drop m).toArray⟩) := Lib.hid (by have := ext_drop (⟨v.f.toArray⟩ : ByteArray) m; rw [arr_size, arr_list] at this; exact this)
  rw [← zn, hAA] at ho
  have HO := Lib.hid ho
  have HZ := Lib.hid hZ
  have sl : A.length ≤ 1970000 := by rw [← hAA, List.length_append, List.length_append, List.length_take]; omega
  have c1 : ¬ 9223372036854775807 < v.i.length + min m v.f.length := by omega
  have c2 : ¬ 9223372036854775807 < v.i.length + m := by omega
  have c3 : ¬ 9223372036854775807 < v.i.length + m + (zs Z.toNat).length := by omega
  have mm : (m : Int) ≤ (v.f.length : Int) := by omega
  have esz : ((⟨v.f.toArray⟩ : ByteArray).extract 0 m).size = m := by rw [ext_take, arr_size, arr_list, List.length_take]; omega
  clear ho hA hB hk hm hZ hK zn hAA
  go_enter Tryz.func18, Tryz.ntmps18
  go_wp2_with fail
  have ALL1 : Hid (∀ w' : World, HeldL w [(w.heap.size + 1, #[.string ⟨#[]⟩, .string ⟨#[]⟩, .int .i64 0]), (w.heap.size, #[.bool v.neg, S v.i, S v.f])] w' → w'.cell? ⟨w.heap.size, 0, none⟩ = some (.bool v.neg) ∧ w'.cell? ⟨w.heap.size, 1, none⟩ = some (S v.i) ∧ w'.cell? ⟨w.heap.size, 2, none⟩ = some (S v.f) ∧ HeldL w [(w.heap.size + 1, #[.string ⟨#[]⟩, .string ⟨#[]⟩, .int .i64 0]), (w.heap.size, #[.bool v.neg, S v.i, S v.f])] w') := Lib.hid (fun w' h => ⟨(h.f (List.Mem.tail _ (List.Mem.head _))).cell 0, (h.f (List.Mem.tail _ (List.Mem.head _))).cell 1, (h.f (List.Mem.tail _ (List.Mem.head _))).cell 2, h⟩)
  have KEEP1 : Hid (∀ w' w'' : World, (w'.cell? ⟨w.heap.size, 0, none⟩ = some (.bool v.neg) ∧ w'.cell? ⟨w.heap.size, 1, none⟩ = some (S v.i) ∧ w'.cell? ⟨w.heap.size, 2, none⟩ = some (S v.f) ∧ HeldL w [(w.heap.size + 1, #[.string ⟨#[]⟩, .string ⟨#[]⟩, .int .i64 0]), (w.heap.size, #[.bool v.neg, S v.i, S v.f])] w') → Below w'.heap.size w' w'' → (w''.cell? ⟨w.heap.size, 0, none⟩ = some (.bool v.neg) ∧ w''.cell? ⟨w.heap.size, 1, none⟩ = some (S v.i) ∧ w''.cell? ⟨w.heap.size, 2, none⟩ = some (S v.f) ∧ HeldL w [(w.heap.size + 1, #[.string ⟨#[]⟩, .string ⟨#[]⟩, .int .i64 0]), (w.heap.size, #[.bool v.neg, S v.i, S v.f])] w'')) := Lib.hid (fun w' w'' h hb => ALL1.out _ (HeldL.keep (h.2.2.2) hb))
  have HS1 : Hid (HeldL w [(w.heap.size + 1, #[.string ⟨#[]⟩, .string ⟨#[]⟩, .int .i64 0]), (w.heap.size, #[.bool v.neg, S v.i, S v.f])] _) := Lib.hid (HeldL.alloc (HeldL.alloc (HeldL.refl w) (w.heap.size) #[.bool v.neg, S v.i, S v.f] 45 (by simp)) (w.heap.size + 1) #[.string ⟨#[]⟩, .string ⟨#[]⟩, .int .i64 0] 42 (by simp))
  go_region_held3 (fun w' => w'.cell? ⟨w.heap.size, 0, none⟩ = some (.bool v.neg) ∧ w'.cell? ⟨w.heap.size, 1, none⟩ = some (S v.i) ∧ w'.cell? ⟨w.heap.size, 2, none⟩ = some (S v.f) ∧ HeldL w [(w.heap.size + 1, #[.string ⟨#[]⟩, .string ⟨#[]⟩, .int .i64 0]), (w.heap.size, #[.bool v.neg, S v.i, S v.f])] w')
    (first | exact ALL1.out _ (HeldL.drew HS1.out) | exact KEEP1.out _ _ (by assumption) hb | assumption)
    (first | (go_at_call 40; (try rw [HZ.out]); (try rw [HWZ.out]); (with_reducible refine (zeros_as Z _ z60).mono ?_); rintro x wA ⟨rfl, hb⟩))
  have HH : HeldL w [(w.heap.size + 1, #[.string ⟨#[]⟩, .string ⟨#[]⟩, .int .i64 0]), (w.heap.size, #[.bool v.neg, S v.i, S v.f])] wA := (‹wA.cell? ⟨w.heap.size, 0, none⟩ = some (.bool v.neg) ∧ wA.cell? ⟨w.heap.size, 1, none⟩ = some (S v.i) ∧ wA.cell? ⟨w.heap.size, 2, none⟩ = some (S v.f) ∧ HeldL w [(w.heap.size + 1, #[.string ⟨#[]⟩, .string ⟨#[]⟩, .int .i64 0]), (w.heap.size, #[.bool v.neg, S v.i, S v.f])] wA›).2.2.2
  have H1 : Hid (HeldL w [(w.heap.size + 1, #[.string ⟨#[]⟩, .string ⟨#[]⟩, .int .i64 0]), (w.heap.size, #[.bool v.neg, S v.i, S v.f])] wA) := Lib.hid HH
  clear HH ALL1 KEEP1 HS1
  have bv0 : wA.cell? ⟨w.heap.size, 0, none⟩ = some (.bool v.neg) := (H1.out.f (List.Mem.tail _ (List.Mem.head _))).cell 0
  have bv1 : wA.cell? ⟨w.heap.size, 1, none⟩ = some (S v.i) := (H1.out.f (List.Mem.tail _ (List.Mem.head _))).cell 1
  have bv2 : wA.cell? ⟨w.heap.size, 2, none⟩ = some (S v.f) := (H1.out.f (List.Mem.tail _ (List.Mem.head _))).cell 2
  have bvl : w.heap.size < wA.heap.size := (H1.out.f (List.Mem.tail _ (List.Mem.head _))).lt
  have r0 : wA.cell? ⟨w.heap.size + 1, 0, none⟩ = some (.string ⟨#[]⟩) := (H1.out.f (List.Mem.head _)).cell 0
  have rz0 : wA.frozen? ⟨w.heap.size + 1, 0, none⟩ = false := (H1.out.f (List.Mem.head _)).frozen 0
  have r1 : wA.cell? ⟨w.heap.size + 1, 1, none⟩ = some (.string ⟨#[]⟩) := (H1.out.f (List.Mem.head _)).cell 1
  have rz1 : wA.frozen? ⟨w.heap.size + 1, 1, none⟩ = false := (H1.out.f (List.Mem.head _)).frozen 1
  have r2 : wA.cell? ⟨w.heap.size + 1, 2, none⟩ = some (.int .i64 0) := (H1.out.f (List.Mem.head _)).cell 2
  have rz2 : wA.frozen? ⟨w.heap.size + 1, 2, none⟩ = false := (H1.out.f (List.Mem.head _)).frozen 2
  have rl : w.heap.size + 1 < wA.heap.size := (H1.out.f (List.Mem.head _)).lt
  rw [SA.out]
  go_wp2_with fail
  have HS2 : Hid (HeldL w [(w.heap.size + 1, #[.string ⟨#[]⟩, .string ⟨#[]⟩, .int .i64 0]), (w.heap.size, #[.bool v.neg, S v.i, S v.f])] _) := Lib.hid H1.out
  go_region_with (first | (go_at_call 41; (with_reducible refine (trim_B A _ (by omega)).mono ?_); rintro x wB ⟨rfl, hb⟩; have HKwB : Hid (HeldL w [(w.heap.size + 1, #[.string ⟨#[]⟩, .string ⟨#[]⟩, .int .i64 0]), (w.heap.size, #[.bool v.neg, S v.i, S v.f])] wB) := Lib.hid (HeldL.keep (HeldL.drew HS2.out) hb); clear hb; have bv0 : wB.cell? ⟨w.heap.size, 0, none⟩ = some (.bool v.neg) := (HKwB.out.f (List.Mem.tail _ (List.Mem.head _))).cell 0; have bv1 : wB.cell? ⟨w.heap.size, 1, none⟩ = some (S v.i) := (HKwB.out.f (List.Mem.tail _ (List.Mem.head _))).cell 1; have bv2 : wB.cell? ⟨w.heap.size, 2, none⟩ = some (S v.f) := (HKwB.out.f (List.Mem.tail _ (List.Mem.head _))).cell 2; have bvl : w.heap.size < wB.heap.size := (HKwB.out.f (List.Mem.tail _ (List.Mem.head _))).lt; have r0 : wB.cell? ⟨w.heap.size + 1, 0, none⟩ = some (.string ⟨#[]⟩) := (HKwB.out.f (List.Mem.head _)).cell 0; have rz0 : wB.frozen? ⟨w.heap.size + 1, 0, none⟩ = false := (HKwB.out.f (List.Mem.head _)).frozen 0; have r1 : wB.cell? ⟨w.heap.size + 1, 1, none⟩ = some (.string ⟨#[]⟩) := (HKwB.out.f (List.Mem.head _)).cell 1; have rz1 : wB.frozen? ⟨w.heap.size + 1, 1, none⟩ = false := (HKwB.out.f (List.Mem.head _)).frozen 1; have r2 : wB.cell? ⟨w.heap.size + 1, 2, none⟩ = some (.int .i64 0) := (HKwB.out.f (List.Mem.head _)).cell 2; have rz2 : wB.frozen? ⟨w.heap.size + 1, 2, none⟩ = false := (HKwB.out.f (List.Mem.head _)).frozen 2; have rl : w.heap.size + 1 < wB.heap.size := (HKwB.out.f (List.Mem.head _)).lt))
  all_goals
    have H2 : Hid (HeldL w [(w.heap.size + 1, #[.string ⟨#[]⟩, .string ⟨#[]⟩, .int .i64 0]), (w.heap.size, #[.bool v.neg, S v.i, S v.f])] wB) := HKwB
    clear HS2 HKwB H1
    rw [SB.out]
    have hoi : o.i = bare A := by rw [← HO.out]
    have hof : o.f = v.f.drop m := by rw [← HO.out]
    have hoe : o.e = (K : Int) := by rw [← HO.out]
    go_wp2
    exact bodyPost_ret (v := OV o) (by simp [results, Tryz.results18, go_sem, r0, r1, r2, hoi, hof, hoe]) rfl ⟨rfl, (HeldL.store3 [] [(w.heap.size, #[.bool v.neg, S v.i, S v.f])] H2.out _ _ _).bel⟩

set_option maxHeartbeats 1600000 in
theorem opI_as (o : Og) (w : World) (hl : o.i.length ≤ 2000000) (t : List UInt8) (ht : bare o.i = t) :
    Calls Tryz.prog 123 #[OV o] w fun z w' => z = .returned (S t) ∧ Below w.heap.size w w' := by
  go_enter Tryz.func123, Tryz.ntmps123
  go_wp2_with fail
  with_reducible refine (trim_W o.i _ hl t ht).mono ?_
  rintro x wz ⟨rfl, rfl⟩
  go_wp2
  go_ret
  exact ⟨rfl, (HeldL.alloc (HeldL.refl w) (w.heap.size) #[S o.i, S o.f, .int .i64 o.e] 42 (by simp)).bel⟩

set_option maxHeartbeats 1600000 in
theorem opV_as (o : Og) (w : World) :
    Calls Tryz.prog 124 #[OV o] w fun z w' => z = .returned (.int .i64 (o.f.length : Int)) ∧ Below w.heap.size w w' := by
  go_enter Tryz.func124, Tryz.ntmps124
  go_wp2
  go_ret
  exact ⟨rfl, (HeldL.alloc (HeldL.refl w) (w.heap.size) #[S o.i, S o.f, .int .i64 o.e] 42 (by simp)).bel⟩

set_option maxHeartbeats 1600000 in
theorem opS_as (o : Og) (w : World) (hl : o.f.length ≤ 2000000) :
    Calls Tryz.prog 144 #[OV o] w fun z w' => z = .returned (S (rt o.f)) ∧ Below w.heap.size w w' := by
  have tm : (⟨o.f.toArray⟩ : ByteArray).size ≤ maxLen := by rw [arr_size]; unfold maxLen; omega
  obtain ⟨u, hu⟩ := bytes_of (rt o.f)
  have HU : Hid (u.data.toList = rt (⟨o.f.toArray⟩ : ByteArray).data.toList) := Lib.hid (by rw [arr_list]; exact hu)
  have hu2 : u = ⟨(rt o.f).toArray⟩ := by rw [← hu, back_data]
  clear hu
  go_enter Tryz.func144, Tryz.ntmps144
  go_wp2_with fail
  with_reducible refine (trimRight_some ⟨o.f.toArray⟩ _ tm u HU.out).mono ?_
  rintro x wz ⟨rfl, rfl⟩
  go_wp2
  go_ret
  exact ⟨by first | rfl | rw [hu2], (HeldL.alloc (HeldL.refl w) (w.heap.size) #[S o.i, S o.f, .int .i64 o.e] 42 (by simp)).bel⟩

set_option maxHeartbeats 1600000 in
theorem opW_as (o : Og) (w : World) (hl : o.f.length ≤ 2000000) :
    Calls Tryz.prog 125 #[OV o] w fun z w' => z = .returned (.int .i64 ((rt o.f).length : Int)) ∧ Below w.heap.size w w' := by
  go_enter Tryz.func125, Tryz.ntmps125
  go_wp2_with fail
  with_reducible refine (opS_as o _ hl).mono ?_
  rintro x w1 ⟨rfl, hb⟩
  have H1 : Hid (HeldL w [(w.heap.size, #[S o.i, S o.f, .int .i64 o.e])] w1) := Lib.hid (HeldL.keep (HeldL.alloc (HeldL.refl w) (w.heap.size) #[S o.i, S o.f, .int .i64 o.e] 42 (by simp)) hb)
  clear hb
  go_wp2
  go_ret
  exact ⟨rfl, H1.out.bel⟩

set_option maxHeartbeats 1600000 in
theorem opF_as (o : Og) (w : World) (hl : o.f.length ≤ 2000000) (t : List UInt8) (ht : bare o.f = t) :
    Calls Tryz.prog 126 #[OV o] w fun z w' => z = .returned (S t) ∧ Below w.heap.size w w' := by
  go_enter Tryz.func126, Tryz.ntmps126
  go_wp2_with fail
  with_reducible refine (trim_W o.f _ hl t ht).mono ?_
  rintro x wz ⟨rfl, rfl⟩
  go_wp2
  go_ret
  exact ⟨rfl, (HeldL.alloc (HeldL.refl w) (w.heap.size) #[S o.i, S o.f, .int .i64 o.e] 42 (by simp)).bel⟩

set_option maxHeartbeats 1600000 in
theorem opT_as (o : Og) (w : World) (hl : o.f.length ≤ 2000000) (t : List UInt8) (ht : bare (rt o.f) = t) :
    Calls Tryz.prog 127 #[OV o] w fun z w' => z = .returned (S t) ∧ Below w.heap.size w w' := by
  go_enter Tryz.func127, Tryz.ntmps127
  go_wp2_with fail
  with_reducible refine (opS_as o _ hl).mono ?_
  rintro x w1 ⟨rfl, hb⟩
  have H1 : Hid (HeldL w [(w.heap.size, #[S o.i, S o.f, .int .i64 o.e])] w1) := Lib.hid (HeldL.keep (HeldL.alloc (HeldL.refl w) (w.heap.size) #[S o.i, S o.f, .int .i64 o.e] 42 (by simp)) hb)
  clear hb
  go_wp2_with fail
  with_reducible refine (trim_W (rt o.f) _ (Nat.le_trans (rt_length_le _) hl) t ht).mono ?_
  rintro x wz ⟨rfl, rfl⟩
  go_wp2
  go_ret
  exact ⟨rfl, H1.out.bel⟩

set_option maxHeartbeats 1600000 in
theorem opN_true (o : Og) (w : World) (hl : o.f.length ≤ 2000000) (ht : bare (rt o.f) = []) :
    Calls Tryz.prog 122 #[OV o] w fun z w' => z = .returned (.bool true) ∧ Below w.heap.size w w' := by
  go_enter Tryz.func122, Tryz.ntmps122
  go_wp2_with fail
  with_reducible refine (opT_as o _ hl [] ht).mono ?_
  rintro x w1 ⟨rfl, hb⟩
  have H1 : Hid (HeldL w [(w.heap.size, #[S o.i, S o.f, .int .i64 o.e])] w1) := Lib.hid (HeldL.keep (HeldL.alloc (HeldL.refl w) (w.heap.size) #[S o.i, S o.f, .int .i64 o.e] 42 (by simp)) hb)
  clear hb
  go_wp2
  go_ret
  exact ⟨rfl, H1.out.bel⟩

set_option maxHeartbeats 1600000 in
theorem opN_false (o : Og) (w : World) (hl : o.f.length ≤ 2000000) (t : List UInt8) (ht : bare (rt o.f) = t) (hne : t ≠ []) :
    Calls Tryz.prog 122 #[OV o] w fun z w' => z = .returned (.bool false) ∧ Below w.heap.size w w' := by
  have te := empty_of (ne_empty hne)
  have te2 := ne_empty hne
  go_enter Tryz.func122, Tryz.ntmps122
  go_wp2_with fail
  with_reducible refine (opT_as o _ hl t ht).mono ?_
  rintro x w1 ⟨rfl, hb⟩
  have H1 : Hid (HeldL w [(w.heap.size, #[S o.i, S o.f, .int .i64 o.e])] w1) := Lib.hid (HeldL.keep (HeldL.alloc (HeldL.refl w) (w.heap.size) #[S o.i, S o.f, .int .i64 o.e] 42 (by simp)) hb)
  clear hb
  go_wp2
  go_ret
  exact ⟨rfl, H1.out.bel⟩

end Go.Proofs.YtkjhdehpcanciaaGreatDoor

namespace Go.Proofs.YtkjhdehpcanciaaGreatDoor
open Go.RowKit Florin
set_option linter.unusedVariables false
set_option linter.unusedSimpArgs false
attribute [local go_sem ↓] Go.wp_at_zero Go.wp_at_succ

/-- What Read returns. -/
def readO (s : List UInt8) : Og := if okO s then (if longO s then ⟨[], [], 0⟩ else ofP ⟨false, whO s, frO s⟩ (val (pwO s))) else ⟨[], [], 0⟩
set_option maxHeartbeats 800000 in
theorem someO_as (s : ByteArray) (w : World) (hs : s.size ≤ maxLen) (b : Bool) (hb : sdig s.data.toList = b) :
    Calls Tryz.prog 87 #[.string s] w fun x w' => x = .returned (.bool b) ∧ w = w' := by
  by_cases h : s.data.toList = []
  · have he : s.toList.isEmpty = true := by rw [Lib.toList_data, h]; rfl
    have hb' : b = false := by rw [← hb, h]; rfl
    subst hb'
    clear hb h
    go_enter Tryz.func87, Tryz.ntmps87
    go_wp2
    go_ret
    exact ⟨rfl, rfl⟩
  · have he := isEmpty_of h
    have hi : isDig s.data.toList = b := by rw [← hb]; unfold sdig; rw [ne_empty h]; rfl
    have HI := Lib.hid hi
    clear hb h hi
    go_enter Tryz.func87, Tryz.ntmps87
    go_wp2_with fail
    with_reducible refine (is_any s _ hs).mono ?_
    rintro x w' ⟨rfl, rfl⟩
    rw [HI.out]
    go_wp2
    go_ret
    exact ⟨rfl, rfl⟩
theorem someO (l : List UInt8) (w : World) (hs : l.length ≤ 2000000) (b : Bool) (hb : sdig l = b) : Calls Tryz.prog 87 #[S l] w fun x w' => x = .returned (.bool b) ∧ w = w' :=
  someO_as ⟨l.toArray⟩ w (by rw [arr_size]; unfold maxLen; omega) b (by rw [arr_list]; exact hb)
set_option maxRecDepth 100000 in
set_option maxHeartbeats 1600000 in
theorem cutPower_no (s : ByteArray) (w : World) (hs : s.size ≤ 1000000) (hk : Lib.indexAny s.data.toList [99, 101] = -1) :
    Calls Tryz.prog 61 #[.string s] w fun x w' => x = .returned (.tuple #[.string s, .string ⟨#[]⟩, .bool true]) ∧ Below w.heap.size w w' := by
  have HK := Lib.hid hk
  clear hk
  go_enter Tryz.func61, Tryz.ntmps61
  go_wp2_with fail
  with_reducible refine (ix_asC (ix_allC s hs) _ (-1) HK.out).mono ?_
  rintro x w1 ⟨rfl, hb⟩
  have HB := Lib.hid hb
  clear hb
  go_wp2
  go_ret3
  exact ⟨rfl, HB.out⟩
set_option maxRecDepth 100000 in
set_option maxHeartbeats 1600000 in
theorem cutPower_yes (s : ByteArray) (w : World) (hs : s.size ≤ 1000000) (k : Nat) (hk : Lib.indexAny s.data.toList [99, 101] = k) (hl : k < s.size) (b : Bool) (hb : sdig (s.extract (k + 1) s.size).data.toList = b) :
    Calls Tryz.prog 61 #[.string s] w fun x w' => x = .returned (.tuple #[.string (s.extract 0 k), .string (s.extract (k + 1) s.size), .bool b]) ∧ Below w.heap.size w w' := by
  have HK := Lib.hid hk
  have HD := Lib.hid hb
  clear hk hb
  have c1 : (0 : Int) ≤ (k : Int) := by omega
  have c2 : (k : Int) ≤ (s.size : Int) := by omega
  have c3 : (k : Int) + 1 ≤ (s.size : Int) := by omega
  have c4 : (0 : Int) ≤ (k : Int) + 1 := by omega
  have hw1 : IntKind.i64.wrap ((k : Int) + 1) = (k : Int) + 1 := by rw [IntKind.wrap_i64]; omega
  have sz : (s.extract (k + 1) s.size).size ≤ maxLen := by rw [ByteArray.size_extract]; unfold maxLen; omega
  go_enter Tryz.func61, Tryz.ntmps61
  go_wp2_with fail
  with_reducible refine (ix_asC (ix_allC s hs) _ k HK.out).mono ?_
  rintro x w1 ⟨rfl, hb⟩
  have HB := Lib.hid hb
  clear hb
  go_wp2_with fail
  go_quiet (fail)
  have BQ := Lib.hid (below_drewN HB.out nq)
  generalize w1.drewN nq = wq at *
  go_wp2_with fail
  with_reducible refine (someO_as _ _ sz b HD.out).mono ?_
  rintro x wz ⟨rfl, rfl⟩
  go_wp2
  go_ret3
  exact ⟨rfl, BQ.out⟩
/-- The text cut at its c or e. -/
theorem cutPower_as (s : ByteArray) (w : World) (hs : s.size ≤ 1000000) (a q : List UInt8) (b : Bool) (ha : cA s.data.toList = a) (hq : pwO s.data.toList = q) (hb : okP s.data.toList = b) :
    Calls Tryz.prog 61 #[.string s] w fun x w' => x = .returned (.tuple #[S a, S q, .bool b]) ∧ Below w.heap.size w w' := by
  unfold okP at hb
  rw [hq] at hb
  rcases indexAny_ce s.data.toList with ⟨h1, h2, h3⟩ | ⟨k, h1, h2, h3, h4, h5⟩
  · refine (cutPower_no s w hs h1).mono fun x w' ⟨hx, hw⟩ => ⟨?_, hw⟩
    have hB : cB s.data.toList = [] := h2
    have hA : cA s.data.toList = s.data.toList := h3
    unfold pwO at hq
    rw [hB] at hq hb
    rw [hA] at ha
    have hb' : b = true := by rw [← hb]; rfl
    subst ha hq hb'
    rw [hx]
    show _ = Ending.returned (.tuple #[.string ⟨s.data.toList.toArray⟩, .string ⟨#[]⟩, .bool true])
    rw [back_data]
  · have hB : (cB s.data.toList).isEmpty = false := by
      show (s.data.toList.dropWhile (fun c => !isC c)).isEmpty = false
      rw [h4]
      exact List.isEmpty_eq_false_iff.2 (by intro e; have := congrArg List.length e; rw [List.length_drop, List.length_nil] at this; omega)
    have hA : cA s.data.toList = s.data.toList.take k := h3
    have hQ : pwO s.data.toList = s.data.toList.drop (k + 1) := h5
    rw [hB, Bool.false_or] at hb
    rw [hQ] at hq
    rw [hA] at ha
    refine (cutPower_yes s w hs k h1 (by rw [← size_list]; exact h2) b (by rw [ext_drop, arr_list, hq]; exact hb)).mono fun x w' ⟨hx, hw⟩ => ⟨?_, hw⟩
    rw [hx, ext_take, ext_drop, ha, hq]
set_option maxRecDepth 100000 in
set_option maxHeartbeats 1600000 in
theorem cutPoint_a (l : List UInt8) (w : World) (hs : l.length ≤ 1000000) (a f : List UInt8) (ha : l.takeWhile (fun c => c != 46) = a) (hf : (l.dropWhile (fun c => c != 46)).tail = f) (hz : (l.dropWhile (fun c => c != 46)).isEmpty = !true) (h1 : sdig a = false) :
    Calls Tryz.prog 62 #[S l] w fun x w' => x = .returned (.tuple #[VV ⟨false, [], []⟩, .bool false]) ∧ Below w.heap.size w w' := by
  have HA := Lib.hid ha
  have HB := Lib.hid hf
  have HZ := Lib.hid hz
  clear ha hf hz
  have al : a.length ≤ 1000000 := by rw [← HA.out]; exact Nat.le_trans (List.takeWhile_prefix _).length_le hs
  have fl : f.length ≤ 1000000 := by rw [← HB.out, List.length_tail]; have := (List.dropWhile_sublist (l := l) (fun c => c != 46)).length_le; omega
  go_enter Tryz.func62, Tryz.ntmps62
  go_wp2_with fail
  with_reducible refine (cut_as ⟨l.toArray⟩ _ (by rw [arr_size]; exact hs) a f true (by rw [arr_list]; exact HA.out) (by rw [arr_list]; exact HB.out) (by rw [arr_list]; exact HZ.out)).mono ?_
  rintro x w1 ⟨rfl, hb⟩
  have H1 : Hid (HeldL w [(w.heap.size, #[.bool false, .string ⟨#[]⟩, .string ⟨#[]⟩])] w1) := Lib.hid (HeldL.keep (HeldL.alloc (HeldL.refl w) (w.heap.size) #[.bool false, .string ⟨#[]⟩, .string ⟨#[]⟩] 45 (by simp)) hb)
  clear hb
  have r0 : w1.cell? ⟨w.heap.size, 0, none⟩ = some (.bool false) := (H1.out.f (List.Mem.head _)).cell 0
  have rz0 : w1.frozen? ⟨w.heap.size, 0, none⟩ = false := (H1.out.f (List.Mem.head _)).frozen 0
  have r1 : w1.cell? ⟨w.heap.size, 1, none⟩ = some (.string ⟨#[]⟩) := (H1.out.f (List.Mem.head _)).cell 1
  have rz1 : w1.frozen? ⟨w.heap.size, 1, none⟩ = false := (H1.out.f (List.Mem.head _)).frozen 1
  have r2 : w1.cell? ⟨w.heap.size, 2, none⟩ = some (.string ⟨#[]⟩) := (H1.out.f (List.Mem.head _)).cell 2
  have rz2 : w1.frozen? ⟨w.heap.size, 2, none⟩ = false := (H1.out.f (List.Mem.head _)).frozen 2
  have rl : w.heap.size < w1.heap.size := (H1.out.f (List.Mem.head _)).lt
  go_wp2_with fail
  with_reducible refine (someO a _ (by omega) false h1).mono ?_
  rintro x wz ⟨rfl, rfl⟩
  go_wp2
  exact bodyPost_ret (v := .tuple #[.agg #[.bool false, .string ⟨#[]⟩, .string ⟨#[]⟩], .bool false]) (by simp [results, Tryz.results62, go_sem, r0, r1, r2]) rfl ⟨rfl, (HeldL.store3 [] [] H1.out (.bool false) (.string ⟨#[]⟩) (.string ⟨#[]⟩)).bel⟩

set_option maxRecDepth 100000 in
set_option maxHeartbeats 1600000 in
theorem cutPoint_b (l : List UInt8) (w : World) (hs : l.length ≤ 1000000) (a : List UInt8) (ha : l.takeWhile (fun c => c != 46) = a) (hf : (l.dropWhile (fun c => c != 46)).tail = []) (hz : (l.dropWhile (fun c => c != 46)).isEmpty = !false) (h1 : sdig a = false) :
    Calls Tryz.prog 62 #[S l] w fun x w' => x = .returned (.tuple #[VV ⟨false, [], []⟩, .bool false]) ∧ Below w.heap.size w w' := by
  have HA := Lib.hid ha
  have HB := Lib.hid hf
  have HZ := Lib.hid hz
  clear ha hf hz
  have al : a.length ≤ 1000000 := by rw [← HA.out]; exact Nat.le_trans (List.takeWhile_prefix _).length_le hs
  go_enter Tryz.func62, Tryz.ntmps62
  go_wp2_with fail
  with_reducible refine (cut_as ⟨l.toArray⟩ _ (by rw [arr_size]; exact hs) a [] false (by rw [arr_list]; exact HA.out) (by rw [arr_list]; exact HB.out) (by rw [arr_list]; exact HZ.out)).mono ?_
  rintro x w1 ⟨rfl, hb⟩
  have H1 : Hid (HeldL w [(w.heap.size, #[.bool false, .string ⟨#[]⟩, .string ⟨#[]⟩])] w1) := Lib.hid (HeldL.keep (HeldL.alloc (HeldL.refl w) (w.heap.size) #[.bool false, .string ⟨#[]⟩, .string ⟨#[]⟩] 45 (by simp)) hb)
  clear hb
  have r0 : w1.cell? ⟨w.heap.size, 0, none⟩ = some (.bool false) := (H1.out.f (List.Mem.head _)).cell 0
  have rz0 : w1.frozen? ⟨w.heap.size, 0, none⟩ = false := (H1.out.f (List.Mem.head _)).frozen 0
  have r1 : w1.cell? ⟨w.heap.size, 1, none⟩ = some (.string ⟨#[]⟩) := (H1.out.f (List.Mem.head _)).cell 1
  have rz1 : w1.frozen? ⟨w.heap.size, 1, none⟩ = false := (H1.out.f (List.Mem.head _)).frozen 1
  have r2 : w1.cell? ⟨w.heap.size, 2, none⟩ = some (.string ⟨#[]⟩) := (H1.out.f (List.Mem.head _)).cell 2
  have rz2 : w1.frozen? ⟨w.heap.size, 2, none⟩ = false := (H1.out.f (List.Mem.head _)).frozen 2
  have rl : w.heap.size < w1.heap.size := (H1.out.f (List.Mem.head _)).lt
  go_wp2_with fail
  with_reducible refine (someO a _ (by omega) false h1).mono ?_
  rintro x wz ⟨rfl, rfl⟩
  go_wp2
  exact bodyPost_ret (v := .tuple #[.agg #[.bool false, .string ⟨#[]⟩, .string ⟨#[]⟩], .bool false]) (by simp [results, Tryz.results62, go_sem, r0, r1, r2]) rfl ⟨rfl, (HeldL.store3 [] [] H1.out (.bool false) (.string ⟨#[]⟩) (.string ⟨#[]⟩)).bel⟩

set_option maxRecDepth 100000 in
set_option maxHeartbeats 1600000 in
theorem cutPoint_c (l : List UInt8) (w : World) (hs : l.length ≤ 1000000) (a f : List UInt8) (ha : l.takeWhile (fun c => c != 46) = a) (hf : (l.dropWhile (fun c => c != 46)).tail = f) (hz : (l.dropWhile (fun c => c != 46)).isEmpty = !true) (h1 : sdig a = true) (h2 : sdig f = false) :
    Calls Tryz.prog 62 #[S l] w fun x w' => x = .returned (.tuple #[VV ⟨false, [], []⟩, .bool false]) ∧ Below w.heap.size w w' := by
  have HA := Lib.hid ha
  have HB := Lib.hid hf
  have HZ := Lib.hid hz
  clear ha hf hz
  have al : a.length ≤ 1000000 := by rw [← HA.out]; exact Nat.le_trans (List.takeWhile_prefix _).length_le hs
  have fl : f.length ≤ 1000000 := by rw [← HB.out, List.length_tail]; have := (List.dropWhile_sublist (l := l) (fun c => c != 46)).length_le; omega
  go_enter Tryz.func62, Tryz.ntmps62
  go_wp2_with fail
  with_reducible refine (cut_as ⟨l.toArray⟩ _ (by rw [arr_size]; exact hs) a f true (by rw [arr_list]; exact HA.out) (by rw [arr_list]; exact HB.out) (by rw [arr_list]; exact HZ.out)).mono ?_
  rintro x w1 ⟨rfl, hb⟩
  have H1 : Hid (HeldL w [(w.heap.size, #[.bool false, .string ⟨#[]⟩, .string ⟨#[]⟩])] w1) := Lib.hid (HeldL.keep (HeldL.alloc (HeldL.refl w) (w.heap.size) #[.bool false, .string ⟨#[]⟩, .string ⟨#[]⟩] 45 (by simp)) hb)
  clear hb
  have r0 : w1.cell? ⟨w.heap.size, 0, none⟩ = some (.bool false) := (H1.out.f (List.Mem.head _)).cell 0
  have rz0 : w1.frozen? ⟨w.heap.size, 0, none⟩ = false := (H1.out.f (List.Mem.head _)).frozen 0
  have r1 : w1.cell? ⟨w.heap.size, 1, none⟩ = some (.string ⟨#[]⟩) := (H1.out.f (List.Mem.head _)).cell 1
  have rz1 : w1.frozen? ⟨w.heap.size, 1, none⟩ = false := (H1.out.f (List.Mem.head _)).frozen 1
  have r2 : w1.cell? ⟨w.heap.size, 2, none⟩ = some (.string ⟨#[]⟩) := (H1.out.f (List.Mem.head _)).cell 2
  have rz2 : w1.frozen? ⟨w.heap.size, 2, none⟩ = false := (H1.out.f (List.Mem.head _)).frozen 2
  have rl : w.heap.size < w1.heap.size := (H1.out.f (List.Mem.head _)).lt
  go_wp2_with fail
  with_reducible refine (someO a _ (by omega) true h1).mono ?_
  rintro x wz ⟨rfl, rfl⟩
  go_wp2_with fail
  with_reducible refine (someO f _ (by omega) false h2).mono ?_
  rintro x wz ⟨rfl, rfl⟩
  go_wp2
  exact bodyPost_ret (v := .tuple #[.agg #[.bool false, .string ⟨#[]⟩, .string ⟨#[]⟩], .bool false]) (by simp [results, Tryz.results62, go_sem, r0, r1, r2]) rfl ⟨rfl, (HeldL.store3 [] [] H1.out (.bool false) (.string ⟨#[]⟩) (.string ⟨#[]⟩)).bel⟩

set_option maxRecDepth 100000 in
set_option maxHeartbeats 1600000 in
theorem cutPoint_d (l : List UInt8) (w : World) (hs : l.length ≤ 1000000) (a f : List UInt8) (ha : l.takeWhile (fun c => c != 46) = a) (hf : (l.dropWhile (fun c => c != 46)).tail = f) (hz : (l.dropWhile (fun c => c != 46)).isEmpty = !true) (h1 : sdig a = true) (h2 : sdig f = true) :
    Calls Tryz.prog 62 #[S l] w fun x w' => x = .returned (.tuple #[VV ⟨false, a, f⟩, .bool true]) ∧ Below w.heap.size w w' := by
  have HA := Lib.hid ha
  have HB := Lib.hid hf
  have HZ := Lib.hid hz
  clear ha hf hz
  have al : a.length ≤ 1000000 := by rw [← HA.out]; exact Nat.le_trans (List.takeWhile_prefix _).length_le hs
  have fl : f.length ≤ 1000000 := by rw [← HB.out, List.length_tail]; have := (List.dropWhile_sublist (l := l) (fun c => c != 46)).length_le; omega
  go_enter Tryz.func62, Tryz.ntmps62
  go_wp2_with fail
  with_reducible refine (cut_as ⟨l.toArray⟩ _ (by rw [arr_size]; exact hs) a f true (by rw [arr_list]; exact HA.out) (by rw [arr_list]; exact HB.out) (by rw [arr_list]; exact HZ.out)).mono ?_
  rintro x w1 ⟨rfl, hb⟩
  have H1 : Hid (HeldL w [(w.heap.size, #[.bool false, .string ⟨#[]⟩, .string ⟨#[]⟩])] w1) := Lib.hid (HeldL.keep (HeldL.alloc (HeldL.refl w) (w.heap.size) #[.bool false, .string ⟨#[]⟩, .string ⟨#[]⟩] 45 (by simp)) hb)
  clear hb
  have r0 : w1.cell? ⟨w.heap.size, 0, none⟩ = some (.bool false) := (H1.out.f (List.Mem.head _)).cell 0
  have rz0 : w1.frozen? ⟨w.heap.size, 0, none⟩ = false := (H1.out.f (List.Mem.head _)).frozen 0
  have r1 : w1.cell? ⟨w.heap.size, 1, none⟩ = some (.string ⟨#[]⟩) := (H1.out.f (List.Mem.head _)).cell 1
  have rz1 : w1.frozen? ⟨w.heap.size, 1, none⟩ = false := (H1.out.f (List.Mem.head _)).frozen 1
  have r2 : w1.cell? ⟨w.heap.size, 2, none⟩ = some (.string ⟨#[]⟩) := (H1.out.f (List.Mem.head _)).cell 2
  have rz2 : w1.frozen? ⟨w.heap.size, 2, none⟩ = false := (H1.out.f (List.Mem.head _)).frozen 2
  have rl : w.heap.size < w1.heap.size := (H1.out.f (List.Mem.head _)).lt
  go_wp2_with fail
  with_reducible refine (someO a _ (by omega) true h1).mono ?_
  rintro x wz ⟨rfl, rfl⟩
  go_wp2_with fail
  with_reducible refine (someO f _ (by omega) true h2).mono ?_
  rintro x wz ⟨rfl, rfl⟩
  go_wp2
  exact bodyPost_ret (v := .tuple #[.agg #[.bool false, S a, S f], .bool true]) (by simp [results, Tryz.results62, go_sem, r0, r1, r2]) rfl ⟨rfl, (HeldL.store3 [] [] H1.out (.bool false) (S a) (S f)).bel⟩

set_option maxRecDepth 100000 in
set_option maxHeartbeats 1600000 in
theorem cutPoint_e (l : List UInt8) (w : World) (hs : l.length ≤ 1000000) (a : List UInt8) (ha : l.takeWhile (fun c => c != 46) = a) (hf : (l.dropWhile (fun c => c != 46)).tail = []) (hz : (l.dropWhile (fun c => c != 46)).isEmpty = !false) (h1 : sdig a = true) :
    Calls Tryz.prog 62 #[S l] w fun x w' => x = .returned (.tuple #[VV ⟨false, a, []⟩, .bool true]) ∧ Below w.heap.size w w' := by
  have HA := Lib.hid ha
  have HB := Lib.hid hf
  have HZ := Lib.hid hz
  clear ha hf hz
  have al : a.length ≤ 1000000 := by rw [← HA.out]; exact Nat.le_trans (List.takeWhile_prefix _).length_le hs
  go_enter Tryz.func62, Tryz.ntmps62
  go_wp2_with fail
  with_reducible refine (cut_as ⟨l.toArray⟩ _ (by rw [arr_size]; exact hs) a [] false (by rw [arr_list]; exact HA.out) (by rw [arr_list]; exact HB.out) (by rw [arr_list]; exact HZ.out)).mono ?_
  rintro x w1 ⟨rfl, hb⟩
  have H1 : Hid (HeldL w [(w.heap.size, #[.bool false, .string ⟨#[]⟩, .string ⟨#[]⟩])] w1) := Lib.hid (HeldL.keep (HeldL.alloc (HeldL.refl w) (w.heap.size) #[.bool false, .string ⟨#[]⟩, .string ⟨#[]⟩] 45 (by simp)) hb)
  clear hb
  have r0 : w1.cell? ⟨w.heap.size, 0, none⟩ = some (.bool false) := (H1.out.f (List.Mem.head _)).cell 0
  have rz0 : w1.frozen? ⟨w.heap.size, 0, none⟩ = false := (H1.out.f (List.Mem.head _)).frozen 0
  have r1 : w1.cell? ⟨w.heap.size, 1, none⟩ = some (.string ⟨#[]⟩) := (H1.out.f (List.Mem.head _)).cell 1
  have rz1 : w1.frozen? ⟨w.heap.size, 1, none⟩ = false := (H1.out.f (List.Mem.head _)).frozen 1
  have r2 : w1.cell? ⟨w.heap.size, 2, none⟩ = some (.string ⟨#[]⟩) := (H1.out.f (List.Mem.head _)).cell 2
  have rz2 : w1.frozen? ⟨w.heap.size, 2, none⟩ = false := (H1.out.f (List.Mem.head _)).frozen 2
  have rl : w.heap.size < w1.heap.size := (H1.out.f (List.Mem.head _)).lt
  go_wp2_with fail
  with_reducible refine (someO a _ (by omega) true h1).mono ?_
  rintro x wz ⟨rfl, rfl⟩
  go_wp2
  exact bodyPost_ret (v := .tuple #[.agg #[.bool false, S a, .string ⟨#[]⟩], .bool true]) (by simp [results, Tryz.results62, go_sem, r0, r1, r2]) rfl ⟨rfl, (HeldL.store3 [] [] H1.out (.bool false) (S a) (.string ⟨#[]⟩)).bel⟩

/-- The digits cut at their point. -/
theorem cutPoint_as (l : List UInt8) (w : World) (hs : l.length ≤ 1000000) (a f : List UInt8) (ha : l.takeWhile (fun c => c != 46) = a) (hf : (l.dropWhile (fun c => c != 46)).tail = f) (b : Bool) (hb : (sdig a && ((l.dropWhile (fun c => c != 46)).isEmpty || sdig f)) = b) (v : Vs) (hv : (if b then ⟨false, a, f⟩ else ⟨false, [], []⟩ : Vs) = v) :
    Calls Tryz.prog 62 #[S l] w fun x w' => x = .returned (.tuple #[VV v, .bool b]) ∧ Below w.heap.size w w' := by
  subst hv
  cases hz : (l.dropWhile (fun c => c != 46)).isEmpty with
  | true =>
    have hn : l.dropWhile (fun c => c != 46) = [] := by simpa using hz
    rw [hn] at hf
    have hf' : f = [] := hf.symm
    subst hf'
    rw [hz] at hb
    cases h1 : sdig a with
    | false =>
      rw [h1] at hb
      subst hb
      exact cutPoint_b l w hs a ha (by rw [hn]; rfl) (by rw [hz]; rfl) h1
    | true =>
      rw [h1] at hb
      subst hb
      exact cutPoint_e l w hs a ha (by rw [hn]; rfl) (by rw [hz]; rfl) h1
  | false =>
    rw [hz] at hb
    cases h1 : sdig a with
    | false =>
      rw [h1] at hb
      subst hb
      exact cutPoint_a l w hs a f ha hf (by rw [hz]; rfl) h1
    | true =>
      rw [h1] at hb
      cases h2 : sdig f with
      | false =>
        rw [h2] at hb
        subst hb
        exact cutPoint_c l w hs a f ha hf (by rw [hz]; rfl) h1 h2
      | true =>
        rw [h2] at hb
        subst hb
        exact cutPoint_d l w hs a f ha hf (by rw [hz]; rfl) h1 h2
set_option maxRecDepth 100000 in
set_option maxHeartbeats 1600000 in
theorem read_p (s : ByteArray) (w : World) (hs : s.size ≤ 1000000) (a q : List UInt8) (ha : cA s.data.toList = a) (hq : pwO s.data.toList = q) (hp : okP s.data.toList = false) :
    Calls Tryz.prog 39 #[.string s] w fun x w' => x = .returned (.tuple #[OV ⟨[], [], 0⟩, .int .i64 1]) ∧ Below w.heap.size w w' := by
  have HA := Lib.hid ha
  have HQ := Lib.hid hq
  have HP := Lib.hid hp
  clear ha hq hp
  have al : a.length ≤ 1000000 := by rw [← HA.out]; exact Nat.le_trans (List.takeWhile_prefix _).length_le (by rw [size_list]; exact hs)
  have ql : q.length ≤ 1000000 := by rw [← HQ.out]; unfold pwO; rw [List.length_tail]; have h := (List.dropWhile_sublist (l := s.data.toList) (fun c => !isC c)).length_le; rw [size_list] at h; unfold cB; omega
  go_enter Tryz.func39, Tryz.ntmps39
  go_wp2_with fail
  with_reducible refine (cutPower_as s _ hs a q false HA.out HQ.out HP.out).mono ?_
  rintro x w1 ⟨rfl, hb⟩
  have H1 : Hid (HeldL w [(w.heap.size, #[.string ⟨#[]⟩, .string ⟨#[]⟩, .int .i64 0])] w1) := Lib.hid (HeldL.keep (HeldL.alloc (HeldL.refl w) (w.heap.size) #[.string ⟨#[]⟩, .string ⟨#[]⟩, .int .i64 0] 42 (by simp)) hb)
  clear hb
  have r0 : w1.cell? ⟨w.heap.size, 0, none⟩ = some (.string ⟨#[]⟩) := (H1.out.f (List.Mem.head _)).cell 0
  have rz0 : w1.frozen? ⟨w.heap.size, 0, none⟩ = false := (H1.out.f (List.Mem.head _)).frozen 0
  have r1 : w1.cell? ⟨w.heap.size, 1, none⟩ = some (.string ⟨#[]⟩) := (H1.out.f (List.Mem.head _)).cell 1
  have rz1 : w1.frozen? ⟨w.heap.size, 1, none⟩ = false := (H1.out.f (List.Mem.head _)).frozen 1
  have r2 : w1.cell? ⟨w.heap.size, 2, none⟩ = some (.int .i64 0) := (H1.out.f (List.Mem.head _)).cell 2
  have rz2 : w1.frozen? ⟨w.heap.size, 2, none⟩ = false := (H1.out.f (List.Mem.head _)).frozen 2
  have rl : w.heap.size < w1.heap.size := (H1.out.f (List.Mem.head _)).lt
  go_wp2
  exact bodyPost_ret (v := .tuple #[.agg #[.string ⟨#[]⟩, .string ⟨#[]⟩, .int .i64 0], .int .i64 1]) (by simp [results, Tryz.results39, go_sem, r0, r1, r2]) rfl ⟨rfl, (HeldL.store3 [] [] H1.out (.string ⟨#[]⟩) (.string ⟨#[]⟩) (.int .i64 0)).bel⟩

set_option maxRecDepth 100000 in
set_option maxHeartbeats 1600000 in
theorem read_v (s : ByteArray) (w : World) (hs : s.size ≤ 1000000) (a q : List UInt8) (ha : cA s.data.toList = a) (hq : pwO s.data.toList = q) (hp : okP s.data.toList = true) (v : Vs) (hv : ∀ w : World, Calls Tryz.prog 62 #[S a] w fun x w' => x = .returned (.tuple #[VV v, .bool false]) ∧ Below w.heap.size w w') (hb : True) :
    Calls Tryz.prog 39 #[.string s] w fun x w' => x = .returned (.tuple #[OV ⟨[], [], 0⟩, .int .i64 1]) ∧ Below w.heap.size w w' := by
  have HA := Lib.hid ha
  have HQ := Lib.hid hq
  have HP := Lib.hid hp
  clear ha hq hp
  have al : a.length ≤ 1000000 := by rw [← HA.out]; exact Nat.le_trans (List.takeWhile_prefix _).length_le (by rw [size_list]; exact hs)
  have ql : q.length ≤ 1000000 := by rw [← HQ.out]; unfold pwO; rw [List.length_tail]; have h := (List.dropWhile_sublist (l := s.data.toList) (fun c => !isC c)).length_le; rw [size_list] at h; unfold cB; omega
  have HV := Lib.hid hv
  have HB := Lib.hid hb
  clear hv hb
  go_enter Tryz.func39, Tryz.ntmps39
  go_wp2_with fail
  with_reducible refine (cutPower_as s _ hs a q true HA.out HQ.out HP.out).mono ?_
  rintro x w1 ⟨rfl, hb⟩
  have H1 : Hid (HeldL w [(w.heap.size, #[.string ⟨#[]⟩, .string ⟨#[]⟩, .int .i64 0])] w1) := Lib.hid (HeldL.keep (HeldL.alloc (HeldL.refl w) (w.heap.size) #[.string ⟨#[]⟩, .string ⟨#[]⟩, .int .i64 0] 42 (by simp)) hb)
  clear hb
  have r0 : w1.cell? ⟨w.heap.size, 0, none⟩ = some (.string ⟨#[]⟩) := (H1.out.f (List.Mem.head _)).cell 0
  have rz0 : w1.frozen? ⟨w.heap.size, 0, none⟩ = false := (H1.out.f (List.Mem.head _)).frozen 0
  have r1 : w1.cell? ⟨w.heap.size, 1, none⟩ = some (.string ⟨#[]⟩) := (H1.out.f (List.Mem.head _)).cell 1
  have rz1 : w1.frozen? ⟨w.heap.size, 1, none⟩ = false := (H1.out.f (List.Mem.head _)).frozen 1
  have r2 : w1.cell? ⟨w.heap.size, 2, none⟩ = some (.int .i64 0) := (H1.out.f (List.Mem.head _)).cell 2
  have rz2 : w1.frozen? ⟨w.heap.size, 2, none⟩ = false := (H1.out.f (List.Mem.head _)).frozen 2
  have rl : w.heap.size < w1.heap.size := (H1.out.f (List.Mem.head _)).lt
  go_wp2_with fail
  with_reducible refine (HV.out _).mono ?_
  rintro x w2 ⟨rfl, hb⟩
  clear r0 rz0 r1 rz1 r2 rz2 rl
  have H2 : Hid (HeldL w [(w.heap.size, #[.string ⟨#[]⟩, .string ⟨#[]⟩, .int .i64 0])] w2) := Lib.hid (HeldL.keep H1.out hb)
  clear H1
  clear hb
  have r0 : w2.cell? ⟨w.heap.size, 0, none⟩ = some (.string ⟨#[]⟩) := (H2.out.f (List.Mem.head _)).cell 0
  have rz0 : w2.frozen? ⟨w.heap.size, 0, none⟩ = false := (H2.out.f (List.Mem.head _)).frozen 0
  have r1 : w2.cell? ⟨w.heap.size, 1, none⟩ = some (.string ⟨#[]⟩) := (H2.out.f (List.Mem.head _)).cell 1
  have rz1 : w2.frozen? ⟨w.heap.size, 1, none⟩ = false := (H2.out.f (List.Mem.head _)).frozen 1
  have r2 : w2.cell? ⟨w.heap.size, 2, none⟩ = some (.int .i64 0) := (H2.out.f (List.Mem.head _)).cell 2
  have rz2 : w2.frozen? ⟨w.heap.size, 2, none⟩ = false := (H2.out.f (List.Mem.head _)).frozen 2
  have rl : w.heap.size < w2.heap.size := (H2.out.f (List.Mem.head _)).lt
  go_upto_if 24 with fail
  clear r0 rz0 r1 rz1 r2 rz2 rl
  have H3 : Hid (HeldL w [(w2.heap.size, #[.bool v.neg, S v.i, S v.f]), (w.heap.size, #[.string ⟨#[]⟩, .string ⟨#[]⟩, .int .i64 0])] (w2.alloc (.cells #[.bool v.neg, S v.i, S v.f] 45))) := Lib.hid ((HeldL.alloc H2.out (w2.heap.size) #[.bool v.neg, S v.i, S v.f] 45 (by simp)))
  generalize (w2.alloc (.cells #[.bool v.neg, S v.i, S v.f] 45)) = w3 at *
  clear H2
  have bv0 : w3.cell? ⟨w2.heap.size, 0, none⟩ = some (.bool v.neg) := (H3.out.f (List.Mem.head _)).cell 0
  have bv1 : w3.cell? ⟨w2.heap.size, 1, none⟩ = some (S v.i) := (H3.out.f (List.Mem.head _)).cell 1
  have bv2 : w3.cell? ⟨w2.heap.size, 2, none⟩ = some (S v.f) := (H3.out.f (List.Mem.head _)).cell 2
  have bvl : w2.heap.size < w3.heap.size := (H3.out.f (List.Mem.head _)).lt
  have r0 : w3.cell? ⟨w.heap.size, 0, none⟩ = some (.string ⟨#[]⟩) := (H3.out.f (List.Mem.tail _ (List.Mem.head _))).cell 0
  have rz0 : w3.frozen? ⟨w.heap.size, 0, none⟩ = false := (H3.out.f (List.Mem.tail _ (List.Mem.head _))).frozen 0
  have r1 : w3.cell? ⟨w.heap.size, 1, none⟩ = some (.string ⟨#[]⟩) := (H3.out.f (List.Mem.tail _ (List.Mem.head _))).cell 1
  have rz1 : w3.frozen? ⟨w.heap.size, 1, none⟩ = false := (H3.out.f (List.Mem.tail _ (List.Mem.head _))).frozen 1
  have r2 : w3.cell? ⟨w.heap.size, 2, none⟩ = some (.int .i64 0) := (H3.out.f (List.Mem.tail _ (List.Mem.head _))).cell 2
  have rz2 : w3.frozen? ⟨w.heap.size, 2, none⟩ = false := (H3.out.f (List.Mem.tail _ (List.Mem.head _))).frozen 2
  have rl : w.heap.size < w3.heap.size := (H3.out.f (List.Mem.tail _ (List.Mem.head _))).lt
  go_wp2
  exact bodyPost_ret (v := .tuple #[.agg #[.string ⟨#[]⟩, .string ⟨#[]⟩, .int .i64 0], .int .i64 1]) (by simp [results, Tryz.results39, go_sem, r0, r1, r2]) rfl ⟨rfl, (HeldL.store3 [(w2.heap.size, #[.bool v.neg, S v.i, S v.f])] [] H3.out (.string ⟨#[]⟩) (.string ⟨#[]⟩) (.int .i64 0)).bel⟩

set_option maxRecDepth 100000 in
set_option maxHeartbeats 1600000 in
theorem read_i (s : ByteArray) (w : World) (hs : s.size ≤ 1000000) (a q : List UInt8) (ha : cA s.data.toList = a) (hq : pwO s.data.toList = q) (hp : okP s.data.toList = true) (v : Vs) (hv : ∀ w : World, Calls Tryz.prog 62 #[S a] w fun x w' => x = .returned (.tuple #[VV v, .bool true]) ∧ Below w.heap.size w w') (hb : True) (hint : ∀ w : World, Calls Tryz.prog 63 #[S q] w fun x w' => x = .returned (.tuple #[.int .i64 0, .bool false]) ∧ w = w') :
    Calls Tryz.prog 39 #[.string s] w fun x w' => x = .returned (.tuple #[OV ⟨[], [], 0⟩, .int .i64 2]) ∧ Below w.heap.size w w' := by
  have HA := Lib.hid ha
  have HQ := Lib.hid hq
  have HP := Lib.hid hp
  clear ha hq hp
  have al : a.length ≤ 1000000 := by rw [← HA.out]; exact Nat.le_trans (List.takeWhile_prefix _).length_le (by rw [size_list]; exact hs)
  have ql : q.length ≤ 1000000 := by rw [← HQ.out]; unfold pwO; rw [List.length_tail]; have h := (List.dropWhile_sublist (l := s.data.toList) (fun c => !isC c)).length_le; rw [size_list] at h; unfold cB; omega
  have HV := Lib.hid hv
  have HB := Lib.hid hb
  clear hv hb
  have HI := Lib.hid hint
  clear hint
  go_enter Tryz.func39, Tryz.ntmps39
  go_wp2_with fail
  with_reducible refine (cutPower_as s _ hs a q true HA.out HQ.out HP.out).mono ?_
  rintro x w1 ⟨rfl, hb⟩
  have H1 : Hid (HeldL w [(w.heap.size, #[.string ⟨#[]⟩, .string ⟨#[]⟩, .int .i64 0])] w1) := Lib.hid (HeldL.keep (HeldL.alloc (HeldL.refl w) (w.heap.size) #[.string ⟨#[]⟩, .string ⟨#[]⟩, .int .i64 0] 42 (by simp)) hb)
  clear hb
  have r0 : w1.cell? ⟨w.heap.size, 0, none⟩ = some (.string ⟨#[]⟩) := (H1.out.f (List.Mem.head _)).cell 0
  have rz0 : w1.frozen? ⟨w.heap.size, 0, none⟩ = false := (H1.out.f (List.Mem.head _)).frozen 0
  have r1 : w1.cell? ⟨w.heap.size, 1, none⟩ = some (.string ⟨#[]⟩) := (H1.out.f (List.Mem.head _)).cell 1
  have rz1 : w1.frozen? ⟨w.heap.size, 1, none⟩ = false := (H1.out.f (List.Mem.head _)).frozen 1
  have r2 : w1.cell? ⟨w.heap.size, 2, none⟩ = some (.int .i64 0) := (H1.out.f (List.Mem.head _)).cell 2
  have rz2 : w1.frozen? ⟨w.heap.size, 2, none⟩ = false := (H1.out.f (List.Mem.head _)).frozen 2
  have rl : w.heap.size < w1.heap.size := (H1.out.f (List.Mem.head _)).lt
  go_wp2_with fail
  with_reducible refine (HV.out _).mono ?_
  rintro x w2 ⟨rfl, hb⟩
  clear r0 rz0 r1 rz1 r2 rz2 rl
  have H2 : Hid (HeldL w [(w.heap.size, #[.string ⟨#[]⟩, .string ⟨#[]⟩, .int .i64 0])] w2) := Lib.hid (HeldL.keep H1.out hb)
  clear H1
  clear hb
  have r0 : w2.cell? ⟨w.heap.size, 0, none⟩ = some (.string ⟨#[]⟩) := (H2.out.f (List.Mem.head _)).cell 0
  have rz0 : w2.frozen? ⟨w.heap.size, 0, none⟩ = false := (H2.out.f (List.Mem.head _)).frozen 0
  have r1 : w2.cell? ⟨w.heap.size, 1, none⟩ = some (.string ⟨#[]⟩) := (H2.out.f (List.Mem.head _)).cell 1
  have rz1 : w2.frozen? ⟨w.heap.size, 1, none⟩ = false := (H2.out.f (List.Mem.head _)).frozen 1
  have r2 : w2.cell? ⟨w.heap.size, 2, none⟩ = some (.int .i64 0) := (H2.out.f (List.Mem.head _)).cell 2
  have rz2 : w2.frozen? ⟨w.heap.size, 2, none⟩ = false := (H2.out.f (List.Mem.head _)).frozen 2
  have rl : w.heap.size < w2.heap.size := (H2.out.f (List.Mem.head _)).lt
  go_upto_if 24 with fail
  clear r0 rz0 r1 rz1 r2 rz2 rl
  have H3 : Hid (HeldL w [(w2.heap.size, #[.bool v.neg, S v.i, S v.f]), (w.heap.size, #[.string ⟨#[]⟩, .string ⟨#[]⟩, .int .i64 0])] (w2.alloc (.cells #[.bool v.neg, S v.i, S v.f] 45))) := Lib.hid ((HeldL.alloc H2.out (w2.heap.size) #[.bool v.neg, S v.i, S v.f] 45 (by simp)))
  generalize (w2.alloc (.cells #[.bool v.neg, S v.i, S v.f] 45)) = w3 at *
  clear H2
  have bv0 : w3.cell? ⟨w2.heap.size, 0, none⟩ = some (.bool v.neg) := (H3.out.f (List.Mem.head _)).cell 0
  have bv1 : w3.cell? ⟨w2.heap.size, 1, none⟩ = some (S v.i) := (H3.out.f (List.Mem.head _)).cell 1
  have bv2 : w3.cell? ⟨w2.heap.size, 2, none⟩ = some (S v.f) := (H3.out.f (List.Mem.head _)).cell 2
  have bvl : w2.heap.size < w3.heap.size := (H3.out.f (List.Mem.head _)).lt
  have r0 : w3.cell? ⟨w.heap.size, 0, none⟩ = some (.string ⟨#[]⟩) := (H3.out.f (List.Mem.tail _ (List.Mem.head _))).cell 0
  have rz0 : w3.frozen? ⟨w.heap.size, 0, none⟩ = false := (H3.out.f (List.Mem.tail _ (List.Mem.head _))).frozen 0
  have r1 : w3.cell? ⟨w.heap.size, 1, none⟩ = some (.string ⟨#[]⟩) := (H3.out.f (List.Mem.tail _ (List.Mem.head _))).cell 1
  have rz1 : w3.frozen? ⟨w.heap.size, 1, none⟩ = false := (H3.out.f (List.Mem.tail _ (List.Mem.head _))).frozen 1
  have r2 : w3.cell? ⟨w.heap.size, 2, none⟩ = some (.int .i64 0) := (H3.out.f (List.Mem.tail _ (List.Mem.head _))).cell 2
  have rz2 : w3.frozen? ⟨w.heap.size, 2, none⟩ = false := (H3.out.f (List.Mem.tail _ (List.Mem.head _))).frozen 2
  have rl : w.heap.size < w3.heap.size := (H3.out.f (List.Mem.tail _ (List.Mem.head _))).lt
  go_wp2_with fail
  with_reducible refine (HI.out _).mono ?_
  rintro x wz ⟨rfl, rfl⟩
  go_wp2
  exact bodyPost_ret (v := .tuple #[.agg #[.string ⟨#[]⟩, .string ⟨#[]⟩, .int .i64 0], .int .i64 2]) (by simp [results, Tryz.results39, go_sem, r0, r1, r2]) rfl ⟨rfl, (HeldL.store3 [(w2.heap.size, #[.bool v.neg, S v.i, S v.f])] [] H3.out (.string ⟨#[]⟩) (.string ⟨#[]⟩) (.int .i64 0)).bel⟩

set_option maxRecDepth 100000 in
set_option maxHeartbeats 1600000 in
theorem read_e (s : ByteArray) (w : World) (hs : s.size ≤ 1000000) (a q : List UInt8) (ha : cA s.data.toList = a) (hq : pwO s.data.toList = q) (hp : okP s.data.toList = true) (v : Vs) (hv : ∀ w : World, Calls Tryz.prog 62 #[S a] w fun x w' => x = .returned (.tuple #[VV v, .bool true]) ∧ Below w.heap.size w w') (hb : True) (n : Int) (hint : ∀ w : World, Calls Tryz.prog 63 #[S q] w fun x w' => x = .returned (.tuple #[.int .i64 n, .bool true]) ∧ w = w') (hn : 10000 < n) :
    Calls Tryz.prog 39 #[.string s] w fun x w' => x = .returned (.tuple #[OV ⟨[], [], 0⟩, .int .i64 2]) ∧ Below w.heap.size w w' := by
  have HA := Lib.hid ha
  have HQ := Lib.hid hq
  have HP := Lib.hid hp
  clear ha hq hp
  have al : a.length ≤ 1000000 := by rw [← HA.out]; exact Nat.le_trans (List.takeWhile_prefix _).length_le (by rw [size_list]; exact hs)
  have ql : q.length ≤ 1000000 := by rw [← HQ.out]; unfold pwO; rw [List.length_tail]; have h := (List.dropWhile_sublist (l := s.data.toList) (fun c => !isC c)).length_le; rw [size_list] at h; unfold cB; omega
  have HV := Lib.hid hv
  have HB := Lib.hid hb
  clear hv hb
  have HI := Lib.hid hint
  clear hint
  go_enter Tryz.func39, Tryz.ntmps39
  go_wp2_with fail
  with_reducible refine (cutPower_as s _ hs a q true HA.out HQ.out HP.out).mono ?_
  rintro x w1 ⟨rfl, hb⟩
  have H1 : Hid (HeldL w [(w.heap.size, #[.string ⟨#[]⟩, .string ⟨#[]⟩, .int .i64 0])] w1) := Lib.hid (HeldL.keep (HeldL.alloc (HeldL.refl w) (w.heap.size) #[.string ⟨#[]⟩, .string ⟨#[]⟩, .int .i64 0] 42 (by simp)) hb)
  clear hb
  have r0 : w1.cell? ⟨w.heap.size, 0, none⟩ = some (.string ⟨#[]⟩) := (H1.out.f (List.Mem.head _)).cell 0
  have rz0 : w1.frozen? ⟨w.heap.size, 0, none⟩ = false := (H1.out.f (List.Mem.head _)).frozen 0
  have r1 : w1.cell? ⟨w.heap.size, 1, none⟩ = some (.string ⟨#[]⟩) := (H1.out.f (List.Mem.head _)).cell 1
  have rz1 : w1.frozen? ⟨w.heap.size, 1, none⟩ = false := (H1.out.f (List.Mem.head _)).frozen 1
  have r2 : w1.cell? ⟨w.heap.size, 2, none⟩ = some (.int .i64 0) := (H1.out.f (List.Mem.head _)).cell 2
  have rz2 : w1.frozen? ⟨w.heap.size, 2, none⟩ = false := (H1.out.f (List.Mem.head _)).frozen 2
  have rl : w.heap.size < w1.heap.size := (H1.out.f (List.Mem.head _)).lt
  go_wp2_with fail
  with_reducible refine (HV.out _).mono ?_
  rintro x w2 ⟨rfl, hb⟩
  clear r0 rz0 r1 rz1 r2 rz2 rl
  have H2 : Hid (HeldL w [(w.heap.size, #[.string ⟨#[]⟩, .string ⟨#[]⟩, .int .i64 0])] w2) := Lib.hid (HeldL.keep H1.out hb)
  clear H1
  clear hb
  have r0 : w2.cell? ⟨w.heap.size, 0, none⟩ = some (.string ⟨#[]⟩) := (H2.out.f (List.Mem.head _)).cell 0
  have rz0 : w2.frozen? ⟨w.heap.size, 0, none⟩ = false := (H2.out.f (List.Mem.head _)).frozen 0
  have r1 : w2.cell? ⟨w.heap.size, 1, none⟩ = some (.string ⟨#[]⟩) := (H2.out.f (List.Mem.head _)).cell 1
  have rz1 : w2.frozen? ⟨w.heap.size, 1, none⟩ = false := (H2.out.f (List.Mem.head _)).frozen 1
  have r2 : w2.cell? ⟨w.heap.size, 2, none⟩ = some (.int .i64 0) := (H2.out.f (List.Mem.head _)).cell 2
  have rz2 : w2.frozen? ⟨w.heap.size, 2, none⟩ = false := (H2.out.f (List.Mem.head _)).frozen 2
  have rl : w.heap.size < w2.heap.size := (H2.out.f (List.Mem.head _)).lt
  go_upto_if 24 with fail
  clear r0 rz0 r1 rz1 r2 rz2 rl
  have H3 : Hid (HeldL w [(w2.heap.size, #[.bool v.neg, S v.i, S v.f]), (w.heap.size, #[.string ⟨#[]⟩, .string ⟨#[]⟩, .int .i64 0])] (w2.alloc (.cells #[.bool v.neg, S v.i, S v.f] 45))) := Lib.hid ((HeldL.alloc H2.out (w2.heap.size) #[.bool v.neg, S v.i, S v.f] 45 (by simp)))
  generalize (w2.alloc (.cells #[.bool v.neg, S v.i, S v.f] 45)) = w3 at *
  clear H2
  have bv0 : w3.cell? ⟨w2.heap.size, 0, none⟩ = some (.bool v.neg) := (H3.out.f (List.Mem.head _)).cell 0
  have bv1 : w3.cell? ⟨w2.heap.size, 1, none⟩ = some (S v.i) := (H3.out.f (List.Mem.head _)).cell 1
  have bv2 : w3.cell? ⟨w2.heap.size, 2, none⟩ = some (S v.f) := (H3.out.f (List.Mem.head _)).cell 2
  have bvl : w2.heap.size < w3.heap.size := (H3.out.f (List.Mem.head _)).lt
  have r0 : w3.cell? ⟨w.heap.size, 0, none⟩ = some (.string ⟨#[]⟩) := (H3.out.f (List.Mem.tail _ (List.Mem.head _))).cell 0
  have rz0 : w3.frozen? ⟨w.heap.size, 0, none⟩ = false := (H3.out.f (List.Mem.tail _ (List.Mem.head _))).frozen 0
  have r1 : w3.cell? ⟨w.heap.size, 1, none⟩ = some (.string ⟨#[]⟩) := (H3.out.f (List.Mem.tail _ (List.Mem.head _))).cell 1
  have rz1 : w3.frozen? ⟨w.heap.size, 1, none⟩ = false := (H3.out.f (List.Mem.tail _ (List.Mem.head _))).frozen 1
  have r2 : w3.cell? ⟨w.heap.size, 2, none⟩ = some (.int .i64 0) := (H3.out.f (List.Mem.tail _ (List.Mem.head _))).cell 2
  have rz2 : w3.frozen? ⟨w.heap.size, 2, none⟩ = false := (H3.out.f (List.Mem.tail _ (List.Mem.head _))).frozen 2
  have rl : w.heap.size < w3.heap.size := (H3.out.f (List.Mem.tail _ (List.Mem.head _))).lt
  go_wp2_with fail
  with_reducible refine (HI.out _).mono ?_
  rintro x wz ⟨rfl, rfl⟩
  go_wp2
  exact bodyPost_ret (v := .tuple #[.agg #[.string ⟨#[]⟩, .string ⟨#[]⟩, .int .i64 0], .int .i64 2]) (by simp [results, Tryz.results39, go_sem, r0, r1, r2]) rfl ⟨rfl, (HeldL.store3 [(w2.heap.size, #[.bool v.neg, S v.i, S v.f])] [] H3.out (.string ⟨#[]⟩) (.string ⟨#[]⟩) (.int .i64 0)).bel⟩

set_option maxRecDepth 100000 in
set_option maxHeartbeats 1600000 in
theorem read_l (s : ByteArray) (w : World) (hs : s.size ≤ 1000000) (a q : List UInt8) (ha : cA s.data.toList = a) (hq : pwO s.data.toList = q) (hp : okP s.data.toList = true) (v : Vs) (hv : ∀ w : World, Calls Tryz.prog 62 #[S a] w fun x w' => x = .returned (.tuple #[VV v, .bool true]) ∧ Below w.heap.size w w') (hb : True) (n : Int) (hint : ∀ w : World, Calls Tryz.prog 63 #[S q] w fun x w' => x = .returned (.tuple #[.int .i64 n, .bool true]) ∧ w = w') (hn : n ≤ 10000) (il : v.i.length ≤ 900000) (fl : v.f.length ≤ 900000) (hl : (1000 : Int) < (v.i.length : Int) + (v.f.length : Int)) :
    Calls Tryz.prog 39 #[.string s] w fun x w' => x = .returned (.tuple #[OV ⟨[], [], 0⟩, .int .i64 2]) ∧ Below w.heap.size w w' := by
  have HA := Lib.hid ha
  have HQ := Lib.hid hq
  have HP := Lib.hid hp
  clear ha hq hp
  have al : a.length ≤ 1000000 := by rw [← HA.out]; exact Nat.le_trans (List.takeWhile_prefix _).length_le (by rw [size_list]; exact hs)
  have ql : q.length ≤ 1000000 := by rw [← HQ.out]; unfold pwO; rw [List.length_tail]; have h := (List.dropWhile_sublist (l := s.data.toList) (fun c => !isC c)).length_le; rw [size_list] at h; unfold cB; omega
  have HV := Lib.hid hv
  have HB := Lib.hid hb
  clear hv hb
  have HI := Lib.hid hint
  clear hint
  go_enter Tryz.func39, Tryz.ntmps39
  go_wp2_with fail
  with_reducible refine (cutPower_as s _ hs a q true HA.out HQ.out HP.out).mono ?_
  rintro x w1 ⟨rfl, hb⟩
  have H1 : Hid (HeldL w [(w.heap.size, #[.string ⟨#[]⟩, .string ⟨#[]⟩, .int .i64 0])] w1) := Lib.hid (HeldL.keep (HeldL.alloc (HeldL.refl w) (w.heap.size) #[.string ⟨#[]⟩, .string ⟨#[]⟩, .int .i64 0] 42 (by simp)) hb)
  clear hb
  have r0 : w1.cell? ⟨w.heap.size, 0, none⟩ = some (.string ⟨#[]⟩) := (H1.out.f (List.Mem.head _)).cell 0
  have rz0 : w1.frozen? ⟨w.heap.size, 0, none⟩ = false := (H1.out.f (List.Mem.head _)).frozen 0
  have r1 : w1.cell? ⟨w.heap.size, 1, none⟩ = some (.string ⟨#[]⟩) := (H1.out.f (List.Mem.head _)).cell 1
  have rz1 : w1.frozen? ⟨w.heap.size, 1, none⟩ = false := (H1.out.f (List.Mem.head _)).frozen 1
  have r2 : w1.cell? ⟨w.heap.size, 2, none⟩ = some (.int .i64 0) := (H1.out.f (List.Mem.head _)).cell 2
  have rz2 : w1.frozen? ⟨w.heap.size, 2, none⟩ = false := (H1.out.f (List.Mem.head _)).frozen 2
  have rl : w.heap.size < w1.heap.size := (H1.out.f (List.Mem.head _)).lt
  go_wp2_with fail
  with_reducible refine (HV.out _).mono ?_
  rintro x w2 ⟨rfl, hb⟩
  clear r0 rz0 r1 rz1 r2 rz2 rl
  have H2 : Hid (HeldL w [(w.heap.size, #[.string ⟨#[]⟩, .string ⟨#[]⟩, .int .i64 0])] w2) := Lib.hid (HeldL.keep H1.out hb)
  clear H1
  clear hb
  have r0 : w2.cell? ⟨w.heap.size, 0, none⟩ = some (.string ⟨#[]⟩) := (H2.out.f (List.Mem.head _)).cell 0
  have rz0 : w2.frozen? ⟨w.heap.size, 0, none⟩ = false := (H2.out.f (List.Mem.head _)).frozen 0
  have r1 : w2.cell? ⟨w.heap.size, 1, none⟩ = some (.string ⟨#[]⟩) := (H2.out.f (List.Mem.head _)).cell 1
  have rz1 : w2.frozen? ⟨w.heap.size, 1, none⟩ = false := (H2.out.f (List.Mem.head _)).frozen 1
  have r2 : w2.cell? ⟨w.heap.size, 2, none⟩ = some (.int .i64 0) := (H2.out.f (List.Mem.head _)).cell 2
  have rz2 : w2.frozen? ⟨w.heap.size, 2, none⟩ = false := (H2.out.f (List.Mem.head _)).frozen 2
  have rl : w.heap.size < w2.heap.size := (H2.out.f (List.Mem.head _)).lt
  go_upto_if 24 with fail
  clear r0 rz0 r1 rz1 r2 rz2 rl
  have H3 : Hid (HeldL w [(w2.heap.size, #[.bool v.neg, S v.i, S v.f]), (w.heap.size, #[.string ⟨#[]⟩, .string ⟨#[]⟩, .int .i64 0])] (w2.alloc (.cells #[.bool v.neg, S v.i, S v.f] 45))) := Lib.hid ((HeldL.alloc H2.out (w2.heap.size) #[.bool v.neg, S v.i, S v.f] 45 (by simp)))
  generalize (w2.alloc (.cells #[.bool v.neg, S v.i, S v.f] 45)) = w3 at *
  clear H2
  have bv0 : w3.cell? ⟨w2.heap.size, 0, none⟩ = some (.bool v.neg) := (H3.out.f (List.Mem.head _)).cell 0
  have bv1 : w3.cell? ⟨w2.heap.size, 1, none⟩ = some (S v.i) := (H3.out.f (List.Mem.head _)).cell 1
  have bv2 : w3.cell? ⟨w2.heap.size, 2, none⟩ = some (S v.f) := (H3.out.f (List.Mem.head _)).cell 2
  have bvl : w2.heap.size < w3.heap.size := (H3.out.f (List.Mem.head _)).lt
  have r0 : w3.cell? ⟨w.heap.size, 0, none⟩ = some (.string ⟨#[]⟩) := (H3.out.f (List.Mem.tail _ (List.Mem.head _))).cell 0
  have rz0 : w3.frozen? ⟨w.heap.size, 0, none⟩ = false := (H3.out.f (List.Mem.tail _ (List.Mem.head _))).frozen 0
  have r1 : w3.cell? ⟨w.heap.size, 1, none⟩ = some (.string ⟨#[]⟩) := (H3.out.f (List.Mem.tail _ (List.Mem.head _))).cell 1
  have rz1 : w3.frozen? ⟨w.heap.size, 1, none⟩ = false := (H3.out.f (List.Mem.tail _ (List.Mem.head _))).frozen 1
  have r2 : w3.cell? ⟨w.heap.size, 2, none⟩ = some (.int .i64 0) := (H3.out.f (List.Mem.tail _ (List.Mem.head _))).cell 2
  have rz2 : w3.frozen? ⟨w.heap.size, 2, none⟩ = false := (H3.out.f (List.Mem.tail _ (List.Mem.head _))).frozen 2
  have rl : w.heap.size < w3.heap.size := (H3.out.f (List.Mem.tail _ (List.Mem.head _))).lt
  go_wp2_with fail
  with_reducible refine (HI.out _).mono ?_
  rintro x wz ⟨rfl, rfl⟩
  go_wp2
  exact bodyPost_ret (v := .tuple #[.agg #[.string ⟨#[]⟩, .string ⟨#[]⟩, .int .i64 0], .int .i64 2]) (by simp [results, Tryz.results39, go_sem, r0, r1, r2]) rfl ⟨rfl, (HeldL.store3 [(w2.heap.size, #[.bool v.neg, S v.i, S v.f])] [] H3.out (.string ⟨#[]⟩) (.string ⟨#[]⟩) (.int .i64 0)).bel⟩

set_option maxRecDepth 100000 in
set_option maxHeartbeats 1600000 in
theorem read_o (s : ByteArray) (w : World) (hs : s.size ≤ 1000000) (a q : List UInt8) (ha : cA s.data.toList = a) (hq : pwO s.data.toList = q) (hp : okP s.data.toList = true) (v : Vs) (hv : ∀ w : World, Calls Tryz.prog 62 #[S a] w fun x w' => x = .returned (.tuple #[VV v, .bool true]) ∧ Below w.heap.size w w') (hb : True) (n : Int) (hint : ∀ w : World, Calls Tryz.prog 63 #[S q] w fun x w' => x = .returned (.tuple #[.int .i64 n, .bool true]) ∧ w = w') (hn : n ≤ 10000) (il : v.i.length ≤ 900000) (fl : v.f.length ≤ 900000) (hl : (v.i.length : Int) + (v.f.length : Int) ≤ 1000) (o : Og) (ho : ofP v n = o) :
    Calls Tryz.prog 39 #[.string s] w fun x w' => x = .returned (.tuple #[OV o, .int .i64 0]) ∧ Below w.heap.size w w' := by
  have HA := Lib.hid ha
  have HQ := Lib.hid hq
  have HP := Lib.hid hp
  clear ha hq hp
  have al : a.length ≤ 1000000 := by rw [← HA.out]; exact Nat.le_trans (List.takeWhile_prefix _).length_le (by rw [size_list]; exact hs)
  have ql : q.length ≤ 1000000 := by rw [← HQ.out]; unfold pwO; rw [List.length_tail]; have h := (List.dropWhile_sublist (l := s.data.toList) (fun c => !isC c)).length_le; rw [size_list] at h; unfold cB; omega
  have HV := Lib.hid hv
  have HB := Lib.hid hb
  clear hv hb
  have HI := Lib.hid hint
  clear hint
  have HO := Lib.hid ho
  clear ho
  go_enter Tryz.func39, Tryz.ntmps39
  go_wp2_with fail
  with_reducible refine (cutPower_as s _ hs a q true HA.out HQ.out HP.out).mono ?_
  rintro x w1 ⟨rfl, hb⟩
  have H1 : Hid (HeldL w [(w.heap.size, #[.string ⟨#[]⟩, .string ⟨#[]⟩, .int .i64 0])] w1) := Lib.hid (HeldL.keep (HeldL.alloc (HeldL.refl w) (w.heap.size) #[.string ⟨#[]⟩, .string ⟨#[]⟩, .int .i64 0] 42 (by simp)) hb)
  clear hb
  have r0 : w1.cell? ⟨w.heap.size, 0, none⟩ = some (.string ⟨#[]⟩) := (H1.out.f (List.Mem.head _)).cell 0
  have rz0 : w1.frozen? ⟨w.heap.size, 0, none⟩ = false := (H1.out.f (List.Mem.head _)).frozen 0
  have r1 : w1.cell? ⟨w.heap.size, 1, none⟩ = some (.string ⟨#[]⟩) := (H1.out.f (List.Mem.head _)).cell 1
  have rz1 : w1.frozen? ⟨w.heap.size, 1, none⟩ = false := (H1.out.f (List.Mem.head _)).frozen 1
  have r2 : w1.cell? ⟨w.heap.size, 2, none⟩ = some (.int .i64 0) := (H1.out.f (List.Mem.head _)).cell 2
  have rz2 : w1.frozen? ⟨w.heap.size, 2, none⟩ = false := (H1.out.f (List.Mem.head _)).frozen 2
  have rl : w.heap.size < w1.heap.size := (H1.out.f (List.Mem.head _)).lt
  go_wp2_with fail
  with_reducible refine (HV.out _).mono ?_
  rintro x w2 ⟨rfl, hb⟩
  clear r0 rz0 r1 rz1 r2 rz2 rl
  have H2 : Hid (HeldL w [(w.heap.size, #[.string ⟨#[]⟩, .string ⟨#[]⟩, .int .i64 0])] w2) := Lib.hid (HeldL.keep H1.out hb)
  clear H1
  clear hb
  have r0 : w2.cell? ⟨w.heap.size, 0, none⟩ = some (.string ⟨#[]⟩) := (H2.out.f (List.Mem.head _)).cell 0
  have rz0 : w2.frozen? ⟨w.heap.size, 0, none⟩ = false := (H2.out.f (List.Mem.head _)).frozen 0
  have r1 : w2.cell? ⟨w.heap.size, 1, none⟩ = some (.string ⟨#[]⟩) := (H2.out.f (List.Mem.head _)).cell 1
  have rz1 : w2.frozen? ⟨w.heap.size, 1, none⟩ = false := (H2.out.f (List.Mem.head _)).frozen 1
  have r2 : w2.cell? ⟨w.heap.size, 2, none⟩ = some (.int .i64 0) := (H2.out.f (List.Mem.head _)).cell 2
  have rz2 : w2.frozen? ⟨w.heap.size, 2, none⟩ = false := (H2.out.f (List.Mem.head _)).frozen 2
  have rl : w.heap.size < w2.heap.size := (H2.out.f (List.Mem.head _)).lt
  go_upto_if 24 with fail
  clear r0 rz0 r1 rz1 r2 rz2 rl
  have H3 : Hid (HeldL w [(w2.heap.size, #[.bool v.neg, S v.i, S v.f]), (w.heap.size, #[.string ⟨#[]⟩, .string ⟨#[]⟩, .int .i64 0])] (w2.alloc (.cells #[.bool v.neg, S v.i, S v.f] 45))) := Lib.hid ((HeldL.alloc H2.out (w2.heap.size) #[.bool v.neg, S v.i, S v.f] 45 (by simp)))
  generalize (w2.alloc (.cells #[.bool v.neg, S v.i, S v.f] 45)) = w3 at *
  clear H2
  have bv0 : w3.cell? ⟨w2.heap.size, 0, none⟩ = some (.bool v.neg) := (H3.out.f (List.Mem.head _)).cell 0
  have bv1 : w3.cell? ⟨w2.heap.size, 1, none⟩ = some (S v.i) := (H3.out.f (List.Mem.head _)).cell 1
  have bv2 : w3.cell? ⟨w2.heap.size, 2, none⟩ = some (S v.f) := (H3.out.f (List.Mem.head _)).cell 2
  have bvl : w2.heap.size < w3.heap.size := (H3.out.f (List.Mem.head _)).lt
  have r0 : w3.cell? ⟨w.heap.size, 0, none⟩ = some (.string ⟨#[]⟩) := (H3.out.f (List.Mem.tail _ (List.Mem.head _))).cell 0
  have rz0 : w3.frozen? ⟨w.heap.size, 0, none⟩ = false := (H3.out.f (List.Mem.tail _ (List.Mem.head _))).frozen 0
  have r1 : w3.cell? ⟨w.heap.size, 1, none⟩ = some (.string ⟨#[]⟩) := (H3.out.f (List.Mem.tail _ (List.Mem.head _))).cell 1
  have rz1 : w3.frozen? ⟨w.heap.size, 1, none⟩ = false := (H3.out.f (List.Mem.tail _ (List.Mem.head _))).frozen 1
  have r2 : w3.cell? ⟨w.heap.size, 2, none⟩ = some (.int .i64 0) := (H3.out.f (List.Mem.tail _ (List.Mem.head _))).cell 2
  have rz2 : w3.frozen? ⟨w.heap.size, 2, none⟩ = false := (H3.out.f (List.Mem.tail _ (List.Mem.head _))).frozen 2
  have rl : w.heap.size < w3.heap.size := (H3.out.f (List.Mem.tail _ (List.Mem.head _))).lt
  go_wp2_with fail
  with_reducible refine (HI.out _).mono ?_
  rintro x wz ⟨rfl, rfl⟩
  go_wp2_with fail
  with_reducible refine (of_as v n _ il fl o HO.out).mono ?_
  rintro x w4 ⟨rfl, hb⟩
  clear bv0 bv1 bv2 bvl r0 rz0 r1 rz1 r2 rz2 rl
  have H4 : Hid (HeldL w [(w2.heap.size, #[.bool v.neg, S v.i, S v.f]), (w.heap.size, #[.string ⟨#[]⟩, .string ⟨#[]⟩, .int .i64 0])] w4) := Lib.hid (HeldL.keep H3.out hb)
  clear H3
  clear hb
  have r0 : w4.cell? ⟨w.heap.size, 0, none⟩ = some (.string ⟨#[]⟩) := (H4.out.f (List.Mem.tail _ (List.Mem.head _))).cell 0
  have rz0 : w4.frozen? ⟨w.heap.size, 0, none⟩ = false := (H4.out.f (List.Mem.tail _ (List.Mem.head _))).frozen 0
  have r1 : w4.cell? ⟨w.heap.size, 1, none⟩ = some (.string ⟨#[]⟩) := (H4.out.f (List.Mem.tail _ (List.Mem.head _))).cell 1
  have rz1 : w4.frozen? ⟨w.heap.size, 1, none⟩ = false := (H4.out.f (List.Mem.tail _ (List.Mem.head _))).frozen 1
  have r2 : w4.cell? ⟨w.heap.size, 2, none⟩ = some (.int .i64 0) := (H4.out.f (List.Mem.tail _ (List.Mem.head _))).cell 2
  have rz2 : w4.frozen? ⟨w.heap.size, 2, none⟩ = false := (H4.out.f (List.Mem.tail _ (List.Mem.head _))).frozen 2
  have rl : w.heap.size < w4.heap.size := (H4.out.f (List.Mem.tail _ (List.Mem.head _))).lt
  go_wp2
  exact bodyPost_ret (v := .tuple #[.agg #[S o.i, S o.f, .int .i64 o.e], .int .i64 0]) (by simp [results, Tryz.results39, go_sem, r0, r1, r2]) rfl ⟨rfl, (HeldL.store3 [(w2.heap.size, #[.bool v.neg, S v.i, S v.f])] [] H4.out (S o.i) (S o.f) (.int .i64 o.e)).bel⟩

theorem big_pow {l : List UInt8} (h : isDig l = true) (h18 : 18 < (dig (val l)).length) : 10000 < val l := by
  rcases Nat.lt_or_ge 10000 (val l) with h1 | h1
  · exact h1
  · have := (dig_length_le (val l) 18).2 (Nat.lt_of_le_of_lt h1 (by decide))
    omega
/-- Read, whatever text. -/
theorem read_as (s : ByteArray) (w : World) (hs : s.size ≤ 800000) (o : Og) (e : Int) (ho : readO s.data.toList = o) (he : errO s.data.toList = e) :
    Calls Tryz.prog 39 #[.string s] w fun x w' => x = .returned (.tuple #[OV o, .int .i64 e]) ∧ Below w.heap.size w w' := by
  unfold readO at ho
  unfold errO at he
  obtain ⟨a, ha⟩ : ∃ a, cA s.data.toList = a := ⟨_, rfl⟩
  obtain ⟨q, hq⟩ : ∃ q, pwO s.data.toList = q := ⟨_, rfl⟩
  have al : a.length ≤ 800000 := by rw [← ha]; exact Nat.le_trans (List.takeWhile_prefix _).length_le (by rw [size_list]; exact hs)
  have ql : q.length ≤ 800000 := by rw [← hq]; unfold pwO; rw [List.length_tail]; have h := (List.dropWhile_sublist (l := s.data.toList) (fun c => !isC c)).length_le; rw [size_list] at h; unfold cB; omega
  have wl : (whO s.data.toList).length ≤ 800000 := by unfold whO; rw [ha]; exact Nat.le_trans (List.takeWhile_prefix _).length_le al
  have fl : (frO s.data.toList).length ≤ 800000 := by unfold frO pbO; rw [ha, List.length_tail]; have h := (List.dropWhile_sublist (l := a) (fun c => c != 46)).length_le; omega
  cases hp : okP s.data.toList with
  | false =>
    have hk : okO s.data.toList = false := by unfold okO; rw [hp]; rfl
    rw [hk] at ho he
    simp only [Bool.false_eq_true, if_false] at ho he
    subst ho he
    exact read_p s w (by omega) a q ha hq hp
  | true =>
    have hcut := fun w => cutPoint_as a w (by omega) (whO s.data.toList) (frO s.data.toList) (by unfold whO; rw [ha]) (by unfold frO pbO; rw [ha]) _ rfl _ rfl
    have hb : (sdig (whO s.data.toList) && ((a.dropWhile (fun c => c != 46)).isEmpty || sdig (frO s.data.toList))) = okO s.data.toList := by
      unfold okO; rw [hp, Bool.true_and]; unfold pbO; rw [ha]
    rw [hb] at hcut
    cases hk : okO s.data.toList with
    | false =>
      rw [hk] at ho he hcut
      simp only [Bool.false_eq_true, if_false] at ho he hcut
      subst ho he
      exact read_v s w (by omega) a q ha hq hp _ hcut trivial
    | true =>
      rw [hk] at ho he hcut
      simp only [if_true] at ho he hcut
      have dq : isDig q = true := by
        unfold okP at hp
        rw [hq] at hp
        cases hB : (cB s.data.toList).isEmpty with
        | true =>
          have : cB s.data.toList = [] := by simpa using hB
          rw [← hq]; unfold pwO; rw [this]; rfl
        | false =>
          rw [hB, Bool.false_or] at hp
          exact ((sdig_iff q).1 hp).2
      by_cases h18 : (dig (val q)).length ≤ 18
      · have hint := fun w => intS q w (by omega) dq h18
        by_cases hn : 10000 < val q
        · have hlong : longO s.data.toList = true := by unfold longO; rw [hq, decide_eq_true hn]; rfl
          rw [hlong] at ho he
          simp only [if_true] at ho he
          subst ho he
          exact read_e s w (by omega) a q ha hq hp _ hcut trivial _ hint (by omega)
        · by_cases hl : 1000 < (whO s.data.toList).length + (frO s.data.toList).length
          · have hlong : longO s.data.toList = true := by unfold longO; rw [decide_eq_true hl, Bool.or_true]
            rw [hlong] at ho he
            simp only [if_true] at ho he
            subst ho he
            exact read_l s w (by omega) a q ha hq hp _ hcut trivial _ hint (by omega) (by show (whO s.data.toList).length ≤ 900000; omega) (by show (frO s.data.toList).length ≤ 900000; omega) (by show (1000 : Int) < ((whO s.data.toList).length : Int) + ((frO s.data.toList).length : Int); omega)
          · have hlong : longO s.data.toList = false := by unfold longO; rw [hq, decide_eq_false hn, decide_eq_false hl]; rfl
            rw [hlong, hq] at ho
            rw [hlong] at he
            simp only [Bool.false_eq_true, if_false] at ho he
            subst he
            exact read_o s w (by omega) a q ha hq hp _ hcut trivial _ hint (by omega) (by show (whO s.data.toList).length ≤ 900000; omega) (by show (frO s.data.toList).length ≤ 900000; omega) (by show ((whO s.data.toList).length : Int) + ((frO s.data.toList).length : Int) ≤ 1000; omega) o ho
      · have hlong : longO s.data.toList = true := by unfold longO; rw [hq, decide_eq_true (big_pow dq (by omega))]; rfl
        rw [hlong] at ho he
        simp only [if_true] at ho he
        subst ho he
        exact read_i s w (by omega) a q ha hq hp _ hcut trivial (fun w => intS_big q w (by omega) dq (by omega))
end Go.Proofs.YtkjhdehpcanciaaGreatDoor

namespace Go.Proofs.YtkjhdehpcanciaaGreatDoor
open Go.RowKit Florin
set_option linter.unusedVariables false
set_option linter.unusedSimpArgs false

theorem run_OL (i f i' f' : List UInt8) (e e' : Int) (w : World) : (Op.equalIn 10000 42 (.agg #[S i, S f, .int .i64 e]) (.agg #[S i', S f', .int .i64 e'])).run Tryz.prog w = .ok (decide (i = i' ∧ f = f' ∧ e = e')) w := by
  rw [show (10000 : Nat) = 9999 + 1 from rfl, run_equalIn_struct w 9999 42 _ _ (by kernel_rfl) (by kernel_rfl)]
  simp [go_sem, Tryz.underlying42, Tryz.underlying3, Tryz.underlying9]
  by_cases h1 : i = i'
  · by_cases h2 : f = f'
    · by_cases h3 : e = e'
      · simp [h1, h2, h3]
      · simp [h1, h2, h3]
    · simp [h1, h2]
  · simp [h1]
theorem eq_OL (i f i' f' : List UInt8) (e e' : Int) (w : World) : (binOp .eql 42 (.agg #[S i, S f, .int .i64 e]) (.agg #[S i', S f', .int .i64 e'])).run Tryz.prog w = .ok (.bool (decide (i = i' ∧ f = f' ∧ e = e'))) w := by
  rw [run_eql_struct, run_OL]; rfl
attribute [local go_sem ↓] Go.wp_at_zero Go.wp_at_succ eq_OL
theorem digits_is (a : Option Addr) (len cap : Nat) (L : List UInt8) (w : World) (hin : InB w a len cap L) (hl : len ≤ 1000000) (t : List UInt8) (ht : dgs L = t) :
    Calls Tryz.prog 42 #[.slice a len cap] w fun e w' => e = .returned (S t) ∧ Below w.heap.size w w' := by
  subst ht; exact digits_any a len cap L w hin hl
/-- What Shown returns. -/
def shP (L M : List UInt8) : Vs := if L = [] ∧ M = [] then ⟨false, [48], []⟩ else ⟨false, dgs L, dgs M⟩
set_option maxRecDepth 100000 in
set_option maxHeartbeats 1600000 in
theorem shown_a (a : Option Addr) (len cap : Nat) (L : List UInt8) (a1 : Option Addr) (len1 cap1 : Nat) (L1 : List UInt8) (w : World) (hin : InB w a len cap L) (hin1 : InB w a1 len1 cap1 L1) (hl : len ≤ 1000000) (hl1 : len1 ≤ 1000000) (l m : List UInt8) (hL : dgs L = l) (hM : dgs L1 = m) (hne : l ≠ []) :
    Calls Tryz.prog 19 #[.slice a len cap, .slice a1 len1 cap1] w fun z w' => z = .returned (VV ⟨false, l, m⟩) ∧ Below w.heap.size w w' := by
  have HIN := Lib.hid hin
  have HIN1 := Lib.hid hin1
  have hcA := hin.2.1
  have hmA := hin.2.2.1
  have hcB := hin1.2.1
  have hmB := hin1.2.2.1
  have HL := Lib.hid hL
  have HM := Lib.hid hM
  clear hin hin1 hL hM
  have eL := empty_of (ne_empty hne)
  have eL2 := ne_empty hne
  go_enter Tryz.func19, Tryz.ntmps19
  go_wp2_with fail
  with_reducible refine (digits_is a len cap L _ (HIN.out.below (HeldL.alloc (HeldL.refl w) (w.heap.size) #[.bool false, .string ⟨#[]⟩, .string ⟨#[]⟩] 45 (by simp)).bel) hl l HL.out).mono ?_
  rintro x w1 ⟨rfl, hb⟩
  have H1 : Hid (HeldL w [(w.heap.size, #[.bool false, .string ⟨#[]⟩, .string ⟨#[]⟩])] w1) := Lib.hid (HeldL.keep (HeldL.alloc (HeldL.refl w) (w.heap.size) #[.bool false, .string ⟨#[]⟩, .string ⟨#[]⟩] 45 (by simp)) hb)
  clear hb
  have r0 : w1.cell? ⟨w.heap.size, 0, none⟩ = some (.bool false) := (H1.out.f (List.Mem.head _)).cell 0
  have r1 : w1.cell? ⟨w.heap.size, 1, none⟩ = some (.string ⟨#[]⟩) := (H1.out.f (List.Mem.head _)).cell 1
  have r2 : w1.cell? ⟨w.heap.size, 2, none⟩ = some (.string ⟨#[]⟩) := (H1.out.f (List.Mem.head _)).cell 2
  have rl : w.heap.size < w1.heap.size := (H1.out.f (List.Mem.head _)).lt
  go_wp2_with fail
  with_reducible refine (digits_is a1 len1 cap1 L1 _ (HIN1.out.below H1.out.bel) hl1 m HM.out).mono ?_
  rintro x w2 ⟨rfl, hb⟩
  clear r0 r1 r2 rl
  have H2 : Hid (HeldL w [(w.heap.size, #[.bool false, .string ⟨#[]⟩, .string ⟨#[]⟩])] w2) := Lib.hid (HeldL.keep H1.out hb)
  clear H1
  clear hb
  have r0 : w2.cell? ⟨w.heap.size, 0, none⟩ = some (.bool false) := (H2.out.f (List.Mem.head _)).cell 0
  have rz0 : w2.frozen? ⟨w.heap.size, 0, none⟩ = false := (H2.out.f (List.Mem.head _)).frozen 0
  have r1 : w2.cell? ⟨w.heap.size, 1, none⟩ = some (.string ⟨#[]⟩) := (H2.out.f (List.Mem.head _)).cell 1
  have rz1 : w2.frozen? ⟨w.heap.size, 1, none⟩ = false := (H2.out.f (List.Mem.head _)).frozen 1
  have r2 : w2.cell? ⟨w.heap.size, 2, none⟩ = some (.string ⟨#[]⟩) := (H2.out.f (List.Mem.head _)).cell 2
  have rz2 : w2.frozen? ⟨w.heap.size, 2, none⟩ = false := (H2.out.f (List.Mem.head _)).frozen 2
  have rl : w.heap.size < w2.heap.size := (H2.out.f (List.Mem.head _)).lt
  go_upto_region 4 with fail
  clear r0 rz0 r1 rz1 r2 rz2 rl
  have H3 : Hid (HeldL w [(w2.heap.size, #[.bool false, S l, S m]), (w.heap.size, #[.bool false, .string ⟨#[]⟩, .string ⟨#[]⟩])] (w2.alloc (.cells #[.bool false, S l, S m] 45))) := Lib.hid ((HeldL.alloc H2.out (w2.heap.size) #[.bool false, S l, S m] 45 (by simp)))
  generalize (w2.alloc (.cells #[.bool false, S l, S m] 45)) = w3 at *
  clear H2
  have bv0 : w3.cell? ⟨w2.heap.size, 0, none⟩ = some (.bool false) := (H3.out.f (List.Mem.head _)).cell 0
  have bv1 : w3.cell? ⟨w2.heap.size, 1, none⟩ = some (S l) := (H3.out.f (List.Mem.head _)).cell 1
  have bv2 : w3.cell? ⟨w2.heap.size, 2, none⟩ = some (S m) := (H3.out.f (List.Mem.head _)).cell 2
  have bvl : w2.heap.size < w3.heap.size := (H3.out.f (List.Mem.head _)).lt
  have r0 : w3.cell? ⟨w.heap.size, 0, none⟩ = some (.bool false) := (H3.out.f (List.Mem.tail _ (List.Mem.head _))).cell 0
  have rz0 : w3.frozen? ⟨w.heap.size, 0, none⟩ = false := (H3.out.f (List.Mem.tail _ (List.Mem.head _))).frozen 0
  have r1 : w3.cell? ⟨w.heap.size, 1, none⟩ = some (.string ⟨#[]⟩) := (H3.out.f (List.Mem.tail _ (List.Mem.head _))).cell 1
  have rz1 : w3.frozen? ⟨w.heap.size, 1, none⟩ = false := (H3.out.f (List.Mem.tail _ (List.Mem.head _))).frozen 1
  have r2 : w3.cell? ⟨w.heap.size, 2, none⟩ = some (.string ⟨#[]⟩) := (H3.out.f (List.Mem.tail _ (List.Mem.head _))).cell 2
  have rz2 : w3.frozen? ⟨w.heap.size, 2, none⟩ = false := (H3.out.f (List.Mem.tail _ (List.Mem.head _))).frozen 2
  have rl : w.heap.size < w3.heap.size := (H3.out.f (List.Mem.tail _ (List.Mem.head _))).lt
  go_wp2
  exact bodyPost_ret (v := .agg #[.bool false, S l, S m]) (by simp [results, Tryz.results19, go_sem, r0, r1, r2]) rfl ⟨rfl, (HeldL.store3 [(w2.heap.size, #[.bool false, S l, S m])] [] H3.out (.bool false) (S l) (S m)).bel⟩

set_option maxRecDepth 100000 in
set_option maxHeartbeats 1600000 in
theorem shown_b (a : Option Addr) (len cap : Nat) (L : List UInt8) (a1 : Option Addr) (len1 cap1 : Nat) (L1 : List UInt8) (w : World) (hin : InB w a len cap L) (hin1 : InB w a1 len1 cap1 L1) (hl : len ≤ 1000000) (hl1 : len1 ≤ 1000000) (m : List UInt8) (hL : dgs L = []) (hM : dgs L1 = m) (hne : m ≠ []) :
    Calls Tryz.prog 19 #[.slice a len cap, .slice a1 len1 cap1] w fun z w' => z = .returned (VV ⟨false, [], m⟩) ∧ Below w.heap.size w w' := by
  have HIN := Lib.hid hin
  have HIN1 := Lib.hid hin1
  have hcA := hin.2.1
  have hmA := hin.2.2.1
  have hcB := hin1.2.1
  have hmB := hin1.2.2.1
  have HL := Lib.hid hL
  have HM := Lib.hid hM
  clear hin hin1 hL hM
  have eM := empty_of (ne_empty hne)
  have eM2 := ne_empty hne
  go_enter Tryz.func19, Tryz.ntmps19
  go_wp2_with fail
  with_reducible refine (digits_is a len cap L _ (HIN.out.below (HeldL.alloc (HeldL.refl w) (w.heap.size) #[.bool false, .string ⟨#[]⟩, .string ⟨#[]⟩] 45 (by simp)).bel) hl [] HL.out).mono ?_
  rintro x w1 ⟨rfl, hb⟩
  have H1 : Hid (HeldL w [(w.heap.size, #[.bool false, .string ⟨#[]⟩, .string ⟨#[]⟩])] w1) := Lib.hid (HeldL.keep (HeldL.alloc (HeldL.refl w) (w.heap.size) #[.bool false, .string ⟨#[]⟩, .string ⟨#[]⟩] 45 (by simp)) hb)
  clear hb
  have r0 : w1.cell? ⟨w.heap.size, 0, none⟩ = some (.bool false) := (H1.out.f (List.Mem.head _)).cell 0
  have r1 : w1.cell? ⟨w.heap.size, 1, none⟩ = some (.string ⟨#[]⟩) := (H1.out.f (List.Mem.head _)).cell 1
  have r2 : w1.cell? ⟨w.heap.size, 2, none⟩ = some (.string ⟨#[]⟩) := (H1.out.f (List.Mem.head _)).cell 2
  have rl : w.heap.size < w1.heap.size := (H1.out.f (List.Mem.head _)).lt
  go_wp2_with fail
  with_reducible refine (digits_is a1 len1 cap1 L1 _ (HIN1.out.below H1.out.bel) hl1 m HM.out).mono ?_
  rintro x w2 ⟨rfl, hb⟩
  clear r0 r1 r2 rl
  have H2 : Hid (HeldL w [(w.heap.size, #[.bool false, .string ⟨#[]⟩, .string ⟨#[]⟩])] w2) := Lib.hid (HeldL.keep H1.out hb)
  clear H1
  clear hb
  have r0 : w2.cell? ⟨w.heap.size, 0, none⟩ = some (.bool false) := (H2.out.f (List.Mem.head _)).cell 0
  have rz0 : w2.frozen? ⟨w.heap.size, 0, none⟩ = false := (H2.out.f (List.Mem.head _)).frozen 0
  have r1 : w2.cell? ⟨w.heap.size, 1, none⟩ = some (.string ⟨#[]⟩) := (H2.out.f (List.Mem.head _)).cell 1
  have rz1 : w2.frozen? ⟨w.heap.size, 1, none⟩ = false := (H2.out.f (List.Mem.head _)).frozen 1
  have r2 : w2.cell? ⟨w.heap.size, 2, none⟩ = some (.string ⟨#[]⟩) := (H2.out.f (List.Mem.head _)).cell 2
  have rz2 : w2.frozen? ⟨w.heap.size, 2, none⟩ = false := (H2.out.f (List.Mem.head _)).frozen 2
  have rl : w.heap.size < w2.heap.size := (H2.out.f (List.Mem.head _)).lt
  go_upto_region 4 with fail
  clear r0 rz0 r1 rz1 r2 rz2 rl
  have H3 : Hid (HeldL w [(w2.heap.size, #[.bool false, .string ⟨#[]⟩, S m]), (w.heap.size, #[.bool false, .string ⟨#[]⟩, .string ⟨#[]⟩])] (w2.alloc (.cells #[.bool false, .string ⟨#[]⟩, S m] 45))) := Lib.hid ((HeldL.alloc H2.out (w2.heap.size) #[.bool false, .string ⟨#[]⟩, S m] 45 (by simp)))
  generalize (w2.alloc (.cells #[.bool false, .string ⟨#[]⟩, S m] 45)) = w3 at *
  clear H2
  have bv0 : w3.cell? ⟨w2.heap.size, 0, none⟩ = some (.bool false) := (H3.out.f (List.Mem.head _)).cell 0
  have bv1 : w3.cell? ⟨w2.heap.size, 1, none⟩ = some (.string ⟨#[]⟩) := (H3.out.f (List.Mem.head _)).cell 1
  have bv2 : w3.cell? ⟨w2.heap.size, 2, none⟩ = some (S m) := (H3.out.f (List.Mem.head _)).cell 2
  have bvl : w2.heap.size < w3.heap.size := (H3.out.f (List.Mem.head _)).lt
  have r0 : w3.cell? ⟨w.heap.size, 0, none⟩ = some (.bool false) := (H3.out.f (List.Mem.tail _ (List.Mem.head _))).cell 0
  have rz0 : w3.frozen? ⟨w.heap.size, 0, none⟩ = false := (H3.out.f (List.Mem.tail _ (List.Mem.head _))).frozen 0
  have r1 : w3.cell? ⟨w.heap.size, 1, none⟩ = some (.string ⟨#[]⟩) := (H3.out.f (List.Mem.tail _ (List.Mem.head _))).cell 1
  have rz1 : w3.frozen? ⟨w.heap.size, 1, none⟩ = false := (H3.out.f (List.Mem.tail _ (List.Mem.head _))).frozen 1
  have r2 : w3.cell? ⟨w.heap.size, 2, none⟩ = some (.string ⟨#[]⟩) := (H3.out.f (List.Mem.tail _ (List.Mem.head _))).cell 2
  have rz2 : w3.frozen? ⟨w.heap.size, 2, none⟩ = false := (H3.out.f (List.Mem.tail _ (List.Mem.head _))).frozen 2
  have rl : w.heap.size < w3.heap.size := (H3.out.f (List.Mem.tail _ (List.Mem.head _))).lt
  go_wp2
  exact bodyPost_ret (v := .agg #[.bool false, .string ⟨#[]⟩, S m]) (by simp [results, Tryz.results19, go_sem, r0, r1, r2]) rfl ⟨rfl, (HeldL.store3 [(w2.heap.size, #[.bool false, .string ⟨#[]⟩, S m])] [] H3.out (.bool false) (.string ⟨#[]⟩) (S m)).bel⟩

set_option maxRecDepth 100000 in
set_option maxHeartbeats 1600000 in
theorem shown_c (a : Option Addr) (len cap : Nat) (L : List UInt8) (a1 : Option Addr) (len1 cap1 : Nat) (L1 : List UInt8) (w : World) (hin : InB w a len cap L) (hin1 : InB w a1 len1 cap1 L1) (hl : len ≤ 1000000) (hl1 : len1 ≤ 1000000) (hL : dgs L = []) (hM : dgs L1 = []) :
    Calls Tryz.prog 19 #[.slice a len cap, .slice a1 len1 cap1] w fun z w' => z = .returned (VV ⟨false, [48], []⟩) ∧ Below w.heap.size w w' := by
  have HIN := Lib.hid hin
  have HIN1 := Lib.hid hin1
  have hcA := hin.2.1
  have hmA := hin.2.2.1
  have hcB := hin1.2.1
  have hmB := hin1.2.2.1
  have HL := Lib.hid hL
  have HM := Lib.hid hM
  clear hin hin1 hL hM
  go_enter Tryz.func19, Tryz.ntmps19
  go_wp2_with fail
  with_reducible refine (digits_is a len cap L _ (HIN.out.below (HeldL.alloc (HeldL.refl w) (w.heap.size) #[.bool false, .string ⟨#[]⟩, .string ⟨#[]⟩] 45 (by simp)).bel) hl [] HL.out).mono ?_
  rintro x w1 ⟨rfl, hb⟩
  have H1 : Hid (HeldL w [(w.heap.size, #[.bool false, .string ⟨#[]⟩, .string ⟨#[]⟩])] w1) := Lib.hid (HeldL.keep (HeldL.alloc (HeldL.refl w) (w.heap.size) #[.bool false, .string ⟨#[]⟩, .string ⟨#[]⟩] 45 (by simp)) hb)
  clear hb
  have r0 : w1.cell? ⟨w.heap.size, 0, none⟩ = some (.bool false) := (H1.out.f (List.Mem.head _)).cell 0
  have r1 : w1.cell? ⟨w.heap.size, 1, none⟩ = some (.string ⟨#[]⟩) := (H1.out.f (List.Mem.head _)).cell 1
  have r2 : w1.cell? ⟨w.heap.size, 2, none⟩ = some (.string ⟨#[]⟩) := (H1.out.f (List.Mem.head _)).cell 2
  have rl : w.heap.size < w1.heap.size := (H1.out.f (List.Mem.head _)).lt
  go_wp2_with fail
  with_reducible refine (digits_is a1 len1 cap1 L1 _ (HIN1.out.below H1.out.bel) hl1 [] HM.out).mono ?_
  rintro x w2 ⟨rfl, hb⟩
  clear r0 r1 r2 rl
  have H2 : Hid (HeldL w [(w.heap.size, #[.bool false, .string ⟨#[]⟩, .string ⟨#[]⟩])] w2) := Lib.hid (HeldL.keep H1.out hb)
  clear H1
  clear hb
  have r0 : w2.cell? ⟨w.heap.size, 0, none⟩ = some (.bool false) := (H2.out.f (List.Mem.head _)).cell 0
  have rz0 : w2.frozen? ⟨w.heap.size, 0, none⟩ = false := (H2.out.f (List.Mem.head _)).frozen 0
  have r1 : w2.cell? ⟨w.heap.size, 1, none⟩ = some (.string ⟨#[]⟩) := (H2.out.f (List.Mem.head _)).cell 1
  have rz1 : w2.frozen? ⟨w.heap.size, 1, none⟩ = false := (H2.out.f (List.Mem.head _)).frozen 1
  have r2 : w2.cell? ⟨w.heap.size, 2, none⟩ = some (.string ⟨#[]⟩) := (H2.out.f (List.Mem.head _)).cell 2
  have rz2 : w2.frozen? ⟨w.heap.size, 2, none⟩ = false := (H2.out.f (List.Mem.head _)).frozen 2
  have rl : w.heap.size < w2.heap.size := (H2.out.f (List.Mem.head _)).lt
  go_upto_region 4 with fail
  clear r0 rz0 r1 rz1 r2 rz2 rl
  have H3 : Hid (HeldL w [(w2.heap.size, #[.bool false, .string ⟨#[48]⟩, .string ⟨#[]⟩]), (w.heap.size, #[.bool false, .string ⟨#[]⟩, .string ⟨#[]⟩])] (w2.alloc (.cells #[.bool false, .string ⟨#[48]⟩, .string ⟨#[]⟩] 45))) := Lib.hid ((HeldL.alloc H2.out (w2.heap.size) #[.bool false, .string ⟨#[48]⟩, .string ⟨#[]⟩] 45 (by simp)))
  generalize (w2.alloc (.cells #[.bool false, .string ⟨#[48]⟩, .string ⟨#[]⟩] 45)) = w3 at *
  clear H2
  have bv0 : w3.cell? ⟨w2.heap.size, 0, none⟩ = some (.bool false) := (H3.out.f (List.Mem.head _)).cell 0
  have bv1 : w3.cell? ⟨w2.heap.size, 1, none⟩ = some (.string ⟨#[48]⟩) := (H3.out.f (List.Mem.head _)).cell 1
  have bv2 : w3.cell? ⟨w2.heap.size, 2, none⟩ = some (.string ⟨#[]⟩) := (H3.out.f (List.Mem.head _)).cell 2
  have bvl : w2.heap.size < w3.heap.size := (H3.out.f (List.Mem.head _)).lt
  have r0 : w3.cell? ⟨w.heap.size, 0, none⟩ = some (.bool false) := (H3.out.f (List.Mem.tail _ (List.Mem.head _))).cell 0
  have rz0 : w3.frozen? ⟨w.heap.size, 0, none⟩ = false := (H3.out.f (List.Mem.tail _ (List.Mem.head _))).frozen 0
  have r1 : w3.cell? ⟨w.heap.size, 1, none⟩ = some (.string ⟨#[]⟩) := (H3.out.f (List.Mem.tail _ (List.Mem.head _))).cell 1
  have rz1 : w3.frozen? ⟨w.heap.size, 1, none⟩ = false := (H3.out.f (List.Mem.tail _ (List.Mem.head _))).frozen 1
  have r2 : w3.cell? ⟨w.heap.size, 2, none⟩ = some (.string ⟨#[]⟩) := (H3.out.f (List.Mem.tail _ (List.Mem.head _))).cell 2
  have rz2 : w3.frozen? ⟨w.heap.size, 2, none⟩ = false := (H3.out.f (List.Mem.tail _ (List.Mem.head _))).frozen 2
  have rl : w.heap.size < w3.heap.size := (H3.out.f (List.Mem.tail _ (List.Mem.head _))).lt
  go_wp2
  exact bodyPost_ret (v := .agg #[.bool false, .string ⟨#[48]⟩, .string ⟨#[]⟩]) (by simp [results, Tryz.results19, go_sem, r0, r1, r2]) rfl ⟨rfl, (HeldL.store3 [(w2.heap.size, #[.bool false, .string ⟨#[48]⟩, .string ⟨#[]⟩])] [] H3.out (.bool false) (.string ⟨#[48]⟩) (.string ⟨#[]⟩)).bel⟩

theorem dgs_nil {L : List UInt8} : dgs L = [] ↔ L = [] := by
  constructor
  · intro h
    have := congrArg List.length h
    rw [dgs_length] at this
    exact List.eq_nil_of_length_eq_zero this
  · rintro rfl; rfl
theorem shown_as (a : Option Addr) (len cap : Nat) (L : List UInt8) (a1 : Option Addr) (len1 cap1 : Nat) (L1 : List UInt8) (w : World) (hin : InB w a len cap L) (hin1 : InB w a1 len1 cap1 L1) (hl : len ≤ 1000000) (hl1 : len1 ≤ 1000000) (v : Vs) (hv : shP L L1 = v) :
    Calls Tryz.prog 19 #[.slice a len cap, .slice a1 len1 cap1] w fun z w' => z = .returned (VV v) ∧ Below w.heap.size w w' := by
  subst hv
  unfold shP
  by_cases h1 : L = []
  · by_cases h2 : L1 = []
    · rw [if_pos ⟨h1, h2⟩]
      exact shown_c a len cap L a1 len1 cap1 L1 w hin hin1 hl hl1 (dgs_nil.2 h1) (dgs_nil.2 h2)
    · rw [if_neg (fun h => h2 h.2), dgs_nil.2 h1]
      exact shown_b a len cap L a1 len1 cap1 L1 w hin hin1 hl hl1 _ (dgs_nil.2 h1) rfl (fun h => h2 (dgs_nil.1 h))
  · rw [if_neg (fun h => h1 h.1)]
    exact shown_a a len cap L a1 len1 cap1 L1 w hin hin1 hl hl1 _ _ rfl rfl (fun h => h1 (dgs_nil.1 h))
end Go.Proofs.YtkjhdehpcanciaaGreatDoor
