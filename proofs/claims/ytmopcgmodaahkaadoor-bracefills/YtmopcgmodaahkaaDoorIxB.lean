/- strings.IndexAny at both braces, whatever text. -/
import Derived.Test.YtmopcgmodaahkaaDoorBrA
import Derived.Laws.RangeAny
import Derived.Laws.RangeString
import Derived.Laws.Runes
import Derived.Deep.LoopGhost
import Derived.WalkMore
import Derived.Deep.RegionWith
import Derived.Deep.DrawnRows
import Derived.Deep.QuietTactic
import Derived.Lib.OthersKept
import Derived.Lib.IndexAny
namespace Go.Proofs.YtmopcgmodaahkaaDoor
open Go.RowKit Florin
set_option linter.unusedVariables false
set_option linter.unusedSimpArgs false
theorem below_alloc (w : World) (o : Obj) : Below w.heap.size w (w.alloc o) := (Below.refl _ w).alloc (Nat.le_refl _) _
theorem below_alloc2 (w : World) (o p : Obj) : Below w.heap.size w ((w.alloc o).alloc p) := (below_alloc w o).alloc (by simp) _
theorem zero256 (w : World) : (zeroValue 86).run Tryd.prog w = .ok (.agg (Array.replicate 256 (.bool false))) w := by kernel_rfl
section
attribute [local go_sem ↓] Go.wp_at_zero Go.wp_at_succ
theorem encode_shape (r : Int) (h : 128 ≤ r) : (∃ a b : UInt8, Utf8.encode r = ⟨#[a, b]⟩ ∧ 128 ≤ b.toNat) ∨ (∃ a b c : UInt8, Utf8.encode r = ⟨#[a, b, c]⟩) ∨ (∃ a b c d : UInt8, Utf8.encode r = ⟨#[a, b, c, d]⟩) := by
  have hc : ¬ (if Utf8.valid r then r.toNat else Utf8.runeError) < 0x80 := by
    split
    · omega
    · decide
  unfold Utf8.encode
  simp only [hc, if_false]
  generalize (if Utf8.valid r then r.toNat else Utf8.runeError) = c
  split
  · exact .inl ⟨_, _, rfl, by simp [UInt8.toNat_ofNat']; omega⟩
  · split
    · exact .inr (.inl ⟨_, _, _, rfl⟩)
    · exact .inr (.inr ⟨_, _, _, _, rfl⟩)

theorem below_drewN {B : Nat} {w w1 : World} (h : Below B w w1) (n : Nat) : Below B w (w1.drewN n) := ⟨h.os, h.tape, h.output, h.size, h.block⟩
theorem ie_empty (c : UInt8) : Lib.indexByte ByteArray.empty.data.toList c = -1 := rfl
set_option maxRecDepth 100000 in
set_option maxHeartbeats 3200000 in
theorem rune_badB (w : World) : Calls Tryd.prog 45 #[.string ⟨#[123, 125]⟩, .int .i32 65533] w fun x w' => x = .returned (.int .i64 (-1)) ∧ Below w.heap.size w w' := by
  have n0 := fun ty => run_next_ascii (P := Tryd.prog) w ⟨#[123, 125]⟩ 0 ty (by decide) (by decide)
  have n1 := fun ty => run_next_ascii (P := Tryd.prog) w ⟨#[123, 125]⟩ 1 ty (by decide) (by decide)
  have n2 := fun ty => run_next_end (P := Tryd.prog) w ⟨#[123, 125]⟩ 2 ty (by decide)
  go_enter Tryd.func45, Tryd.ntmps45
  go_wp2
  refine wp_loop_rounds 3 ?_
  rw [rounds_succ]
  go_wp2
  rw [rounds_succ]
  go_wp2
  rw [rounds_succ]
  go_wp2
  go_ret
  exact ⟨rfl, below_alloc w _⟩
set_option maxRecDepth 100000 in
set_option maxHeartbeats 3200000 in
theorem rune_highB (r : Int) (w : World) (h : 128 ≤ r) (hm : r ≤ 2147483647) (hn : r ≠ 65533) : Calls Tryd.prog 45 #[.string ⟨#[123, 125]⟩, .int .i32 r] w fun x w' => x = .returned (.int .i64 (-1)) ∧ Below w.heap.size w w' := by
  have hn' : (r == 65533) = false := by simp [hn]
  have hE := encode_shape r h
  generalize hv : Lib.validRune r = v
  have HV := Lib.hid hv
  clear hv
  generalize hg : Utf8.encode r = E at hE
  cases v with
  | false =>
    clear hE hg
    go_enter Tryd.func45, Tryd.ntmps45
    go_wp2_with fail
    with_reducible refine (Tryd.utf8_ValidRune r _).mono ?_
    rintro x w' ⟨rfl, rfl⟩
    rw [HV.out]
    go_wp2
    go_ret
    exact ⟨rfl, Below.refl _ _⟩
  | true =>
    rcases hE with ⟨a, b, rfl, hb⟩ | ⟨a, b, c, rfl⟩ | ⟨a, b, c, d, rfl⟩
    · have hb2 : (((⟨#[123, 125]⟩ : ByteArray)[1].toNat : Int) != (((⟨#[a, b]⟩ : ByteArray)[1]'(by show 1 < 2; omega)).toNat : Int)) = true := by
        show ((125 : Int) != (b.toNat : Int)) = true
        simp; omega
      go_enter Tryd.func45, Tryd.ntmps45
      go_wp2_with fail
      with_reducible refine (Tryd.utf8_ValidRune r _).mono ?_
      rintro x w' ⟨rfl, rfl⟩
      rw [HV.out]
      go_wp2
      apply wp_scope_straight
      go_wp2
      refine wp_loop_rounds 1 ?_
      rw [rounds_succ]
      go_wp2
      apply wp_scope_straight
      go_wp2
      go_quiet (fail)
      have BQ := Lib.hid (below_drewN (Below.refl w'.heap.size w') nq)
      generalize w'.drewN nq = wq at *
      go_wp2_with fail
      have hw2 : IntKind.i64.wrap 2 = 2 := by decide
      go_quiet ((go_at_call 61; exact Calls.quiet_of_same (Tryd.strings_IndexByte _ _ _)))
      try simp only [ie_empty]
      go_wp2
      rw [Exit.noGoto_ret]
      go_wp2
      rw [Exit.noGoto_ret]
      go_wp2
      go_ret
      exact ⟨rfl, below_drewN BQ.out _⟩
    · go_enter Tryd.func45, Tryd.ntmps45
      go_wp2_with fail
      with_reducible refine (Tryd.utf8_ValidRune r _).mono ?_
      rintro x w' ⟨rfl, rfl⟩
      rw [HV.out]
      go_wp2
      apply wp_scope_straight
      go_wp2
      refine wp_loop_rounds 1 ?_
      rw [rounds_succ]
      go_wp2
      rw [Exit.noGoto_ret]
      go_wp2
      go_ret
      exact ⟨rfl, Below.refl _ _⟩
    · go_enter Tryd.func45, Tryd.ntmps45
      go_wp2_with fail
      with_reducible refine (Tryd.utf8_ValidRune r _).mono ?_
      rintro x w' ⟨rfl, rfl⟩
      rw [HV.out]
      go_wp2
      apply wp_scope_straight
      go_wp2
      refine wp_loop_rounds 1 ?_
      rw [rounds_succ]
      go_wp2
      rw [Exit.noGoto_ret]
      go_wp2
      go_ret
      exact ⟨rfl, Below.refl _ _⟩
end
def IxB (s : ByteArray) : Prop := ∀ (w : World), Calls Tryd.prog 29 #[.string s, .string ⟨#[123, 125]⟩] w fun x w' => x = .returned (.int .i64 (Lib.indexAny s.data.toList [123, 125])) ∧ Below w.heap.size w w'
theorem ix_longB (s : ByteArray) (h8 : 8 < s.size) (hs : s.size ≤ 1000000) : IxB s := fun w =>
  (Tryd.strings_IndexAny_long zero256 s ⟨#[123, 125]⟩ w (by decide) h8 (by omega) (by decide) (by
    intro j b hj
    match j, hj with
    | 0, hj => simp at hj; subst hj; decide
    | 1, hj => simp at hj; subst hj; decide
    | j + 2, hj => simp at hj)).mono fun x w' ⟨hx, hw⟩ => ⟨hx, by rw [hw]; exact below_alloc2 w _ _⟩
theorem decode_span (s : ByteArray) (pos : Nat) : ∀ j, 0 < j → j < (Utf8.decode s pos).2 → pos + j < s.size ∧ 128 ≤ (s.get! (pos + j)).toNat := by
  intro j h0 hj
  have key : ∀ k, (decide (pos + k < s.size) && (s.get! (pos + k)).toNat / 64 == 2) = true → pos + k < s.size ∧ 128 ≤ (s.get! (pos + k)).toNat := by
    intro k hk
    simp at hk
    exact ⟨hk.1, by omega⟩
  simp only [Utf8.decode] at hj
  split at hj
  · simp at hj; omega
  · split at hj
    · rename_i hc
      rw [Bool.and_eq_true] at hc
      have k1 := key 1 hc.2
      split at hj
      · simp at hj; obtain rfl : j = 1 := by omega
        exact k1
      · simp at hj; omega
    · split at hj
      · rename_i hc
        rw [Bool.and_eq_true, Bool.and_eq_true] at hc
        have k1 := key 1 hc.1.2
        have k2 := key 2 hc.2
        split at hj
        · simp at hj
          rcases (show j = 1 ∨ j = 2 by omega) with rfl | rfl
          · exact k1
          · exact k2
        · simp at hj; omega
      · split at hj
        · rename_i hc
          rw [Bool.and_eq_true, Bool.and_eq_true, Bool.and_eq_true] at hc
          have k1 := key 1 hc.1.1.2
          have k2 := key 2 hc.1.2
          have k3 := key 3 hc.2
          split at hj
          · simp at hj
            rcases (show j = 1 ∨ j = 2 ∨ j = 3 by omega) with rfl | rfl | rfl
            · exact k1
            · exact k2
            · exact k3
          · simp at hj; omega
        · simp at hj; omega
theorem rune_anyB (r : Nat) (w : World) (h : 128 ≤ r) (hm : r ≤ 2147483647) : Calls Tryd.prog 45 #[.string ⟨#[123, 125]⟩, .int .i32 (r : Int)] w fun x w' => x = .returned (.int .i64 (-1)) ∧ Below w.heap.size w w' := by
  by_cases hr : (r : Int) = 65533
  · rw [hr]; exact rune_badB w
  · exact rune_highB r w (by omega) (by omega) hr
theorem noAny_spanB {s : ByteArray} {i : Nat} (h : Lib.NoAny s.data.toList [123, 125] i) (hi : i < s.size) (ha : 128 ≤ (s[i]'hi).toNat) : Lib.NoAny s.data.toList [123, 125] (i + (Utf8.decode s i).2) := by
  intro j b hj hb
  by_cases hji : j < i
  · exact h j b hji hb
  · have hb2 : 128 ≤ b.toNat := by
      by_cases h0 : j = i
      · subst h0
        rw [Lib.data_getElem? s j hi] at hb
        injection hb with hb; rw [← hb]; exact ha
      · obtain ⟨q1, q2⟩ := decode_span s i (j - i) (by omega) (by omega)
        have e : i + (j - i) = j := by omega
        rw [e] at q1 q2
        rw [Lib.data_getElem? s j q1] at hb
        injection hb with hb
        have := get_at s j q1
        rw [Nat.add_zero] at this
        rw [this] at q2
        rw [← hb]; exact q2
    simp only [List.contains, List.elem]
    have h1 : (b == 123) = false := by simp; intro e; subst e; revert hb2; decide
    have h2 : (b == 125) = false := by simp; intro e; subst e; revert hb2; decide
    rw [h1, h2]

set_option maxRecDepth 1000000 in
set_option maxHeartbeats 8000000 in
theorem ix_short_anyB (s : ByteArray) (h8 : s.size ≤ 8) : IxB s := by
  intro w
  have h8z : decide ((8 : Int) < (s.size : Int)) = false := decide_eq_false (by omega)
  go_enter Tryd.func29, Tryd.ntmps29
  go_wp2_with (go_at_call 46; refine (Tryd.strings_shouldUseASCIISet _ _).mono ?_; rintro e w' ⟨rfl, hw⟩; rw [hw, h8z])
  go_loopg [9, 10] s.size (fun g _ _ wx => ∃ i : Nat, i + g = s.size ∧ wx.heap[w.heap.size]? = some (.stringIter s i) ∧ Below w.heap.size w wx ∧ Lib.NoAny s.data.toList [123, 125] i)
  case atStart => exact ⟨0, by omega, World.iter_heap w s 0, below_alloc w _, Lib.NoAny.zero _ _⟩
  case round =>
    obtain ⟨i, hig, hk, hbl, hno⟩ := hrel
    have HN := Lib.hid hno
    have HB := Lib.hid hbl
    have HK := Lib.hid hk
    clear hno hbl hk
    have hlt := (Array.getElem?_eq_some_iff.1 HK.out).1
    cases gk with
    | zero =>
      obtain rfl : i = s.size := by omega
      have hnx := fun ty => Lib.run_next_end_at (P := Tryd.prog) wr w.heap.size s s.size ty HK.out (by omega)
      go_wp2
      go_ret
      exact ⟨by rw [Lib.indexAny_none (by rw [← Lib.size_eq]; exact HN.out)]; rfl, HB.out⟩
    | succ g =>
      have hi : i < s.size := by omega
      obtain ⟨x, hx⟩ : ∃ x : UInt8, s[i]'hi = x := ⟨_, rfl⟩
      have Hx : Hid (s.data.toList[i]? = some x) := Lib.hid (by rw [← hx]; exact Lib.data_getElem? s i hi)
      by_cases hx128 : x.toNat < 128
      · have hnx := fun ty => Lib.run_next_ascii_at (P := Tryd.prog) wr w.heap.size s i ty HK.out hi (by rw [hx]; exact hx128)
        rw [hx] at hnx
        clear hx
        have hcon := Lib.contains_iff_indexByte [123, 125] x
        have hback : ((x.toNat : Int)).toNat.toUInt8 = x := by simp
        have B2 := Lib.hid (Lib.below_iterAt HB.out (Nat.le_refl _) s (i + 1))
        have K2 := Lib.hid (Lib.iterAt_heap wr w.heap.size s i (i + 1) HK.out)
        cases hin : List.contains [123, 125] x
        · rw [hin] at hcon
          have hlt' : ¬ ((0 : Int) ≤ Lib.indexByte [123, 125] x) := of_decide_eq_false hcon.symm
          clear hcon
          go_wp2_with (go_at_call 45; refine (Tryd.strings_IndexRune_ascii _ _ _ (by omega) (by omega)).mono ?_; rintro e w' ⟨rfl, hw⟩; rw [hw, hback])
          go_roundg g
          case measure => omega
          case rel => exact ⟨i + 1, by omega, K2.out, B2.out, HN.out.succ Hx.out hin⟩
        · rw [hin] at hcon
          have hge : (0 : Int) ≤ Lib.indexByte [123, 125] x := of_decide_eq_true hcon.symm
          clear hcon
          go_wp2_with (go_at_call 45; refine (Tryd.strings_IndexRune_ascii _ _ _ (by omega) (by omega)).mono ?_; rintro e w' ⟨rfl, hw⟩; rw [hw, hback])
          go_ret
          exact ⟨by rw [Lib.indexAny_hit HN.out Hx.out hin]; rfl, B2.out⟩
      · have hnx := fun ty => Lib.run_next_any_at (P := Tryd.prog) wr w.heap.size s i ty HK.out hi
        obtain ⟨d1, d2⟩ := decode_high s i hi (by rw [hx]; omega)
        have d3 := decode_le s i
        have d4 : i + (Utf8.decode s i).2 ≤ s.size := by
          by_cases h1 : (Utf8.decode s i).2 = 1
          · omega
          · have := (decode_span s i ((Utf8.decode s i).2 - 1) (by omega) (by omega)).1; omega
        have HS := Lib.hid (noAny_spanB HN.out hi (by rw [hx]; omega))
        have B2 := Lib.hid (Lib.below_iterAt HB.out (Nat.le_refl _) s (i + (Utf8.decode s i).2))
        have K2 := Lib.hid (Lib.iterAt_heap wr w.heap.size s i (i + (Utf8.decode s i).2) HK.out)
        have L2 : w.heap.size < (wr.iterAt w.heap.size s (i + (Utf8.decode s i).2)).heap.size := by rw [Lib.iterAt_size]; exact hlt
        clear hx
        generalize (Utf8.decode s i).1 = r at *
        generalize (Utf8.decode s i).2 = k at *
        generalize wr.iterAt w.heap.size s (i + k) = wk at *
        go_wp2_with fail
        with_reducible refine (rune_anyB r wk d1 d3).mono ?_
        rintro e w' ⟨rfl, hb⟩
        have B3 := Lib.hid (B2.out.trans (hb.mono (B' := w.heap.size) (by omega)))
        have K3 := Lib.hid ((hb.block _ L2).trans K2.out)
        clear hb
        go_wp2
        go_roundg (s.size - (i + k))
        case measure => omega
        case rel => exact ⟨i + k, by omega, K3.out, B3.out, HS.out⟩
theorem ix_allB (s : ByteArray) (hs : s.size ≤ 1000000) : IxB s := by
  by_cases h : 8 < s.size
  · exact ix_longB s h hs
  · exact ix_short_anyB s (by omega)
theorem ix_asB {s : ByteArray} (h : IxB s) (w : World) (i : Int) (hi : Lib.indexAny s.data.toList [123, 125] = i) :
    Calls Tryd.prog 29 #[.string s, .string ⟨#[123, 125]⟩] w fun x w' => x = .returned (.int .i64 i) ∧ Below w.heap.size w w' := by
  subst hi; exact h w
end Go.Proofs.YtmopcgmodaahkaaDoor
