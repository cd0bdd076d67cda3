/- strings.IndexAny at e and E, whatever text. -/
import Derived.Test.YtlppofjmkepceaaDoorDecR
import Derived.Lib.OthersKept
import Derived.Lib.IndexAny
namespace Go.Proofs.YtlppofjmkepceaaDoor
open Go.RowKit Florin
set_option linter.unusedVariables false
set_option linter.unusedSimpArgs false

theorem decode_span (s : ByteArray) (pos : Nat) : ∀ j, 0 < j → j < (Utf8.decode s pos).2 → pos + j < s.size ∧ 128 ≤ (s.get! (pos + j)).toNat := by
  intro j h0 hj
  have key : ∀ k, (decide (pos + k < s.size) && (s.get! (pos + k)).toNat / 64 == 2) = true → pos + k < s.size ∧ 128 ≤ (s.get! (pos + k)).toNat := by
    intro k hk
    simp at hk
    exact ⟨hk.1, by omega⟩
  simp only [Utf8.decode] at hj
  split at hj
  · simp at hj; omega
  · split at hj
    · rename_i hc
      rw [Bool.and_eq_true] at hc
      have k1 := key 1 hc.2
      split at hj
      · simp at hj; obtain rfl : j = 1 := by omega
        exact k1
      · simp at hj; omega
    · split at hj
      · rename_i hc
        rw [Bool.and_eq_true, Bool.and_eq_true] at hc
        have k1 := key 1 hc.1.2
        have k2 := key 2 hc.2
        split at hj
        · simp at hj
          rcases (show j = 1 ∨ j = 2 by omega) with rfl | rfl
          · exact k1
          · exact k2
        · simp at hj; omega
      · split at hj
        · rename_i hc
          rw [Bool.and_eq_true, Bool.and_eq_true, Bool.and_eq_true] at hc
          have k1 := key 1 hc.1.1.2
          have k2 := key 2 hc.1.2
          have k3 := key 3 hc.2
          split at hj
          · simp at hj
            rcases (show j = 1 ∨ j = 2 ∨ j = 3 by omega) with rfl | rfl | rfl
            · exact k1
            · exact k2
            · exact k3
          · simp at hj; omega
        · simp at hj; omega
theorem rune_any (r : Nat) (w : World) (h : 128 ≤ r) (hm : r ≤ 2147483647) : Calls Tryd.prog 76 #[.string ⟨#[101, 69]⟩, .int .i32 (r : Int)] w fun x w' => x = .returned (.int .i64 (-1)) ∧ Below w.heap.size w w' := by
  by_cases hr : (r : Int) = 65533
  · rw [hr]; exact rune_bad w
  · exact rune_high r w (by omega) (by omega) hr
theorem noAny_span {s : ByteArray} {i : Nat} (h : Lib.NoAny s.data.toList [101, 69] i) (hi : i < s.size) (ha : 128 ≤ (s[i]'hi).toNat) : Lib.NoAny s.data.toList [101, 69] (i + (Utf8.decode s i).2) := by
  intro j b hj hb
  by_cases hji : j < i
  · exact h j b hji hb
  · have hb2 : 128 ≤ b.toNat := by
      by_cases h0 : j = i
      · subst h0
        rw [Lib.data_getElem? s j hi] at hb
        injection hb with hb; rw [← hb]; exact ha
      · obtain ⟨q1, q2⟩ := decode_span s i (j - i) (by omega) (by omega)
        have e : i + (j - i) = j := by omega
        rw [e] at q1 q2
        rw [Lib.data_getElem? s j q1] at hb
        injection hb with hb
        have := get_at s j q1
        rw [Nat.add_zero] at this
        rw [this] at q2
        rw [← hb]; exact q2
    simp only [List.contains, List.elem]
    have h1 : (b == 101) = false := by simp; intro e; subst e; revert hb2; decide
    have h2 : (b == 69) = false := by simp; intro e; subst e; revert hb2; decide
    rw [h1, h2]

set_option maxRecDepth 1000000 in
set_option maxHeartbeats 8000000 in
theorem ix_short_any (s : ByteArray) (h8 : s.size ≤ 8) : IxOK s := by
  intro w
  have h8z : decide ((8 : Int) < (s.size : Int)) = false := decide_eq_false (by omega)
  go_enter Tryd.func64, Tryd.ntmps64
  go_wp2_with (go_at_call 77; refine (Tryd.strings_shouldUseASCIISet _ _).mono ?_; rintro e w' ⟨rfl, hw⟩; rw [hw, h8z])
  go_loopg [9, 10] s.size (fun g _ _ wx => ∃ i : Nat, i + g = s.size ∧ wx.heap[w.heap.size]? = some (.stringIter s i) ∧ Below w.heap.size w wx ∧ Lib.NoAny s.data.toList [101, 69] i)
  case atStart => exact ⟨0, by omega, World.iter_heap w s 0, below_alloc w _, Lib.NoAny.zero _ _⟩
  case round =>
    obtain ⟨i, hig, hk, hbl, hno⟩ := hrel
    have HN := Lib.hid hno
    have HB := Lib.hid hbl
    have HK := Lib.hid hk
    clear hno hbl hk
    have hlt := (Array.getElem?_eq_some_iff.1 HK.out).1
    cases gk with
    | zero =>
      obtain rfl : i = s.size := by omega
      have hnx := fun ty => Lib.run_next_end_at (P := Tryd.prog) wr w.heap.size s s.size ty HK.out (by omega)
      go_wp2
      go_ret
      exact ⟨by rw [Lib.indexAny_none (by rw [← Lib.size_eq]; exact HN.out)]; rfl, HB.out⟩
    | succ g =>
      have hi : i < s.size := by omega
      obtain ⟨x, hx⟩ : ∃ x : UInt8, s[i]'hi = x := ⟨_, rfl⟩
      have Hx : Hid (s.data.toList[i]? = some x) := Lib.hid (by rw [← hx]; exact Lib.data_getElem? s i hi)
      by_cases hx128 : x.toNat < 128
      · have hnx := fun ty => Lib.run_next_ascii_at (P := Tryd.prog) wr w.heap.size s i ty HK.out hi (by rw [hx]; exact hx128)
        rw [hx] at hnx
        clear hx
        have hcon := Lib.contains_iff_indexByte [101, 69] x
        have hback : ((x.toNat : Int)).toNat.toUInt8 = x := by simp
        have B2 := Lib.hid (Lib.below_iterAt HB.out (Nat.le_refl _) s (i + 1))
        have K2 := Lib.hid (Lib.iterAt_heap wr w.heap.size s i (i + 1) HK.out)
        cases hin : List.contains [101, 69] x
        · rw [hin] at hcon
          have hlt' : ¬ ((0 : Int) ≤ Lib.indexByte [101, 69] x) := of_decide_eq_false hcon.symm
          clear hcon
          go_wp2_with (go_at_call 76; refine (Tryd.strings_IndexRune_ascii _ _ _ (by omega) (by omega)).mono ?_; rintro e w' ⟨rfl, hw⟩; rw [hw, hback])
          go_roundg g
          case measure => omega
          case rel => exact ⟨i + 1, by omega, K2.out, B2.out, HN.out.succ Hx.out hin⟩
        · rw [hin] at hcon
          have hge : (0 : Int) ≤ Lib.indexByte [101, 69] x := of_decide_eq_true hcon.symm
          clear hcon
          go_wp2_with (go_at_call 76; refine (Tryd.strings_IndexRune_ascii _ _ _ (by omega) (by omega)).mono ?_; rintro e w' ⟨rfl, hw⟩; rw [hw, hback])
          go_ret
          exact ⟨by rw [Lib.indexAny_hit HN.out Hx.out hin]; rfl, B2.out⟩
      · have hnx := fun ty => Lib.run_next_any_at (P := Tryd.prog) wr w.heap.size s i ty HK.out hi
        obtain ⟨d1, d2⟩ := decode_high s i hi (by rw [hx]; omega)
        have d3 := decode_le s i
        have d4 : i + (Utf8.decode s i).2 ≤ s.size := by
          by_cases h1 : (Utf8.decode s i).2 = 1
          · omega
          · have := (decode_span s i ((Utf8.decode s i).2 - 1) (by omega) (by omega)).1; omega
        have HS := Lib.hid (noAny_span HN.out hi (by rw [hx]; omega))
        have B2 := Lib.hid (Lib.below_iterAt HB.out (Nat.le_refl _) s (i + (Utf8.decode s i).2))
        have K2 := Lib.hid (Lib.iterAt_heap wr w.heap.size s i (i + (Utf8.decode s i).2) HK.out)
        have L2 : w.heap.size < (wr.iterAt w.heap.size s (i + (Utf8.decode s i).2)).heap.size := by rw [Lib.iterAt_size]; exact hlt
        clear hx
        generalize (Utf8.decode s i).1 = r at *
        generalize (Utf8.decode s i).2 = k at *
        generalize wr.iterAt w.heap.size s (i + k) = wk at *
        go_wp2_with fail
        with_reducible refine (rune_any r wk d1 d3).mono ?_
        rintro e w' ⟨rfl, hb⟩
        have B3 := Lib.hid (B2.out.trans (hb.mono (B' := w.heap.size) (by omega)))
        have K3 := Lib.hid ((hb.block _ L2).trans K2.out)
        clear hb
        go_wp2
        go_roundg (s.size - (i + k))
        case measure => omega
        case rel => exact ⟨i + k, by omega, K3.out, B3.out, HS.out⟩
theorem ix_all (s : ByteArray) (hs : s.size ≤ 1000000) : IxOK s := by
  by_cases h : 8 < s.size
  · exact ix_long s h hs
  · exact ix_short_any s (by omega)
end Go.Proofs.YtlppofjmkepceaaDoor
