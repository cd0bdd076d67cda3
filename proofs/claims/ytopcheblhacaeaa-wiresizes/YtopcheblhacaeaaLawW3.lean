/- The walk of the law WireSizes. -/
import Derived.Test.YtopcheblhacaeaaWrI
namespace Go.Proofs.Ytopcheblhacaeaa
open Go.RowKit Florin
set_option linter.unusedVariables false
set_option linter.unusedSimpArgs false
attribute [local go_sem ↓] Go.wp_at_zero Go.wp_at_succ
theorem vlen_step (n : Nat) : (vnum n).length = 1 + (if n / 128 = 0 then 0 else (vnum (n / 128)).length) := by
  by_cases h : n < 128
  · rw [vnum_lt h, if_pos (by omega)]; rfl
  · rw [vnum_ge (by omega), if_neg (by omega), List.length_cons]; omega
set_option maxRecDepth 100000 in
set_option maxHeartbeats 3200000 in
theorem wireSizes_walk (n : Int) (s : ByteArray) (w : World) (hn : (Lit.int .i64 n).wf = true) (_hs : s.size ≤ maxLen) :
    Calls Try.prog 5 #[.int .i64 n, .string s] w fun x w' => x = .returned (.bool true) ∧ Below w.heap.size w w' := by
  have hn1 : n ≤ 9223372036854775807 := by simp [Lit.wf, IntKind.min, IntKind.max, IntKind.signed, IntKind.bits] at hn; omega
  clear hn
  obtain ⟨t, rfl⟩ : ∃ t : List UInt8, s = ⟨t.toArray⟩ := ⟨s.data.toList, (list_arr s).symm⟩
  have hsz0 := arr_size t
  rw [arr_size] at _hs
  by_cases hbig : (1000 : Int) < (t.length : Int)
  · go_enter Try.func5, Try.ntmps5
    go_wp2_with fail
    with_reducible refine (head14 _).mono ?_
    rintro x w1 ⟨rfl, hb⟩
    go_wp2
    go_ret
    exact ⟨rfl, hb⟩
  · have hsz : t.length ≤ 1000 := by omega
    obtain ⟨N, hN⟩ : ∃ N : Nat, N = n.toNat := ⟨_, rfl⟩
    have hN3 : N ≤ 9223372036854775807 := by omega
    have HN : Hid (N = n.toNat) := Lib.hid hN
    clear hN
    rcases (show n < 0 ∨ 0 ≤ n by omega) with hneg | hnn
    all_goals
      go_enter Try.func5, Try.ntmps5
      go_wp2_with fail
      with_reducible refine (head14 _).mono ?_
      rintro x w1 ⟨rfl, hb⟩
      have B1 := Lib.hid hb
      clear hb
      go_wp2_with fail
      have HW0 := Lib.hid (WrT.new w1 w1.heap.size (Nat.le_refl _))
      have HB0 : Hid (Below w.heap.size w (w1.alloc (.cells #[.pointer none, .int .i64 0] TWr))) := Lib.hid (B1.out.alloc B1.out.size _)
      have hr0 : w.heap.size ≤ w1.heap.size := B1.out.size
      generalize w1.alloc (.cells #[.pointer none, .int .i64 0] TWr) = w2 at *
      generalize w1.heap.size = r at *
      go_loop [6, 7] (fun x y => ∃ (c k : Nat), x = .int .i64 (c : Int) ∧ y = .int .i64 (k : Int) ∧ c + (if k = 0 then 0 else (vnum k).length) = (vnum N).length) (fun _ y => (intOf y).toNat)
      case atStart =>
        have := HN.out
        exact ⟨1, N / 128, rfl, congrArg (Value.int .i64) (by omega), (vlen_step N).symm⟩
      case round =>
        obtain ⟨c, k, rfl, rfl, hc⟩ := hrel
        have h9 : (vnum N).length ≤ 9 := vnum_nine (by omega)
        have hc9 : c ≤ 9 := by omega
        by_cases hk : 0 < k
        · have hki : (0 : Int) < (k : Int) := by omega
          have HC : Hid (c + 1 + (if k / 128 = 0 then 0 else (vnum (k / 128)).length) = (vnum N).length) := Lib.hid (by
            have := vlen_step k
            rw [if_neg (by omega)] at hc
            omega)
          clear hc
          go_wp2
          go_round
          case rel => exact ⟨c + 1, k / 128, by go_num, by go_num, HC.out⟩
          case measure => simp [intOf]; omega
        · have hki : ¬ (0 : Int) < (k : Int) := by omega
          have hc2 : c = (vnum N).length := by rw [if_pos (by omega)] at hc; omega
          have HC2 := Lib.hid hc2
          clear hc hc2
          go_wp2_with fail
          have h1000 : (1000 : Nat) = 1000 := rfl
          with_reducible refine (wnum_as r r [] n _ HW0.out hn1 (by decide)).mono ?_
          rintro e w3 ⟨rfl, h3, g3⟩
          rw [← HN.out] at h3
          have H3 := Lib.hid h3
          have B3 := Lib.hid (below_grown HB0.out HB0.out.size hr0 g3)
          clear h3 g3 h1000
          obtain ⟨V, hV⟩ : ∃ V, V = vnum N := ⟨_, rfl⟩
          rw [← hV] at H3 HC2 h9
          have HV := Lib.hid hV
          clear hV
          have hcV : Hid ((cat [V]).length = c) := Lib.hid (by rw [HC2.out]; simp [cat])
          go_wp2_with fail
          with_reducible refine (wstring_as r r _ _ H3.out (by simp [tot]; omega)).mono ?_
          rintro e w4 ⟨rfl, b4⟩
          have H4 := Lib.hid (H3.out.below b4)
          have B4 := Lib.hid (B3.out.trans (b4.mono B3.out.size))
          clear b4 H3 B3 HB0 HW0
          have hcV1 : (cat [V]).length = c := hcV.out
          have heq : ((c : Int) == (c : Int)) = true := by simp
          have hvl := vlen_step t.length
          by_cases hm : (127 : Int) < (t.length : Int)
          · have hvl2 : (vnum t.length).length = 2 := by rw [vnum_ge (by omega), vnum_lt (by omega)]; rfl
            have HL : Hid ((cat [t, vnum t.length, V]).length = c + 2 + t.length) := Lib.hid (by rw [← hcV1]; simp [cat, hvl2]; omega)
            clear hvl
            go_wp2_with fail
            with_reducible refine (wtext_as r r _ t _ H4.out (by simp [tot]; omega)).mono ?_
            rintro e w5 ⟨rfl, h5, g5⟩
            have H5 := Lib.hid h5
            have B5 := Lib.hid (below_grown B4.out B4.out.size hr0 g5)
            clear h5 g5 B4 H4
            go_wp2_with fail
            with_reducible refine (wstring_as r r _ _ H5.out (by simp [tot, hvl2]; omega)).mono ?_
            rintro e w6 ⟨rfl, b6⟩
            have B6 := Lib.hid (B5.out.trans (b6.mono B5.out.size))
            clear b6 B5 H5
            have hl := HL.out
            generalize cat [t, vnum t.length, V] = X at *
            go_wp2
            go_ret
            exact ⟨ret_bool (by simp [hl]), B6.out⟩
          · have hvl2 : (vnum t.length).length = 1 := by rw [vnum_lt (by omega)]; rfl
            have HL : Hid ((cat [t, vnum t.length, V]).length = c + 1 + t.length) := Lib.hid (by rw [← hcV1]; simp [cat, hvl2]; omega)
            clear hvl
            go_wp2_with fail
            with_reducible refine (wtext_as r r _ t _ H4.out (by simp [tot]; omega)).mono ?_
            rintro e w5 ⟨rfl, h5, g5⟩
            have H5 := Lib.hid h5
            have B5 := Lib.hid (below_grown B4.out B4.out.size hr0 g5)
            clear h5 g5 B4 H4
            go_wp2_with fail
            with_reducible refine (wstring_as r r _ _ H5.out (by simp [tot, hvl2]; omega)).mono ?_
            rintro e w6 ⟨rfl, b6⟩
            have B6 := Lib.hid (B5.out.trans (b6.mono B5.out.size))
            clear b6 B5 H5
            have hl := HL.out
            generalize cat [t, vnum t.length, V] = X at *
            go_wp2
            go_ret
            exact ⟨ret_bool (by simp [hl]), B6.out⟩
end Go.Proofs.Ytopcheblhacaeaa
