/- Numbers of a class's text. -/
import Derived.Test.YtbfhkcljkblnmaaDoorCrD
import Derived.Shelf.Unicode.DecodeSlow
namespace Go.Proofs.YtbfhkcljkblnmaaDoor
open Go.RowKit Florin
set_option linter.unusedVariables false
set_option linter.unusedSimpArgs false
attribute [local go_sem ↓] Go.wp_at_zero Go.wp_at_succ
abbrev Tabs (w : World) : Prop := Lib.Utf8Tabs 1 2 w
theorem Tabs.below {w w' : World} (h : Tabs w) (hb : Below w.heap.size w w') : Tabs w' :=
  ⟨fun c hc => (hb.cell (p := ⟨_, c, none⟩) (World.block_lt_of_cell? w _ (h.1 c hc))).trans (h.1 c hc),
   fun i hi => ⟨(hb.cell (p := ⟨_, 2 * i, none⟩) (World.block_lt_of_cell? w _ (h.2 i hi).1)).trans (h.2 i hi).1, (hb.cell (p := ⟨_, 2 * i + 1, none⟩) (World.block_lt_of_cell? w _ (h.2 i hi).2)).trans (h.2 i hi).2⟩⟩
set_option maxRecDepth 100000 in
theorem markI_fin : ∀ n : Fin 256, decide (0 ≤ Lib.indexByte [91, 93, 45, 94, 92, 32] (UInt8.ofNat n.val)) = isMark n.val := by decide
theorem list_cons (t : ByteArray) (h : 0 < t.size) : t.data.toList = t[0] :: t.data.toList.drop 1 := by
  have h2 : 0 < t.data.toList.length := by simpa using h
  have : t.data.toList = t.data.toList[0] :: t.data.toList.drop 1 := by
    rw [List.getElem_cons_drop (i := 0) (h := h2)]; rfl
  exact this
theorem isE {t : ByteArray} (h : 0 < t.size) : t.toList.isEmpty = false := by
  rw [Lib.toList_data, list_cons t h]; rfl
theorem markI (c : UInt8) : decide (0 ≤ Lib.indexByte [91, 93, 45, 94, 92, 32] c) = isMark c.toNat := by
  have h := markI_fin ⟨c.toNat, c.toNat_lt⟩
  simpa using h
theorem markIx (c : UInt8) (w : World) (b : Bool) (h : isMark c.toNat = b) : Calls Tryd.prog 92 #[.string ⟨#[91, 93, 45, 94, 92, 32]⟩, .int .u8 (c.toNat : Int)] w fun e w' => (∃ v : Int, e = .returned (.int .i64 v) ∧ (b = true → 0 ≤ v) ∧ (b = false → v < 0)) ∧ w = w' :=
  (Tryd.strings_IndexByte _ _ w).mono fun e w' ⟨he, hw⟩ => ⟨⟨_, he, fun hb => by
    have e1 : (c.toNat : Int).toNat.toUInt8 = c := by simp
    rw [e1]
    have := markI c
    rw [h, hb] at this
    exact of_decide_eq_true this, fun hb => by
    have e1 : (c.toNat : Int).toNat.toUInt8 = c := by simp
    rw [e1]
    have := markI c
    rw [h, hb] at this
    exact Int.not_le.1 (of_decide_eq_false this)⟩, hw.symm⟩
set_option maxRecDepth 100000 in
set_option maxHeartbeats 1600000 in
theorem escape_as (T : ByteArray) (w : World) (n z : Nat) (hq : escP T.data.toList = (n, z)) (hT : T.size ≤ 1000000) :
    Calls Tryd.prog 84 #[.string T] w fun e w' => e = .returned (.tuple #[.int .i32 (n : Int), .int .i64 (z : Int)]) ∧ Below w.heap.size w w' := by
  have hlen := size_list T
  unfold escP at hq
  cases hp : ([117, 123] : List UInt8).isPrefixOf T.data.toList with
  | true =>
    rw [if_pos hp] at hq
    have hl2 := pre_len hp
    have h2 : (2 : Int) ≤ (T.size : Int) := by simp at hl2; omega
    have HC := Lib.hid (fun w => coded_as (T.extract 2 T.size) w n z (by rw [ext_list]; exact hq) (by rw [ext_size]; omega))
    have HP := Lib.hid hp
    clear hq hp hl2 hlen
    go_enter Tryd.func84, Tryd.ntmps84
    go_wp2_with fail
    with_reducible refine (hasP T [117, 123] true _ HP.out).mono ?_
    rintro x wz ⟨rfl, rfl⟩
    go_wp2_with fail
    with_reducible refine (HC.out _).mono ?_
    rintro x w1 ⟨rfl, h1⟩
    go_wp2
    go_ret2
    exact ⟨rfl, h1⟩
  | false =>
    rw [if_neg (by rw [hp]; decide)] at hq
    have HP := Lib.hid hp
    clear hp
    by_cases h0 : T.size = 0
    · have hnil : T.data.toList = [] := List.length_eq_zero_iff.1 (by omega)
      rw [hnil] at hq
      simp only [Prod.mk.injEq] at hq
      obtain ⟨rfl, rfl⟩ := hq
      obtain rfl : T = ByteArray.empty := by
        apply ByteArray.ext
        apply Array.toList_inj.1
        rw [hnil]; rfl
      clear h0 hnil hlen
      go_enter Tryd.func84, Tryd.ntmps84
      go_wp2_with fail
      with_reducible refine (hasP ByteArray.empty [117, 123] false _ HP.out).mono ?_
      rintro x wz ⟨rfl, rfl⟩
      go_wp2
      go_ret2
      exact ⟨rfl, Below.refl _ _⟩
    · have hpos : 0 < T.data.toList.length := by omega
      have hs0 : 0 < T.size := by omega
      have hcons := list_cons T hs0
      have hne3 : T.toList.isEmpty = false := isE hs0
      have hi0 : (0 : Int) < (T.size : Int) := by omega
      rw [hcons] at hq
      dsimp only at hq
      cases hm : isMark T[0].toNat with
      | true =>
        rw [if_pos hm] at hq
        simp only [Prod.mk.injEq] at hq
        obtain ⟨rfl, rfl⟩ := hq
        have HM := Lib.hid hm
        have hb := T[0].toNat_lt
        clear hm hcons hpos h0 hlen
        go_enter Tryd.func84, Tryd.ntmps84
        go_wp2_with fail
        with_reducible refine (hasP T [117, 123] false _ HP.out).mono ?_
        rintro x wz ⟨rfl, rfl⟩
        go_wp2_with fail
        with_reducible refine (markIx T[0] _ _ HM.out).mono ?_
        rintro x wz ⟨⟨v, rfl, hv, _⟩, rfl⟩
        have hv0 := hv rfl
        have hv1 : ¬ v < 0 := by omega
        clear hv
        go_wp2
        go_ret2
        exact ⟨rfl, Below.refl _ _⟩
      | false =>
        rw [if_neg (by rw [hm]; decide)] at hq
        simp only [Prod.mk.injEq] at hq
        obtain ⟨rfl, rfl⟩ := hq
        have HM := Lib.hid hm
        clear hm hcons hpos h0 hlen
        go_enter Tryd.func84, Tryd.ntmps84
        go_wp2_with fail
        with_reducible refine (hasP T [117, 123] false _ HP.out).mono ?_
        rintro x wz ⟨rfl, rfl⟩
        go_wp2_with fail
        with_reducible refine (markIx T[0] _ _ HM.out).mono ?_
        rintro x wz ⟨⟨v, rfl, _, hv⟩, rfl⟩
        have hv0 := hv rfl
        clear hv
        go_wp2
        go_ret2
        exact ⟨rfl, Below.refl _ _⟩
set_option maxRecDepth 100000 in
set_option maxHeartbeats 1600000 in
theorem number_as (T : ByteArray) (w : World) (hTab : Tabs w) (n z : Nat) (hq : numP T.data.toList = (n, z)) (hT : T.size ≤ 1000000) :
    Calls Tryd.prog 78 #[.string T] w fun e w' => e = .returned (.tuple #[.int .i32 (n : Int), .int .i64 (z : Int)]) ∧ Below w.heap.size w w' := by
  have hlen := size_list T
  have hbd := (num_le T.data.toList).1
  rw [hq] at hbd
  unfold numP at hq
  cases hp : ([92] : List UInt8).isPrefixOf T.data.toList with
  | true =>
    rw [if_pos hp] at hq
    have hl2 := pre_len hp
    have h2 : (1 : Int) ≤ (T.size : Int) := by simp at hl2; omega
    have HC := Lib.hid (fun w => escape_as (T.extract 1 T.size) w n z (by rw [ext_list]; exact hq) (by rw [ext_size]; omega))
    have HP := Lib.hid hp
    clear hq hp hl2 hlen
    go_enter Tryd.func78, Tryd.ntmps78
    go_wp2_with fail
    with_reducible refine (hasP T [92] true _ HP.out).mono ?_
    rintro x wz ⟨rfl, rfl⟩
    go_wp2_with fail
    with_reducible refine (HC.out _).mono ?_
    rintro x w1 ⟨rfl, h1⟩
    go_wp2
    go_ret2
    exact ⟨rfl, h1⟩
  | false =>
    rw [if_neg (by rw [hp]; decide)] at hq
    have HP := Lib.hid hp
    clear hp
    have hc : Calls Tryd.prog 85 #[.string T] w fun e w' => e = .returned (.tuple #[.int .i32 ((decL T.data.toList).1 : Int), .int .i64 ((decL T.data.toList).2 : Int)]) ∧ Below w.heap.size w w' := by
      rw [← decodeGo_at]; exact Tryd.utf8_DecodeRuneInString T w hTab
    have hok := @decL_ok T.data.toList
    have hne := @decL_ne T.data.toList
    by_cases h0 : lead T.data.toList = 0
    · rw [if_pos (.inl h0)] at hq
      simp only [Prod.mk.injEq] at hq
      obtain ⟨rfl, rfl⟩ := hq
      have h1 := hok.2 h0
      generalize (decL T.data.toList).1 = r at *
      generalize (decL T.data.toList).2 = k at *
      obtain ⟨rfl, hk⟩ := h1
      have hki : (k : Int) ≤ 1 := by omega
      have HC := Lib.hid hc
      clear hc hok hne h0 hk hlen
      go_enter Tryd.func78, Tryd.ntmps78
      go_wp2_with fail
      with_reducible refine (hasP T [92] false _ HP.out).mono ?_
      rintro x wz ⟨rfl, rfl⟩
      go_wp2_with fail
      with_reducible refine HC.out.mono ?_
      rintro x w1 ⟨rfl, h1⟩
      go_wp2
      go_ret2
      exact ⟨rfl, h1⟩
    · have e0 := hne h0
      have hcode := code_top T.data.toList h0
      have hnot : ¬ (code T.data.toList = 65533 ∧ lead T.data.toList ≤ 1) := by
        intro h; exact h0 (hok.1 (by rw [e0]; exact h))
      rw [e0] at hc
      dsimp only at hc
      cases hm : isMark (code T.data.toList) with
      | true =>
        rw [if_pos (.inr hm)] at hq
        simp only [Prod.mk.injEq] at hq
        obtain ⟨rfl, rfl⟩ := hq
        clear e0 hok hne h0
        generalize lead T.data.toList = k at *
        generalize code T.data.toList = r at *
        have HM := Lib.hid hm
        have HC := Lib.hid hc
        have hr1 : ¬ r = 65533 := by rintro rfl; revert hm; decide
        have hr2 : ((r : Int) == 65533) = false := by simp; omega
        have hr3 : ¬ (r : Int) = 65533 := by omega
        clear hc hm hlen hnot
        go_enter Tryd.func78, Tryd.ntmps78
        go_wp2_with fail
        with_reducible refine (hasP T [92] false _ HP.out).mono ?_
        rintro x wz ⟨rfl, rfl⟩
        go_wp2_with fail
        with_reducible refine HC.out.mono ?_
        rintro x w1 ⟨rfl, h1⟩
        go_wp2_with fail
        with_reducible refine (contains_as r _ hcode true HM.out).mono ?_
        rintro x w2 ⟨rfl, h2⟩
        go_wp2
        go_ret2
        exact ⟨rfl, h1.trans (h2.mono h1.size)⟩
      | false =>
        rw [if_neg (by rintro (h | h); exact h0 h; rw [hm] at h; cases h)] at hq
        simp only [Prod.mk.injEq] at hq
        obtain ⟨rfl, rfl⟩ := hq
        clear e0 hok hne h0
        generalize lead T.data.toList = k at *
        generalize code T.data.toList = r at *
        have HM := Lib.hid hm
        have HC := Lib.hid hc
        clear hc hm hlen
        by_cases hr : r = 65533
        · have hk : ¬ (k : Int) ≤ 1 := by omega
          have hr2 : ((r : Int) == 65533) = true := by simp; omega
          clear hr hnot
          go_enter Tryd.func78, Tryd.ntmps78
          go_wp2_with fail
          with_reducible refine (hasP T [92] false _ HP.out).mono ?_
          rintro x wz ⟨rfl, rfl⟩
          go_wp2_with fail
          with_reducible refine HC.out.mono ?_
          rintro x w1 ⟨rfl, h1⟩
          go_wp2_with fail
          with_reducible refine (contains_as r _ hcode false HM.out).mono ?_
          rintro x w2 ⟨rfl, h2⟩
          go_wp2
          go_ret2
          exact ⟨rfl, h1.trans (h2.mono h1.size)⟩
        · have hr2 : ((r : Int) == 65533) = false := by simp; omega
          have hr3 : ¬ (r : Int) = 65533 := by omega
          go_enter Tryd.func78, Tryd.ntmps78
          go_wp2_with fail
          with_reducible refine (hasP T [92] false _ HP.out).mono ?_
          rintro x wz ⟨rfl, rfl⟩
          go_wp2_with fail
          with_reducible refine HC.out.mono ?_
          rintro x w1 ⟨rfl, h1⟩
          go_wp2_with fail
          with_reducible refine (contains_as r _ hcode false HM.out).mono ?_
          rintro x w2 ⟨rfl, h2⟩
          go_wp2
          go_ret2
          exact ⟨rfl, h1.trans (h2.mono h1.size)⟩
end Go.Proofs.YtbfhkcljkblnmaaDoor
