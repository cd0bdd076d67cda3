/- What Text.Write returns: every way through it. -/
import Derived.Test.YtlppofjmkepceaaDoorDecT0
import Derived.Test.YtlppofjmkepceaaDoorDecH
namespace Go.Proofs.YtlppofjmkepceaaDoor
open Go.RowKit Florin
set_option linter.unusedVariables false
set_option linter.unusedSimpArgs false

set_option maxRecDepth 100000 in
set_option maxHeartbeats 3200000 in
theorem w01_n (aw : Option Addr) (lw cw : Nat) (LW : List UInt8) (ap : Option Addr) (lp cp : Nat) (LP : List UInt8) (e : Int) (sg nt : Int) (w : World) (hw : InB w aw lw cw LW) (hp : InB w ap lp cp LP) (htab : Tab w) (h1 : lw ≤ 1100) (h2 : lp ≤ 1100) :
    Calls Tryd.prog 23 #[TV false aw lw cw ap lp cp true e sg nt false] w fun x w' => x = .returned (S (render false (dgs LW) true (dgs LP) false 101 [] [])) ∧ Below w.heap.size w w' := by
  have l1 : (dgs LW).length ≤ 1100 := by rw [dgs_length, hw.1]; exact h1
  have l2 : (dgs LP).length ≤ 1100 := by rw [dgs_length, hp.1]; exact h2
  have HW := Lib.hid hw
  have HP := Lib.hid hp
  have HT := Lib.hid htab
  clear hw hp htab
  go_enter Tryd.func23, Tryd.ntmps23
  go_wp2_with fail
  with_reducible refine (digits_any aw lw cw LW _ (HW.out.below (below_alloc w _)) (by omega)).mono ?_
  rintro x w1 ⟨rfl, hb⟩
  have B1 := Lib.hid ((Box.new w #[.bool false, .slice aw lw cw, .slice ap lp cp, .bool true, .int .i64 e, .int .i64 sg, .int .i64 nt, .bool false] 38).below hb (by simp))
  have b1 := Lib.hid ((below_alloc w (.cells #[.bool false, .slice aw lw cw, .slice ap lp cp, .bool true, .int .i64 e, .int .i64 sg, .int .i64 nt, .bool false] 38)).trans (hb.mono (B' := w.heap.size) (by simp)))
  clear hb
  obtain ⟨c0, c1, c2, c3, c4, c5, c6, c7, clt⟩ := B1.out.eight
  go_wp2_with fail
  with_reducible refine (digits_any ap lp cp LP _ (HP.out.below b1.out) (by omega)).mono ?_
  rintro x w2 ⟨rfl, hb⟩
  have B2 := Lib.hid (B1.out.below hb B1.out.lt)
  have b2 := Lib.hid (b1.out.trans (hb.mono (B' := w.heap.size) b1.out.size))
  clear hb c0 c1 c2 c3 c4 c5 c6 c7 clt B1
  obtain ⟨c0, c1, c2, c3, c4, c5, c6, c7, clt⟩ := B2.out.eight
  go_wp2
  go_ret
  refine ⟨?_, b2.out⟩
  show Ending.returned (.string _) = _
  unfold render sgnL
  simp [arr_append]
set_option maxRecDepth 100000 in
set_option maxHeartbeats 3200000 in
theorem w01_101_m (aw : Option Addr) (lw cw : Nat) (LW : List UInt8) (ap : Option Addr) (lp cp : Nat) (LP : List UInt8) (k : Nat) (hk0 : 0 < k) (hk : k ≤ 11000) (sg nt : Int) (w : World) (hw : InB w aw lw cw LW) (hp : InB w ap lp cp LP) (htab : Tab w) (h1 : lw ≤ 1100) (h2 : lp ≤ 1100) (hc : bits .and .i64 nt 1 = 0) (z : Nat) (hz : z ≤ 3) (hn : bits .and .i64 (nt / 2) 3 = (z : Int)) :
    Calls Tryd.prog 23 #[TV false aw lw cw ap lp cp true (-(k : Int)) sg nt true] w fun x w' => x = .returned (S (render false (dgs LW) true (dgs LP) true 101 [45] (zs z ++ dig k))) ∧ Below w.heap.size w w' := by
  have l1 : (dgs LW).length ≤ 1100 := by rw [dgs_length, hw.1]; exact h1
  have l2 : (dgs LP).length ≤ 1100 := by rw [dgs_length, hp.1]; exact h2
  have dk : (dig k).length ≤ 5 := (dig_length_le k 5).2 (by omega)
  have HE : Hid ((dig k).isEmpty = false) := Lib.hid (ne_empty (by rw [Ne, dig_eq_nil]; omega))
  have HW := Lib.hid hw
  have HP := Lib.hid hp
  have HT := Lib.hid htab
  clear hw hp htab
  go_enter Tryd.func23, Tryd.ntmps23
  go_wp2_with fail
  with_reducible refine (digits_any aw lw cw LW _ (HW.out.below (below_alloc w _)) (by omega)).mono ?_
  rintro x w1 ⟨rfl, hb⟩
  have B1 := Lib.hid ((Box.new w #[.bool false, .slice aw lw cw, .slice ap lp cp, .bool true, .int .i64 (-(k : Int)), .int .i64 sg, .int .i64 nt, .bool true] 38).below hb (by simp))
  have b1 := Lib.hid ((below_alloc w (.cells #[.bool false, .slice aw lw cw, .slice ap lp cp, .bool true, .int .i64 (-(k : Int)), .int .i64 sg, .int .i64 nt, .bool true] 38)).trans (hb.mono (B' := w.heap.size) (by simp)))
  clear hb
  obtain ⟨c0, c1, c2, c3, c4, c5, c6, c7, clt⟩ := B1.out.eight
  go_wp2_with fail
  with_reducible refine (digits_any ap lp cp LP _ (HP.out.below b1.out) (by omega)).mono ?_
  rintro x w2 ⟨rfl, hb⟩
  have B2 := Lib.hid (B1.out.below hb B1.out.lt)
  have b2 := Lib.hid (b1.out.trans (hb.mono (B' := w.heap.size) b1.out.size))
  clear hb c0 c1 c2 c3 c4 c5 c6 c7 clt B1
  obtain ⟨c0, c1, c2, c3, c4, c5, c6, c7, clt⟩ := B2.out.eight
  obtain ⟨X, hX⟩ : ∃ X, X = (dgs LW ++ [46] ++ dgs LP ++ [101] ++ [45]) := ⟨_, rfl⟩
  have xl : X.length ≤ 3000 := by rw [hX]; simp; omega
  have HX := Lib.hid hX
  clear hX
  have b9 := Lib.hid (b2.out.alloc (by have := b2.out.size; simp <;> omega) (.cells #[.string ⟨#[101]⟩, .string ⟨#[69]⟩] 9))
  go_wp2
  go_loop [3, 5] (fun v i => ∃ j : Nat, j ≤ z ∧ i = .int .i64 j ∧ v = S (X ++ zs j)) (fun _ i => z - (intOf i).toNat)
  case atStart =>
    refine ⟨0, Nat.zero_le _, rfl, ?_⟩
    rw [HX.out]
    simp [arr_append, zs]
  case round =>
    obtain ⟨j, hj, rfl, rfl⟩ := hrel
    have hl : (X ++ zs j).length ≤ 4000 := by rw [List.length_append, zs_length]; omega
    by_cases hlt : j < z
    · have HZ : Hid ((⟨(X ++ zs j).toArray⟩ : ByteArray) ++ (⟨#[48]⟩ : ByteArray) = ⟨(X ++ zs (j + 1)).toArray⟩) := Lib.hid (by
        rw [show (⟨#[48]⟩ : ByteArray) = ⟨[48].toArray⟩ from rfl, arr_append, zs_succ, List.append_assoc])
      generalize X ++ zs j = l at *
      go_wp2
      go_round
      case rel => exact ⟨j + 1, by omega, by go_num, by rw [HZ.out]⟩
      case measure => simp [intOf]; omega
    · have HJ : Hid (j = z) := Lib.hid (by omega)
      generalize hL : X ++ zs j = l at *
      have HL := Lib.hid hL
      clear hL
      go_wp2_with fail
      with_reducible refine (ofN k _ (by omega) (HT.out.below b9.out)).mono ?_
      rintro x w3 ⟨rfl, hb⟩
      have b10 := Lib.hid (b9.out.trans (hb.mono (B' := w.heap.size) b9.out.size))
      clear hb
      have hE := HE.out
      go_wp2
      go_ret
      refine ⟨?_, b10.out⟩
      rw [← HL.out, HJ.out, HX.out]
      unfold render sgnL
      simp [arr_append]
set_option maxRecDepth 100000 in
set_option maxHeartbeats 3200000 in
theorem w01_101_z0 (aw : Option Addr) (lw cw : Nat) (LW : List UInt8) (ap : Option Addr) (lp cp : Nat) (LP : List UInt8) (sg nt : Int) (w : World) (hw : InB w aw lw cw LW) (hp : InB w ap lp cp LP) (htab : Tab w) (h1 : lw ≤ 1100) (h2 : lp ≤ 1100) (hc : bits .and .i64 nt 1 = 0) (hs : bits .and .i64 sg 1 = 0) (z : Nat) (hz : z ≤ 3) (hn : bits .and .i64 (nt / 2) 3 = (z : Int)) :
    Calls Tryd.prog 23 #[TV false aw lw cw ap lp cp true 0 sg nt true] w fun x w' => x = .returned (S (render false (dgs LW) true (dgs LP) true 101 [] (zs z ++ [48]))) ∧ Below w.heap.size w w' := by
  have l1 : (dgs LW).length ≤ 1100 := by rw [dgs_length, hw.1]; exact h1
  have l2 : (dgs LP).length ≤ 1100 := by rw [dgs_length, hp.1]; exact h2
  have HW := Lib.hid hw
  have HP := Lib.hid hp
  have HT := Lib.hid htab
  clear hw hp htab
  go_enter Tryd.func23, Tryd.ntmps23
  go_wp2_with fail
  with_reducible refine (digits_any aw lw cw LW _ (HW.out.below (below_alloc w _)) (by omega)).mono ?_
  rintro x w1 ⟨rfl, hb⟩
  have B1 := Lib.hid ((Box.new w #[.bool false, .slice aw lw cw, .slice ap lp cp, .bool true, .int .i64 0, .int .i64 sg, .int .i64 nt, .bool true] 38).below hb (by simp))
  have b1 := Lib.hid ((below_alloc w (.cells #[.bool false, .slice aw lw cw, .slice ap lp cp, .bool true, .int .i64 0, .int .i64 sg, .int .i64 nt, .bool true] 38)).trans (hb.mono (B' := w.heap.size) (by simp)))
  clear hb
  obtain ⟨c0, c1, c2, c3, c4, c5, c6, c7, clt⟩ := B1.out.eight
  go_wp2_with fail
  with_reducible refine (digits_any ap lp cp LP _ (HP.out.below b1.out) (by omega)).mono ?_
  rintro x w2 ⟨rfl, hb⟩
  have B2 := Lib.hid (B1.out.below hb B1.out.lt)
  have b2 := Lib.hid (b1.out.trans (hb.mono (B' := w.heap.size) b1.out.size))
  clear hb c0 c1 c2 c3 c4 c5 c6 c7 clt B1
  obtain ⟨c0, c1, c2, c3, c4, c5, c6, c7, clt⟩ := B2.out.eight
  obtain ⟨X, hX⟩ : ∃ X, X = (dgs LW ++ [46] ++ dgs LP ++ [101]) := ⟨_, rfl⟩
  have xl : X.length ≤ 3000 := by rw [hX]; simp; omega
  have HX := Lib.hid hX
  clear hX
  have b9 := Lib.hid (b2.out.alloc (by have := b2.out.size; simp <;> omega) (.cells #[.string ⟨#[101]⟩, .string ⟨#[69]⟩] 9))
  go_wp2
  go_loop [3, 5] (fun v i => ∃ j : Nat, j ≤ z ∧ i = .int .i64 j ∧ v = S (X ++ zs j)) (fun _ i => z - (intOf i).toNat)
  case atStart =>
    refine ⟨0, Nat.zero_le _, rfl, ?_⟩
    rw [HX.out]
    simp [arr_append, zs]
  case round =>
    obtain ⟨j, hj, rfl, rfl⟩ := hrel
    have hl : (X ++ zs j).length ≤ 4000 := by rw [List.length_append, zs_length]; omega
    by_cases hlt : j < z
    · have HZ : Hid ((⟨(X ++ zs j).toArray⟩ : ByteArray) ++ (⟨#[48]⟩ : ByteArray) = ⟨(X ++ zs (j + 1)).toArray⟩) := Lib.hid (by
        rw [show (⟨#[48]⟩ : ByteArray) = ⟨[48].toArray⟩ from rfl, arr_append, zs_succ, List.append_assoc])
      generalize X ++ zs j = l at *
      go_wp2
      go_round
      case rel => exact ⟨j + 1, by omega, by go_num, by rw [HZ.out]⟩
      case measure => simp [intOf]; omega
    · have HJ : Hid (j = z) := Lib.hid (by omega)
      generalize hL : X ++ zs j = l at *
      have HL := Lib.hid hL
      clear hL
      go_wp2_with fail
      with_reducible refine (ofZ _ (HT.out.below b9.out)).mono ?_
      rintro x w3 ⟨rfl, hb⟩
      have b10 := Lib.hid (b9.out.trans (hb.mono (B' := w.heap.size) b9.out.size))
      clear hb
      go_wp2
      go_ret
      refine ⟨?_, b10.out⟩
      rw [← HL.out, HJ.out, HX.out]
      unfold render sgnL
      simp [arr_append]
set_option maxRecDepth 100000 in
set_option maxHeartbeats 3200000 in
theorem w01_101_p0 (aw : Option Addr) (lw cw : Nat) (LW : List UInt8) (ap : Option Addr) (lp cp : Nat) (LP : List UInt8) (k : Nat) (hk0 : 0 < k) (hk : k ≤ 11000) (sg nt : Int) (w : World) (hw : InB w aw lw cw LW) (hp : InB w ap lp cp LP) (htab : Tab w) (h1 : lw ≤ 1100) (h2 : lp ≤ 1100) (hc : bits .and .i64 nt 1 = 0) (hs : bits .and .i64 sg 1 = 0) (z : Nat) (hz : z ≤ 3) (hn : bits .and .i64 (nt / 2) 3 = (z : Int)) :
    Calls Tryd.prog 23 #[TV false aw lw cw ap lp cp true (k : Int) sg nt true] w fun x w' => x = .returned (S (render false (dgs LW) true (dgs LP) true 101 [] (zs z ++ dig k))) ∧ Below w.heap.size w w' := by
  have l1 : (dgs LW).length ≤ 1100 := by rw [dgs_length, hw.1]; exact h1
  have l2 : (dgs LP).length ≤ 1100 := by rw [dgs_length, hp.1]; exact h2
  have dk : (dig k).length ≤ 5 := (dig_length_le k 5).2 (by omega)
  have HE : Hid ((dig k).isEmpty = false) := Lib.hid (ne_empty (by rw [Ne, dig_eq_nil]; omega))
  have HW := Lib.hid hw
  have HP := Lib.hid hp
  have HT := Lib.hid htab
  clear hw hp htab
  go_enter Tryd.func23, Tryd.ntmps23
  go_wp2_with fail
  with_reducible refine (digits_any aw lw cw LW _ (HW.out.below (below_alloc w _)) (by omega)).mono ?_
  rintro x w1 ⟨rfl, hb⟩
  have B1 := Lib.hid ((Box.new w #[.bool false, .slice aw lw cw, .slice ap lp cp, .bool true, .int .i64 (k : Int), .int .i64 sg, .int .i64 nt, .bool true] 38).below hb (by simp))
  have b1 := Lib.hid ((below_alloc w (.cells #[.bool false, .slice aw lw cw, .slice ap lp cp, .bool true, .int .i64 (k : Int), .int .i64 sg, .int .i64 nt, .bool true] 38)).trans (hb.mono (B' := w.heap.size) (by simp)))
  clear hb
  obtain ⟨c0, c1, c2, c3, c4, c5, c6, c7, clt⟩ := B1.out.eight
  go_wp2_with fail
  with_reducible refine (digits_any ap lp cp LP _ (HP.out.below b1.out) (by omega)).mono ?_
  rintro x w2 ⟨rfl, hb⟩
  have B2 := Lib.hid (B1.out.below hb B1.out.lt)
  have b2 := Lib.hid (b1.out.trans (hb.mono (B' := w.heap.size) b1.out.size))
  clear hb c0 c1 c2 c3 c4 c5 c6 c7 clt B1
  obtain ⟨c0, c1, c2, c3, c4, c5, c6, c7, clt⟩ := B2.out.eight
  obtain ⟨X, hX⟩ : ∃ X, X = (dgs LW ++ [46] ++ dgs LP ++ [101]) := ⟨_, rfl⟩
  have xl : X.length ≤ 3000 := by rw [hX]; simp; omega
  have HX := Lib.hid hX
  clear hX
  have b9 := Lib.hid (b2.out.alloc (by have := b2.out.size; simp <;> omega) (.cells #[.string ⟨#[101]⟩, .string ⟨#[69]⟩] 9))
  go_wp2
  go_loop [3, 5] (fun v i => ∃ j : Nat, j ≤ z ∧ i = .int .i64 j ∧ v = S (X ++ zs j)) (fun _ i => z - (intOf i).toNat)
  case atStart =>
    refine ⟨0, Nat.zero_le _, rfl, ?_⟩
    rw [HX.out]
    simp [arr_append, zs]
  case round =>
    obtain ⟨j, hj, rfl, rfl⟩ := hrel
    have hl : (X ++ zs j).length ≤ 4000 := by rw [List.length_append, zs_length]; omega
    by_cases hlt : j < z
    · have HZ : Hid ((⟨(X ++ zs j).toArray⟩ : ByteArray) ++ (⟨#[48]⟩ : ByteArray) = ⟨(X ++ zs (j + 1)).toArray⟩) := Lib.hid (by
        rw [show (⟨#[48]⟩ : ByteArray) = ⟨[48].toArray⟩ from rfl, arr_append, zs_succ, List.append_assoc])
      generalize X ++ zs j = l at *
      go_wp2
      go_round
      case rel => exact ⟨j + 1, by omega, by go_num, by rw [HZ.out]⟩
      case measure => simp [intOf]; omega
    · have HJ : Hid (j = z) := Lib.hid (by omega)
      generalize hL : X ++ zs j = l at *
      have HL := Lib.hid hL
      clear hL
      go_wp2_with fail
      with_reducible refine (ofN k _ (by omega) (HT.out.below b9.out)).mono ?_
      rintro x w3 ⟨rfl, hb⟩
      have b10 := Lib.hid (b9.out.trans (hb.mono (B' := w.heap.size) b9.out.size))
      clear hb
      have hE := HE.out
      go_wp2
      go_ret
      refine ⟨?_, b10.out⟩
      rw [← HL.out, HJ.out, HX.out]
      unfold render sgnL
      simp [arr_append]
set_option maxRecDepth 100000 in
set_option maxHeartbeats 3200000 in
theorem w01_101_z1 (aw : Option Addr) (lw cw : Nat) (LW : List UInt8) (ap : Option Addr) (lp cp : Nat) (LP : List UInt8) (sg nt : Int) (w : World) (hw : InB w aw lw cw LW) (hp : InB w ap lp cp LP) (htab : Tab w) (h1 : lw ≤ 1100) (h2 : lp ≤ 1100) (hc : bits .and .i64 nt 1 = 0) (hs : bits .and .i64 sg 1 = 1) (z : Nat) (hz : z ≤ 3) (hn : bits .and .i64 (nt / 2) 3 = (z : Int)) :
    Calls Tryd.prog 23 #[TV false aw lw cw ap lp cp true 0 sg nt true] w fun x w' => x = .returned (S (render false (dgs LW) true (dgs LP) true 101 [43] (zs z ++ [48]))) ∧ Below w.heap.size w w' := by
  have l1 : (dgs LW).length ≤ 1100 := by rw [dgs_length, hw.1]; exact h1
  have l2 : (dgs LP).length ≤ 1100 := by rw [dgs_length, hp.1]; exact h2
  have HW := Lib.hid hw
  have HP := Lib.hid hp
  have HT := Lib.hid htab
  clear hw hp htab
  go_enter Tryd.func23, Tryd.ntmps23
  go_wp2_with fail
  with_reducible refine (digits_any aw lw cw LW _ (HW.out.below (below_alloc w _)) (by omega)).mono ?_
  rintro x w1 ⟨rfl, hb⟩
  have B1 := Lib.hid ((Box.new w #[.bool false, .slice aw lw cw, .slice ap lp cp, .bool true, .int .i64 0, .int .i64 sg, .int .i64 nt, .bool true] 38).below hb (by simp))
  have b1 := Lib.hid ((below_alloc w (.cells #[.bool false, .slice aw lw cw, .slice ap lp cp, .bool true, .int .i64 0, .int .i64 sg, .int .i64 nt, .bool true] 38)).trans (hb.mono (B' := w.heap.size) (by simp)))
  clear hb
  obtain ⟨c0, c1, c2, c3, c4, c5, c6, c7, clt⟩ := B1.out.eight
  go_wp2_with fail
  with_reducible refine (digits_any ap lp cp LP _ (HP.out.below b1.out) (by omega)).mono ?_
  rintro x w2 ⟨rfl, hb⟩
  have B2 := Lib.hid (B1.out.below hb B1.out.lt)
  have b2 := Lib.hid (b1.out.trans (hb.mono (B' := w.heap.size) b1.out.size))
  clear hb c0 c1 c2 c3 c4 c5 c6 c7 clt B1
  obtain ⟨c0, c1, c2, c3, c4, c5, c6, c7, clt⟩ := B2.out.eight
  obtain ⟨X, hX⟩ : ∃ X, X = (dgs LW ++ [46] ++ dgs LP ++ [101] ++ [43]) := ⟨_, rfl⟩
  have xl : X.length ≤ 3000 := by rw [hX]; simp; omega
  have HX := Lib.hid hX
  clear hX
  have b9 := Lib.hid (b2.out.alloc (by have := b2.out.size; simp <;> omega) (.cells #[.string ⟨#[101]⟩, .string ⟨#[69]⟩] 9))
  go_wp2
  go_loop [3, 5] (fun v i => ∃ j : Nat, j ≤ z ∧ i = .int .i64 j ∧ v = S (X ++ zs j)) (fun _ i => z - (intOf i).toNat)
  case atStart =>
    refine ⟨0, Nat.zero_le _, rfl, ?_⟩
    rw [HX.out]
    simp [arr_append, zs]
  case round =>
    obtain ⟨j, hj, rfl, rfl⟩ := hrel
    have hl : (X ++ zs j).length ≤ 4000 := by rw [List.length_append, zs_length]; omega
    by_cases hlt : j < z
    · have HZ : Hid ((⟨(X ++ zs j).toArray⟩ : ByteArray) ++ (⟨#[48]⟩ : ByteArray) = ⟨(X ++ zs (j + 1)).toArray⟩) := Lib.hid (by
        rw [show (⟨#[48]⟩ : ByteArray) = ⟨[48].toArray⟩ from rfl, arr_append, zs_succ, List.append_assoc])
      generalize X ++ zs j = l at *
      go_wp2
      go_round
      case rel => exact ⟨j + 1, by omega, by go_num, by rw [HZ.out]⟩
      case measure => simp [intOf]; omega
    · have HJ : Hid (j = z) := Lib.hid (by omega)
      generalize hL : X ++ zs j = l at *
      have HL := Lib.hid hL
      clear hL
      go_wp2_with fail
      with_reducible refine (ofZ _ (HT.out.below b9.out)).mono ?_
      rintro x w3 ⟨rfl, hb⟩
      have b10 := Lib.hid (b9.out.trans (hb.mono (B' := w.heap.size) b9.out.size))
      clear hb
      go_wp2
      go_ret
      refine ⟨?_, b10.out⟩
      rw [← HL.out, HJ.out, HX.out]
      unfold render sgnL
      simp [arr_append]
set_option maxRecDepth 100000 in
set_option maxHeartbeats 3200000 in
theorem w01_101_p1 (aw : Option Addr) (lw cw : Nat) (LW : List UInt8) (ap : Option Addr) (lp cp : Nat) (LP : List UInt8) (k : Nat) (hk0 : 0 < k) (hk : k ≤ 11000) (sg nt : Int) (w : World) (hw : InB w aw lw cw LW) (hp : InB w ap lp cp LP) (htab : Tab w) (h1 : lw ≤ 1100) (h2 : lp ≤ 1100) (hc : bits .and .i64 nt 1 = 0) (hs : bits .and .i64 sg 1 = 1) (z : Nat) (hz : z ≤ 3) (hn : bits .and .i64 (nt / 2) 3 = (z : Int)) :
    Calls Tryd.prog 23 #[TV false aw lw cw ap lp cp true (k : Int) sg nt true] w fun x w' => x = .returned (S (render false (dgs LW) true (dgs LP) true 101 [43] (zs z ++ dig k))) ∧ Below w.heap.size w w' := by
  have l1 : (dgs LW).length ≤ 1100 := by rw [dgs_length, hw.1]; exact h1
  have l2 : (dgs LP).length ≤ 1100 := by rw [dgs_length, hp.1]; exact h2
  have dk : (dig k).length ≤ 5 := (dig_length_le k 5).2 (by omega)
  have HE : Hid ((dig k).isEmpty = false) := Lib.hid (ne_empty (by rw [Ne, dig_eq_nil]; omega))
  have HW := Lib.hid hw
  have HP := Lib.hid hp
  have HT := Lib.hid htab
  clear hw hp htab
  go_enter Tryd.func23, Tryd.ntmps23
  go_wp2_with fail
  with_reducible refine (digits_any aw lw cw LW _ (HW.out.below (below_alloc w _)) (by omega)).mono ?_
  rintro x w1 ⟨rfl, hb⟩
  have B1 := Lib.hid ((Box.new w #[.bool false, .slice aw lw cw, .slice ap lp cp, .bool true, .int .i64 (k : Int), .int .i64 sg, .int .i64 nt, .bool true] 38).below hb (by simp))
  have b1 := Lib.hid ((below_alloc w (.cells #[.bool false, .slice aw lw cw, .slice ap lp cp, .bool true, .int .i64 (k : Int), .int .i64 sg, .int .i64 nt, .bool true] 38)).trans (hb.mono (B' := w.heap.size) (by simp)))
  clear hb
  obtain ⟨c0, c1, c2, c3, c4, c5, c6, c7, clt⟩ := B1.out.eight
  go_wp2_with fail
  with_reducible refine (digits_any ap lp cp LP _ (HP.out.below b1.out) (by omega)).mono ?_
  rintro x w2 ⟨rfl, hb⟩
  have B2 := Lib.hid (B1.out.below hb B1.out.lt)
  have b2 := Lib.hid (b1.out.trans (hb.mono (B' := w.heap.size) b1.out.size))
  clear hb c0 c1 c2 c3 c4 c5 c6 c7 clt B1
  obtain ⟨c0, c1, c2, c3, c4, c5, c6, c7, clt⟩ := B2.out.eight
  obtain ⟨X, hX⟩ : ∃ X, X = (dgs LW ++ [46] ++ dgs LP ++ [101] ++ [43]) := ⟨_, rfl⟩
  have xl : X.length ≤ 3000 := by rw [hX]; simp; omega
  have HX := Lib.hid hX
  clear hX
  have b9 := Lib.hid (b2.out.alloc (by have := b2.out.size; simp <;> omega) (.cells #[.string ⟨#[101]⟩, .string ⟨#[69]⟩] 9))
  go_wp2
  go_loop [3, 5] (fun v i => ∃ j : Nat, j ≤ z ∧ i = .int .i64 j ∧ v = S (X ++ zs j)) (fun _ i => z - (intOf i).toNat)
  case atStart =>
    refine ⟨0, Nat.zero_le _, rfl, ?_⟩
    rw [HX.out]
    simp [arr_append, zs]
  case round =>
    obtain ⟨j, hj, rfl, rfl⟩ := hrel
    have hl : (X ++ zs j).length ≤ 4000 := by rw [List.length_append, zs_length]; omega
    by_cases hlt : j < z
    · have HZ : Hid ((⟨(X ++ zs j).toArray⟩ : ByteArray) ++ (⟨#[48]⟩ : ByteArray) = ⟨(X ++ zs (j + 1)).toArray⟩) := Lib.hid (by
        rw [show (⟨#[48]⟩ : ByteArray) = ⟨[48].toArray⟩ from rfl, arr_append, zs_succ, List.append_assoc])
      generalize X ++ zs j = l at *
      go_wp2
      go_round
      case rel => exact ⟨j + 1, by omega, by go_num, by rw [HZ.out]⟩
      case measure => simp [intOf]; omega
    · have HJ : Hid (j = z) := Lib.hid (by omega)
      generalize hL : X ++ zs j = l at *
      have HL := Lib.hid hL
      clear hL
      go_wp2_with fail
      with_reducible refine (ofN k _ (by omega) (HT.out.below b9.out)).mono ?_
      rintro x w3 ⟨rfl, hb⟩
      have b10 := Lib.hid (b9.out.trans (hb.mono (B' := w.heap.size) b9.out.size))
      clear hb
      have hE := HE.out
      go_wp2
      go_ret
      refine ⟨?_, b10.out⟩
      rw [← HL.out, HJ.out, HX.out]
      unfold render sgnL
      simp [arr_append]
set_option maxRecDepth 100000 in
set_option maxHeartbeats 3200000 in
theorem w01_69_m (aw : Option Addr) (lw cw : Nat) (LW : List UInt8) (ap : Option Addr) (lp cp : Nat) (LP : List UInt8) (k : Nat) (hk0 : 0 < k) (hk : k ≤ 11000) (sg nt : Int) (w : World) (hw : InB w aw lw cw LW) (hp : InB w ap lp cp LP) (htab : Tab w) (h1 : lw ≤ 1100) (h2 : lp ≤ 1100) (hc : bits .and .i64 nt 1 = 1) (z : Nat) (hz : z ≤ 3) (hn : bits .and .i64 (nt / 2) 3 = (z : Int)) :
    Calls Tryd.prog 23 #[TV false aw lw cw ap lp cp true (-(k : Int)) sg nt true] w fun x w' => x = .returned (S (render false (dgs LW) true (dgs LP) true 69 [45] (zs z ++ dig k))) ∧ Below w.heap.size w w' := by
  have l1 : (dgs LW).length ≤ 1100 := by rw [dgs_length, hw.1]; exact h1
  have l2 : (dgs LP).length ≤ 1100 := by rw [dgs_length, hp.1]; exact h2
  have dk : (dig k).length ≤ 5 := (dig_length_le k 5).2 (by omega)
  have HE : Hid ((dig k).isEmpty = false) := Lib.hid (ne_empty (by rw [Ne, dig_eq_nil]; omega))
  have HW := Lib.hid hw
  have HP := Lib.hid hp
  have HT := Lib.hid htab
  clear hw hp htab
  go_enter Tryd.func23, Tryd.ntmps23
  go_wp2_with fail
  with_reducible refine (digits_any aw lw cw LW _ (HW.out.below (below_alloc w _)) (by omega)).mono ?_
  rintro x w1 ⟨rfl, hb⟩
  have B1 := Lib.hid ((Box.new w #[.bool false, .slice aw lw cw, .slice ap lp cp, .bool true, .int .i64 (-(k : Int)), .int .i64 sg, .int .i64 nt, .bool true] 38).below hb (by simp))
  have b1 := Lib.hid ((below_alloc w (.cells #[.bool false, .slice aw lw cw, .slice ap lp cp, .bool true, .int .i64 (-(k : Int)), .int .i64 sg, .int .i64 nt, .bool true] 38)).trans (hb.mono (B' := w.heap.size) (by simp)))
  clear hb
  obtain ⟨c0, c1, c2, c3, c4, c5, c6, c7, clt⟩ := B1.out.eight
  go_wp2_with fail
  with_reducible refine (digits_any ap lp cp LP _ (HP.out.below b1.out) (by omega)).mono ?_
  rintro x w2 ⟨rfl, hb⟩
  have B2 := Lib.hid (B1.out.below hb B1.out.lt)
  have b2 := Lib.hid (b1.out.trans (hb.mono (B' := w.heap.size) b1.out.size))
  clear hb c0 c1 c2 c3 c4 c5 c6 c7 clt B1
  obtain ⟨c0, c1, c2, c3, c4, c5, c6, c7, clt⟩ := B2.out.eight
  obtain ⟨X, hX⟩ : ∃ X, X = (dgs LW ++ [46] ++ dgs LP ++ [69] ++ [45]) := ⟨_, rfl⟩
  have xl : X.length ≤ 3000 := by rw [hX]; simp; omega
  have HX := Lib.hid hX
  clear hX
  have b9 := Lib.hid (b2.out.alloc (by have := b2.out.size; simp <;> omega) (.cells #[.string ⟨#[101]⟩, .string ⟨#[69]⟩] 9))
  go_wp2
  go_loop [3, 5] (fun v i => ∃ j : Nat, j ≤ z ∧ i = .int .i64 j ∧ v = S (X ++ zs j)) (fun _ i => z - (intOf i).toNat)
  case atStart =>
    refine ⟨0, Nat.zero_le _, rfl, ?_⟩
    rw [HX.out]
    simp [arr_append, zs]
  case round =>
    obtain ⟨j, hj, rfl, rfl⟩ := hrel
    have hl : (X ++ zs j).length ≤ 4000 := by rw [List.length_append, zs_length]; omega
    by_cases hlt : j < z
    · have HZ : Hid ((⟨(X ++ zs j).toArray⟩ : ByteArray) ++ (⟨#[48]⟩ : ByteArray) = ⟨(X ++ zs (j + 1)).toArray⟩) := Lib.hid (by
        rw [show (⟨#[48]⟩ : ByteArray) = ⟨[48].toArray⟩ from rfl, arr_append, zs_succ, List.append_assoc])
      generalize X ++ zs j = l at *
      go_wp2
      go_round
      case rel => exact ⟨j + 1, by omega, by go_num, by rw [HZ.out]⟩
      case measure => simp [intOf]; omega
    · have HJ : Hid (j = z) := Lib.hid (by omega)
      generalize hL : X ++ zs j = l at *
      have HL := Lib.hid hL
      clear hL
      go_wp2_with fail
      with_reducible refine (ofN k _ (by omega) (HT.out.below b9.out)).mono ?_
      rintro x w3 ⟨rfl, hb⟩
      have b10 := Lib.hid (b9.out.trans (hb.mono (B' := w.heap.size) b9.out.size))
      clear hb
      have hE := HE.out
      go_wp2
      go_ret
      refine ⟨?_, b10.out⟩
      rw [← HL.out, HJ.out, HX.out]
      unfold render sgnL
      simp [arr_append]
set_option maxRecDepth 100000 in
set_option maxHeartbeats 3200000 in
theorem w01_69_z0 (aw : Option Addr) (lw cw : Nat) (LW : List UInt8) (ap : Option Addr) (lp cp : Nat) (LP : List UInt8) (sg nt : Int) (w : World) (hw : InB w aw lw cw LW) (hp : InB w ap lp cp LP) (htab : Tab w) (h1 : lw ≤ 1100) (h2 : lp ≤ 1100) (hc : bits .and .i64 nt 1 = 1) (hs : bits .and .i64 sg 1 = 0) (z : Nat) (hz : z ≤ 3) (hn : bits .and .i64 (nt / 2) 3 = (z : Int)) :
    Calls Tryd.prog 23 #[TV false aw lw cw ap lp cp true 0 sg nt true] w fun x w' => x = .returned (S (render false (dgs LW) true (dgs LP) true 69 [] (zs z ++ [48]))) ∧ Below w.heap.size w w' := by
  have l1 : (dgs LW).length ≤ 1100 := by rw [dgs_length, hw.1]; exact h1
  have l2 : (dgs LP).length ≤ 1100 := by rw [dgs_length, hp.1]; exact h2
  have HW := Lib.hid hw
  have HP := Lib.hid hp
  have HT := Lib.hid htab
  clear hw hp htab
  go_enter Tryd.func23, Tryd.ntmps23
  go_wp2_with fail
  with_reducible refine (digits_any aw lw cw LW _ (HW.out.below (below_alloc w _)) (by omega)).mono ?_
  rintro x w1 ⟨rfl, hb⟩
  have B1 := Lib.hid ((Box.new w #[.bool false, .slice aw lw cw, .slice ap lp cp, .bool true, .int .i64 0, .int .i64 sg, .int .i64 nt, .bool true] 38).below hb (by simp))
  have b1 := Lib.hid ((below_alloc w (.cells #[.bool false, .slice aw lw cw, .slice ap lp cp, .bool true, .int .i64 0, .int .i64 sg, .int .i64 nt, .bool true] 38)).trans (hb.mono (B' := w.heap.size) (by simp)))
  clear hb
  obtain ⟨c0, c1, c2, c3, c4, c5, c6, c7, clt⟩ := B1.out.eight
  go_wp2_with fail
  with_reducible refine (digits_any ap lp cp LP _ (HP.out.below b1.out) (by omega)).mono ?_
  rintro x w2 ⟨rfl, hb⟩
  have B2 := Lib.hid (B1.out.below hb B1.out.lt)
  have b2 := Lib.hid (b1.out.trans (hb.mono (B' := w.heap.size) b1.out.size))
  clear hb c0 c1 c2 c3 c4 c5 c6 c7 clt B1
  obtain ⟨c0, c1, c2, c3, c4, c5, c6, c7, clt⟩ := B2.out.eight
  obtain ⟨X, hX⟩ : ∃ X, X = (dgs LW ++ [46] ++ dgs LP ++ [69]) := ⟨_, rfl⟩
  have xl : X.length ≤ 3000 := by rw [hX]; simp; omega
  have HX := Lib.hid hX
  clear hX
  have b9 := Lib.hid (b2.out.alloc (by have := b2.out.size; simp <;> omega) (.cells #[.string ⟨#[101]⟩, .string ⟨#[69]⟩] 9))
  go_wp2
  go_loop [3, 5] (fun v i => ∃ j : Nat, j ≤ z ∧ i = .int .i64 j ∧ v = S (X ++ zs j)) (fun _ i => z - (intOf i).toNat)
  case atStart =>
    refine ⟨0, Nat.zero_le _, rfl, ?_⟩
    rw [HX.out]
    simp [arr_append, zs]
  case round =>
    obtain ⟨j, hj, rfl, rfl⟩ := hrel
    have hl : (X ++ zs j).length ≤ 4000 := by rw [List.length_append, zs_length]; omega
    by_cases hlt : j < z
    · have HZ : Hid ((⟨(X ++ zs j).toArray⟩ : ByteArray) ++ (⟨#[48]⟩ : ByteArray) = ⟨(X ++ zs (j + 1)).toArray⟩) := Lib.hid (by
        rw [show (⟨#[48]⟩ : ByteArray) = ⟨[48].toArray⟩ from rfl, arr_append, zs_succ, List.append_assoc])
      generalize X ++ zs j = l at *
      go_wp2
      go_round
      case rel => exact ⟨j + 1, by omega, by go_num, by rw [HZ.out]⟩
      case measure => simp [intOf]; omega
    · have HJ : Hid (j = z) := Lib.hid (by omega)
      generalize hL : X ++ zs j = l at *
      have HL := Lib.hid hL
      clear hL
      go_wp2_with fail
      with_reducible refine (ofZ _ (HT.out.below b9.out)).mono ?_
      rintro x w3 ⟨rfl, hb⟩
      have b10 := Lib.hid (b9.out.trans (hb.mono (B' := w.heap.size) b9.out.size))
      clear hb
      go_wp2
      go_ret
      refine ⟨?_, b10.out⟩
      rw [← HL.out, HJ.out, HX.out]
      unfold render sgnL
      simp [arr_append]
set_option maxRecDepth 100000 in
set_option maxHeartbeats 3200000 in
theorem w01_69_p0 (aw : Option Addr) (lw cw : Nat) (LW : List UInt8) (ap : Option Addr) (lp cp : Nat) (LP : List UInt8) (k : Nat) (hk0 : 0 < k) (hk : k ≤ 11000) (sg nt : Int) (w : World) (hw : InB w aw lw cw LW) (hp : InB w ap lp cp LP) (htab : Tab w) (h1 : lw ≤ 1100) (h2 : lp ≤ 1100) (hc : bits .and .i64 nt 1 = 1) (hs : bits .and .i64 sg 1 = 0) (z : Nat) (hz : z ≤ 3) (hn : bits .and .i64 (nt / 2) 3 = (z : Int)) :
    Calls Tryd.prog 23 #[TV false aw lw cw ap lp cp true (k : Int) sg nt true] w fun x w' => x = .returned (S (render false (dgs LW) true (dgs LP) true 69 [] (zs z ++ dig k))) ∧ Below w.heap.size w w' := by
  have l1 : (dgs LW).length ≤ 1100 := by rw [dgs_length, hw.1]; exact h1
  have l2 : (dgs LP).length ≤ 1100 := by rw [dgs_length, hp.1]; exact h2
  have dk : (dig k).length ≤ 5 := (dig_length_le k 5).2 (by omega)
  have HE : Hid ((dig k).isEmpty = false) := Lib.hid (ne_empty (by rw [Ne, dig_eq_nil]; omega))
  have HW := Lib.hid hw
  have HP := Lib.hid hp
  have HT := Lib.hid htab
  clear hw hp htab
  go_enter Tryd.func23, Tryd.ntmps23
  go_wp2_with fail
  with_reducible refine (digits_any aw lw cw LW _ (HW.out.below (below_alloc w _)) (by omega)).mono ?_
  rintro x w1 ⟨rfl, hb⟩
  have B1 := Lib.hid ((Box.new w #[.bool false, .slice aw lw cw, .slice ap lp cp, .bool true, .int .i64 (k : Int), .int .i64 sg, .int .i64 nt, .bool true] 38).below hb (by simp))
  have b1 := Lib.hid ((below_alloc w (.cells #[.bool false, .slice aw lw cw, .slice ap lp cp, .bool true, .int .i64 (k : Int), .int .i64 sg, .int .i64 nt, .bool true] 38)).trans (hb.mono (B' := w.heap.size) (by simp)))
  clear hb
  obtain ⟨c0, c1, c2, c3, c4, c5, c6, c7, clt⟩ := B1.out.eight
  go_wp2_with fail
  with_reducible refine (digits_any ap lp cp LP _ (HP.out.below b1.out) (by omega)).mono ?_
  rintro x w2 ⟨rfl, hb⟩
  have B2 := Lib.hid (B1.out.below hb B1.out.lt)
  have b2 := Lib.hid (b1.out.trans (hb.mono (B' := w.heap.size) b1.out.size))
  clear hb c0 c1 c2 c3 c4 c5 c6 c7 clt B1
  obtain ⟨c0, c1, c2, c3, c4, c5, c6, c7, clt⟩ := B2.out.eight
  obtain ⟨X, hX⟩ : ∃ X, X = (dgs LW ++ [46] ++ dgs LP ++ [69]) := ⟨_, rfl⟩
  have xl : X.length ≤ 3000 := by rw [hX]; simp; omega
  have HX := Lib.hid hX
  clear hX
  have b9 := Lib.hid (b2.out.alloc (by have := b2.out.size; simp <;> omega) (.cells #[.string ⟨#[101]⟩, .string ⟨#[69]⟩] 9))
  go_wp2
  go_loop [3, 5] (fun v i => ∃ j : Nat, j ≤ z ∧ i = .int .i64 j ∧ v = S (X ++ zs j)) (fun _ i => z - (intOf i).toNat)
  case atStart =>
    refine ⟨0, Nat.zero_le _, rfl, ?_⟩
    rw [HX.out]
    simp [arr_append, zs]
  case round =>
    obtain ⟨j, hj, rfl, rfl⟩ := hrel
    have hl : (X ++ zs j).length ≤ 4000 := by rw [List.length_append, zs_length]; omega
    by_cases hlt : j < z
    · have HZ : Hid ((⟨(X ++ zs j).toArray⟩ : ByteArray) ++ (⟨#[48]⟩ : ByteArray) = ⟨(X ++ zs (j + 1)).toArray⟩) := Lib.hid (by
        rw [show (⟨#[48]⟩ : ByteArray) = ⟨[48].toArray⟩ from rfl, arr_append, zs_succ, List.append_assoc])
      generalize X ++ zs j = l at *
      go_wp2
      go_round
      case rel => exact ⟨j + 1, by omega, by go_num, by rw [HZ.out]⟩
      case measure => simp [intOf]; omega
    · have HJ : Hid (j = z) := Lib.hid (by omega)
      generalize hL : X ++ zs j = l at *
      have HL := Lib.hid hL
      clear hL
      go_wp2_with fail
      with_reducible refine (ofN k _ (by omega) (HT.out.below b9.out)).mono ?_
      rintro x w3 ⟨rfl, hb⟩
      have b10 := Lib.hid (b9.out.trans (hb.mono (B' := w.heap.size) b9.out.size))
      clear hb
      have hE := HE.out
      go_wp2
      go_ret
      refine ⟨?_, b10.out⟩
      rw [← HL.out, HJ.out, HX.out]
      unfold render sgnL
      simp [arr_append]
set_option maxRecDepth 100000 in
set_option maxHeartbeats 3200000 in
theorem w01_69_z1 (aw : Option Addr) (lw cw : Nat) (LW : List UInt8) (ap : Option Addr) (lp cp : Nat) (LP : List UInt8) (sg nt : Int) (w : World) (hw : InB w aw lw cw LW) (hp : InB w ap lp cp LP) (htab : Tab w) (h1 : lw ≤ 1100) (h2 : lp ≤ 1100) (hc : bits .and .i64 nt 1 = 1) (hs : bits .and .i64 sg 1 = 1) (z : Nat) (hz : z ≤ 3) (hn : bits .and .i64 (nt / 2) 3 = (z : Int)) :
    Calls Tryd.prog 23 #[TV false aw lw cw ap lp cp true 0 sg nt true] w fun x w' => x = .returned (S (render false (dgs LW) true (dgs LP) true 69 [43] (zs z ++ [48]))) ∧ Below w.heap.size w w' := by
  have l1 : (dgs LW).length ≤ 1100 := by rw [dgs_length, hw.1]; exact h1
  have l2 : (dgs LP).length ≤ 1100 := by rw [dgs_length, hp.1]; exact h2
  have HW := Lib.hid hw
  have HP := Lib.hid hp
  have HT := Lib.hid htab
  clear hw hp htab
  go_enter Tryd.func23, Tryd.ntmps23
  go_wp2_with fail
  with_reducible refine (digits_any aw lw cw LW _ (HW.out.below (below_alloc w _)) (by omega)).mono ?_
  rintro x w1 ⟨rfl, hb⟩
  have B1 := Lib.hid ((Box.new w #[.bool false, .slice aw lw cw, .slice ap lp cp, .bool true, .int .i64 0, .int .i64 sg, .int .i64 nt, .bool true] 38).below hb (by simp))
  have b1 := Lib.hid ((below_alloc w (.cells #[.bool false, .slice aw lw cw, .slice ap lp cp, .bool true, .int .i64 0, .int .i64 sg, .int .i64 nt, .bool true] 38)).trans (hb.mono (B' := w.heap.size) (by simp)))
  clear hb
  obtain ⟨c0, c1, c2, c3, c4, c5, c6, c7, clt⟩ := B1.out.eight
  go_wp2_with fail
  with_reducible refine (digits_any ap lp cp LP _ (HP.out.below b1.out) (by omega)).mono ?_
  rintro x w2 ⟨rfl, hb⟩
  have B2 := Lib.hid (B1.out.below hb B1.out.lt)
  have b2 := Lib.hid (b1.out.trans (hb.mono (B' := w.heap.size) b1.out.size))
  clear hb c0 c1 c2 c3 c4 c5 c6 c7 clt B1
  obtain ⟨c0, c1, c2, c3, c4, c5, c6, c7, clt⟩ := B2.out.eight
  obtain ⟨X, hX⟩ : ∃ X, X = (dgs LW ++ [46] ++ dgs LP ++ [69] ++ [43]) := ⟨_, rfl⟩
  have xl : X.length ≤ 3000 := by rw [hX]; simp; omega
  have HX := Lib.hid hX
  clear hX
  have b9 := Lib.hid (b2.out.alloc (by have := b2.out.size; simp <;> omega) (.cells #[.string ⟨#[101]⟩, .string ⟨#[69]⟩] 9))
  go_wp2
  go_loop [3, 5] (fun v i => ∃ j : Nat, j ≤ z ∧ i = .int .i64 j ∧ v = S (X ++ zs j)) (fun _ i => z - (intOf i).toNat)
  case atStart =>
    refine ⟨0, Nat.zero_le _, rfl, ?_⟩
    rw [HX.out]
    simp [arr_append, zs]
  case round =>
    obtain ⟨j, hj, rfl, rfl⟩ := hrel
    have hl : (X ++ zs j).length ≤ 4000 := by rw [List.length_append, zs_length]; omega
    by_cases hlt : j < z
    · have HZ : Hid ((⟨(X ++ zs j).toArray⟩ : ByteArray) ++ (⟨#[48]⟩ : ByteArray) = ⟨(X ++ zs (j + 1)).toArray⟩) := Lib.hid (by
        rw [show (⟨#[48]⟩ : ByteArray) = ⟨[48].toArray⟩ from rfl, arr_append, zs_succ, List.append_assoc])
      generalize X ++ zs j = l at *
      go_wp2
      go_round
      case rel => exact ⟨j + 1, by omega, by go_num, by rw [HZ.out]⟩
      case measure => simp [intOf]; omega
    · have HJ : Hid (j = z) := Lib.hid (by omega)
      generalize hL : X ++ zs j = l at *
      have HL := Lib.hid hL
      clear hL
      go_wp2_with fail
      with_reducible refine (ofZ _ (HT.out.below b9.out)).mono ?_
      rintro x w3 ⟨rfl, hb⟩
      have b10 := Lib.hid (b9.out.trans (hb.mono (B' := w.heap.size) b9.out.size))
      clear hb
      go_wp2
      go_ret
      refine ⟨?_, b10.out⟩
      rw [← HL.out, HJ.out, HX.out]
      unfold render sgnL
      simp [arr_append]
set_option maxRecDepth 100000 in
set_option maxHeartbeats 3200000 in
theorem w01_69_p1 (aw : Option Addr) (lw cw : Nat) (LW : List UInt8) (ap : Option Addr) (lp cp : Nat) (LP : List UInt8) (k : Nat) (hk0 : 0 < k) (hk : k ≤ 11000) (sg nt : Int) (w : World) (hw : InB w aw lw cw LW) (hp : InB w ap lp cp LP) (htab : Tab w) (h1 : lw ≤ 1100) (h2 : lp ≤ 1100) (hc : bits .and .i64 nt 1 = 1) (hs : bits .and .i64 sg 1 = 1) (z : Nat) (hz : z ≤ 3) (hn : bits .and .i64 (nt / 2) 3 = (z : Int)) :
    Calls Tryd.prog 23 #[TV false aw lw cw ap lp cp true (k : Int) sg nt true] w fun x w' => x = .returned (S (render false (dgs LW) true (dgs LP) true 69 [43] (zs z ++ dig k))) ∧ Below w.heap.size w w' := by
  have l1 : (dgs LW).length ≤ 1100 := by rw [dgs_length, hw.1]; exact h1
  have l2 : (dgs LP).length ≤ 1100 := by rw [dgs_length, hp.1]; exact h2
  have dk : (dig k).length ≤ 5 := (dig_length_le k 5).2 (by omega)
  have HE : Hid ((dig k).isEmpty = false) := Lib.hid (ne_empty (by rw [Ne, dig_eq_nil]; omega))
  have HW := Lib.hid hw
  have HP := Lib.hid hp
  have HT := Lib.hid htab
  clear hw hp htab
  go_enter Tryd.func23, Tryd.ntmps23
  go_wp2_with fail
  with_reducible refine (digits_any aw lw cw LW _ (HW.out.below (below_alloc w _)) (by omega)).mono ?_
  rintro x w1 ⟨rfl, hb⟩
  have B1 := Lib.hid ((Box.new w #[.bool false, .slice aw lw cw, .slice ap lp cp, .bool true, .int .i64 (k : Int), .int .i64 sg, .int .i64 nt, .bool true] 38).below hb (by simp))
  have b1 := Lib.hid ((below_alloc w (.cells #[.bool false, .slice aw lw cw, .slice ap lp cp, .bool true, .int .i64 (k : Int), .int .i64 sg, .int .i64 nt, .bool true] 38)).trans (hb.mono (B' := w.heap.size) (by simp)))
  clear hb
  obtain ⟨c0, c1, c2, c3, c4, c5, c6, c7, clt⟩ := B1.out.eight
  go_wp2_with fail
  with_reducible refine (digits_any ap lp cp LP _ (HP.out.below b1.out) (by omega)).mono ?_
  rintro x w2 ⟨rfl, hb⟩
  have B2 := Lib.hid (B1.out.below hb B1.out.lt)
  have b2 := Lib.hid (b1.out.trans (hb.mono (B' := w.heap.size) b1.out.size))
  clear hb c0 c1 c2 c3 c4 c5 c6 c7 clt B1
  obtain ⟨c0, c1, c2, c3, c4, c5, c6, c7, clt⟩ := B2.out.eight
  obtain ⟨X, hX⟩ : ∃ X, X = (dgs LW ++ [46] ++ dgs LP ++ [69] ++ [43]) := ⟨_, rfl⟩
  have xl : X.length ≤ 3000 := by rw [hX]; simp; omega
  have HX := Lib.hid hX
  clear hX
  have b9 := Lib.hid (b2.out.alloc (by have := b2.out.size; simp <;> omega) (.cells #[.string ⟨#[101]⟩, .string ⟨#[69]⟩] 9))
  go_wp2
  go_loop [3, 5] (fun v i => ∃ j : Nat, j ≤ z ∧ i = .int .i64 j ∧ v = S (X ++ zs j)) (fun _ i => z - (intOf i).toNat)
  case atStart =>
    refine ⟨0, Nat.zero_le _, rfl, ?_⟩
    rw [HX.out]
    simp [arr_append, zs]
  case round =>
    obtain ⟨j, hj, rfl, rfl⟩ := hrel
    have hl : (X ++ zs j).length ≤ 4000 := by rw [List.length_append, zs_length]; omega
    by_cases hlt : j < z
    · have HZ : Hid ((⟨(X ++ zs j).toArray⟩ : ByteArray) ++ (⟨#[48]⟩ : ByteArray) = ⟨(X ++ zs (j + 1)).toArray⟩) := Lib.hid (by
        rw [show (⟨#[48]⟩ : ByteArray) = ⟨[48].toArray⟩ from rfl, arr_append, zs_succ, List.append_assoc])
      generalize X ++ zs j = l at *
      go_wp2
      go_round
      case rel => exact ⟨j + 1, by omega, by go_num, by rw [HZ.out]⟩
      case measure => simp [intOf]; omega
    · have HJ : Hid (j = z) := Lib.hid (by omega)
      generalize hL : X ++ zs j = l at *
      have HL := Lib.hid hL
      clear hL
      go_wp2_with fail
      with_reducible refine (ofN k _ (by omega) (HT.out.below b9.out)).mono ?_
      rintro x w3 ⟨rfl, hb⟩
      have b10 := Lib.hid (b9.out.trans (hb.mono (B' := w.heap.size) b9.out.size))
      clear hb
      have hE := HE.out
      go_wp2
      go_ret
      refine ⟨?_, b10.out⟩
      rw [← HL.out, HJ.out, HX.out]
      unfold render sgnL
      simp [arr_append]
end Go.Proofs.YtlppofjmkepceaaDoor
