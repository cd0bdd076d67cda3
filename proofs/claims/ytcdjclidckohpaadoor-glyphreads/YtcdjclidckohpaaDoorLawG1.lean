/- GlyphSigns: each code point's sign, wherever it stands. -/
import Derived.Test.YtcdjclidckohpaaDoorGlH
namespace Go.Proofs.YtcdjclidckohpaaDoor
open Go.RowKit Florin
set_option linter.unusedVariables false
set_option linter.unusedSimpArgs false
theorem app_list (a b : ByteArray) : (a ++ b).data.toList = a.data.toList ++ b.data.toList := by rw [ByteArray.data_append]; simp
theorem app_size (a b : ByteArray) : (a ++ b).size = a.size + b.size := by rw [← size_list, app_list, List.length_append, size_list, size_list]
theorem sg_lead {p : Nat} (hp : isPt p) (t : List UInt8) : lead (signL p ++ t) = (signL p).length ∧ lead (signL p ++ t) ≠ 0 ∧ code (signL p ++ t) = p := by
  obtain ⟨h1, h2⟩ := sign_lead p hp t
  have := List.length_pos_iff.2 (sign_ne p)
  exact ⟨h1, by omega, h2⟩
theorem sg_one {p : Nat} (hp : isPt p) : lead (signL p) = (signL p).length ∧ oneL (signL p) = true := by
  have h := (sg_lead hp []).1
  rw [List.append_nil] at h
  exact ⟨h, (one_iff _).2 ⟨sign_ne p, h⟩⟩
theorem fst_sign {p : Nat} (hp : isPt p) (t : List UInt8) : fstL (signL p ++ t) = (p, true) := by
  obtain ⟨_, h2, h3⟩ := sg_lead hp t
  unfold fstL
  rw [if_neg h2, h3]
theorem lst_end {q : List UInt8} (hq : lead q = q.length) (hne : q ≠ []) (t : List UInt8) : lstL (t ++ q) = (code q, true) := by
  unfold lstL
  rw [last_sign t q hq hne]
  have hp := List.length_pos_iff.2 hne
  have hn : ¬ (code q = 65533 ∧ lead q ≤ 1) := by
    intro h
    have := decL_ok (l := q)
    rw [decL_ne (by omega)] at this
    have := this.1 h
    omega
  rw [if_neg hn]
theorem lst_sign {p : Nat} (hp : isPt p) (t : List UInt8) : lstL (t ++ signL p) = (p, true) := by
  have h := (sg_lead hp []).2.2
  rw [List.append_nil] at h
  rw [lst_end (sg_one hp).1 (sign_ne p), h]
theorem two_right {p q : Nat} (hp : isPt p) (hq : isPt q) : rightL (signL p ++ signL q) = true ∧ oneL (signL p ++ signL q) = false := by
  obtain ⟨h1, h2, _⟩ := sg_lead hp (signL q)
  have hl := List.length_pos_iff.2 (sign_ne q)
  constructor
  · rw [right_step (by simp [sign_ne]) h2, h1, List.drop_left]
    have := (sg_one hq).2
    unfold oneL at this
    unfold rightL
    rw [beq_iff_eq] at this
    rw [this]; rfl
  · rw [Bool.eq_false_iff]
    intro h
    have := ((one_iff _).1 h).2
    rw [h1, List.length_append] at this
    omega
theorem pt_le {p : Nat} (hp : isPt p) : (p : Int) ≤ 1114111 := by unfold isPt at hp; omega
set_option maxRecDepth 100000 in
theorem ex_f0 : fstL [] = (0, false) := by decide
set_option maxRecDepth 100000 in
theorem ex_l0 : lstL [] = (0, false) := by decide
set_option maxHeartbeats 3200000 in
set_option maxRecDepth 100000 in
theorem glyphSigns_walk (a b : Int) (s : ByteArray) (W : World) (w0 : (Lit.int .i64 a).wf = true) (w1 : (Lit.int .i64 b).wf = true) (w2 : s.size ≤ maxLen) (hT : Tabs W) :
    Calls Tryd.prog 4 #[.int .i64 a, .int .i64 b, .string s] W fun e w' => e = .returned (.bool true) ∧ Below W.heap.size W w' := by
  have HT := Lib.hid hT
  clear hT w0 w1
  unfold maxLen at w2
  by_cases h100 : (100 : Int) < (s.size : Int)
  · go_enter Tryd.func4, Tryd.ntmps4
    go_wp2_with fail
    with_reducible refine (head9 _ HT.out).mono ?_
    rintro e w1 ⟨rfl, b1⟩
    have B1 := Lib.hid b1
    clear b1
    go_wp2
    go_ret
    exact ⟨rfl, B1.out⟩
  · go_enter Tryd.func4, Tryd.ntmps4
    go_wp2_with fail
    with_reducible refine (head9 _ HT.out).mono ?_
    rintro e w1 ⟨rfl, b1⟩
    have B1 := Lib.hid b1
    clear b1
    go_wp2_with fail
    with_reducible refine (point_as _ _).mono ?_
    rintro e w_ ⟨p, hp, rfl, rfl⟩
    go_wp2_with fail
    with_reducible refine (point_as _ _).mono ?_
    rintro e w_ ⟨q, hq, rfl, rfl⟩
    have HP := Lib.hid hp
    have HQ := Lib.hid hq
    have pl := pt_le hp
    have ql := pt_le hq
    clear hp hq
    have lp := sign_len p
    have lq := sign_len q
    have zp := arr_size (signL p)
    have zq := arr_size (signL q)
    go_wp2_with fail
    with_reducible refine (sign_as p HP.out _).mono ?_
    rintro e w2 ⟨rfl, b2⟩
    have B2 := Lib.hid (B1.out.trans (b2.mono B1.out.size))
    clear b2 B1
    go_wp2_with fail
    with_reducible refine (sign_as q HQ.out _).mono ?_
    rintro e w3 ⟨rfl, b3⟩
    have B3 := Lib.hid (B2.out.trans (b3.mono B2.out.size))
    clear b3 B2
    go_wp2_with fail
    with_reducible refine (first_as _ _ (HT.out.below B3.out) p true (by rw [app_list, arr_list]; exact fst_sign HP.out _)).mono ?_
    rintro e w4 ⟨rfl, b4⟩
    have B4 := Lib.hid (B3.out.trans (b4.mono B3.out.size))
    clear b4 B3
    go_wp2_with fail
    with_reducible refine (last_as _ _ (HT.out.below B4.out) (by rw [app_size]; omega) q true (by rw [app_list, arr_list]; exact lst_sign HQ.out _)).mono ?_
    rintro e w5 ⟨rfl, b5⟩
    have B5 := Lib.hid (B4.out.trans (b5.mono B4.out.size))
    clear b5 B4
    go_wp2_with fail
    with_reducible refine (first_as _ _ (HT.out.below B5.out) 0 false ex_f0).mono ?_
    rintro e w6 ⟨rfl, b6⟩
    have B6 := Lib.hid (B5.out.trans (b6.mono B5.out.size))
    clear b6 B5
    go_wp2_with fail
    with_reducible refine (last_as _ _ (HT.out.below B6.out) (by decide) 0 false ex_l0).mono ?_
    rintro e w7 ⟨rfl, b7⟩
    have B7 := Lib.hid (B6.out.trans (b7.mono B6.out.size))
    clear b7 B6
    go_wp2_with fail
    with_reducible refine (one_as _ _ (HT.out.below B7.out) (by omega) true (by rw [arr_list]; exact (sg_one HP.out).2)).mono ?_
    rintro e w8 ⟨rfl, b8⟩
    have B8 := Lib.hid (B7.out.trans (b8.mono B7.out.size))
    clear b8 B7
    go_wp2_with fail
    with_reducible refine (right_as _ _ (HT.out.below B8.out) (by rw [app_size]; omega) true (by rw [app_list, arr_list, arr_list]; exact (two_right HP.out HQ.out).1)).mono ?_
    rintro e w9 ⟨rfl, b9⟩
    have B9 := Lib.hid (B8.out.trans (b9.mono B8.out.size))
    clear b9 B8
    go_wp2_with fail
    with_reducible refine (one_as _ _ (HT.out.below B9.out) (by rw [app_size]; omega) false (by rw [app_list, arr_list, arr_list]; exact (two_right HP.out HQ.out).2)).mono ?_
    rintro e w10 ⟨rfl, b10⟩
    have B10 := Lib.hid (B9.out.trans (b10.mono B9.out.size))
    clear b10 B9
    go_wp2
    go_ret
    exact ⟨rfl, B10.out⟩
end Go.Proofs.YtcdjclidckohpaaDoor
