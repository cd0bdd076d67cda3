/- The walk of the law NumSubs. -/
import Derived.Test.YtnhaogjkbladaaaDoorNumS
namespace Go.Proofs.YtnhaogjkbladaaaDoor
open Go.RowKit Florin

theorem InB.len {w : World} {a : Option Addr} {len cap : Nat} {L : List UInt8} (h : InB w a len cap L) : L.length = len := h.1

set_option maxRecDepth 100000 in
set_option maxHeartbeats 1000000 in
theorem numSubs_lt (a : Option Addr) (la ca : Nat) (L : List UInt8) (b : Option Addr) (lb cb : Nat) (M : List UInt8) (w : World) (hi1 : InB w a la ca L) (hi2 : InB w b lb cb M) (h1 : la ≤ 200) (h2 : lb ≤ 200) (hc : val (dgs L) < val (dgs M)) :
    Calls Tryd.prog 6 #[.slice a la ca, .slice b lb cb] w fun e w' => e = .returned (.bool true) ∧ Below w.heap.size w w' := by
  have H1 := Lib.hid hi1
  have H2 := Lib.hid hi2
  have m1 := hi1.2.2.1
  have m2 := hi2.2.2.1
  have m3 := hi1.2.1
  have m4 := hi2.2.1
  unfold maxLen at m1 m2
  have l1 : (dgs L).length ≤ 200 := by rw [dgs_length, hi1.len]; exact h1
  have l2 : (dgs M).length ≤ 200 := by rw [dgs_length, hi2.len]; exact h2
  have vA := val_dgs_lt L (k := 200) (by rw [hi1.len]; exact h1)
  have vB := val_dgs_lt M (k := 200) (by rw [hi2.len]; exact h2)
  have I1 := Lib.hid (isDig_dgs L)
  have I2 := Lib.hid (isDig_dgs M)
  have HC := Lib.hid hc
  clear hi1 hi2
  have g1 : (dig (val (dgs M) - val (dgs L))).length ≤ 1000000 := dig_len (k := 200) (by omega) (by decide)
  have hne : (dig (val (dgs L)) == dig (val (dgs M))) = false := beq_eq_false_iff_ne.2 (fun e => by have := dig_inj' e; omega)
  have hsum : val (dgs M) - val (dgs L) + val (dgs L) = val (dgs M) := by omega
  have HS := Lib.hid hsum
  clear hsum vA vB hc
  go_enter Tryd.func6, Tryd.ntmps6
  go_wp2_with fail
  refine (head_any _).mono ?_
  rintro e w1 ⟨rfl, hb1⟩
  have b1 := Lib.hid hb1
  clear hb1
  go_wp2_with fail
  refine (digits_any a la ca L _ (H1.out.below b1.out) (by omega)).mono ?_
  rintro e w2 ⟨rfl, hb2⟩
  have b2 := Lib.hid (b1.out.trans (hb2.mono b1.out.size))
  clear hb2
  go_wp2_with fail
  refine (digits_any b lb cb M _ (H2.out.below b2.out) (by omega)).mono ?_
  rintro e w3 ⟨rfl, hb3⟩
  have b3 := Lib.hid (b2.out.trans (hb3.mono b2.out.size))
  clear hb3
  go_wp2_with fail
  refine (subS_less (dgs L) (dgs M) _ (by omega) (by omega) I1.out I2.out HC.out).mono ?_
  rintro e w4 ⟨rfl, hb4⟩
  have b4 := Lib.hid (b3.out.trans (hb4.mono b3.out.size))
  clear hb4
  go_wp2_with fail
  refine (subS (dgs M) (dgs L) _ (by omega) (by omega) I2.out I1.out (Nat.le_of_lt HC.out)).mono ?_
  rintro e w5 ⟨rfl, hb5⟩
  have b5 := Lib.hid (b4.out.trans (hb5.mono b4.out.size))
  clear hb5
  go_wp2_with fail
  refine (cmpS (dgs L) (dgs M) _ (by omega) (by omega) I1.out I2.out).mono ?_
  rintro e w6 ⟨rfl, hb6⟩
  have b6 := Lib.hid (b5.out.trans (hb6.mono b5.out.size))
  clear hb6
  rw [compareInt_of_lt (by have := HC.out; omega)]
  go_wp2_with fail
  refine (cmpS (dgs M) (dgs L) _ (by omega) (by omega) I2.out I1.out).mono ?_
  rintro e w7 ⟨rfl, hb7⟩
  have b7 := Lib.hid (b6.out.trans (hb7.mono b6.out.size))
  clear hb7
  rw [compareInt_of_gt (by have := HC.out; omega)]
  go_wp2_with fail
  refine (addS (dig (val (dgs M) - val (dgs L))) (dgs L) _ g1 (by omega) (isDig_dig _) I1.out).mono ?_
  rintro e w8 ⟨rfl, hb8⟩
  have b8 := Lib.hid (b7.out.trans (hb8.mono b7.out.size))
  clear hb8
  rw [val_dig, HS.out]
  go_wp2_with fail
  refine (bareS (dgs M) _ (by omega) I2.out).mono ?_
  rintro e wz ⟨rfl, rfl⟩
  go_wp2_with fail
  refine (bareS (dgs L) _ (by omega) I1.out).mono ?_
  rintro e wz ⟨rfl, rfl⟩
  go_wp2_with fail
  refine (bareS (dgs M) _ (by omega) I2.out).mono ?_
  rintro e wz ⟨rfl, rfl⟩
  go_wp2
  go_ret
  exact ⟨rfl, b8.out⟩

set_option maxRecDepth 100000 in
set_option maxHeartbeats 1000000 in
theorem numSubs_gt (a : Option Addr) (la ca : Nat) (L : List UInt8) (b : Option Addr) (lb cb : Nat) (M : List UInt8) (w : World) (hi1 : InB w a la ca L) (hi2 : InB w b lb cb M) (h1 : la ≤ 200) (h2 : lb ≤ 200) (hc : val (dgs M) < val (dgs L)) :
    Calls Tryd.prog 6 #[.slice a la ca, .slice b lb cb] w fun e w' => e = .returned (.bool true) ∧ Below w.heap.size w w' := by
  have H1 := Lib.hid hi1
  have H2 := Lib.hid hi2
  have m1 := hi1.2.2.1
  have m2 := hi2.2.2.1
  have m3 := hi1.2.1
  have m4 := hi2.2.1
  unfold maxLen at m1 m2
  have l1 : (dgs L).length ≤ 200 := by rw [dgs_length, hi1.len]; exact h1
  have l2 : (dgs M).length ≤ 200 := by rw [dgs_length, hi2.len]; exact h2
  have vA := val_dgs_lt L (k := 200) (by rw [hi1.len]; exact h1)
  have vB := val_dgs_lt M (k := 200) (by rw [hi2.len]; exact h2)
  have I1 := Lib.hid (isDig_dgs L)
  have I2 := Lib.hid (isDig_dgs M)
  have HC := Lib.hid hc
  clear hi1 hi2
  have g1 : (dig (val (dgs L) - val (dgs M))).length ≤ 1000000 := dig_len (k := 200) (by omega) (by decide)
  have hne : (dig (val (dgs L)) == dig (val (dgs M))) = false := beq_eq_false_iff_ne.2 (fun e => by have := dig_inj' e; omega)
  have hsum : val (dgs L) - val (dgs M) + val (dgs M) = val (dgs L) := by omega
  have HS := Lib.hid hsum
  clear hsum vA vB hc
  go_enter Tryd.func6, Tryd.ntmps6
  go_wp2_with fail
  refine (head_any _).mono ?_
  rintro e w1 ⟨rfl, hb1⟩
  have b1 := Lib.hid hb1
  clear hb1
  go_wp2_with fail
  refine (digits_any a la ca L _ (H1.out.below b1.out) (by omega)).mono ?_
  rintro e w2 ⟨rfl, hb2⟩
  have b2 := Lib.hid (b1.out.trans (hb2.mono b1.out.size))
  clear hb2
  go_wp2_with fail
  refine (digits_any b lb cb M _ (H2.out.below b2.out) (by omega)).mono ?_
  rintro e w3 ⟨rfl, hb3⟩
  have b3 := Lib.hid (b2.out.trans (hb3.mono b2.out.size))
  clear hb3
  go_wp2_with fail
  refine (subS (dgs L) (dgs M) _ (by omega) (by omega) I1.out I2.out (Nat.le_of_lt HC.out)).mono ?_
  rintro e w4 ⟨rfl, hb4⟩
  have b4 := Lib.hid (b3.out.trans (hb4.mono b3.out.size))
  clear hb4
  go_wp2_with fail
  refine (subS_less (dgs M) (dgs L) _ (by omega) (by omega) I2.out I1.out HC.out).mono ?_
  rintro e w5 ⟨rfl, hb5⟩
  have b5 := Lib.hid (b4.out.trans (hb5.mono b4.out.size))
  clear hb5
  go_wp2_with fail
  refine (cmpS (dgs L) (dgs M) _ (by omega) (by omega) I1.out I2.out).mono ?_
  rintro e w6 ⟨rfl, hb6⟩
  have b6 := Lib.hid (b5.out.trans (hb6.mono b5.out.size))
  clear hb6
  rw [compareInt_of_gt (by have := HC.out; omega)]
  go_wp2_with fail
  refine (cmpS (dgs M) (dgs L) _ (by omega) (by omega) I2.out I1.out).mono ?_
  rintro e w7 ⟨rfl, hb7⟩
  have b7 := Lib.hid (b6.out.trans (hb7.mono b6.out.size))
  clear hb7
  rw [compareInt_of_lt (by have := HC.out; omega)]
  go_wp2_with fail
  refine (addS (dig (val (dgs L) - val (dgs M))) (dgs M) _ g1 (by omega) (isDig_dig _) I2.out).mono ?_
  rintro e w8 ⟨rfl, hb8⟩
  have b8 := Lib.hid (b7.out.trans (hb8.mono b7.out.size))
  clear hb8
  rw [val_dig, HS.out]
  go_wp2_with fail
  refine (bareS (dgs L) _ (by omega) I1.out).mono ?_
  rintro e wz ⟨rfl, rfl⟩
  go_wp2_with fail
  refine (bareS (dgs L) _ (by omega) I1.out).mono ?_
  rintro e wz ⟨rfl, rfl⟩
  go_wp2_with fail
  refine (bareS (dgs M) _ (by omega) I2.out).mono ?_
  rintro e wz ⟨rfl, rfl⟩
  go_wp2
  go_ret
  exact ⟨rfl, b8.out⟩

set_option maxRecDepth 100000 in
set_option maxHeartbeats 1000000 in
theorem numSubs_eq (a : Option Addr) (la ca : Nat) (L : List UInt8) (b : Option Addr) (lb cb : Nat) (M : List UInt8) (w : World) (hi1 : InB w a la ca L) (hi2 : InB w b lb cb M) (h1 : la ≤ 200) (h2 : lb ≤ 200) (hc : val (dgs L) = val (dgs M)) :
    Calls Tryd.prog 6 #[.slice a la ca, .slice b lb cb] w fun e w' => e = .returned (.bool true) ∧ Below w.heap.size w w' := by
  have H1 := Lib.hid hi1
  have H2 := Lib.hid hi2
  have m1 := hi1.2.2.1
  have m2 := hi2.2.2.1
  have m3 := hi1.2.1
  have m4 := hi2.2.1
  unfold maxLen at m1 m2
  have l1 : (dgs L).length ≤ 200 := by rw [dgs_length, hi1.len]; exact h1
  have l2 : (dgs M).length ≤ 200 := by rw [dgs_length, hi2.len]; exact h2
  have vA := val_dgs_lt L (k := 200) (by rw [hi1.len]; exact h1)
  have vB := val_dgs_lt M (k := 200) (by rw [hi2.len]; exact h2)
  have I1 := Lib.hid (isDig_dgs L)
  have I2 := Lib.hid (isDig_dgs M)
  have HC := Lib.hid hc
  clear hi1 hi2
  clear vA vB hc
  go_enter Tryd.func6, Tryd.ntmps6
  go_wp2_with fail
  refine (head_any _).mono ?_
  rintro e w1 ⟨rfl, hb1⟩
  have b1 := Lib.hid hb1
  clear hb1
  go_wp2_with fail
  refine (digits_any a la ca L _ (H1.out.below b1.out) (by omega)).mono ?_
  rintro e w2 ⟨rfl, hb2⟩
  have b2 := Lib.hid (b1.out.trans (hb2.mono b1.out.size))
  clear hb2
  go_wp2_with fail
  refine (digits_any b lb cb M _ (H2.out.below b2.out) (by omega)).mono ?_
  rintro e w3 ⟨rfl, hb3⟩
  have b3 := Lib.hid (b2.out.trans (hb3.mono b2.out.size))
  clear hb3
  go_wp2_with fail
  refine (subS (dgs L) (dgs M) _ (by omega) (by omega) I1.out I2.out (Nat.le_of_eq HC.out.symm)).mono ?_
  rintro e w4 ⟨rfl, hb4⟩
  have b4 := Lib.hid (b3.out.trans (hb4.mono b3.out.size))
  clear hb4
  rw [HC.out, Nat.sub_self, dig_zero]
  go_wp2_with fail
  refine (subS (dgs M) (dgs L) _ (by omega) (by omega) I2.out I1.out (Nat.le_of_eq HC.out)).mono ?_
  rintro e w5 ⟨rfl, hb5⟩
  have b5 := Lib.hid (b4.out.trans (hb5.mono b4.out.size))
  clear hb5
  rw [HC.out, Nat.sub_self, dig_zero]
  go_wp2_with fail
  refine (cmpS (dgs L) (dgs M) _ (by omega) (by omega) I1.out I2.out).mono ?_
  rintro e w6 ⟨rfl, hb6⟩
  have b6 := Lib.hid (b5.out.trans (hb6.mono b5.out.size))
  clear hb6
  rw [HC.out, compareInt_self]
  go_wp2_with fail
  refine (cmpS (dgs M) (dgs L) _ (by omega) (by omega) I2.out I1.out).mono ?_
  rintro e w7 ⟨rfl, hb7⟩
  have b7 := Lib.hid (b6.out.trans (hb7.mono b6.out.size))
  clear hb7
  rw [HC.out, compareInt_self]
  go_wp2_with fail
  refine (addS [] (dgs M) _ (by decide) (by omega) rfl I2.out).mono ?_
  rintro e w8 ⟨rfl, hb8⟩
  have b8 := Lib.hid (b7.out.trans (hb8.mono b7.out.size))
  clear hb8
  rw [val_nil, Nat.zero_add]
  go_wp2_with fail
  refine (bareS (dgs L) _ (by omega) I1.out).mono ?_
  rintro e wz ⟨rfl, rfl⟩
  rw [HC.out]
  go_wp2_with fail
  refine (addS [] (dgs L) _ (by decide) (by omega) rfl I1.out).mono ?_
  rintro e w9 ⟨rfl, hb9⟩
  have b9 := Lib.hid (b8.out.trans (hb9.mono b8.out.size))
  clear hb9
  rw [val_nil, Nat.zero_add, HC.out]
  go_wp2_with fail
  refine (bareS (dgs M) _ (by omega) I2.out).mono ?_
  rintro e wz ⟨rfl, rfl⟩
  go_wp2_with fail
  refine (bareS (dgs L) _ (by omega) I1.out).mono ?_
  rintro e wz ⟨rfl, rfl⟩
  rw [HC.out]
  go_wp2_with fail
  refine (bareS (dgs M) _ (by omega) I2.out).mono ?_
  rintro e wz ⟨rfl, rfl⟩
  go_wp2
  go_ret
  exact ⟨rfl, b9.out⟩

set_option maxRecDepth 100000 in
set_option maxHeartbeats 1000000 in
theorem numSubs_walk (a : Option Addr) (la ca : Nat) (L : List UInt8) (b : Option Addr) (lb cb : Nat) (M : List UInt8) (w : World) (hi1 : InB w a la ca L) (hi2 : InB w b lb cb M) :
    Calls Tryd.prog 6 #[.slice a la ca, .slice b lb cb] w fun e w' => e = .returned (.bool true) ∧ Below w.heap.size w w' := by
  by_cases h1 : la ≤ 200
  · by_cases h2 : lb ≤ 200
    · rcases Nat.lt_trichotomy (val (dgs L)) (val (dgs M)) with hc | hc | hc
      · exact numSubs_lt a la ca L b lb cb M w hi1 hi2 h1 h2 hc
      · exact numSubs_eq a la ca L b lb cb M w hi1 hi2 h1 h2 hc
      · exact numSubs_gt a la ca L b lb cb M w hi1 hi2 h1 h2 hc
    · have m1 := hi1.2.2.1
      have m2 := hi2.2.2.1
      have m3 := hi1.2.1
      have m4 := hi2.2.1
      unfold maxLen at m1 m2
      clear hi1 hi2
      go_enter Tryd.func6, Tryd.ntmps6
      go_wp2_with fail
      refine (head_any _).mono ?_
      rintro e w1 ⟨rfl, hb1⟩
      go_wp2
      go_ret
      exact ⟨rfl, hb1⟩
  · have m1 := hi1.2.2.1
    have m3 := hi1.2.1
    unfold maxLen at m1
    clear hi1 hi2
    go_enter Tryd.func6, Tryd.ntmps6
    go_wp2_with fail
    refine (head_any _).mono ?_
    rintro e w1 ⟨rfl, hb1⟩
    go_wp2
    go_ret
    exact ⟨rfl, hb1⟩
end Go.Proofs.YtnhaogjkbladaaaDoor
