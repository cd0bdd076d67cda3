/- The walk of the law NumAdds. -/
import Derived.Test.YtnhaogjkbladaaaDoorLawD
namespace Go.Proofs.YtnhaogjkbladaaaDoor
open Go.RowKit Florin

theorem plc_dig_add (L M : List UInt8) (k : Nat) : plc (dig (val L + val M)) k = (plc L k + plc M k + addC (val L) (val M) k) % 10 := by
  unfold plc
  rw [val_dig, add_digit]

set_option maxRecDepth 100000 in
set_option maxHeartbeats 1000000 in
theorem numAdds_short (a : Option Addr) (la ca : Nat) (L : List UInt8) (b : Option Addr) (lb cb : Nat) (M : List UInt8) (w : World) (hi1 : InB w a la ca L) (hi2 : InB w b lb cb M) (h1 : la ≤ 200) (h2 : lb ≤ 200) :
    Calls Tryd.prog 5 #[.slice a la ca, .slice b lb cb] w fun e w' => e = .returned (.bool true) ∧ Below w.heap.size w w' := by
  have H1 := Lib.hid hi1
  have H2 := Lib.hid hi2
  have m1 := hi1.2.2.1
  have m2 := hi2.2.2.1
  have m3 := hi1.2.1
  have m4 := hi2.2.1
  unfold maxLen at m1 m2
  have l1 : (dgs L).length ≤ 200 := by rw [dgs_length, hi1.len]; exact h1
  have l2 : (dgs M).length ≤ 200 := by rw [dgs_length, hi2.len]; exact h2
  have vA := val_dgs_lt L (k := 200) (by rw [hi1.len]; exact h1)
  have vB := val_dgs_lt M (k := 200) (by rw [hi2.len]; exact h2)
  have I1 := Lib.hid (isDig_dgs L)
  have I2 := Lib.hid (isDig_dgs M)
  have g1 : (dig (val (dgs L) + val (dgs M))).length ≤ 202 := (dig_length_le _ _).2 (by
    have h3 : 10 ^ 200 + 10 ^ 200 ≤ 10 ^ 202 := by decide
    omega)
  have HS : Hid (val (dgs L) + val (dgs M) - val (dgs M) = val (dgs L)) := Lib.hid (by omega)
  have HK : Hid (val (dgs M) + val (dgs L) = val (dgs L) + val (dgs M)) := Lib.hid (by omega)
  clear hi1 hi2 vA vB
  go_enter Tryd.func5, Tryd.ntmps5
  go_wp2_with fail
  refine (head_any _).mono ?_
  rintro e w1 ⟨rfl, hb1⟩
  have b1 := Lib.hid hb1
  clear hb1
  go_wp2_with fail
  refine (digits_any a la ca L _ (H1.out.below b1.out) (by omega)).mono ?_
  rintro e w2 ⟨rfl, hb2⟩
  have b2 := Lib.hid (b1.out.trans (hb2.mono b1.out.size))
  clear hb2
  go_wp2_with fail
  refine (digits_any b lb cb M _ (H2.out.below b2.out) (by omega)).mono ?_
  rintro e w3 ⟨rfl, hb3⟩
  have b3 := Lib.hid (b2.out.trans (hb3.mono b2.out.size))
  clear hb3
  go_wp2_with fail
  refine (addS (dgs L) (dgs M) _ (by omega) (by omega) I1.out I2.out).mono ?_
  rintro e w4 ⟨rfl, hb4⟩
  have b4 := Lib.hid (b3.out.trans (hb4.mono b3.out.size))
  clear hb4
  go_wp2_with fail
  refine (bareN _ _ (by omega)).mono ?_
  rintro e wz ⟨rfl, rfl⟩
  go_wp2_with fail
  refine (addS (dgs M) (dgs L) _ (by omega) (by omega) I2.out I1.out).mono ?_
  rintro e w5 ⟨rfl, hb5⟩
  have b5 := Lib.hid (b4.out.trans (hb5.mono b4.out.size))
  clear hb5
  rw [HK.out]
  go_wp2_with fail
  refine (isS (dig (val (dgs L) + val (dgs M))) _ (by omega) (isDig_dig _)).mono ?_
  rintro e wz ⟨rfl, rfl⟩
  go_wp2_with fail
  go_loop [8, 9] (fun c i => ∃ k : Nat, k ≤ 202 ∧ i = .int .i64 k ∧ c = .int .i64 (addC (val (dgs L)) (val (dgs M)) k)) (fun _ i => 202 - (intOf i).toNat)
  case atStart => exact ⟨0, by omega, rfl, by rw [addC_zero]; rfl⟩
  case round =>
    obtain ⟨k, hk, rfl, rfl⟩ := hrel
    have c1 := addC_le (val (dgs L)) (val (dgs M)) k
    have p1 : plc (dgs L) k < 10 := Nat.mod_lt _ (by decide)
    have p2 : plc (dgs M) k < 10 := Nat.mod_lt _ (by decide)
    by_cases hlt : k < 202
    · have hp := plc_dig_add (dgs L) (dgs M) k
      have hq : ((plc (dig (val (dgs L) + val (dgs M))) k : Int) != ((plc (dgs L) k : Int) + (plc (dgs M) k : Int) + (addC (val (dgs L)) (val (dgs M)) k : Int)) % 10) = false := by
        rw [hp]; simp
      clear hp
      go_wp2_with fail
      refine (columnS (dgs L) k _ (by omega) I1.out).mono ?_
      rintro e wz ⟨rfl, rfl⟩
      go_wp2_with fail
      refine (columnS (dgs M) k _ (by omega) I2.out).mono ?_
      rintro e wz ⟨rfl, rfl⟩
      go_wp2_with fail
      refine (columnS (dig (val (dgs L) + val (dgs M))) k _ (by omega) (isDig_dig _)).mono ?_
      rintro e wz ⟨rfl, rfl⟩
      go_wp2
      go_round
      case rel => exact ⟨k + 1, by omega, by go_num, vint (by rw [addC_succ]; unfold plc; omega)⟩
      case measure => simp [intOf]; omega
    · have hk2 : k = 202 := by omega
      subst hk2
      go_wp2_with fail
      refine (subS (dig (val (dgs L) + val (dgs M))) (dgs M) _ (by omega) (by omega) (isDig_dig _) I2.out (by rw [val_dig]; omega)).mono ?_
      rintro e w6 ⟨rfl, hb6⟩
      have b6 := Lib.hid (b5.out.trans (hb6.mono b5.out.size))
      clear hb6
      rw [val_dig, HS.out]
      go_wp2_with fail
      refine (bareS (dgs L) _ (by omega) I1.out).mono ?_
      rintro e wz ⟨rfl, rfl⟩
      go_wp2
      go_ret
      exact ⟨rfl, b6.out⟩

set_option maxRecDepth 100000 in
set_option maxHeartbeats 1000000 in
theorem numAdds_walk (a : Option Addr) (la ca : Nat) (L : List UInt8) (b : Option Addr) (lb cb : Nat) (M : List UInt8) (w : World) (hi1 : InB w a la ca L) (hi2 : InB w b lb cb M) :
    Calls Tryd.prog 5 #[.slice a la ca, .slice b lb cb] w fun e w' => e = .returned (.bool true) ∧ Below w.heap.size w w' := by
  by_cases h1 : la ≤ 200
  · by_cases h2 : lb ≤ 200
    · exact numAdds_short a la ca L b lb cb M w hi1 hi2 h1 h2
    · have m1 := hi1.2.2.1
      have m2 := hi2.2.2.1
      have m3 := hi1.2.1
      have m4 := hi2.2.1
      unfold maxLen at m1 m2
      clear hi1 hi2
      go_enter Tryd.func5, Tryd.ntmps5
      go_wp2_with fail
      refine (head_any _).mono ?_
      rintro e w1 ⟨rfl, hb1⟩
      go_wp2
      go_ret
      exact ⟨rfl, hb1⟩
  · have m1 := hi1.2.2.1
    have m3 := hi1.2.1
    unfold maxLen at m1
    clear hi1 hi2
    go_enter Tryd.func5, Tryd.ntmps5
    go_wp2_with fail
    refine (head_any _).mono ?_
    rintro e w1 ⟨rfl, hb1⟩
    go_wp2
    go_ret
    exact ⟨rfl, hb1⟩
end Go.Proofs.YtnhaogjkbladaaaDoor
