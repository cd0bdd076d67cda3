/- What the law's own reader form returns: whether the text is a decimal's. -/
import Derived.Test.YtlppofjmkepceaaDoorDecX
namespace Go.Proofs.YtlppofjmkepceaaDoor
open Go.RowKit Florin
set_option linter.unusedVariables false
set_option linter.unusedSimpArgs false

def isAt (s : ByteArray) (i : Nat) (c : UInt8) : Bool := s.data.toList[i]? == some c
theorem isAt_end (s : ByteArray) (i : Nat) (c : UInt8) (h : ¬ i < s.size) : isAt s i c = false := by
  unfold isAt; rw [List.getElem?_eq_none (by simpa using h)]; rfl
theorem isAt_lt (s : ByteArray) (i : Nat) (h : i < s.size) (c : UInt8) : isAt s i c = ((s[i].toNat : Int) == (c.toNat : Int)) := by
  unfold isAt
  rw [List.getElem?_eq_getElem (by simpa using h)]
  have : s.data.toList[i]'(by simpa using h) = s[i] := rfl
  rw [this, Bool.eq_iff_iff]
  simp only [beq_iff_eq, Option.some.injEq]
  constructor
  · rintro h; rw [h]
  · intro h; exact UInt8.toNat_inj.1 (by omega)

theorem run_at (s : ByteArray) (v : Int) (i : Nat) (hv : v = i) (w : World) (hi : i ≤ s.size) (hs : s.size ≤ 1000000) :
    Calls Tryd.prog 47 #[.string s, .int .i64 v] w fun x w' => x = .returned (.int .i64 (rn (s.data.toList.drop i))) ∧ w = w' := by
  subst hv; exact run_any s i w hi hs

set_option maxRecDepth 100000 in
set_option maxHeartbeats 6400000 in
theorem form_walk (s : ByteArray) (w : World) (hs : s.size ≤ 1000000) (m : Bool) (i0 n0 : Nat) (d : Bool) (n1 i2 : Nat) (x g : Bool) (j n2 : Nat)
    (h0 : isAt s 0 45 = m) (hi0 : (if m then 1 else 0) = i0) (i0le : i0 ≤ s.size) (hn0 : rn (s.data.toList.drop i0) = n0) (l0 : i0 + n0 ≤ s.size)
    (hd : isAt s (i0 + n0) 46 = d) (hn1 : d = true → rn (s.data.toList.drop (i0 + n0 + 1)) = n1) (l1 : d = true → i0 + n0 + 1 + n1 ≤ s.size) (hi2 : (if d then i0 + n0 + 1 + n1 else i0 + n0) = i2) (l2 : i2 ≤ s.size)
    (hx : (isAt s i2 101 || isAt s i2 69) = x) (hg : (isAt s (i2 + 1) 43 || isAt s (i2 + 1) 45) = g) (hj : (if g then i2 + 2 else i2 + 1) = j) (hn2 : x = true → rn (s.data.toList.drop j) = n2) (l3 : x = true → j + n2 ≤ s.size) (r : Bool) (hr : r = (decide (n0 ≠ 0) && ((if d then decide (n1 ≠ 0) else true) && (if x then decide (n2 ≠ 0) && decide (j + n2 = s.size) else decide (i2 = s.size))))) :
    Calls Tryd.prog 25 #[.string s] w fun y w' => y = .returned (.bool r) ∧ w = w' := by
  have HR := Lib.hid hr
  have H0 := Lib.hid h0
  have HI0 := Lib.hid hi0
  have HN0 := Lib.hid hn0
  have HD := Lib.hid hd
  have HN1 := Lib.hid hn1
  have L1 := Lib.hid l1
  have HI2 := Lib.hid hi2
  have HX := Lib.hid hx
  have HG := Lib.hid hg
  have HJ := Lib.hid hj
  have HN2 := Lib.hid hn2
  have L3 := Lib.hid l3
  clear hr h0 hi0 hn0 hd hn1 l1 hi2 hx hg hj hn2 l3
  go_enter Tryd.func25, Tryd.ntmps25
  go_upto_region 2 with fail
  go_cut [3, 14] from 5 (fun v3 v14 w' => v3 = .int .i64 0 ∧ v14 = .bool m ∧ w = w')
  case first =>
    by_cases h : 0 < s.size
    · have hb : ((s[0].toNat : Int) == 45) = m := by rw [← H0.out, isAt_lt s 0 h]; rfl
      go_wp2
      go_meet
      case rel => exact ⟨rfl, rfl, rfl⟩
    · have hb : m = false := by rw [← H0.out]; exact isAt_end s 0 45 h
      subst hb
      go_wp2
      go_meet
      case rel => exact ⟨rfl, rfl, rfl⟩
  case rest =>
  obtain ⟨rfl, rfl, rfl⟩ := hcut
  go_upto_if 14 with fail
  go_cut [3] from 5 (fun v3 w' => v3 = .int .i64 (i0 : Int) ∧ w = w')
  case first =>
    cases m with
    | true =>
      obtain rfl : 1 = i0 := HI0.out
      go_wp2
      go_meet
      case rel => exact ⟨rfl, rfl⟩
    | false =>
      obtain rfl : 0 = i0 := HI0.out
      go_wp2
      go_meet
      case rel => exact ⟨rfl, rfl⟩
  case rest =>
  obtain ⟨rfl, rfl⟩ := hcut
  go_wp2_with fail
  with_reducible refine (run_any s i0 _ i0le hs).mono ?_
  rintro y w' ⟨rfl, rfl⟩
  rw [HN0.out]
  by_cases hz : n0 = 0
  · have hr : r = false := by rw [HR.out, hz]; rfl
    subst hr
    subst hz
    go_wp2
    go_ret
    exact ⟨rfl, rfl⟩
  have hz' : ((n0 : Int) == 0) = false := by simp [hz]
  go_upto_region 8 with fail
  go_cut [3, 34] from 5 (fun v3 v34 w' => v3 = .int .i64 ((i0 + n0 : Nat) : Int) ∧ v34 = .bool d ∧ w = w')
  case first =>
    by_cases h : i0 + n0 < s.size
    · have hb : ((s[i0 + n0].toNat : Int) == 46) = d := by rw [← HD.out, isAt_lt s (i0 + n0) h]; rfl
      go_wp2
      go_meet
      case rel => exact ⟨by simp, rfl, rfl⟩
    · have hb : d = false := by rw [← HD.out]; exact isAt_end s _ 46 h
      subst hb
      go_wp2
      go_meet
      case rel => exact ⟨by simp, rfl, rfl⟩
  case rest =>
  obtain ⟨rfl, rfl, rfl⟩ := hcut
  go_upto_if 34 with fail
  by_cases hz1 : d = true ∧ n1 = 0
  · obtain ⟨rfl, rfl⟩ := hz1
    have l1 := L1.out rfl
    have hn1 := Lib.hid (HN1.out rfl)
    have hr : r = false := by rw [HR.out]; simp
    subst hr
    go_wp2_with fail
    with_reducible refine (run_at s _ (i0 + n0 + 1) (by omega) _ (by omega) hs).mono ?_
    rintro y w' ⟨rfl, rfl⟩
    rw [hn1.out]
    go_wp2
    go_ret
    exact ⟨rfl, rfl⟩
  go_cut [3] from 5 (fun v3 w' => v3 = .int .i64 (i2 : Int) ∧ w = w')
  case first =>
    cases d with
    | true =>
      obtain rfl : i0 + n0 + 1 + n1 = i2 := HI2.out
      have hz2 : ((n1 : Int) == 0) = false := by simp at hz1; simp [hz1]
      have l1 := L1.out rfl
      have hn1 := Lib.hid (HN1.out rfl)
      go_wp2_with fail
      with_reducible refine (run_at s _ (i0 + n0 + 1) (by omega) _ (by omega) hs).mono ?_
      rintro y w' ⟨rfl, rfl⟩
      rw [hn1.out]
      go_wp2
      go_meet
      case rel => exact ⟨by simp; omega, rfl⟩
    | false =>
      obtain rfl : i0 + n0 = i2 := HI2.out
      go_wp2
      go_meet
      case rel => exact ⟨by simp, rfl⟩
  case rest =>
  obtain ⟨rfl, rfl⟩ := hcut
  have HR2 : Hid (r = (if x then decide (n2 ≠ 0) && decide (j + n2 = s.size) else decide (i2 = s.size))) := Lib.hid (by
    have hdn : (if d then decide (n1 ≠ 0) else true) = true := by
      cases d with
      | false => rfl
      | true => simp at hz1 ⊢; exact hz1
    rw [HR.out, hdn, show decide (n0 ≠ 0) = true by simp [hz], Bool.true_and, Bool.true_and])
  go_upto_region 13 with fail
  go_cut [3, 60] from 5 (fun v3 v60 w' => v3 = .int .i64 (i2 : Int) ∧ v60 = .bool x ∧ w = w')
  case first =>
    by_cases h : i2 < s.size
    · have hb1 : ((s[i2].toNat : Int) == 101) = isAt s i2 101 := by rw [isAt_lt s i2 h]; rfl
      have hb2 : ((s[i2].toNat : Int) == 69) = isAt s i2 69 := by rw [isAt_lt s i2 h]; rfl
      have hxx := HX.out
      generalize isAt s i2 101 = p at *
      generalize isAt s i2 69 = q at *
      cases p <;> cases q <;> simp at hxx <;> subst hxx
      all_goals
        go_wp2
        go_meet
        case rel => exact ⟨rfl, rfl, rfl⟩
    · have hb : x = false := by rw [← HX.out, isAt_end s _ _ h, isAt_end s _ _ h]; rfl
      subst hb
      go_wp2
      go_meet
      case rel => exact ⟨rfl, rfl, rfl⟩
  case rest =>
  obtain ⟨rfl, rfl, rfl⟩ := hcut
  go_upto_if 60 with fail
  cases x with
  | false =>
    have hr : ((i2 : Int) == (s.size : Int)) = r := by rw [HR2.out, Bool.eq_iff_iff]; simp; omega
    go_wp2
    go_ret
    exact ⟨rfl, rfl⟩
  | true =>
    have l3 := L3.out rfl
    have hn2 := Lib.hid (HN2.out rfl)
    have ij : i2 + 1 ≤ j := by rw [← HJ.out]; split <;> omega
    go_upto_region 15 with fail
    go_cut [3, 78] from 5 (fun v3 v78 w' => v3 = .int .i64 ((i2 + 1 : Nat) : Int) ∧ v78 = .bool g ∧ w = w')
    case first =>
      by_cases h : i2 + 1 < s.size
      · have hb1 : ((s[i2 + 1].toNat : Int) == 43) = isAt s (i2 + 1) 43 := by rw [isAt_lt s (i2 + 1) h]; rfl
        have hb2 : ((s[i2 + 1].toNat : Int) == 45) = isAt s (i2 + 1) 45 := by rw [isAt_lt s (i2 + 1) h]; rfl
        have hxx := HG.out
        generalize isAt s (i2 + 1) 43 = p at *
        generalize isAt s (i2 + 1) 45 = q at *
        cases p <;> cases q <;> simp at hxx <;> subst hxx
        all_goals
          go_wp2
          go_meet
          case rel => exact ⟨by simp, rfl, rfl⟩
      · have hb : g = false := by rw [← HG.out, isAt_end s _ _ h, isAt_end s _ _ h]; rfl
        subst hb
        go_wp2
        go_meet
        case rel => exact ⟨by simp, rfl, rfl⟩
    case rest =>
    obtain ⟨rfl, rfl, rfl⟩ := hcut
    go_upto_if 78 with fail
    go_cut [3] from 5 (fun v3 w' => v3 = .int .i64 (j : Int) ∧ w = w')
    case first =>
      cases g with
      | true =>
        obtain rfl : i2 + 2 = j := HJ.out
        go_wp2
        go_meet
        case rel => exact ⟨by simp; omega, rfl⟩
      | false =>
        obtain rfl : i2 + 1 = j := HJ.out
        go_wp2
        go_meet
        case rel => exact ⟨rfl, rfl⟩
    case rest =>
    obtain ⟨rfl, rfl⟩ := hcut
    go_wp2_with fail
    with_reducible refine (run_any s j _ (by omega) hs).mono ?_
    rintro y w' ⟨rfl, rfl⟩
    rw [hn2.out]
    by_cases hz3 : n2 = 0
    · have hr : r = false := by rw [HR2.out, hz3]; rfl
      subst hr
      subst hz3
      go_wp2
      go_ret
      exact ⟨rfl, rfl⟩
    have hz4 : ((n2 : Int) == 0) = false := by simp [hz3]
    have hr : ((j : Int) + (n2 : Int) == (s.size : Int)) = r := by rw [HR2.out, Bool.eq_iff_iff]; simp [hz3]; omega
    go_wp2
    go_ret
    exact ⟨rfl, rfl⟩
end Go.Proofs.YtlppofjmkepceaaDoor
