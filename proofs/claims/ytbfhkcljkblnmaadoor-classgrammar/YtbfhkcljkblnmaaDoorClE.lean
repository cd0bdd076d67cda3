/- Or, And, Minus, Not; whether two classes are one. -/
import Derived.Test.YtbfhkcljkblnmaaDoorClD
namespace Go.Proofs.YtbfhkcljkblnmaaDoor
open Go.RowKit Florin
set_option linter.unusedVariables false
set_option linter.unusedSimpArgs false
set_option maxHeartbeats 400000 in
theorem cor_as (w : World) (vc vo : Value) (c o : List (Int × Int)) (hc : InC w vc c) (ho : InC w vo o) (sc : settledC c) (so : settledC o) :
    Calls Tryd.prog 18 #[vc, vo] w fun e w' => ∃ v, e = .returned v ∧ OwnC w' w.heap.size v (opC (fun a b => a || b) c o) ∧ Below w.heap.size w w' := by
  have HW := Lib.hid (wor w vc vo c o hc ho sc so)
  clear hc ho sc so
  go_enter Tryd.func18, Tryd.ntmps18
  go_wp2_with fail
  with_reducible refine HW.out.mono ?_
  rintro e w1 ⟨v, rfl, h1, h2⟩
  go_wp2
  go_ret
  exact ⟨_, rfl, h1, h2⟩
set_option maxHeartbeats 400000 in
theorem cand_as (w : World) (vc vo : Value) (c o : List (Int × Int)) (hc : InC w vc c) (ho : InC w vo o) (sc : settledC c) (so : settledC o) :
    Calls Tryd.prog 19 #[vc, vo] w fun e w' => ∃ v, e = .returned v ∧ OwnC w' w.heap.size v (opC (fun a b => a && b) c o) ∧ Below w.heap.size w w' := by
  have HW := Lib.hid (wand w vc vo c o hc ho sc so)
  clear hc ho sc so
  go_enter Tryd.func19, Tryd.ntmps19
  go_wp2_with fail
  with_reducible refine HW.out.mono ?_
  rintro e w1 ⟨v, rfl, h1, h2⟩
  go_wp2
  go_ret
  exact ⟨_, rfl, h1, h2⟩
set_option maxHeartbeats 400000 in
theorem cminus_as (w : World) (vc vo : Value) (c o : List (Int × Int)) (hc : InC w vc c) (ho : InC w vo o) (sc : settledC c) (so : settledC o) :
    Calls Tryd.prog 20 #[vc, vo] w fun e w' => ∃ v, e = .returned v ∧ OwnC w' w.heap.size v (opC (fun a b => a && !b) c o) ∧ Below w.heap.size w w' := by
  have HW := Lib.hid (wminus w vc vo c o hc ho sc so)
  clear hc ho sc so
  go_enter Tryd.func20, Tryd.ntmps20
  go_wp2_with fail
  with_reducible refine HW.out.mono ?_
  rintro e w1 ⟨v, rfl, h1, h2⟩
  go_wp2
  go_ret
  exact ⟨_, rfl, h1, h2⟩
set_option maxHeartbeats 400000 in
theorem cnot_as (w : World) (vc : Value) (c : List (Int × Int)) (hc : InC w vc c) (sc : settledC c) :
    Calls Tryd.prog 21 #[vc] w fun e w' => ∃ v, e = .returned v ∧ OwnC w' w.heap.size v (opC (fun a b => !a) c []) ∧ Below w.heap.size w w' := by
  have HW := Lib.hid (wnot w vc (.slice none 0 0) c [] hc ⟨none, 0, rfl, Nat.le_refl _, by unfold maxLen; omega, fun h => absurd h (by decide)⟩ sc trivial)
  clear hc sc
  go_enter Tryd.func21, Tryd.ntmps21
  go_wp2_with fail
  with_reducible refine HW.out.mono ?_
  rintro e w1 ⟨v, rfl, h1, h2⟩
  go_wp2
  go_ret
  exact ⟨_, rfl, h1, h2⟩
theorem take_eq {c o : List (Int × Int)} (k : Nat) (hc : k < c.length) (ho : k < o.length) (h : c.take k = o.take k) (h1 : c[k] = o[k]) : c.take (k + 1) = o.take (k + 1) := by
  rw [List.take_succ_eq_append_getElem hc, List.take_succ_eq_append_getElem ho, h, h1]
set_option maxRecDepth 100000 in
set_option maxHeartbeats 1600000 in
theorem equal_as (w : World) (vc vo : Value) (c o : List (Int × Int)) (hc : InC w vc c) (ho : InC w vo o) (hl : c.length ≤ 1000000) (hl2 : o.length ≤ 1000000) :
    Calls Tryd.prog 31 #[vc, vo] w fun e w' => e = .returned (.bool (decide (c = o))) ∧ Below w.heap.size w w' := by
  obtain ⟨a, cap, rfl, h1, h2, h3⟩ := hc
  obtain ⟨a', cap', rfl, h1', h2', h3'⟩ := ho
  have H3 := Lib.hid h3
  have H3' := Lib.hid h3'
  clear h3 h3'
  by_cases hne : c.length = o.length
  · have he : ((c.length : Int) == (o.length : Int)) = true := by simp; omega
    have he2 : (c.length : Int) = (o.length : Int) := by omega
    have HNE := Lib.hid hne
    clear hne
    go_enter Tryd.func31, Tryd.ntmps31
    go_wp2_with fail
    go_loopw [13] (fun i wr => ∃ k : Nat, k ≤ c.length ∧ i = .int .i64 k ∧ c.take k = o.take k ∧ Below w.heap.size w wr) (fun i _ => c.length - (intOf i).toNat)
    case atStart => exact ⟨0, Nat.zero_le _, rfl, rfl, Below.refl _ _⟩
    case round =>
      obtain ⟨k, hk, rfl, ht, hb⟩ := hrel
      have HT := Lib.hid ht
      have HB := Lib.hid hb
      clear ht hb
      by_cases hlt : k < c.length
      · have hki : (k : Int) < (c.length : Int) := by omega
        have hko : k < o.length := by have := HNE.out; omega
        have hkoi : (k : Int) < (o.length : Int) := by omega
        obtain ⟨b, off, rfl, hbl, hcell⟩ := H3.out (by omega)
        obtain ⟨b', off', rfl, hbl', hcell'⟩ := H3'.out (by omega)
        have c0 : wr.cell? ⟨b, off + k * 2, none⟩ = some (.int .i32 c[k].1) := (HB.out.cell (p := ⟨b, off + k * 2, none⟩) hbl).trans (hcell k hlt).1
        have c1 : wr.cell? ⟨b, off + k * 2 + 1, none⟩ = some (.int .i32 c[k].2) := (HB.out.cell (p := ⟨b, off + k * 2 + 1, none⟩) hbl).trans (hcell k hlt).2
        have d0 : wr.cell? ⟨b', off' + k * 2, none⟩ = some (.int .i32 o[k].1) := (HB.out.cell (p := ⟨b', off' + k * 2, none⟩) hbl').trans (hcell' k hko).1
        have d1 : wr.cell? ⟨b', off' + k * 2 + 1, none⟩ = some (.int .i32 o[k].2) := (HB.out.cell (p := ⟨b', off' + k * 2 + 1, none⟩) hbl').trans (hcell' k hko).2
        clear hcell hcell'
        have BAD : c[k] ≠ o[k] → decide (c = o) = false := fun h => decide_eq_false (fun e => h (by subst e; rfl))
        have HBAD := Lib.hid BAD
        clear BAD
        by_cases q1 : c[k].1 = o[k].1
        · by_cases q2 : c[k].2 = o[k].2
          · have HTK := Lib.hid (take_eq k hlt hko HT.out (Prod.ext q1 q2))
            go_wp2_with fail
            go_region
            all_goals (try go_wp2)
            all_goals (go_roundw)
            case rel => exact ⟨k + 1, by omega, by go_num, HTK.out, HB.out.drew⟩
            case measure => simp [intOf]; omega
          · have HD := Lib.hid (HBAD.out (fun h => q2 (by rw [h])))
            go_wp2_with fail
            go_region
            all_goals (try go_wp2)
            all_goals go_ret
            all_goals exact ⟨by rw [HD.out]; rfl, HB.out.drew⟩
        · have HD := Lib.hid (HBAD.out (fun h => q1 (by rw [h])))
          go_wp2_with fail
          go_region
          all_goals (try go_wp2)
          all_goals go_ret
          all_goals exact ⟨by rw [HD.out]; rfl, HB.out.drew⟩
      · go_wp2
        go_ret
        exact ⟨by
          have h4 := HT.out
          rw [List.take_of_length_le (by omega), List.take_of_length_le (by have := HNE.out; omega)] at h4
          rw [h4]; simp, HB.out⟩
  · have he : ((c.length : Int) == (o.length : Int)) = false := by simp; omega
    have he2 : ¬ (c.length : Int) = (o.length : Int) := by omega
    have HE : Hid (decide (c = o) = false) := Lib.hid (decide_eq_false (fun h => hne (by rw [h])))
    clear hne
    go_enter Tryd.func31, Tryd.ntmps31
    go_wp2
    go_ret
    exact ⟨by rw [HE.out]; rfl, Below.refl _ _⟩
set_option maxHeartbeats 400000 in
theorem same_as (w : World) (vc vo : Value) (c o : List (Int × Int)) (hc : InC w vc c) (ho : InC w vo o) (hl : c.length ≤ 1000000) (hl2 : o.length ≤ 1000000) (b : Bool) (hb : decide (c = o) = b) :
    Calls Tryd.prog 17 #[vc, vo] w fun e w' => e = .returned (.bool b) ∧ Below w.heap.size w w' := by
  have HW := Lib.hid (equal_as w vc vo c o hc ho hl hl2)
  rw [hb] at HW
  clear hc ho hb
  go_enter Tryd.func17, Tryd.ntmps17
  go_wp2_with fail
  with_reducible refine HW.out.mono ?_
  rintro e w1 ⟨rfl, h2⟩
  go_wp2
  go_ret
  exact ⟨rfl, h2⟩
end Go.Proofs.YtbfhkcljkblnmaaDoor
