/- Tables compared: a table's own texts. -/
import Derived.Test.YtkbigfkpgjhojaaTdC
namespace Go.Proofs.Ytkbigfkpgjhojaa
open Go.RowKit Florin
set_option linter.unusedVariables false
set_option linter.unusedSimpArgs false
attribute [local go_sem ↓] Go.wp_at_zero Go.wp_at_succ
/-- A row of pointers at the cells of block a, in the order of a table's texts. -/
def PtL (w : World) (v : Value) (a : Nat) : Prop := ∃ g cap cur, v = .slice (some ⟨g, 0, none⟩) 27 cap ∧ BoxT w g cur TPs ∧ 27 ≤ cap ∧ cap ≤ maxLen ∧ ∀ k, k < 27 → cur[k]? = some (pAt a (offT.getD k 0))
theorem PtL.of {w : World} {base a : Nat} {v : Value} (how : w.ownsRow base TPs 1 v 27 (offT.map (pAt a))) : PtL w v a := by
  obtain ⟨g, cap, cur, rfl, hgb, hgc, hcl1, hcl2, hcl3, hcl4⟩ : ∃ g cap cur, v = .slice (some ⟨g, 0, none⟩) 27 cap ∧ base ≤ g ∧ w.heap[g]? = some (.cells cur TPs (0, 0)) ∧ 27 ≤ cap ∧ cap ≤ maxLen ∧ cur.size = cap * 1 ∧ cur.toList.take (27 * 1) = offT.map (pAt a) := by
    rcases how.2 with ⟨_, h0⟩ | ⟨g, cap, cur, h1, h2, h3, h4, h5, h6, h7⟩
    · cases h0
    · exact ⟨g, cap, cur, h1, h2, h3, h4, h5, h6, h7⟩
  refine ⟨g, cap, cur, rfl, hgc, hcl1, hcl2, fun k hk => ?_⟩
  have h := congrArg (fun l : List Value => l[k]?) hcl4
  simp only [List.getElem?_take, if_pos (show k < 27 * 1 by omega), Array.getElem?_toList] at h
  rw [h]
  have : k < offT.length := hk
  simp [List.getD_eq_getElem?_getD, this]
theorem PtL.below {w w' : World} {v : Value} {a : Nat} (h : PtL w v a) (hb : Below w.heap.size w w') : PtL w' v a := by
  obtain ⟨g, cap, cur, h1, h2, h3, h4, h5⟩ := h
  exact ⟨g, cap, cur, h1, h2.below hb, h3, h4, h5⟩
set_option maxRecDepth 100000 in
set_option maxHeartbeats 6400000 in
theorem eqPt_as (a b : Nat) (f f' : Nat → List UInt8) (X Y : Array Value) (v1 v2 : Value) (w : World) (h1 : PtL w v1 a) (h2 : PtL w v2 b) (hX : BoxT w a X TTb) (hY : BoxT w b Y TTb) (hf : ∀ k, k < 27 → X[offT.getD k 0]? = some (S (f k))) (hf' : ∀ k, k < 27 → Y[offT.getD k 0]? = some (S (f' k))) :
    Calls Try.prog 13 #[v1, v2, .func (Fn.func 15) #[] #[]] w fun e w' => (∃ z : Bool, e = .returned (.bool z) ∧ (z = true ↔ ∀ k, k < 27 → f k = f' k)) ∧ Below w.heap.size w w' := by
  obtain ⟨g1, c1, cur1, rfl, hg1, hc1, hm1, hq1⟩ := h1
  obtain ⟨g2, c2, cur2, rfl, hg2, hc2, hm2, hq2⟩ := h2
  unfold maxLen at hm1 hm2
  have HG1 := Lib.hid hg1
  have HG2 := Lib.hid hg2
  have HX := Lib.hid hX
  have HY := Lib.hid hY
  have HQ1 := Lib.hid hq1
  have HQ2 := Lib.hid hq2
  have HF := Lib.hid hf
  have HF' := Lib.hid hf'
  clear hg1 hg2 hX hY hq1 hq2 hf hf'
  go_enter Try.func13, Try.ntmps13
  go_wp2_with fail
  go_loopw [17] (fun i wr => ∃ k : Nat, k ≤ 27 ∧ i = .int .i64 (k : Int) ∧ (∀ j, j < k → f j = f' j) ∧ Below w.heap.size w wr) (fun i _ => 27 - (intOf i).toNat)
  case atStart => exact ⟨0, Nat.zero_le _, rfl, fun j h => absurd h (Nat.not_lt_zero _), Below.refl _ _⟩
  case round =>
    obtain ⟨k, hk, rfl, htk, hb⟩ := hrel
    have HB := Lib.hid hb
    have HTK := Lib.hid htk
    clear hb htk
    by_cases hlt : k < 27
    · have hki : (k : Int) < 27 := by omega
      have hki1 : (k : Int) < (c1 : Int) := by omega
      have hki2 : (k : Int) < (c2 : Int) := by omega
      obtain ⟨ok, hok⟩ : ∃ ok, ok = offT.getD k 0 := ⟨_, rfl⟩
      have p1 : wr.cell? ⟨g1, k, none⟩ = some (pAt a ok) := ((HG1.out.below HB.out).cell k).trans (by rw [hok]; exact HQ1.out k hlt)
      have p2 : wr.cell? ⟨g2, k, none⟩ = some (pAt b ok) := ((HG2.out.below HB.out).cell k).trans (by rw [hok]; exact HQ2.out k hlt)
      have HC := Lib.hid (sameText_as a b ok ok (f k) (f' k) wr (((HX.out.below HB.out).cell ok).trans (by rw [hok]; exact HF.out k hlt)) (((HY.out.below HB.out).cell ok).trans (by rw [hok]; exact HF'.out k hlt)))
      clear hok
      go_wp2_with fail
      with_reducible refine (HC.out).mono ?_
      rintro e w4 ⟨rfl, hb4⟩
      have HB4 := Lib.hid (HB.out.trans (hb4.mono HB.out.size))
      clear hb4 HC
      by_cases hxy : f k = f' k
      · have hd : decide (f k = f' k) = true := by simp [hxy]
        have HXY := Lib.hid hxy
        rw [hd]
        clear hd hxy
        go_wp2
        go_roundw
        case rel => exact ⟨k + 1, by omega, by go_num, fun j hj => (Nat.lt_succ_iff_lt_or_eq.1 hj).elim (HTK.out j) (fun e => by rw [e]; exact HXY.out), HB4.out⟩
        case measure => simp [intOf]; omega
      · have hd : decide (f k = f' k) = false := by simp [hxy]
        have HXY := Lib.hid hxy
        rw [hd]
        clear hd hxy
        go_wp2
        go_ret
        exact ⟨⟨false, rfl, by constructor; (intro h; cases h); intro h; exact absurd (h k hlt) HXY.out⟩, HB4.out⟩
    · obtain rfl : k = 27 := by omega
      go_wp2
      go_ret
      exact ⟨⟨true, rfl, ⟨fun _ => HTK.out, fun _ => rfl⟩⟩, HB.out⟩
end Go.Proofs.Ytkbigfkpgjhojaa
