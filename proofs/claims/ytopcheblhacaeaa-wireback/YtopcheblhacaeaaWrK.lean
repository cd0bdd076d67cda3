/- Few items: what the law's guard returns. -/
import Derived.Test.YtopcheblhacaeaaWX
import Derived.Deep.DrawnRows
namespace Go.Proofs.Ytopcheblhacaeaa
open Go.RowKit Florin
set_option linter.unusedVariables false
set_option linter.unusedSimpArgs false
attribute [local go_sem ↓] Go.wp_at_zero Go.wp_at_succ
def fewB (L : List WI) : Bool := decide (L.length ≤ 20) && L.all fun x => decide (x.2.2.length ≤ 300)
theorem it_cells {w : World} {b off : Nat} {L : List WI} (h : ∀ k (h : k < L.length) j, j < 3 → w.cell? ⟨b, off + k * 3 + j, none⟩ = (itC L[k])[j]?) (k : Nat) (hk : k < L.length) :
    w.cell? ⟨b, off + k * 3, none⟩ = some (.bool L[k].1) ∧ w.cell? ⟨b, off + k * 3 + 1, none⟩ = some (.int .i64 L[k].2.1) ∧ w.cell? ⟨b, off + k * 3 + 2, none⟩ = some (S L[k].2.2) :=
  ⟨h k hk 0 (by decide), h k hk 1 (by decide), h k hk 2 (by decide)⟩
theorem InX.at3 {w w' : World} {v : Value} {L : List WI} (h : InX w 3 itC v L) (hb : Below w.heap.size w w') (k : Nat) (hk : k < L.length) :
    ∃ b off cap, v = .slice (some ⟨b, off, none⟩) L.length cap ∧ b < w.heap.size ∧ w'.cell? ⟨b, off + k * 3, none⟩ = some (.bool L[k].1) ∧ w'.cell? ⟨b, off + k * 3 + 1, none⟩ = some (.int .i64 L[k].2.1) ∧ w'.cell? ⟨b, off + k * 3 + 2, none⟩ = some (S L[k].2.2) := by
  obtain ⟨a, cap, rfl, h2, h3, h4⟩ := h.below hb
  obtain ⟨b, off, rfl, hlt, hc⟩ := h4 (by omega)
  obtain ⟨a', cap', e1, _, _, h5⟩ := h
  obtain ⟨b', off', e2, hlt', _⟩ := h5 (by omega)
  subst e2
  injection e1 with e3 e4 e5
  injection e3 with e6
  injection e6 with e7 e8
  subst e7
  exact ⟨b, off, cap, rfl, hlt', it_cells hc k hk⟩
set_option maxRecDepth 100000 in
set_option maxHeartbeats 1600000 in
theorem few_as (L : List WI) (v : Value) (w : World) (hin : InX w 3 itC v L) :
    Calls Try.prog 7 #[v] w fun e w' => e = .returned (.bool (fewB L)) ∧ Below w.heap.size w w' := by
  have HIN := Lib.hid hin
  obtain ⟨a, cap, rfl, hcap, hmax, hcell⟩ := hin
  unfold maxLen at hmax
  clear hcell
  by_cases hbig : (20 : Int) < (L.length : Int)
  · have hf : fewB L = false := by unfold fewB; rw [decide_eq_false (by omega)]; rfl
    have HF := Lib.hid hf
    clear hf
    go_enter Try.func7, Try.ntmps7
    go_wp2
    go_ret
    exact ⟨ret_bool HF.out.symm, Below.refl _ _⟩
  · have hLl : L.length ≤ 20 := by omega
    go_enter Try.func7, Try.ntmps7
    go_wp2_with fail
    go_loopw [10] (fun i wr => ∃ k : Nat, k ≤ L.length ∧ i = .int .i64 (k : Int) ∧ (L.take k).all (fun x => decide (x.2.2.length ≤ 300)) = true ∧ Below w.heap.size w wr) (fun i _ => L.length - (intOf i).toNat)
    case atStart => exact ⟨0, Nat.zero_le _, rfl, rfl, Below.refl _ _⟩
    case round =>
      obtain ⟨k, hk, rfl, hal, hb⟩ := hrel
      have HA := Lib.hid hal
      have HB := Lib.hid hb
      have hws := hb.size
      clear hal hb
      by_cases hlt : k < L.length
      · obtain ⟨b, off, cap', e, hbl, c0, c1, c2⟩ := HIN.out.at3 HB.out k hlt
        injection e with e1 e2 e3
        subst e1
        subst e3
        obtain ⟨x, hx⟩ : ∃ x, x = L[k] := ⟨_, rfl⟩
        rw [← hx] at c0 c1 c2
        have HX := Lib.hid hx
        obtain ⟨x0, x1, x2⟩ := x
        clear hx e2
        have hsz : (⟨x2.toArray⟩ : ByteArray).size = x2.length := arr_size x2
        by_cases h3 : (300 : Int) < (x2.length : Int)
        · have hf : fewB L = false := by
            unfold fewB
            rw [Bool.and_eq_false_iff]
            right
            rw [List.all_eq_false]
            refine ⟨L[k], List.getElem_mem hlt, ?_⟩
            rw [← HX.out]
            simp only [decide_eq_true_iff]
            omega
          have HF := Lib.hid hf
          clear hf
          go_wp2
          go_ret
          exact ⟨ret_bool HF.out.symm, HB.out.alloc hws _⟩
        · go_wp2
          go_roundw
          case rel =>
            refine ⟨k + 1, by omega, by go_num, ?_, HB.out.alloc hws _⟩
            rw [List.take_succ_eq_append_getElem hlt, List.all_append, HA.out, ← HX.out]
            simp only [List.all_cons, List.all_nil, Bool.and_true, Bool.true_and, decide_eq_true_iff]
            omega
          case measure => simp [intOf]; omega
      · have HT : Hid (L.take k = L) := Lib.hid (List.take_of_length_le (by omega))
        go_wp2
        go_ret
        refine ⟨ret_bool ?_, HB.out⟩
        have h := HA.out
        rw [HT.out] at h
        unfold fewB
        rw [h, decide_eq_true hLl]
        rfl
end Go.Proofs.Ytopcheblhacaeaa
