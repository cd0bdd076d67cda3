/- A table's lists as the law looks at them: few, short, no numbers below 0. -/
import Derived.Test.YtkbigfkpgjhojaaTbX
namespace Go.Proofs.Ytkbigfkpgjhojaa
open Go.RowKit Florin
set_option linter.unusedVariables false
set_option linter.unusedSimpArgs false
attribute [local go_sem ↓] Go.wp_at_zero Go.wp_at_succ
def ckTx (x : TxM) : Prop := 0 ≤ x.1 ∧ x.2.length ≤ 200
def ckTxs (l : List TxM) : Prop := (∀ x ∈ l, ckTx x) ∧ l.length ≤ 20
def ckRow (r : RowM) : Prop := 0 ≤ r.1 ∧ ckTxs r.2
def ckRows (l : List RowM) : Prop := (∀ x ∈ l, ckRow x) ∧ l.length ≤ 20
def CkR (e : Ending) (P : Prop) : Prop := ∃ b, e = .returned (.bool b) ∧ (b = true → P)
theorem CkR.no (P : Prop) : CkR (.returned (.bool false)) P := ⟨false, rfl, fun h => by cases h⟩
theorem CkR.yes {P : Prop} (h : P) : CkR (.returned (.bool true)) P := ⟨true, rfl, fun _ => h⟩
theorem take_all {α : Type} {P : α → Prop} {l : List α} {k : Nat} (h : k < l.length) (h1 : ∀ x ∈ l.take k, P x) (h2 : P l[k]) : ∀ x ∈ l.take (k + 1), P x := by
  rw [List.take_succ_eq_append_getElem h]
  intro x hx
  rcases List.mem_append.1 hx with hx | hx
  · exact h1 x hx
  · rw [List.mem_singleton.1 hx]; exact h2
set_option maxRecDepth 100000 in
set_option maxHeartbeats 3200000 in
theorem texts_ck (lim : Nat) (l : List TxM) (v : Value) (w : World) (hin : TxL w lim v l) (hlim : lim ≤ w.heap.size) :
    Calls Try.prog 12 #[v] w fun e w' => CkR e (ckTxs l) ∧ Below w.heap.size w w' := by
  obtain ⟨a, cap, rfl, hcap, hmax, hcell⟩ := hin
  unfold maxLen at hmax
  have HC := Lib.hid hcell
  clear hcell
  go_enter Try.func12, Try.ntmps12
  go_wp2_with fail
  go_loopw [7] (fun i wr => ∃ k : Nat, k ≤ l.length ∧ i = .int .i64 (k : Int) ∧ (∀ x ∈ l.take k, ckTx x) ∧ Below w.heap.size w wr) (fun i _ => l.length - (intOf i).toNat)
  case atStart => exact ⟨0, Nat.zero_le _, rfl, (fun x hx => by rw [List.take_zero] at hx; cases hx), Below.refl _ _⟩
  case round =>
    obtain ⟨k, hk, rfl, hall, hb⟩ := hrel
    have HB := Lib.hid hb
    have HA := Lib.hid hall
    have hws := hb.size
    clear hb hall
    by_cases hlt : k < l.length
    · obtain ⟨bb, off, rfl, hbl, hbl2, hc⟩ := HC.out (by omega)
      obtain ⟨c, hA, hcl, hcc⟩ := hc k hlt
      have HT := Lib.hid (fun h => take_all (P := ckTx) hlt HA.out h)
      obtain ⟨x, hx⟩ : ∃ x, x = l[k] := ⟨_, rfl⟩
      rw [← hx] at hA HT
      clear hx
      obtain rfl := hA
      have hcc2 : ∀ j, j < 2 → wr.cell? ⟨bb, off + k * 2 + j, none⟩ = _ := fun j hj => (HB.out.cell (p := ⟨bb, off + k * 2 + j, none⟩) (by show bb < _; omega)).trans (hcc j hj)
      have q0 : wr.cell? ⟨bb, off + k * 2, none⟩ = _ := hcc2 0 (by decide)
      have q1 : wr.cell? ⟨bb, off + k * 2 + 1, none⟩ = _ := hcc2 1 (by decide)
      simp only [List.getElem?_cons_zero, List.getElem?_cons_succ] at q0 q1
      clear hcc hcc2 hc hcl
      have hki : (k : Int) < (l.length : Int) := by omega
      have B2 := Lib.hid (HB.out.alloc (by omega) (.cells #[.int .i64 x.1, S x.2] 56))
      have X2 := Lib.hid (BoxT.new wr #[.int .i64 x.1, S x.2] 56)
      by_cases h0 : x.1 < 0
      · go_wp2
        go_ret
        exact ⟨CkR.no _, B2.out⟩
      by_cases h2 : 200 < x.2.length
      · have h2i : 200 < (x.2.length : Int) := by omega
        go_wp2
        go_ret
        exact ⟨CkR.no _, B2.out⟩
      have h2i : ¬ 200 < (x.2.length : Int) := by omega
      go_wp2
      go_roundw
      case rel => exact ⟨k + 1, by omega, by go_num, HT.out ⟨by omega, by omega⟩, B2.out⟩
      case measure => simp [intOf]; omega
    · have hke : k = l.length := by omega
      have hki : ¬ (k : Int) < (l.length : Int) := by omega
      by_cases h20 : l.length ≤ 20
      · have h20i : (l.length : Int) ≤ 20 := by omega
        go_wp2
        go_ret
        exact ⟨CkR.yes ⟨by have h := HA.out; rwa [List.take_of_length_le (by omega)] at h, h20⟩, HB.out⟩
      · have h20i : ¬ (l.length : Int) ≤ 20 := by omega
        go_wp2
        go_ret
        exact ⟨CkR.no _, HB.out⟩
set_option maxRecDepth 100000 in
set_option maxHeartbeats 3200000 in
theorem rows_ck (lim : Nat) (l : List RowM) (v : Value) (w : World) (hin : RowL w lim v l) (hlim : lim ≤ w.heap.size) :
    Calls Try.prog 11 #[v] w fun e w' => CkR e (ckRows l) ∧ Below w.heap.size w w' := by
  obtain ⟨a, cap, rfl, hcap, hmax, hcell⟩ := hin
  unfold maxLen at hmax
  have HC := Lib.hid hcell
  clear hcell
  go_enter Try.func11, Try.ntmps11
  go_wp2_with fail
  go_loopw [7] (fun i wr => ∃ k : Nat, k ≤ l.length ∧ i = .int .i64 (k : Int) ∧ (∀ x ∈ l.take k, ckRow x) ∧ Below w.heap.size w wr) (fun i _ => l.length - (intOf i).toNat)
  case atStart => exact ⟨0, Nat.zero_le _, rfl, (fun x hx => by rw [List.take_zero] at hx; cases hx), Below.refl _ _⟩
  case round =>
    obtain ⟨k, hk, rfl, hall, hb⟩ := hrel
    have HB := Lib.hid hb
    have HA := Lib.hid hall
    have hws := hb.size
    clear hb hall
    by_cases hlt : k < l.length
    · obtain ⟨bb, off, rfl, hbl, hbl2, hc⟩ := HC.out (by omega)
      obtain ⟨c, hA, hcl, hcc⟩ := hc k hlt
      have HT := Lib.hid (fun h => take_all (P := ckRow) hlt HA.out h)
      obtain ⟨x, hx⟩ : ∃ x, x = l[k] := ⟨_, rfl⟩
      rw [← hx] at hA HT
      clear hx
      obtain ⟨u, rfl, hu⟩ := hA
      obtain ⟨ua, uc, rfl, un, rfl⟩ : ∃ ua uc, u = .slice ua x.2.length uc ∧ ∃ un, un = x.2.length := by
        obtain ⟨ua, uc, e, _⟩ := hu
        exact ⟨ua, uc, e, _, rfl⟩
      have HU := Lib.hid hu
      clear hu
      have hcc2 : ∀ j, j < 2 → wr.cell? ⟨bb, off + k * 2 + j, none⟩ = _ := fun j hj => (HB.out.cell (p := ⟨bb, off + k * 2 + j, none⟩) (by show bb < _; omega)).trans (hcc j hj)
      have q0 : wr.cell? ⟨bb, off + k * 2, none⟩ = _ := hcc2 0 (by decide)
      have q1 : wr.cell? ⟨bb, off + k * 2 + 1, none⟩ = _ := hcc2 1 (by decide)
      simp only [List.getElem?_cons_zero, List.getElem?_cons_succ] at q0 q1
      clear hcc hcc2 hc hcl
      have hki : (k : Int) < (l.length : Int) := by omega
      have B2 := Lib.hid (HB.out.alloc (by omega) (.cells #[.int .i64 x.1, .slice ua x.2.length uc] 37))
      have X2 := Lib.hid (BoxT.new wr #[.int .i64 x.1, .slice ua x.2.length uc] 37)
      by_cases h0 : x.1 < 0
      · go_wp2
        go_ret
        exact ⟨CkR.no _, B2.out⟩
      go_wp2_with fail
      generalize wr.alloc (.cells #[.int .i64 x.1, .slice ua x.2.length uc] 37) = w2 at *
      with_reducible refine (texts_ck lim x.2 _ _ (TxL.move HU.out (Nat.le_refl _) (B2.out.mono hlim)) (by have := B2.out.size; omega)).mono ?_
      rintro e w3 ⟨⟨b, rfl, hck⟩, hb⟩
      have B3 := Lib.hid (B2.out.trans (hb.mono B2.out.size))
      clear hb
      cases b with
      | false =>
        clear hck
        go_wp2
        go_ret
        exact ⟨CkR.no _, B3.out⟩
      | true =>
        have HCK := Lib.hid (hck rfl)
        clear hck
        go_wp2
        go_roundw
        case rel => exact ⟨k + 1, by omega, by go_num, HT.out ⟨by omega, HCK.out⟩, B3.out⟩
        case measure => simp [intOf]; omega
    · have hke : k = l.length := by omega
      have hki : ¬ (k : Int) < (l.length : Int) := by omega
      by_cases h20 : l.length ≤ 20
      · have h20i : (l.length : Int) ≤ 20 := by omega
        go_wp2
        go_ret
        exact ⟨CkR.yes ⟨by have h := HA.out; rwa [List.take_of_length_le (by omega)] at h, h20⟩, HB.out⟩
      · have h20i : ¬ (l.length : Int) ≤ 20 := by omega
        go_wp2
        go_ret
        exact ⟨CkR.no _, HB.out⟩
end Go.Proofs.Ytkbigfkpgjhojaa
