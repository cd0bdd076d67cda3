/- Tables compared: texts, lists of texts. -/
import Derived.Test.YtkbigfkpgjhojaaTcHn
import Derived.Test.YtkbigfkpgjhojaaTcHy
import Derived.Laws.StructEq
namespace Go.Proofs.Ytkbigfkpgjhojaa
open Go.RowKit Florin
set_option linter.unusedVariables false
set_option linter.unusedSimpArgs false
attribute [local go_sem ↓] Go.wp_at_zero Go.wp_at_succ
def TXV (x : TxM) : Value := .agg #[.int .i64 x.1, S x.2]
theorem run_Tx (x y : TxM) (w : World) : (Op.equalIn 10000 56 (TXV x) (TXV y)).run Try.prog w = .ok (decide (x = y)) w := by
  unfold TXV
  rw [show (10000 : Nat) = 9999 + 1 from rfl, run_equalIn_struct w 9999 56 _ _ (by kernel_rfl) (by kernel_rfl)]
  obtain ⟨a, b⟩ := x
  obtain ⟨c, d⟩ := y
  simp [go_sem, Try.underlying56, Try.underlying9, Try.underlying54]
  by_cases h1 : a = c
  · by_cases h2 : b = d
    · simp [h1, h2]
    · simp [h1, h2]
  · simp [h1]
theorem ne_Tx (x y : TxM) (w : World) : (binOp .neq 56 (.agg #[.int .i64 x.1, S x.2]) (.agg #[.int .i64 y.1, S y.2])).run Try.prog w = .ok (.bool (!decide (x = y))) w := by
  have h := run_Tx x y w
  unfold TXV at h
  rw [run_neq_struct, h]; rfl
theorem take_two {α : Type} (l1 l2 : List α) (k : Nat) (h1 : k < l1.length) (h2 : k < l2.length) : (l1.take (k + 1) = l2.take (k + 1) → l1.take k = l2.take k ∧ l1[k] = l2[k]) ∧ (l1.take k = l2.take k ∧ l1[k] = l2[k] → l1.take (k + 1) = l2.take (k + 1)) := by
  rw [List.take_succ_eq_append_getElem h1, List.take_succ_eq_append_getElem h2]
  constructor
  · intro h
    have := List.append_inj' h rfl
    exact ⟨this.1, by simpa using this.2⟩
  · rintro ⟨a, b⟩; rw [a, b]
theorem ba_eq (a b : List UInt8) : decide ((⟨a.toArray⟩ : ByteArray) = ⟨b.toArray⟩) = decide (a = b) := by simp
set_option maxRecDepth 100000 in
set_option maxHeartbeats 3200000 in
theorem sameText_as (p q i j : Nat) (a b : List UInt8) (w : World) (h1 : w.cell? ⟨p, i, none⟩ = some (S a)) (h2 : w.cell? ⟨q, j, none⟩ = some (S b)) :
    Calls Try.prog 15 #[pAt p i, pAt q j] w fun e w' => e = .returned (.bool (decide (a = b))) ∧ Below w.heap.size w w' := by
  have HB := Lib.hid (Below.refl w.heap.size w).drew
  go_enter Try.func15, Try.ntmps15
  go_wp2_with fail
  go_region
  go_wp2
  go_ret
  exact ⟨by rw [show (a == b) = decide (a = b) from by rw [Bool.eq_iff_iff]; simp]; rfl, HB.out⟩
set_option maxRecDepth 100000 in
set_option maxHeartbeats 3200000 in
theorem eqTx_as (l1 l2 : List TxM) (v1 v2 : Value) (w : World) (h1 : TxL w w.heap.size v1 l1) (h2 : TxL w w.heap.size v2 l2) :
    Calls Try.prog 22 #[v1, v2] w fun e w' => e = .returned (.bool (decide (l1 = l2))) ∧ Below w.heap.size w w' := by
  obtain ⟨a1, c1, rfl, hc1, hm1, hx1⟩ := h1
  obtain ⟨a2, c2, rfl, hc2, hm2, hx2⟩ := h2
  unfold maxLen at hm1 hm2
  have HX1 := Lib.hid hx1
  have HX2 := Lib.hid hx2
  clear hx1 hx2
  go_enter Try.func22, Try.ntmps22
  by_cases hlen : l1.length = l2.length
  · have hli : (l1.length : Int) = (l2.length : Int) := by omega
    go_wp2_with fail
    go_loopw [13] (fun i wr => ∃ k : Nat, k ≤ l1.length ∧ i = .int .i64 (k : Int) ∧ l1.take k = l2.take k ∧ Below w.heap.size w wr) (fun i _ => l1.length - (intOf i).toNat)
    case atStart => exact ⟨0, Nat.zero_le _, rfl, rfl, Below.refl _ _⟩
    case round =>
      obtain ⟨k, hk, rfl, htk, hb⟩ := hrel
      have HB := Lib.hid hb
      have HTK := Lib.hid htk
      clear hb htk
      by_cases hlt : k < l1.length
      · obtain ⟨b1, o1, rfl, hb1, _, hy1⟩ := HX1.out (by omega)
        obtain ⟨b2, o2, rfl, hb2, _, hy2⟩ := HX2.out (by omega)
        obtain ⟨d1, hA1, _, hq1⟩ := hy1 k hlt
        obtain ⟨d2, hA2, _, hq2⟩ := hy2 k (by omega)
        have hlt2 : k < l2.length := by omega
        have HS := Lib.hid (take_two l1 l2 k hlt hlt2)
        obtain ⟨x, hx⟩ : ∃ x, x = l1[k] := ⟨_, rfl⟩
        obtain ⟨y, hy⟩ : ∃ y, y = l2[k] := ⟨_, rfl⟩
        rw [← hx] at hA1 HS
        rw [← hy] at hA2 HS
        clear hx hy
        obtain rfl := hA1
        obtain rfl := hA2
        have p0 : wr.cell? ⟨b1, o1 + k * 2, none⟩ = _ := (HB.out.cell (p := ⟨b1, o1 + k * 2, none⟩) hb1).trans (hq1 0 (by decide))
        have p1 : wr.cell? ⟨b1, o1 + k * 2 + 1, none⟩ = _ := (HB.out.cell (p := ⟨b1, o1 + k * 2 + 1, none⟩) hb1).trans (hq1 1 (by decide))
        have r0 : wr.cell? ⟨b2, o2 + k * 2, none⟩ = _ := (HB.out.cell (p := ⟨b2, o2 + k * 2, none⟩) hb2).trans (hq2 0 (by decide))
        have r1 : wr.cell? ⟨b2, o2 + k * 2 + 1, none⟩ = _ := (HB.out.cell (p := ⟨b2, o2 + k * 2 + 1, none⟩) hb2).trans (hq2 1 (by decide))
        simp only [List.getElem?_cons_zero, List.getElem?_cons_succ] at p0 p1 r0 r1
        clear hq1 hq2 hy1 hy2
        have hki : (k : Int) < (l1.length : Int) := by omega
        have hki2 : (k : Int) < (l2.length : Int) := by omega
        have hne := ne_Tx x y
        by_cases hxy : x = y
        · have hd : decide (x = y) = true := by simp [hxy]
          rw [hd] at hne
          go_wp2_with fail
          go_region
          go_wp2
          go_roundw
          case rel => exact ⟨k + 1, by omega, by go_num, HS.out.2 ⟨HTK.out, hxy⟩, HB.out.drew⟩
          case measure => simp [intOf]; omega
        · have hd : decide (x = y) = false := by simp [hxy]
          rw [hd] at hne
          go_wp2_with fail
          go_region
          go_wp2
          go_ret
          exact ⟨by rw [show decide (l1 = l2) = false from by simp; intro e; subst e; exact hxy (HS.out.1 rfl).2]; rfl, HB.out.drew⟩
      · have hke : k = l1.length := by omega
        have hnl : ¬ (k : Int) < (l1.length : Int) := by omega
        go_wp2
        go_ret
        exact ⟨by rw [show decide (l1 = l2) = true from by simp; have h := HTK.out; rwa [List.take_of_length_le (by omega), List.take_of_length_le (by omega)] at h]; rfl, HB.out⟩
  · have hli : ¬ (l1.length : Int) = (l2.length : Int) := by omega
    go_wp2
    go_ret
    exact ⟨by simp; intro e; exact hlen (by rw [e]), Below.refl _ _⟩
end Go.Proofs.Ytkbigfkpgjhojaa
