/- The writer of numbers and texts: what String returns. -/
import Derived.Test.YtkbigfkpgjhojaaWrB
import Derived.Deep.LoopGhost
namespace Go.Proofs.Ytkbigfkpgjhojaa
open Go.RowKit Florin
set_option linter.unusedVariables false
set_option linter.unusedSimpArgs false
attribute [local go_sem ↓] Go.wp_at_zero Go.wp_at_succ
/-- All that was laid, the youngest first in the list. -/
def cat : List (List UInt8) → List UInt8
  | [] => []
  | t :: L => cat L ++ t
theorem cat_len : ∀ (L : List (List UInt8)), (cat L).length = tot L
  | [] => rfl
  | t :: L => by show (cat L ++ t).length = tot L + t.length; rw [List.length_append, cat_len L]
/-- The row while it is filled from its end. -/
def rowC (n : Nat) (D : List UInt8) : List Value := List.replicate n (.int .u8 0) ++ Lib.byteCells D
theorem rowC_len (n : Nat) (D : List UInt8) : (rowC n D).length = n + D.length := by unfold rowC; rw [List.length_append, List.length_replicate, Lib.byteCells_length]
theorem rowC_splice (n : Nat) (t D : List UInt8) : splice (rowC (n + t.length) D) n (Lib.byteCells t) = rowC n (t ++ D) := by
  unfold splice rowC
  rw [Lib.byteCells_length, List.take_append_of_le_length (by simp), List.take_replicate, Nat.min_eq_left (by omega), List.drop_append, List.drop_eq_nil_of_le (by simp), List.length_replicate, Nat.sub_self, List.drop_zero, List.nil_append]
  simp [Lib.byteCells]
theorem conv_row {w : World} {g n : Nat} {l : List UInt8} (h : w.heap[g]? = some (.cells (rowC 0 l).toArray 5 (0, 0))) (hn : n = l.length) : (convert 81 9 (.slice (some ⟨g, 0, none⟩) n n)).run Try.prog w = .ok (S l) w := by
  subst hn
  refine run_convert_bytes_back w 81 9 5 ⟨g, 0, none⟩ l.length l Try.underlying81 Try.underlying5 Try.underlying9 ?_
  intro j hj
  have e : (⟨g, 0, none⟩ : Addr).add j = ⟨g, j, none⟩ := by unfold Addr.add; simp; intro e; exact e.symm
  rw [e, Lib.cell_of_heap h]
  simp [rowC, Lib.byteCells, hj]
set_option maxRecDepth 100000 in
set_option maxHeartbeats 3200000 in
theorem wstring_as (B b : Nat) (L : List (List UInt8)) (w : World) (h : WrT w B b L) (ht : tot L ≤ 1000000000) :
    Calls Try.prog 24 #[ptr b] w fun e w' => e = .returned (S (cat L)) ∧ Below w.heap.size w w' := by
  obtain ⟨i0, hi, hz0, hz1, hz2⟩ := info_parts infoB
  obtain ⟨hB, q, hx, hc⟩ := h
  have HC := Lib.hid hc
  have HX := Lib.hid hx
  have c0 := hx.cell 0
  have c1 := hx.cell 1
  have hlt := hx.lt
  simp only [List.getElem?_toArray, List.getElem?_cons_zero, List.getElem?_cons_succ] at c0 c1
  clear hx hc
  obtain ⟨N, hN⟩ : ∃ N, N = tot L := ⟨_, rfl⟩
  rw [← hN] at c1 ht
  have HN := Lib.hid hN
  clear hN
  go_enter Try.func24, Try.ntmps24
  go_wp2_with (at_make; refine wpList_make_full _ rfl (.tmp 9) (.tmp 9) 81 rfl w.heap.size 5 i0 (.int .u8 0) 1 Try.underlying81 hi hz0 hz1 .i64 .i64 _ _ N rfl rfl rfl rfl (by rw [hz2]; omega) (len_max ht) (Nat.le_refl _) ?_; intro w1 hown hgrow; have hd0 : w1.cell? ⟨b, 0, none⟩ = some (.pointer q) := (HX.out.grown hgrow (by intro e; cases e)).cell 0; have hd1 : w1.cell? ⟨b, 1, none⟩ = some (.int .i64 (N : Int)) := (by rw [HN.out]; exact (HX.out.grown hgrow (by intro e; cases e)).cell 1))
  have hrow : Hid (w1.heap[w.heap.size]? = some (.cells (rowC N []).toArray 5 (0, 0))) := by
    rcases hown.2 with ⟨hv, _⟩ | ⟨g, cap, cur, hv, hBg, hg, h1, h2, h3, h4⟩
    · cases hv
    · injection hv with hv1 hv2 hv3
      injection hv1 with hv4
      injection hv4 with hv5
      subst hv5
      subst hv3
      rw [show (Value.int .u8 0).cells = #[Value.int .u8 0] from rfl, toList_madeCells_one, Nat.mul_one, List.take_of_length_le (by simp [h3])] at h4
      have e : cur = (rowC N []).toArray := by
        apply Array.toList_inj.1
        rw [h4]
        simp [rowC, Lib.byteCells]
      rw [e] at hg
      exact hg
  have HB1 : Hid (Below w.heap.size w w1) := Lib.hid ((Below.refl _ _).grown hgrow (Nat.le_refl _) (by intro k e; cases e))
  have hw1 := hgrow.size
  clear hown hgrow c0 c1 hd0 hd1
  go_loopg [4, 5] L.length (fun k x p wr => ∃ (L2 : List (List UInt8)) (D : List UInt8) (o : Option Addr), k = L2.length ∧ (∃ n : Nat, n = tot L2 ∧ x = .int .i64 (n : Int)) ∧ p = .pointer o ∧ Chain w B o L2 ∧ cat L2 ++ D = cat L ∧ wr.heap[w.heap.size]? = some (.cells (rowC (tot L2) D).toArray 5 (0, 0)) ∧ Below w.heap.size w wr)
  case atStart => exact ⟨L, [], q, rfl, ⟨N, HN.out, rfl⟩, rfl, HC.out, by simp, by rw [← HN.out]; exact hrow.out, HB1.out⟩
  case round =>
    obtain ⟨L2, D, o, rfl, ⟨n, hn, rfl⟩, rfl, hch, hcat, hro, hb⟩ := hrel
    have HCAT := Lib.hid hcat
    have HRO := Lib.hid hro
    have HB := Lib.hid hb
    have hlen : tot L2 + D.length = N := by rw [HN.out, ← cat_len, ← cat_len, ← hcat, List.length_append]
    clear hcat hro hb hrow HB1
    cases L2 with
    | nil =>
      obtain rfl := hch
      have e0 : D = cat L := HCAT.out
      subst hn
      have hcv := conv_row (n := N) (l := D) HRO.out (by simpa [tot] using hlen.symm)
      clear hlen
      go_wp2
      go_ret
      exact ⟨rfl, HB.out⟩
    | cons t L3 =>
      obtain ⟨k, o3, rfl, hBk, hbx, hch3⟩ := hch
      have HBX := Lib.hid hbx
      have HC3 := Lib.hid hch3
      have d0 := (hbx.below HB.out).cell 0
      have d1 := (hbx.below HB.out).cell 1
      simp only [List.getElem?_toArray, List.getElem?_cons_zero, List.getElem?_cons_succ] at d0 d1
      have hsz : (⟨t.toArray⟩ : ByteArray).size = t.length := arr_size t
      have hlen2 : tot L3 + t.length + D.length = N := hlen
      obtain ⟨m, hm⟩ : ∃ m, m = tot L3 := ⟨_, rfl⟩
      have hn2 : n = m + t.length := by rw [hn, hm]; rfl
      subst hn2
      rw [← hm] at hlen2
      have HM := Lib.hid hm
      have HRO2 : Hid (wr.heap[w.heap.size]? = some (.cells (rowC (m + t.length) D).toArray 5 (0, 0))) := Lib.hid (by rw [hn]; exact HRO.out)
      have hlr := rowC_len (m + t.length) D
      have HFIT : Hid (m + (⟨t.toArray⟩ : ByteArray).size ≤ (rowC (m + t.length) D).length) := Lib.hid (by rw [hlr, hsz]; omega)
      have hws := HB.out.size
      clear hbx hch3 hlen hn hm HRO hlr
      have hle : m ≤ N := by omega
      have HZ : Hid (N = m → ¬ 0 < (⟨t.toArray⟩ : ByteArray).size) := Lib.hid (fun e => by rw [hsz]; omega)
      have HLE : Hid ((⟨t.toArray⟩ : ByteArray).size ≤ N - m) := Lib.hid (by rw [hsz]; omega)
      by_cases hNm : N = m
      · subst hNm
        go_wp2_with fail
        go_region_law ((refine step_copy_text (by rfl) _ _ _ _ (by rfl) 5 Try.underlying81 (by kernel_rfl) _ _ _ ⟨t.toArray⟩ (by rfl) (by rfl) w.heap.size N (rowC (N + t.length) D) 5 (by first | exact HRO2.out | skip) (by first | exact HLE.out | (have hle0 := HLE.out; rw [Nat.sub_self] at hle0; exact hle0)) (by intro hp; first | rfl | exact absurd hp (HZ.out (by trivial))) HFIT.out w.heap.size w (by first | exact HB.out | exact HB.out.drew) (Nat.le_refl _) ?_; intro w2 hro2 hb2; have e0 : w2.cell? ⟨k, 0, none⟩ = some (.pointer o3) := (HBX.out.below hb2).cell 0))
        clear d0 d1
        have hb2h := Lib.hid hb2
        clear hb2
        go_wp2
        go_roundg L3.length
        case measure => show L3.length < L3.length + 1; omega
        case rel => exact ⟨L3, t ++ D, o3, rfl, ⟨N, HM.out, rfl⟩, rfl, HC3.out, by rw [← HCAT.out, ← List.append_assoc]; rfl, by rw [← HM.out, ← rowC_splice]; exact hro2.out, hb2h.out⟩
      · go_wp2_with fail
        go_region_law ((refine step_copy_text (by rfl) _ _ _ _ (by rfl) 5 Try.underlying81 (by kernel_rfl) _ _ _ ⟨t.toArray⟩ (by rfl) (by rfl) w.heap.size m (rowC (m + t.length) D) 5 (by first | exact HRO2.out | skip) (by first | exact HLE.out | (have hle0 := HLE.out; rw [Nat.sub_self] at hle0; exact hle0)) (by intro hp; first | rfl | exact absurd hp (HZ.out (by trivial))) HFIT.out w.heap.size w (by first | exact HB.out | exact HB.out.drew) (Nat.le_refl _) ?_; intro w2 hro2 hb2; have e0 : w2.cell? ⟨k, 0, none⟩ = some (.pointer o3) := (HBX.out.below hb2).cell 0))
        clear d0 d1
        have hb2h := Lib.hid hb2
        clear hb2
        go_wp2
        go_roundg L3.length
        case measure => show L3.length < L3.length + 1; omega
        case rel => exact ⟨L3, t ++ D, o3, rfl, ⟨m, HM.out, rfl⟩, rfl, HC3.out, by rw [← HCAT.out, ← List.append_assoc]; rfl, by rw [← HM.out, ← rowC_splice]; exact hro2.out, hb2h.out⟩
end Go.Proofs.Ytkbigfkpgjhojaa
