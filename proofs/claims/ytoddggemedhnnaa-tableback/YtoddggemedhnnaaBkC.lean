/- What the law lays of a table by the page: texts, lists of texts. -/
import Derived.Test.YtoddggemedhnnaaBkB
import Derived.Test.YtoddggemedhnnaaWrH
import Derived.Deep.RegionHeld3
import Derived.Deep.DrawnRows
namespace Go.Proofs.Ytoddggemedhnnaa
open Go.RowKit Florin
set_option linter.unusedVariables false
set_option linter.unusedSimpArgs false
attribute [local go_sem ↓] Go.wp_at_zero Go.wp_at_succ
theorem tnum_any (n : Int) (w : World) (hn : n ≤ 9223372036854775807) :
    Calls Try.prog 19 #[.int .i64 n] w fun e w' => e = .returned (S (vnum n.toNat)) ∧ Below w.heap.size w w' :=
  lnum_as 8 n w (by have : (128 : Int) ^ (8 + 1) = 9223372036854775808 := by decide
                    omega) hn
set_option maxRecDepth 100000 in
theorem llay_as (s : List UInt8) (w : World) (hl : (eT s).length ≤ 900000000) :
    Calls Try.prog 18 #[S s] w fun e w' => e = .returned (S (eT s)) ∧ Below w.heap.size w w' := by
  have hsl : s.length ≤ 900000000 := by have := eT_le s; omega
  have hl2 : (vnum s.length).length + s.length ≤ 900000000 := by have := hl; unfold eT at this; rw [List.length_append] at this; exact this
  go_enter Try.func18, Try.ntmps18
  go_wp2_with fail
  with_reducible refine (tnum_any (s.length : Int) _ (by omega)).mono ?_
  rw [Int.toNat_natCast]
  rintro e w1 ⟨rfl, hb⟩
  have HB := Lib.hid hb
  clear hb
  have hz : ¬ 9223372036854775807 < (vnum s.length).length + s.length := by omega
  clear hl
  go_wp2
  go_ret
  exact ⟨by rw [arr_append]; rfl, HB.out⟩
theorem eTx_len (x : TxM) : (eTx x).length = (vnum x.1.toNat).length + (eT x.2).length := by unfold eTx eN; rw [List.length_append]
set_option maxRecDepth 100000 in
set_option maxHeartbeats 6400000 in
theorem ltexts_as (lim : Nat) (l : List TxM) (v : Value) (w : World) (hin : TxL w lim v l) (hlim : lim ≤ w.heap.size) (hn : ∀ x ∈ l, nTx x) (hl : (eTxs l).length ≤ 900000000) :
    Calls Try.prog 21 #[v] w fun e w' => e = .returned (S (eTxs l)) ∧ Below w.heap.size w w' := by
  have hl2 := hl
  unfold eTxs at hl2
  rw [eL_len] at hl2
  obtain ⟨a, cap, rfl, hcap, hmax, hcell⟩ := hin
  unfold maxLen at hmax
  have HC := Lib.hid hcell
  have HN := Lib.hid hn
  clear hcell hn hl
  go_enter Try.func21, Try.ntmps21
  go_wp2_with fail
  with_reducible refine (tnum_any (l.length : Int) _ (by omega)).mono ?_
  rw [Int.toNat_natCast]
  rintro e w1 ⟨rfl, hb⟩
  have HB1 := Lib.hid hb
  clear hb
  go_wp2_with fail
  go_loopw [3, 11] (fun s i wr => ∃ k : Nat, k ≤ l.length ∧ i = .int .i64 (k : Int) ∧ s = S (vnum l.length ++ (l.take k).flatMap eTx) ∧ Below w.heap.size w wr) (fun _ i _ => l.length - (intOf i).toNat)
  case atStart => exact ⟨0, Nat.zero_le _, rfl, by rw [List.take_zero]; simp, HB1.out⟩
  case round =>
    obtain ⟨k, hk, rfl, rfl, hb⟩ := hrel
    have HB := Lib.hid hb
    have hws := hb.size
    clear hb HB1
    by_cases hlt : k < l.length
    · obtain ⟨bb, off, rfl, hbl, hbl2, hc⟩ := HC.out (by omega)
      obtain ⟨c, hA, hcl, hcc⟩ := hc k hlt
      have HT := Lib.hid (flat_take eTx l k hlt)
      have hnx := HN.out l[k] (List.getElem_mem hlt)
      have hfl := flat_le eTx l (k + 1)
      rw [HT.out, List.length_append, eTx_len] at hfl
      obtain ⟨x, hx⟩ : ∃ x, x = l[k] := ⟨_, rfl⟩
      rw [← hx] at hA hnx HT hfl
      clear hx
      obtain rfl := hA
      have hcc2 : ∀ j, j < 2 → wr.cell? ⟨bb, off + k * 2 + j, none⟩ = _ := fun j hj => (HB.out.cell (p := ⟨bb, off + k * 2 + j, none⟩) (by show bb < _; omega)).trans (hcc j hj)
      have q0 : wr.cell? ⟨bb, off + k * 2, none⟩ = _ := hcc2 0 (by decide)
      have q1 : wr.cell? ⟨bb, off + k * 2 + 1, none⟩ = _ := hcc2 1 (by decide)
      simp only [List.getElem?_cons_zero, List.getElem?_cons_succ] at q0 q1
      clear hcc hcc2 hc hcl
      have hki : (k : Int) < (l.length : Int) := by omega
      have hn9 : x.1 ≤ 9223372036854775807 := hnx
      clear hnx
      obtain ⟨t, ht⟩ : ∃ t, t = vnum l.length ++ (l.take k).flatMap eTx := ⟨_, rfl⟩
      have htl : t.length + (vnum x.1.toNat).length + (eT x.2).length ≤ 900000000 := by rw [ht, List.length_append]; omega
      rw [← ht]
      have HTT := Lib.hid ht
      clear ht
      go_wp2_with fail
      have B2 := Lib.hid (HB.out.alloc (by omega) (.cells #[.int .i64 x.1, S x.2] 83))
      have X2 := Lib.hid (BoxT.new wr #[.int .i64 x.1, S x.2] 83)
      clear q0 q1 HB
      generalize wr.alloc (.cells #[.int .i64 x.1, S x.2] 83) = w2 at *
      generalize wr.heap.size = xb at *
      have KS : Hid (∀ w', Below w2.heap.size w2 w' → w'.cell? ⟨xb, 0, none⟩ = some (.int .i64 x.1) ∧ w'.cell? ⟨xb, 1, none⟩ = some (S x.2) ∧ Below w2.heap.size w2 w') := Lib.hid (fun w' hb => ⟨(X2.out.below hb).cell 0, (X2.out.below hb).cell 1, hb⟩)
      have KEEP : Hid (∀ w' w'', (w'.cell? ⟨xb, 0, none⟩ = some (.int .i64 x.1) ∧ w'.cell? ⟨xb, 1, none⟩ = some (S x.2) ∧ Below w2.heap.size w2 w') → Below w'.heap.size w' w'' → (w''.cell? ⟨xb, 0, none⟩ = some (.int .i64 x.1) ∧ w''.cell? ⟨xb, 1, none⟩ = some (S x.2) ∧ Below w2.heap.size w2 w'')) := Lib.hid (fun w' w'' h hb => KS.out _ (h.2.2.trans (hb.mono h.2.2.size)))
      have HTL := Lib.hid htl
      have he1 : (eT x.2).length ≤ 900000000 := by omega
      have hs1 : ¬ 9223372036854775807 < t.length + (vnum x.1.toNat).length := by omega
      have hs2 : ¬ 9223372036854775807 < t.length + (vnum x.1.toNat).length + (eT x.2).length := by omega
      go_region_held3 (fun w' => w'.cell? ⟨xb, 0, none⟩ = some (.int .i64 x.1) ∧ w'.cell? ⟨xb, 1, none⟩ = some (S x.2) ∧ Below w2.heap.size w2 w')
        (first | exact KS.out _ (Below.refl _ w2).drew | exact KEEP.out _ _ (by assumption) hb | assumption)
        (first | (go_at_call 19; (with_reducible refine (tnum_any _ _ (by omega)).mono ?_); rintro y w6 ⟨rfl, hb⟩) | (go_at_call 18; (with_reducible refine (llay_as _ _ he1).mono ?_); rintro y w6 ⟨rfl, hb⟩))
      have HH : Below w2.heap.size w2 w6 := (‹w6.cell? ⟨xb, 0, none⟩ = some (.int .i64 x.1) ∧ w6.cell? ⟨xb, 1, none⟩ = some (S x.2) ∧ Below w2.heap.size w2 w6›).2.2
      have B6 := Lib.hid (B2.out.trans (HH.mono B2.out.size))
      clear HH KS KEEP X2 B2
      go_wp2
      go_roundw
      case rel =>
        refine ⟨k + 1, by omega, by go_num, ?_, B6.out⟩
        rw [HT.out, arr_append, arr_append, HTT.out, List.append_assoc, List.append_assoc]
        rfl
      case measure => simp [intOf]; omega
    · have hke : l.take k = l := List.take_of_length_le (by omega)
      have hki : ¬ (k : Int) < (l.length : Int) := by omega
      rw [hke]
      clear hke
      go_wp2
      go_ret
      exact ⟨rfl, HB.out⟩
theorem eRow_len (x : RowM) : (eRow x).length = (vnum x.1.toNat).length + (eTxs x.2).length := by unfold eRow eN; rw [List.length_append]
set_option maxRecDepth 100000 in
set_option maxHeartbeats 6400000 in
theorem lrows_as (lim : Nat) (l : List RowM) (v : Value) (w : World) (hin : RowL w lim v l) (hlim : lim ≤ w.heap.size) (hn : ∀ x ∈ l, nRow x) (hl : (eRows l).length ≤ 900000000) :
    Calls Try.prog 20 #[v] w fun e w' => e = .returned (S (eRows l)) ∧ Below w.heap.size w w' := by
  have hl2 := hl
  unfold eRows at hl2
  rw [eL_len] at hl2
  obtain ⟨a, cap, rfl, hcap, hmax, hcell⟩ := hin
  unfold maxLen at hmax
  have HC := Lib.hid hcell
  have HN := Lib.hid hn
  clear hcell hn hl
  go_enter Try.func20, Try.ntmps20
  go_wp2_with fail
  with_reducible refine (tnum_any (l.length : Int) _ (by omega)).mono ?_
  rw [Int.toNat_natCast]
  rintro e w1 ⟨rfl, hb⟩
  have HB1 := Lib.hid hb
  clear hb
  go_wp2_with fail
  go_loopw [3, 11] (fun s i wr => ∃ k : Nat, k ≤ l.length ∧ i = .int .i64 (k : Int) ∧ s = S (vnum l.length ++ (l.take k).flatMap eRow) ∧ Below w.heap.size w wr) (fun _ i _ => l.length - (intOf i).toNat)
  case atStart => exact ⟨0, Nat.zero_le _, rfl, by rw [List.take_zero]; simp, HB1.out⟩
  case round =>
    obtain ⟨k, hk, rfl, rfl, hb⟩ := hrel
    have HB := Lib.hid hb
    have hws := hb.size
    clear hb HB1
    by_cases hlt : k < l.length
    · obtain ⟨bb, off, rfl, hbl, hbl2, hc⟩ := HC.out (by omega)
      obtain ⟨c, hA, hcl, hcc⟩ := hc k hlt
      have HT := Lib.hid (flat_take eRow l k hlt)
      have hnx := HN.out l[k] (List.getElem_mem hlt)
      have hfl := flat_le eRow l (k + 1)
      rw [HT.out, List.length_append, eRow_len] at hfl
      obtain ⟨x, hx⟩ : ∃ x, x = l[k] := ⟨_, rfl⟩
      rw [← hx] at hA hnx HT hfl
      clear hx
      obtain ⟨u, rfl, hu⟩ := hA
      obtain ⟨ua, uc, rfl⟩ : ∃ ua uc, u = .slice ua x.2.length uc := by
        obtain ⟨ua, uc, e, _⟩ := hu
        exact ⟨ua, uc, e⟩
      have HU := Lib.hid hu
      clear hu
      have hcc2 : ∀ j, j < 2 → wr.cell? ⟨bb, off + k * 2 + j, none⟩ = _ := fun j hj => (HB.out.cell (p := ⟨bb, off + k * 2 + j, none⟩) (by show bb < _; omega)).trans (hcc j hj)
      have q0 : wr.cell? ⟨bb, off + k * 2, none⟩ = _ := hcc2 0 (by decide)
      have q1 : wr.cell? ⟨bb, off + k * 2 + 1, none⟩ = _ := hcc2 1 (by decide)
      simp only [List.getElem?_cons_zero, List.getElem?_cons_succ] at q0 q1
      clear hcc hcc2 hc hcl
      have hki : (k : Int) < (l.length : Int) := by omega
      have hn9 : x.1 ≤ 9223372036854775807 := hnx.1
      have HNT := Lib.hid hnx.2
      clear hnx
      obtain ⟨t, ht⟩ : ∃ t, t = vnum l.length ++ (l.take k).flatMap eRow := ⟨_, rfl⟩
      have htl : t.length + (vnum x.1.toNat).length + (eTxs x.2).length ≤ 900000000 := by rw [ht, List.length_append]; omega
      rw [← ht]
      have HTT := Lib.hid ht
      clear ht
      go_wp2_with fail
      have B2 := Lib.hid (HB.out.alloc (by omega) (.cells #[.int .i64 x.1, .slice ua x.2.length uc] 44))
      have X2 := Lib.hid (BoxT.new wr #[.int .i64 x.1, .slice ua x.2.length uc] 44)
      clear q0 q1 HB
      generalize wr.alloc (.cells #[.int .i64 x.1, .slice ua x.2.length uc] 44) = w2 at *
      generalize wr.heap.size = xb at *
      have KS : Hid (∀ w', Below w2.heap.size w2 w' → w'.cell? ⟨xb, 0, none⟩ = some (.int .i64 x.1) ∧ w'.cell? ⟨xb, 1, none⟩ = some (.slice ua x.2.length uc) ∧ Below w2.heap.size w2 w') := Lib.hid (fun w' hb => ⟨(X2.out.below hb).cell 0, (X2.out.below hb).cell 1, hb⟩)
      have KEEP : Hid (∀ w' w'', (w'.cell? ⟨xb, 0, none⟩ = some (.int .i64 x.1) ∧ w'.cell? ⟨xb, 1, none⟩ = some (.slice ua x.2.length uc) ∧ Below w2.heap.size w2 w') → Below w'.heap.size w' w'' → (w''.cell? ⟨xb, 0, none⟩ = some (.int .i64 x.1) ∧ w''.cell? ⟨xb, 1, none⟩ = some (.slice ua x.2.length uc) ∧ Below w2.heap.size w2 w'')) := Lib.hid (fun w' w'' h hb => KS.out _ (h.2.2.trans (hb.mono h.2.2.size)))
      have HMV : Hid (∀ w', (w'.cell? ⟨xb, 0, none⟩ = some (.int .i64 x.1) ∧ w'.cell? ⟨xb, 1, none⟩ = some (.slice ua x.2.length uc) ∧ Below w2.heap.size w2 w') → TxL w' lim (.slice ua x.2.length uc) x.2) := Lib.hid (fun w' h => TxL.move HU.out (Nat.le_refl _) ((B2.out.trans (h.2.2.mono B2.out.size)).mono hlim))
      have HSZ : Hid (∀ w', (w'.cell? ⟨xb, 0, none⟩ = some (.int .i64 x.1) ∧ w'.cell? ⟨xb, 1, none⟩ = some (.slice ua x.2.length uc) ∧ Below w2.heap.size w2 w') → lim ≤ w'.heap.size) := Lib.hid (fun w' h => by have h1 := h.2.2.size; have h2 := B2.out.size; omega)
      have HTL := Lib.hid htl
      have he1 : (eTxs x.2).length ≤ 900000000 := by omega
      have hs1 : ¬ 9223372036854775807 < t.length + (vnum x.1.toNat).length := by omega
      have hs2 : ¬ 9223372036854775807 < t.length + (vnum x.1.toNat).length + (eTxs x.2).length := by omega
      go_region_held3 (fun w' => w'.cell? ⟨xb, 0, none⟩ = some (.int .i64 x.1) ∧ w'.cell? ⟨xb, 1, none⟩ = some (.slice ua x.2.length uc) ∧ Below w2.heap.size w2 w')
        (first | exact KS.out _ (Below.refl _ w2).drew | exact KEEP.out _ _ (by assumption) hb | assumption)
        (first | (go_at_call 19; (with_reducible refine (tnum_any _ _ (by omega)).mono ?_); rintro y w6 ⟨rfl, hb⟩) | (go_at_call 21; (with_reducible refine (ltexts_as lim x.2 _ _ (HMV.out _ (by assumption)) (HSZ.out _ (by assumption)) HNT.out he1).mono ?_); rintro y w6 ⟨rfl, hb⟩))
      have HH : Below w2.heap.size w2 w6 := (‹w6.cell? ⟨xb, 0, none⟩ = some (.int .i64 x.1) ∧ w6.cell? ⟨xb, 1, none⟩ = some (.slice ua x.2.length uc) ∧ Below w2.heap.size w2 w6›).2.2
      have B6 := Lib.hid (B2.out.trans (HH.mono B2.out.size))
      clear HH KS KEEP X2 B2
      go_wp2
      go_roundw
      case rel =>
        refine ⟨k + 1, by omega, by go_num, ?_, B6.out⟩
        rw [HT.out, arr_append, arr_append, HTT.out, List.append_assoc, List.append_assoc]
        rfl
      case measure => simp [intOf]; omega
    · have hke : l.take k = l := List.take_of_length_le (by omega)
      have hki : ¬ (k : Int) < (l.length : Int) := by omega
      rw [hke]
      clear hke
      go_wp2
      go_ret
      exact ⟨rfl, HB.out⟩
end Go.Proofs.Ytoddggemedhnnaa
