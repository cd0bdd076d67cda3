/- The document's example; sets of signs that the law makes. -/
import Derived.Test.YtcdjclidckohpaaDoorGlG
namespace Go.Proofs.YtcdjclidckohpaaDoor
open Go.RowKit Florin
set_option linter.unusedVariables false
set_option linter.unusedSimpArgs false
set_option maxRecDepth 100000 in
theorem ex_read : rdG plainG [49, 50, 46, 53] = ([49, 50], 2) := by decide
set_option maxRecDepth 100000 in
theorem ex_last : lstL [53, 226, 130, 172] = (8364, true) := by decide
set_option maxRecDepth 100000 in
theorem ex_one : oneL [226, 130, 172] = true := by decide
set_option maxRecDepth 100000 in
theorem ex_right : rightL [226, 130] = false := by decide
theorem plain_size (k : Nat) : (plainG k).size ≤ 1000 := by show (1 : Nat) ≤ 1000; omega
set_option maxHeartbeats 1600000 in
set_option maxRecDepth 100000 in
theorem head9 (w : World) (hT : Tabs w) : Calls Tryd.prog 8 #[] w fun e w' => e = .returned (.bool true) ∧ Below w.heap.size w w' := by
  have HT := Lib.hid hT
  clear hT
  go_enter Tryd.func8, Tryd.ntmps8
  go_wp2_with fail
  with_reducible refine (plain_as _).mono ?_
  rintro e w1 ⟨rfl, b1⟩
  go_wp2_with fail
  with_reducible refine (read_as plainG _ _ plain_size (by decide) _ _ ex_read).mono ?_
  rintro e w2 ⟨rfl, b2⟩
  have B2 := Lib.hid (b1.trans (b2.mono b1.size))
  clear b1 b2
  go_wp2_with fail
  with_reducible refine (last_as _ _ (HT.out.below B2.out) (by decide) _ _ ex_last).mono ?_
  rintro e w3 ⟨rfl, b3⟩
  have B3 := Lib.hid (B2.out.trans (b3.mono B2.out.size))
  clear b3 B2
  go_wp2_with fail
  with_reducible refine (one_as _ _ (HT.out.below B3.out) (by decide) _ ex_one).mono ?_
  rintro e w4 ⟨rfl, b4⟩
  have B4 := Lib.hid (B3.out.trans (b4.mono B3.out.size))
  clear b4 B3
  go_wp2_with fail
  with_reducible refine (right_as _ _ (HT.out.below B4.out) (by decide) _ ex_right).mono ?_
  rintro e w5 ⟨rfl, b5⟩
  have B5 := Lib.hid (B4.out.trans (b5.mono B4.out.size))
  clear b5 B4
  go_wp2
  go_ret
  exact ⟨rfl, B5.out⟩
/-- Ten numbers that came in. -/
abbrev IV (n : Nat → Int) : Value := .agg #[.int .i64 (n 0), .int .i64 (n 1), .int .i64 (n 2), .int .i64 (n 3), .int .i64 (n 4), .int .i64 (n 5), .int .i64 (n 6), .int .i64 (n 7), .int .i64 (n 8), .int .i64 (n 9)]
def isSg (b : ByteArray) : Prop := ∃ p, isPt p ∧ b.data.toList = signL p
def noG (_ : Nat) : ByteArray := ⟨#[]⟩
def updG (g : Nat → ByteArray) (i : Nat) (x : ByteArray) (k : Nat) : ByteArray := if k = i then x else g k
theorem upd_cells (g : Nat → ByteArray) (i : Nat) (hi : i < 10) (x : ByteArray) : (SC g).setIfInBounds i (.string x) = SC (updG g i x) := by
  match i, hi with
  | 0, _ => rfl
  | 1, _ => rfl
  | 2, _ => rfl
  | 3, _ => rfl
  | 4, _ => rfl
  | 5, _ => rfl
  | 6, _ => rfl
  | 7, _ => rfl
  | 8, _ => rfl
  | 9, _ => rfl
def Nm (w : World) (b : Nat) (n : Nat → Int) : Prop := ∀ k, k < 10 → w.cell? ⟨b, k, none⟩ = some (.int .i64 (n k))
theorem Nm.new (w : World) (n : Nat → Int) (t : TypeId) : Nm (w.alloc (.cells #[.int .i64 (n 0), .int .i64 (n 1), .int .i64 (n 2), .int .i64 (n 3), .int .i64 (n 4), .int .i64 (n 5), .int .i64 (n 6), .int .i64 (n 7), .int .i64 (n 8), .int .i64 (n 9)] t)) w.heap.size n := by
  intro k hk
  rw [Lib.cell_of_heap (heap_alloc_new w _) k]
  match k, hk with
  | 0, _ => rfl
  | 1, _ => rfl
  | 2, _ => rfl
  | 3, _ => rfl
  | 4, _ => rfl
  | 5, _ => rfl
  | 6, _ => rfl
  | 7, _ => rfl
  | 8, _ => rfl
  | 9, _ => rfl
theorem sc_get (g : Nat → ByteArray) (k : Nat) (hk : k < 10) : (SC g)[k]? = some (.string (g k)) := by
  match k, hk with
  | 0, _ => rfl
  | 1, _ => rfl
  | 2, _ => rfl
  | 3, _ => rfl
  | 4, _ => rfl
  | 5, _ => rfl
  | 6, _ => rfl
  | 7, _ => rfl
  | 8, _ => rfl
  | 9, _ => rfl
abbrev BB (w : World) (b : Nat) (g : Nat → ByteArray) : Prop := w.heap[b]? = some (.cells (SC g) 33 (0, 0))
theorem bb_set {w : World} {b k : Nat} {g : Nat → ByteArray} (h : BB w b g) (hk : k < 10) (x : ByteArray) : BB (w.setCell ⟨b, k, none⟩ (.string x)) b (updG g k x) := by
  show (w.setCell ⟨b, k, none⟩ (.string x)).heap[b]? = _
  rw [← upd_cells g k hk]
  simp [World.setCell, Array.getElem?_modify, h]
set_option maxHeartbeats 1600000 in
set_option maxRecDepth 100000 in
theorem set_as (n : Nat → Int) (w : World) : Calls Tryd.prog 16 #[IV n, .bool true] w fun e w' => ∃ g : Nat → ByteArray, (∀ k, k < 10 → isSg (g k)) ∧ e = .returned (SV g) ∧ Below w.heap.size w w' := by
  go_enter Tryd.func16, Tryd.ntmps16
  go_wp2_with fail
  go_loopw [9] (fun i wr => ∃ (k : Nat) (g : Nat → ByteArray), k ≤ 10 ∧ i = .int .i64 k ∧ (∀ j, j < k → isSg (g j)) ∧ Nm wr w.heap.size n ∧ BB wr (w.heap.size + 1) noG ∧ BB wr (w.heap.size + 2) g ∧ w.heap.size + 3 ≤ wr.heap.size ∧ Below w.heap.size w wr) (fun i _ => 10 - (intOf i).toNat)
  case atStart =>
    refine ⟨0, noG, Nat.zero_le _, rfl, fun j hj => absurd hj (by omega), ?_, ?_, ?_, by simp, (((Below.refl _ _).alloc (Nat.le_refl _) _).alloc (by simp) _).alloc (by simp; omega) _⟩
    · intro k hk
      have h := Nm.new w n 30 k hk
      rw [← h]
      exact Below.cell (B := w.heap.size + 1) (((Below.refl _ _).alloc (by simp) _).alloc (by simp) _) (by show w.heap.size < w.heap.size + 1; omega)
    · show (World.alloc _ _).heap[_]? = _
      rw [Lib.alloc_old _ _ _ (by simp)]
      have := heap_alloc_new (w.alloc (.cells #[.int .i64 (n 0), .int .i64 (n 1), .int .i64 (n 2), .int .i64 (n 3), .int .i64 (n 4), .int .i64 (n 5), .int .i64 (n 6), .int .i64 (n 7), .int .i64 (n 8), .int .i64 (n 9)] 30)) (.cells (SC noG) 33)
      simpa [SC, noG] using this
    · have := heap_alloc_new ((w.alloc (.cells #[.int .i64 (n 0), .int .i64 (n 1), .int .i64 (n 2), .int .i64 (n 3), .int .i64 (n 4), .int .i64 (n 5), .int .i64 (n 6), .int .i64 (n 7), .int .i64 (n 8), .int .i64 (n 9)] 30)).alloc (.cells (SC noG) 33)) (.cells (SC noG) 33)
      refine Eq.trans ?_ this
      show (World.heap _)[w.heap.size + 2]? = (World.heap _)[World.heap _ |>.size]?
      congr 1
      simp
  case round =>
    obtain ⟨k, g, hk, rfl, hj, hN, hB1, hB2, hsz, hb⟩ := hrel
    by_cases hlt : (k : Int) < 10
    · have hcell := hN k (by omega)
      obtain ⟨m, hm, em⟩ := and_mask (n k) 1048575 (by omega)
      rw [show ((1048575 : Nat) : Int) = 1048575 from rfl] at em
      have hmi : (m : Int) ≤ 1048575 := by omega
      have HJ := Lib.hid hj
      have HN := Lib.hid hN
      have H1 := Lib.hid hB1
      have H2 := Lib.hid hB2
      have HB := Lib.hid hb
      clear hj hN hB1 hB2 hb
      go_wp2_with fail
      with_reducible refine (point_as _ _).mono ?_
      rintro e w1 ⟨p, hp, rfl, rfl⟩
      go_wp2_with fail
      with_reducible refine (sign_as p hp _).mono ?_
      rintro e w2 ⟨rfl, hb2⟩
      have H2b : Hid (BB w2 (w.heap.size + 2) g) := Lib.hid ((hb2.block _ (by omega)).trans H2.out)
      have H1b : Hid (BB w2 (w.heap.size + 1) noG) := Lib.hid ((hb2.block _ (by omega)).trans H1.out)
      have HNb : Hid (Nm w2 w.heap.size n) := Lib.hid (fun j hj => (hb2.cell (p := ⟨w.heap.size, j, none⟩) (by show w.heap.size < _; omega)).trans (HN.out j hj))
      have HBb : Hid (Below w.heap.size w w2) := Lib.hid (HB.out.trans (hb2.mono HB.out.size))
      have hs2 := hb2.size
      have c2 : w2.cell? ⟨w.heap.size + 2, k, none⟩ = some (.string (g k)) := by rw [Lib.cell_of_heap H2b.out, sc_get g k (by omega)]
      have f2 : w2.frozen? ⟨w.heap.size + 2, k, none⟩ = false := Lib.frozen_of_heap H2b.out k
      have HP := Lib.hid hp
      clear hb2 hp H1 H2 HN HB
      go_wp2
      go_roundw
      case rel =>
        refine ⟨k + 1, updG g k ⟨(signL p).toArray⟩, by omega, by go_num, fun j hj => ?_, fun j hj => ?_, ?_, ?_, by simp [World.setCell]; omega, HBb.out.setCell (p := ⟨w.heap.size + 2, k, none⟩) (by show w.heap.size ≤ w.heap.size + 2; omega) _⟩
        · unfold updG
          by_cases hjk : j = k
          · rw [if_pos hjk]; exact ⟨p, HP.out, arr_list _⟩
          · rw [if_neg hjk]; exact HJ.out j (by omega)
        · rw [← HNb.out j hj]
          exact World.cell?_of_block (Below.heap_setCell _ _ _ _ (by show w.heap.size ≠ w.heap.size + 2; omega))
        · exact (Below.heap_setCell _ _ _ _ (by show w.heap.size + 1 ≠ w.heap.size + 1 + 1; omega)).trans H1b.out
        · exact bb_set H2b.out (by omega) _
      case measure => simp [intOf]; omega
    · have HB := Lib.hid hb
      have HJ := Lib.hid hj
      clear hN hb hj
      have p0 := Lib.cell_of_heap hB1 0
      have z0 := Lib.frozen_of_heap hB1 0
      have q0 := Lib.cell_of_heap hB2 0
      have p1 := Lib.cell_of_heap hB1 1
      have z1 := Lib.frozen_of_heap hB1 1
      have q1 := Lib.cell_of_heap hB2 1
      have p2 := Lib.cell_of_heap hB1 2
      have z2 := Lib.frozen_of_heap hB1 2
      have q2 := Lib.cell_of_heap hB2 2
      have p3 := Lib.cell_of_heap hB1 3
      have z3 := Lib.frozen_of_heap hB1 3
      have q3 := Lib.cell_of_heap hB2 3
      have p4 := Lib.cell_of_heap hB1 4
      have z4 := Lib.frozen_of_heap hB1 4
      have q4 := Lib.cell_of_heap hB2 4
      have p5 := Lib.cell_of_heap hB1 5
      have z5 := Lib.frozen_of_heap hB1 5
      have q5 := Lib.cell_of_heap hB2 5
      have p6 := Lib.cell_of_heap hB1 6
      have z6 := Lib.frozen_of_heap hB1 6
      have q6 := Lib.cell_of_heap hB2 6
      have p7 := Lib.cell_of_heap hB1 7
      have z7 := Lib.frozen_of_heap hB1 7
      have q7 := Lib.cell_of_heap hB2 7
      have p8 := Lib.cell_of_heap hB1 8
      have z8 := Lib.frozen_of_heap hB1 8
      have q8 := Lib.cell_of_heap hB2 8
      have p9 := Lib.cell_of_heap hB1 9
      have z9 := Lib.frozen_of_heap hB1 9
      have q9 := Lib.cell_of_heap hB2 9
      have H1 := Lib.hid hB1
      have H2 := Lib.hid hB2
      clear hB1 hB2
      go_wp2
      refine bodyPost_ret (v := SV g) (by simp [results, Tryd.results16, go_sem, p0, p1, p2, p3, p4, p5, p6, p7, p8, p9]) rfl ⟨g, fun j hj => HJ.out j (by omega), rfl, ?_⟩
      iterate 10 refine Below.setCell ?_ (by show w.heap.size ≤ w.heap.size + 1; omega) _
      exact HB.out
end Go.Proofs.YtcdjclidckohpaaDoor
