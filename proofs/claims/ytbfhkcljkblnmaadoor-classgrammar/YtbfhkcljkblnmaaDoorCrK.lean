/- A class as it is written. -/
import Derived.Test.YtbfhkcljkblnmaaDoorCrJ
import Derived.Test.YtbfhkcljkblnmaaDoorClD
namespace Go.Proofs.YtbfhkcljkblnmaaDoor
open Go.RowKit Florin
set_option linter.unusedVariables false
set_option linter.unusedSimpArgs false
attribute [local go_sem ↓] Go.wp_at_zero Go.wp_at_succ
theorem own_below {w w' : World} {B : Nat} {e : TypeId} {size : Nat} {v : Value} {n : Nat} {xs : List Value} (h : w.ownsRow B e size v n xs) (hb : Below w.heap.size w w') : w'.ownsRow B e size v n xs := by
  refine World.ownsRow.kept h (grown_of_below hb none) ?_
  cases hv : v.ownBlock with
  | none => exact .inl rfl
  | some k => exact .inr (by intro e; cases e)
theorem builder_below {B b : Nat} {bs : List Value} {w w' : World} (h : Lib.IsBuilder TB 5 B b bs w) (hb : Below w.heap.size w w') : Lib.IsBuilder TB 5 B b bs w' := by
  rcases h with h | h
  · have hl := h.lt
    obtain ⟨hB, v, hbk, hown, hne⟩ := h
    exact .inl ⟨hB, v, (hb.block b hl).trans hbk, own_below hown hb, hne⟩
  · have hl := h.lt
    obtain ⟨hB, v, hbk, hown, hne⟩ := h
    exact .inr ⟨hB, v, (hb.block b hl).trans hbk, own_below hown hb, hne⟩
theorem settled_at : ∀ {c : List (Int × Int)} {a : Int}, settledFrom a c → ∀ (k : Nat) (h : k < c.length), a ≤ c[k].1 ∧ c[k].1 ≤ c[k].2 ∧ c[k].2 ≤ cTop
  | [], _, _, k, h => absurd h (by simp)
  | x :: t, a, hs, 0, _ => ⟨hs.1, hs.2.1, hs.2.2.1⟩
  | x :: t, a, hs, k + 1, h => by
    have h1 := settled_at hs.2.2.2 k (by simpa using h)
    have h2 := hs.1
    have h3 := hs.2.1
    simp only [List.getElem_cons_succ]
    omega
theorem builder_lt {B b : Nat} {bs : List Value} {w : World} (h : Lib.IsBuilder TB 5 B b bs w) : b < w.heap.size := by
  rcases h with h | h
  · exact h.lt
  · exact h.lt
theorem flat_len : ∀ (c : List (Int × Int)), (c.flatMap oneC).length ≤ 43 * c.length
  | [] => by simp
  | x :: t => by
    have h1 := oneC_len x
    have h2 := flat_len t
    rw [List.flatMap_cons, List.length_append, List.length_cons]
    omega
/-- What WriteString adds. -/
theorem wr_as (B b : Nat) (l : List UInt8) (m : List UInt8) (w : World) (h : Lib.IsBuilder TB 5 B b (Lib.byteCells l) w) (hlen : l.length + m.length ≤ 140737488355328) (hBw : B ≤ w.heap.size) :
    Calls Tryd.prog 42 #[.pointer (some ⟨b, 0, none⟩), S m] w fun e w' => e = .returned (.tuple #[.int .i64 (m.length : Int), .nilIface]) ∧ Lib.IsBuilder TB 5 B b (Lib.byteCells (l ++ m)) w' ∧ Below B w w' ∧ KeptT b w w' := by
  refine (wstr_as B b (Lib.byteCells l) ⟨m.toArray⟩ w h (by rw [Lib.byteCells_length, arr_size]; exact hlen) hBw).mono ?_
  rintro e w' ⟨rfl, h1, h2, h3⟩
  refine ⟨by rw [arr_size], .inr ?_, h2, h3⟩
  rw [Lib.byteCells_append]
  exact h1
set_option maxRecDepth 100000 in
set_option maxHeartbeats 3200000 in
theorem string_as (w : World) (v : Value) (c : List (Int × Int)) (hc : InC w v c) (hs : settledC c) (hD : Deb w) :
    Calls Tryd.prog 25 #[v] w fun e w' => e = .returned (S (strC c)) ∧ Below w.heap.size w w' := by
  have hl := settled_few hs
  obtain ⟨a, cap, rfl, h1, h2, h3⟩ := hc
  have H3 := Lib.hid h3
  have HD := Lib.hid hD
  have HS := Lib.hid hs
  have BD0 : Hid (Lib.IsBuilder TB 5 w.heap.size w.heap.size (Lib.byteCells []) (w.alloc (.cells #[.pointer none, .slice none 0 0] TB))) := Lib.hid (Lib.fresh_isBuilder TB 5 w)
  clear h3 hD hs
  go_enter Tryd.func25, Tryd.ntmps25
  go_wp2_with fail
  with_reducible refine (wr_as w.heap.size w.heap.size [] [91] _ BD0.out (by decide) (by simp)).mono ?_
  rintro e w1 ⟨rfl, hb1, hbl1, _⟩
  have B1 := Lib.hid hb1
  have L1 := Lib.hid (((Below.refl w.heap.size w).alloc (Nat.le_refl _) (.cells #[.pointer none, .slice none 0 0] TB)).trans hbl1)
  clear hb1 hbl1
  go_wp2_with fail
  go_loopw [9] (fun i wr => ∃ k : Nat, k ≤ c.length ∧ i = .int .i64 (k : Int) ∧ Lib.IsBuilder TB 5 w.heap.size w.heap.size (Lib.byteCells ([91] ++ (c.take k).flatMap oneC)) wr ∧ Below w.heap.size w wr) (fun i _ => c.length - (intOf i).toNat)
  case atStart => exact ⟨0, Nat.zero_le _, rfl, B1.out, L1.out⟩
  case round =>
    obtain ⟨k, hk, rfl, hbd, hb⟩ := hrel
    have HBD := Lib.hid hbd
    have HB := Lib.hid hb
    have hfl := flat_len (c.take k)
    have hlk := List.length_take_le k c
    clear hbd hb
    by_cases hlt : k < c.length
    · have hki : (k : Int) < (c.length : Int) := by omega
      obtain ⟨b, off, rfl, hbl, hcell⟩ := H3.out (by omega)
      have c0 : wr.cell? ⟨b, off + k * 2, none⟩ = some (.int .i32 c[k].1) := (HB.out.cell (p := ⟨b, off + k * 2, none⟩) hbl).trans (hcell k hlt).1
      have c1 : wr.cell? ⟨b, off + k * 2 + 1, none⟩ = some (.int .i32 c[k].2) := (HB.out.cell (p := ⟨b, off + k * 2 + 1, none⟩) hbl).trans (hcell k hlt).2
      have hbd := settled_at (a := 0) HS.out k hlt
      have HT : Hid ((c.take (k + 1)).flatMap oneC = (c.take k).flatMap oneC ++ oneC c[k]) := Lib.hid (by rw [List.take_succ_eq_append_getElem hlt, List.flatMap_append]; simp)
      clear hcell
      unfold cTop at hbd
      obtain ⟨⟨y1, y2⟩, hy⟩ : ∃ z, c[k] = z := ⟨_, rfl⟩
      rw [hy] at c0 c1 hbd HT
      clear hy
      obtain ⟨x1, rfl⟩ : ∃ x : Nat, y1 = (x : Int) := ⟨y1.toNat, by have : (0 : Int) ≤ y1 := hbd.1; omega⟩
      obtain ⟨x2, rfl⟩ : ∃ x : Nat, y2 = (x : Int) := ⟨y2.toNat, by have : (0 : Int) ≤ (x1 : Int) := hbd.1; have : (x1 : Int) ≤ y2 := hbd.2.1; omega⟩
      have hx1 : x1 ≤ 1114111 := by have h1 : (x1 : Int) ≤ (x2 : Int) := hbd.2.1; have h2 : (x2 : Int) ≤ 1114111 := hbd.2.2; omega
      have hx2 : x2 ≤ 1114111 := by have h2 : (x2 : Int) ≤ 1114111 := hbd.2.2; omega
      clear hbd
      generalize (c.take k).flatMap oneC = pr at *
      have hz := HB.out.size
      have hblt := builder_lt HBD.out
      have hw1 := wrC_len x1
      have hw2 := wrC_len x2
      have BX := Lib.hid ((Below.refl wr.heap.size wr).alloc (Nat.le_refl _) (.cells #[.int .i32 (x1 : Int), .int .i32 (x2 : Int)] 28))
      have DX := Lib.hid ((HD.out.below HB.out).below BX.out)
      go_wp2_with fail
      with_reducible refine (written_as x1 hx1 _ DX.out).mono ?_
      rintro e w2 ⟨rfl, hb2⟩
      have L2 := Lib.hid (BX.out.trans (hb2.mono BX.out.size))
      have BD2 := Lib.hid (builder_below HBD.out L2.out)
      have hz2 := L2.out.size
      have XB2 : Hid (BoxT w2 wr.heap.size #[.int .i32 (x1 : Int), .int .i32 (x2 : Int)] 28) := Lib.hid ((BoxT.new wr _ _).below hb2)
      clear hb2
      go_wp2_with fail
      with_reducible refine (wr_as w.heap.size w.heap.size ([91] ++ pr) (wrC x1) _ BD2.out (by simp only [List.length_append, List.length_cons, List.length_nil]; omega) (by omega)).mono ?_
      rintro e w3 ⟨rfl, hbd3, hb3, hk3⟩
      have XB3 := hk3 _ _ _ (by decide) (by omega) XB2.out
      have L3 := Lib.hid ((HB.out.trans (L2.out.mono hz)).trans hb3)
      have D3 := Lib.hid (HD.out.below L3.out)
      have BD3 := Lib.hid hbd3
      have hz3 := hb3.size
      have r0 := XB3.cell 0
      have r1 := XB3.cell 1
      simp at r0 r1
      clear hbd3 hb3 hk3
      by_cases he : x1 = x2
      · subst he
        have HO : Hid (oneC ((x1 : Int), (x1 : Int)) = wrC x1) := Lib.hid (by unfold oneC; simp)
        have e1 : ((x1 : Int) == (x1 : Int)) = true := by simp
        have e2 : ((x1 : Int) != (x1 : Int)) = false := by simp
        go_wp2
        go_roundw
        case rel => exact ⟨k + 1, by omega, by go_num, by rw [HT.out, HO.out, ← List.append_assoc]; exact BD3.out, L3.out⟩
        case measure => simp [intOf]; omega
      · have e0 : ¬ (x1 : Int) = (x2 : Int) := by omega
        have e1 : ((x1 : Int) == (x2 : Int)) = false := by simp; omega
        have e2 : ((x1 : Int) != (x2 : Int)) = true := by simp; omega
        have HO : Hid (oneC ((x1 : Int), (x2 : Int)) = wrC x1 ++ (45 :: wrC x2)) := Lib.hid (by unfold oneC; rw [if_neg e0]; simp)
        clear he
        go_wp2_with fail
        with_reducible refine (written_as x2 hx2 _ D3.out).mono ?_
        rintro e w4 ⟨rfl, hb4⟩
        have L4 := Lib.hid (L3.out.trans (hb4.mono L3.out.size))
        have BD4 := Lib.hid (builder_below BD3.out hb4)
        have hz4 := hb4.size
        have ej : ((⟨#[45]⟩ : ByteArray) ++ (⟨(wrC x2).toArray⟩ : ByteArray)) = ⟨(45 :: wrC x2).toArray⟩ := arr_append [45] (wrC x2)
        clear hb4
        go_wp2_with fail
        with_reducible refine (wr_as w.heap.size w.heap.size (([91] ++ pr) ++ wrC x1) (45 :: wrC x2) _ BD4.out (by simp only [List.length_append, List.length_cons, List.length_nil]; omega) (by omega)).mono ?_
        rintro e w5 ⟨rfl, hbd5, hb5, _⟩
        have L5 := Lib.hid (L4.out.trans hb5)
        have BD5 := Lib.hid hbd5
        clear hbd5 hb5
        go_wp2
        go_roundw
        case rel => exact ⟨k + 1, by omega, by go_num, by rw [HT.out, HO.out, ← List.append_assoc, ← List.append_assoc]; exact BD5.out, L5.out⟩
        case measure => simp [intOf]; omega
    · have HTK : Hid (c.take k = c) := Lib.hid (List.take_of_length_le (by omega))
      rw [HTK.out] at HBD hfl
      have hz := HB.out.size
      go_wp2_with fail
      with_reducible refine (wr_as w.heap.size w.heap.size ([91] ++ c.flatMap oneC) [93] _ HBD.out (by simp only [List.length_append, List.length_cons, List.length_nil]; omega) (by omega)).mono ?_
      rintro e w2 ⟨rfl, hbd2, hb2, _⟩
      have BD2 := Lib.hid hbd2
      have L2 := Lib.hid (HB.out.trans hb2)
      clear hbd2 hb2
      go_wp2_with fail
      with_reducible refine (Tryd.Builder_String_any _ _ _ _ BD2.out L2.out.size).mono ?_
      rintro e w3 ⟨rfl, hb3⟩
      go_wp2
      go_ret
      exact ⟨rfl, L2.out.trans hb3⟩
end Go.Proofs.YtbfhkcljkblnmaaDoor
