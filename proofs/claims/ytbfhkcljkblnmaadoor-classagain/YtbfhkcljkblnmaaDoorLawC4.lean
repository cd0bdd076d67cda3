/- The walk of the law ClassAgain. -/
import Derived.Test.YtbfhkcljkblnmaaDoorCrZ
import Derived.Test.YtbfhkcljkblnmaaDoorCrP
import Derived.Test.YtbfhkcljkblnmaaDoorCPlain2
namespace Go.Proofs.YtbfhkcljkblnmaaDoor
open Go.RowKit Florin
set_option linter.unusedVariables false
set_option linter.unusedSimpArgs false
attribute [local go_sem ↓] Go.wp_at_zero Go.wp_at_succ
theorem strC_len (c : List (Int × Int)) : (strC c).length ≤ 43 * c.length + 2 := by
  have := flat_len c
  unfold strC
  simp only [List.length_append, List.length_cons, List.length_nil]
  omega
theorem parse_str (c : List (Int × Int)) (hs : settledC c) (hl : c.length ≤ 1000) (w : World) (hTab : Tabs w) :
    Calls Tryd.prog 23 #[S (strC c)] w fun e w' => ∃ v, e = .returned (.tuple #[v, .int .i64 0, .int .i64 0]) ∧ OwnC w' w.heap.size v c ∧ Below w.heap.size w w' := by
  have h1 := strC_len c
  refine (parse_as ⟨(strC c).toArray⟩ w (by rw [arr_size]; omega) hTab).mono ?_
  intro e w' hp
  unfold ParTold at hp
  rw [arr_list, class_str c (ok_settled hs), if_pos rfl] at hp
  obtain ⟨v, d, rfl, ho, hd, hm, hb⟩ := hp
  obtain rfl : d = c := back_is hs hd hm
  exact ⟨v, rfl, ho, hb⟩
theorem mem_xor {c l : List (Int × Int)} (h : ∀ r, hasC c r = (topB r && hasC l r)) (z : Int) : memC c z ↔ 0 ≤ z ∧ z ≤ cTop ∧ (false != hasC l z) = true := by
  rw [← hasC_iff, h z]
  unfold topB cTop
  simp [and_assoc]
set_option maxRecDepth 100000 in
set_option maxHeartbeats 6400000 in
theorem classAgain_walk (l0 : List (Int × Int)) (v0 : Value) (w : World) (h0 : InC w v0 l0) (hTD : Tabs w ∧ Deb w) :
    Calls Tryd.prog 6 #[v0] w fun x w' => x = .returned (.bool true) ∧ Below w.heap.size w w' := by
  have HT := Lib.hid hTD.1
  have HD := Lib.hid hTD.2
  have HH := Lib.hid h0
  obtain ⟨a0, p0, rfl, _⟩ := h0
  clear hTD
  cases hf : fewB [l0.length] with
  | false =>
    have HF := Lib.hid hf
    clear hf
    go_enter Tryd.func6, Tryd.ntmps6
    go_wp2_with fail
    with_reducible refine (head10 _ HT.out HD.out).mono ?_
    rintro x w1 ⟨rfl, hb⟩
    have B1 := Lib.hid hb
    clear hb
    have FC : Hid (∀ k (h : k < [l0.length].length), (w1.alloc (.cells #[.slice a0 l0.length p0] 22)).cell? ⟨w1.heap.size, k, none⟩ = some (.slice ([a0][k]'h) ([l0.length][k]'h) ([p0][k]'h))) := Lib.hid (fun k h => by
      rw [BoxT.cell (BoxT.new w1 _ _) k]
      match k, h with
      | 0, _ => rfl)
    go_wp2_with fail
    with_reducible refine (few_as _ w1.heap.size [a0] [l0.length] [p0] rfl rfl (by simp) FC.out false HF.out 1 rfl).mono ?_
    rintro x w2 ⟨rfl, rfl⟩
    go_wp2
    go_ret
    exact ⟨rfl, B1.out.alloc B1.out.size _⟩
  | true =>
    have hlen : l0.length ≤ 30 := by
      unfold fewB at hf
      simpa using hf
    have HF := Lib.hid hf
    clear hf
    go_enter Tryd.func6, Tryd.ntmps6
    go_wp2_with fail
    with_reducible refine (head10 _ HT.out HD.out).mono ?_
    rintro x w1 ⟨rfl, hb⟩
    have B1 := Lib.hid hb
    have T1 := Lib.hid (HT.out.below hb)
    have I1 := Lib.hid (HH.out.below hb (Nat.le_refl _))
    clear hb HH
    have FC : Hid (∀ k (h : k < [l0.length].length), (w1.alloc (.cells #[.slice a0 l0.length p0] 22)).cell? ⟨w1.heap.size, k, none⟩ = some (.slice ([a0][k]'h) ([l0.length][k]'h) ([p0][k]'h))) := Lib.hid (fun k h => by
      rw [BoxT.cell (BoxT.new w1 _ _) k]
      match k, h with
      | 0, _ => rfl)
    go_wp2_with fail
    with_reducible refine (few_as _ w1.heap.size [a0] [l0.length] [p0] rfl rfl (by simp) FC.out true HF.out 1 rfl).mono ?_
    rintro x w2 ⟨rfl, rfl⟩
    have BA := Lib.hid ((Below.refl w1.heap.size w1).alloc (Nat.le_refl _) (.cells #[.slice a0 l0.length p0] 22))
    have B2 := Lib.hid (B1.out.trans (BA.out.mono B1.out.size))
    have T2 := Lib.hid (T1.out.below BA.out)
    have I2 := Lib.hid (I1.out.below BA.out (Nat.le_refl _))
    clear FC HF
    go_wp2_with fail
    with_reducible refine (made_at _ _ l0 I2.out (by omega)).mono ?_
    rintro e w3 ⟨v3, c, rfl, hs, hm, ho, hb⟩
    have hsh := settled_short hs (mem_xor hm)
    have hc1 : c.length ≤ 61 := by omega
    have B3 := Lib.hid (B2.out.trans (hb.mono B2.out.size))
    have T3 := Lib.hid (T2.out.below hb)
    have I3 := Lib.hid ho.inC
    have HS := Lib.hid hs
    have hf43 := flat_len c
    obtain ⟨a, cap, rfl, _, _, h3⟩ := ho.inC
    have H3 := Lib.hid h3
    clear hs hm ho hb hsh h3 T1 T2 I1 I2 B1 B2 BA
    go_wp2_with fail
    go_loopw [4, 20] (fun y i wr => ∃ k : Nat, k ≤ c.length ∧ i = .int .i64 (k : Int) ∧ y = S ([91] ++ (c.take k).flatMap oneC) ∧ Below w3.heap.size w3 wr) (fun _ i _ => c.length - (intOf i).toNat)
    case atStart => exact ⟨0, Nat.zero_le _, rfl, rfl, Below.refl _ _⟩
    case round =>
      obtain ⟨k, hk, rfl, rfl, hb⟩ := hrel
      have HB := Lib.hid hb
      have hfl := flat_len (c.take k)
      have hlk := List.length_take_le k c
      clear hb
      by_cases hlt : k < c.length
      · have hki : (k : Int) < (c.length : Int) := by omega
        obtain ⟨b, off, rfl, hbl, hcell⟩ := H3.out (by omega)
        have c0 : wr.cell? ⟨b, off + k * 2, none⟩ = some (.int .i32 c[k].1) := (HB.out.cell (p := ⟨b, off + k * 2, none⟩) hbl).trans (hcell k hlt).1
        have c1 : wr.cell? ⟨b, off + k * 2 + 1, none⟩ = some (.int .i32 c[k].2) := (HB.out.cell (p := ⟨b, off + k * 2 + 1, none⟩) hbl).trans (hcell k hlt).2
        have hbd := settled_at (a := 0) HS.out k hlt
        have HT2 : Hid ((c.take (k + 1)).flatMap oneC = (c.take k).flatMap oneC ++ oneC c[k]) := Lib.hid (by rw [List.take_succ_eq_append_getElem hlt, List.flatMap_append]; simp)
        clear hcell
        unfold cTop at hbd
        obtain ⟨⟨y1, y2⟩, hy⟩ : ∃ z, c[k] = z := ⟨_, rfl⟩
        rw [hy] at c0 c1 hbd HT2
        clear hy
        obtain ⟨x1, rfl⟩ : ∃ x : Nat, y1 = (x : Int) := ⟨y1.toNat, by have : (0 : Int) ≤ y1 := hbd.1; omega⟩
        obtain ⟨x2, rfl⟩ : ∃ x : Nat, y2 = (x : Int) := ⟨y2.toNat, by have : (0 : Int) ≤ (x1 : Int) := hbd.1; have : (x1 : Int) ≤ y2 := hbd.2.1; omega⟩
        have hx1 : x1 ≤ 1114111 := by have h1 : (x1 : Int) ≤ (x2 : Int) := hbd.2.1; have h2 : (x2 : Int) ≤ 1114111 := hbd.2.2; omega
        have hx2 : x2 ≤ 1114111 := by have h2 : (x2 : Int) ≤ 1114111 := hbd.2.2; omega
        clear hbd
        obtain ⟨P, hP⟩ : ∃ P, [91] ++ (c.take k).flatMap oneC = P := ⟨_, rfl⟩
        have hPl : P.length ≤ 3000 := by rw [← hP, List.length_append, List.length_cons, List.length_nil]; omega
        have HP := Lib.hid hP
        rw [hP]
        clear hP hfl hlk
        have hz := HB.out.size
        have hw1 := wrC_len x1
        have hw2 := wrC_len x2
        have BX := Lib.hid ((Below.refl wr.heap.size wr).alloc (Nat.le_refl _) (.cells #[.int .i32 (x1 : Int), .int .i32 (x2 : Int)] 28))
        have SA1 : (⟨P.toArray⟩ : ByteArray) ++ (⟨(wrC x1).toArray⟩ : ByteArray) = ⟨(P ++ wrC x1).toArray⟩ := arr_append P (wrC x1)
        have cc1 : ¬ 9223372036854775807 < P.length + (wrC x1).length := by omega
        go_wp2_with fail
        with_reducible refine (sign_as x1 hx1 _).mono ?_
        rintro e w4 ⟨rfl, hb4⟩
        have L4 := Lib.hid (BX.out.trans (hb4.mono BX.out.size))
        have XB4 := (BoxT.new wr #[.int .i32 (x1 : Int), .int .i32 (x2 : Int)] 28).below hb4
        have r0 := XB4.cell 0
        have r1 := XB4.cell 1
        simp at r0 r1
        have hz4 := L4.out.size
        by_cases he : x1 = x2
        · subst he
          have HO : Hid (oneC ((x1 : Int), (x1 : Int)) = wrC x1) := Lib.hid (by unfold oneC; simp)
          have e1 : ((x1 : Int) == (x1 : Int)) = true := by simp
          have e2 : ((x1 : Int) != (x1 : Int)) = false := by simp
          clear hb4 XB4
          go_wp2
          go_roundw
          case rel => exact ⟨k + 1, by omega, by go_num, by rw [HT2.out, HO.out, ← List.append_assoc, HP.out], HB.out.trans (L4.out.mono hz)⟩
          case measure => simp [intOf]; omega
        · have e0 : ¬ (x1 : Int) = (x2 : Int) := by omega
          have e1 : ((x1 : Int) == (x2 : Int)) = false := by simp; omega
          have e2 : ((x1 : Int) != (x2 : Int)) = true := by simp; omega
          have HO : Hid (oneC ((x1 : Int), (x2 : Int)) = wrC x1 ++ (45 :: wrC x2)) := Lib.hid (by unfold oneC; rw [if_neg e0]; simp)
          have SA2 : (⟨(P ++ wrC x1).toArray⟩ : ByteArray) ++ (⟨#[45]⟩ : ByteArray) = ⟨(P ++ wrC x1 ++ [45]).toArray⟩ := arr_append (P ++ wrC x1) [45]
          have cc2 : ¬ 9223372036854775807 < (P ++ wrC x1).length + 1 := by rw [List.length_append]; omega
          have cc2b : ¬ 9223372036854775807 < P.length + (wrC x1).length + 1 := by omega
          have SA3 : (⟨(P ++ wrC x1 ++ [45]).toArray⟩ : ByteArray) ++ (⟨(wrC x2).toArray⟩ : ByteArray) = ⟨(P ++ wrC x1 ++ [45] ++ wrC x2).toArray⟩ := arr_append (P ++ wrC x1 ++ [45]) (wrC x2)
          have cc3 : ¬ 9223372036854775807 < (P ++ wrC x1 ++ [45]).length + (wrC x2).length := by simp only [List.length_append, List.length_cons, List.length_nil]; omega
          clear he hb4 XB4
          go_wp2_with fail
          with_reducible refine (sign_as x2 hx2 _).mono ?_
          rintro e w5 ⟨rfl, hb5⟩
          have L5 := Lib.hid (L4.out.trans (hb5.mono hz4))
          clear hb5
          go_wp2
          go_roundw
          case rel => exact ⟨k + 1, by omega, by go_num, by rw [arr_append, HT2.out, HO.out, ← HP.out]; simp, HB.out.trans (L5.out.mono hz)⟩
          case measure => simp [intOf]; omega
      · have HTK : Hid (c.take k = c) := Lib.hid (List.take_of_length_le (by omega))
        rw [HTK.out]
        have SE : (⟨([91] ++ c.flatMap oneC).toArray⟩ : ByteArray) ++ (⟨#[93]⟩ : ByteArray) = ⟨(strC c).toArray⟩ := arr_append ([91] ++ c.flatMap oneC) [93]
        obtain ⟨P, hP⟩ : ∃ P, [91] ++ c.flatMap oneC = P := ⟨_, rfl⟩
        have hPl : P.length ≤ 3000 := by rw [← hP, List.length_append, List.length_cons, List.length_nil]; omega
        rw [hP] at SE ⊢
        have cc1 : ¬ 9223372036854775807 < P.length + 1 := by omega
        have B4 := Lib.hid (B3.out.trans (HB.out.mono B3.out.size))
        have T4 := Lib.hid (T3.out.below HB.out)
        have I4 := Lib.hid (I3.out.below HB.out (Nat.le_refl _))
        have hz4 := B4.out.size
        have hkn : ¬ (k : Int) < (c.length : Int) := by omega
        clear hP HTK hfl hlk
        go_wp2_with fail
        with_reducible refine (string_as wr _ c I4.out HS.out (HD.out.below B4.out)).mono ?_
        rintro x w5 ⟨rfl, hb⟩
        have B5 := Lib.hid (B4.out.trans (hb.mono B4.out.size))
        have T5 := Lib.hid (T4.out.below hb)
        have I5 := Lib.hid (I4.out.below hb (Nat.le_refl _))
        clear hb
        go_wp2_with fail
        with_reducible refine (parse_str c HS.out (by omega) _ T5.out).mono ?_
        rintro x w6 ⟨v6, rfl, ho, hb⟩
        have B6 := Lib.hid (B5.out.trans (hb.mono B5.out.size))
        have I6 := Lib.hid (I5.out.below hb (Nat.le_refl _))
        have J6 := Lib.hid ho.inC
        clear hb ho
        go_wp2_with fail
        with_reducible refine (string_as w6 _ c I6.out HS.out (HD.out.below B6.out)).mono ?_
        rintro x w7 ⟨rfl, hb⟩
        have B7 := Lib.hid (B6.out.trans (hb.mono B6.out.size))
        have I7 := Lib.hid (I6.out.below hb (Nat.le_refl _))
        have J7 := Lib.hid (J6.out.below hb (Nat.le_refl _))
        clear hb
        go_wp2_with fail
        with_reducible refine (same_as w7 v6 _ c c J7.out I7.out (by omega) (by omega) true (decide_eq_true rfl)).mono ?_
        rintro x w8 ⟨rfl, hb⟩
        have B8 := Lib.hid (B7.out.trans (hb.mono B7.out.size))
        clear hb
        go_wp2
        go_ret
        exact ⟨rfl, B8.out⟩
end Go.Proofs.YtbfhkcljkblnmaaDoor
