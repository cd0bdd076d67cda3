/- The walk of the law WireBack. -/
import Derived.Test.YtopcheblhacaeaaWrI
import Derived.Test.YtopcheblhacaeaaWrH
import Derived.Test.YtopcheblhacaeaaWrK
import Derived.Deep.RegionHeld3
import Derived.Laws.BitsAllLaws
namespace Go.Proofs.Ytopcheblhacaeaa
open Go.RowKit Florin
set_option linter.unusedVariables false
set_option linter.unusedSimpArgs false
attribute [local go_sem ↓] Go.wp_at_zero Go.wp_at_succ
theorem and_mask (n : Int) (M : Nat) (hM : M ≤ 9223372036854775807) : ∃ k : Nat, k ≤ M ∧ bits .and .i64 n (M : Int) = (k : Int) := by
  refine ⟨(BitVec.ofInt 64 n &&& BitVec.ofInt 64 (M : Int)).toNat, ?_, ?_⟩
  · rw [BitVec.toNat_and]
    have : (BitVec.ofInt 64 (M : Int)).toNat = M := by rw [BitVec.toNat_ofInt]; omega
    rw [this]
    exact Nat.and_le_right
  · show IntKind.i64.wrap ((BitVec.ofInt 64 n &&& BitVec.ofInt 64 (M : Int)).toNat : Int) = _
    have h1 : (BitVec.ofInt 64 n &&& BitVec.ofInt 64 (M : Int)).toNat ≤ M := by
      rw [BitVec.toNat_and]
      have : (BitVec.ofInt 64 (M : Int)).toNat = M := by rw [BitVec.toNat_ofInt]; omega
      rw [this]
      exact Nat.and_le_right
    exact IntWalk.i64_in _ (by omega)
theorem lnum_any (n : Int) (w : World) (hn : n ≤ 9223372036854775807) :
    Calls Try.prog 9 #[.int .i64 n] w fun e w' => e = .returned (S (vnum n.toNat)) ∧ Below w.heap.size w w' :=
  lnum_as 8 n w (by have : (128 : Int) ^ (8 + 1) = 9223372036854775808 := by decide
                    omega) hn
theorem layI_le (x : WI) (h1 : x.2.1 ≤ 9223372036854775807) (h2 : x.2.2.length ≤ 300) : (layI x).length ≤ 320 := by
  unfold layI
  split
  · rw [List.length_append]; have := vnum_nine (n := x.2.2.length) (by omega); omega
  · have := vnum_nine (n := x.2.1.toNat) (by omega); omega
theorem layL_le : ∀ (L : List WI) (_ : ∀ x ∈ L, x.2.1 ≤ 9223372036854775807 ∧ x.2.2.length ≤ 300), (layL L).length ≤ L.length * 320
  | [], _ => Nat.zero_le _
  | x :: L, h => by
    have e : layL (x :: L) = layI x ++ layL L := List.flatMap_cons
    have h1 := layI_le x (h x (List.mem_cons_self ..)).1 (h x (List.mem_cons_self ..)).2
    have h2 := layL_le L (fun y hy => h y (List.mem_cons_of_mem _ hy))
    rw [e, List.length_append, List.length_cons, Nat.add_mul]
    omega
theorem layL_take (L : List WI) (k : Nat) (h : k < L.length) : layL (L.take (k + 1)) = layL (L.take k) ++ layI L[k] := by
  unfold layL
  rw [List.take_succ_eq_append_getElem h, List.flatMap_append]
  simp
theorem layL_drop (L : List WI) (k : Nat) (h : k < L.length) : layL (L.drop k) = layI L[k] ++ layL (L.drop (k + 1)) := by
  rw [List.drop_eq_getElem_cons h]; exact List.flatMap_cons
theorem rdL_take (L : List WI) (k : Nat) (h : k < L.length) (st : RS) : rdL (L.take (k + 1)) st = rdI L[k] (rdL (L.take k) st) := by
  unfold rdL
  rw [List.take_succ_eq_append_getElem h, List.foldl_append]
  rfl
theorem rdI_len (x : WI) (st : RS) : (rdI x st).1.length ≤ st.1.length := by
  unfold rdI
  split
  · exact (textR_len st).1
  · exact numR_len st
theorem rdL_len : ∀ (L : List WI) (st : RS), (rdL L st).1.length ≤ st.1.length
  | [], st => Nat.le_refl _
  | x :: L, st => Nat.le_trans (rdL_len L (rdI x st)) (rdI_len x st)
theorem layI_text {x1 : Int} {x2 : List UInt8} : layI (true, x1, x2) = vnum x2.length ++ x2 := rfl
theorem layI_num {x1 : Int} {x2 : List UInt8} : layI (false, x1, x2) = vnum x1.toNat := rfl
set_option maxRecDepth 100000 in
set_option maxHeartbeats 6400000 in
theorem wireBack_walk (L : List WI) (v : Value) (n : Int) (w : World) (hin : InX w 3 itC v L ∧ ∀ x ∈ L, (Lit.int .i64 x.2.1).wf = true ∧ x.2.2.length ≤ maxLen) (_hn : (Lit.int .i64 n).wf = true) :
    Calls Try.prog 3 #[v, .int .i64 n] w fun x w' => x = .returned (.bool true) ∧ Below w.heap.size w w' := by
  obtain ⟨hin, hwf⟩ := hin
  have HIN := Lib.hid hin
  obtain ⟨a, cap, hv, hcap, hmax, hcell⟩ := hin
  subst hv
  unfold maxLen at hmax
  clear hcell
  cases hfew : fewB L with
  | false =>
    have HF := Lib.hid hfew
    clear hfew
    go_enter Try.func3, Try.ntmps3
    go_wp2_with fail
    with_reducible refine (head14 _).mono ?_
    rintro x w1 ⟨rfl, hb1⟩
    have B1 := Lib.hid hb1
    have I1 := Lib.hid (HIN.out.below hb1)
    clear hb1
    go_wp2_with fail
    with_reducible refine (few_as L _ _ I1.out).mono ?_
    rintro x w2 ⟨rfl, hb2⟩
    rw [HF.out]
    have B2 := Lib.hid (B1.out.trans (hb2.mono B1.out.size))
    clear hb2
    go_wp2
    go_ret
    exact ⟨rfl, B2.out⟩
  | true =>
    have HF := Lib.hid hfew
    have h20 : L.length ≤ 20 := by
      unfold fewB at hfew
      rw [Bool.and_eq_true, decide_eq_true_iff] at hfew
      exact hfew.1
    have hall : ∀ x ∈ L, x.2.1 ≤ 9223372036854775807 ∧ x.2.2.length ≤ 300 := by
      intro x hx
      refine ⟨?_, ?_⟩
      · have h := (hwf x hx).1
        simp [Lit.wf, IntKind.min, IntKind.max, IntKind.signed, IntKind.bits] at h; omega
      · unfold fewB at hfew
        rw [Bool.and_eq_true, List.all_eq_true] at hfew
        have := hfew.2 x hx
        rwa [decide_eq_true_iff] at this
    have HALL := Lib.hid hall
    have HOK : Hid (∀ x ∈ L, okI x) := Lib.hid (fun x hx => ⟨by have := (hall x hx).1; omega, by have := (hall x hx).2; omega⟩)
    have hll := layL_le L hall
    have HLT : Hid (∀ k, k ≤ L.length → (layL (L.take k)).length ≤ 6400) := Lib.hid (fun k hk => by
      have h1 := layL_le (L.take k) (fun x hx => hall x (List.mem_of_mem_take hx))
      rw [List.length_take] at h1
      omega)
    clear hfew hall hwf
    go_enter Try.func3, Try.ntmps3
    go_wp2_with fail
    with_reducible refine (head14 _).mono ?_
    rintro x w1 ⟨rfl, hb1⟩
    have B1 := Lib.hid hb1
    have I1 := Lib.hid (HIN.out.below hb1)
    clear hb1
    go_wp2_with fail
    with_reducible refine (few_as L _ _ I1.out).mono ?_
    rintro x w2 ⟨rfl, hb2⟩
    rw [HF.out]
    have B2 := Lib.hid (B1.out.trans (hb2.mono B1.out.size))
    clear hb2 B1 I1
    go_wp2_with fail
    have HW0 := Lib.hid (WrT.new w2 w2.heap.size (Nat.le_refl _))
    have HB0 : Hid (Below w.heap.size w (w2.alloc (.cells #[.pointer none, .int .i64 0] TWr))) := Lib.hid (B2.out.alloc B2.out.size _)
    have hr0 : w.heap.size ≤ w2.heap.size := B2.out.size
    generalize w2.alloc (.cells #[.pointer none, .int .i64 0] TWr) = w3 at *
    generalize w2.heap.size = r at *
    clear B2
    go_loopw [6, 26] (fun x i wr => ∃ (k : Nat) (TL : List (List UInt8)), k ≤ L.length ∧ i = .int .i64 (k : Int) ∧ x = S (layL (L.take k)) ∧ cat TL = layL (L.take k) ∧ WrT wr r r TL ∧ Below w.heap.size w wr) (fun _ i _ => L.length - (intOf i).toNat)
    case atStart => exact ⟨0, [], Nat.zero_le _, rfl, rfl, rfl, HW0.out, HB0.out⟩
    case round =>
      obtain ⟨k, TL, hk, rfl, rfl, hcat, hwr, hb⟩ := hrel
      have HC := Lib.hid hcat
      have HW := Lib.hid hwr
      have HB := Lib.hid hb
      have hws := hb.size
      have hrl := hwr.lt
      have hlk := HLT.out k hk
      have htot : tot TL ≤ 6400 := by rw [← cat_len, hcat]; exact hlk
      clear hcat hwr hb HW0 HB0
      by_cases hlt : k < L.length
      · obtain ⟨b, off, cap', e, hbl, c0, c1, c2⟩ := HIN.out.at3 HB.out k hlt
        injection e with e1 e2 e3
        subst e1
        subst e3
        have hx1 := (HALL.out L[k] (List.getElem_mem hlt)).1
        have hx2 := (HALL.out L[k] (List.getElem_mem hlt)).2
        have HT := Lib.hid (layL_take L k hlt)
        obtain ⟨x, hx⟩ : ∃ x, x = L[k] := ⟨_, rfl⟩
        rw [← hx] at c0 c1 c2 hx1 hx2 HT
        obtain ⟨x0, x1, x2⟩ := x
        clear hx e2
        have hsz : (⟨x2.toArray⟩ : ByteArray).size = x2.length := arr_size x2
        simp only at hx1 hx2 c0 c1 c2
        have hv9 : (vnum x2.length).length ≤ 9 := vnum_nine (by omega)
        have hn9 : (vnum x1.toNat).length ≤ 9 := vnum_nine (by omega)
        cases x0 with
        | true =>
          rw [layI_text] at HT
          go_wp2_with fail
          have W1 := Lib.hid (HW.out.below ((Below.refl _ _).alloc (Nat.le_refl _) (.cells #[.bool true, .int .i64 x1, S x2] 30)))
          have X1 := Lib.hid (BoxT.new wr #[.bool true, .int .i64 x1, S x2] 30)
          have BB1 := Lib.hid (HB.out.alloc hws (.cells #[.bool true, .int .i64 x1, S x2] 30))
          have hxw : w.heap.size ≤ wr.heap.size := hws
          clear HW HB c0 c1 c2
          generalize wr.alloc (.cells #[.bool true, .int .i64 x1, S x2] 30) = wa at *
          generalize wr.heap.size = xb at *
          with_reducible refine (wtext_as r r TL x2 _ W1.out (by omega)).mono ?_
          rintro y w5 ⟨rfl, h5, g5⟩
          have H5 := Lib.hid h5
          have X5 := Lib.hid (X1.out.grown g5 (by intro e; injection e; omega))
          have B5 := Lib.hid (below_grown BB1.out BB1.out.size hr0 g5)
          clear h5 g5 W1 X1 BB1
          have d2 : w5.cell? ⟨xb, 2, none⟩ = some (S x2) := X5.out.cell 2
          have KS : Hid (∀ w', Below w5.heap.size w5 w' → w'.cell? ⟨xb, 2, none⟩ = some (S x2) ∧ Below w5.heap.size w5 w') := Lib.hid (fun w' hb => ⟨(X5.out.below hb).cell 2, hb⟩)
          have KEEP : Hid (∀ w' w'', (w'.cell? ⟨xb, 2, none⟩ = some (S x2) ∧ Below w5.heap.size w5 w') → Below w'.heap.size w' w'' → (w''.cell? ⟨xb, 2, none⟩ = some (S x2) ∧ Below w5.heap.size w5 w'')) := Lib.hid (fun w' w'' h hb => KS.out _ (h.2.trans (hb.mono h.2.size)))
          go_wp2_with fail
          clear d2
          have hs1 : ¬ 9223372036854775807 < (layL (L.take k)).length + (vnum x2.length).length := by omega
          have hs2 : ¬ 9223372036854775807 < (layL (L.take k)).length + (vnum x2.length).length + x2.length := by omega
          have hs3 : ¬ 9223372036854775807 < (layL (L.take k)).length + ((vnum x2.length).length + x2.length) := by omega
          go_region_held3 (fun w' => w'.cell? ⟨xb, 2, none⟩ = some (S x2) ∧ Below w5.heap.size w5 w')
            (first | exact KS.out _ (Below.refl _ w5).drew | exact KEEP.out _ _ (by assumption) hb | assumption)
            (first | (go_at_call 9; (with_reducible refine (lnum_any _ _ (by omega)).mono ?_); (try rw [Int.toNat_natCast]); rintro y w6 ⟨rfl, hb⟩))
          have HH : Below w5.heap.size w5 w6 := (‹w6.cell? ⟨xb, 2, none⟩ = some (S x2) ∧ Below w5.heap.size w5 w6›).2
          have H6 := Lib.hid (H5.out.below HH)
          have B6 := Lib.hid (B5.out.trans (HH.mono B5.out.size))
          clear HH KS KEEP H5 B5 X5
          go_wp2
          go_roundw
          case rel =>
            refine ⟨k + 1, x2 :: vnum x2.length :: TL, by omega, by go_num, ?_, ?_, H6.out, B6.out⟩
            · rw [HT.out, arr_append, arr_append, List.append_assoc]
            · show (cat TL ++ vnum x2.length) ++ x2 = _
              rw [HC.out, HT.out, List.append_assoc]
          case measure => simp [intOf]; omega
        | false =>
          rw [layI_num] at HT
          go_wp2_with fail
          have W1 := Lib.hid (HW.out.below ((Below.refl _ _).alloc (Nat.le_refl _) (.cells #[.bool false, .int .i64 x1, S x2] 30)))
          have X1 := Lib.hid (BoxT.new wr #[.bool false, .int .i64 x1, S x2] 30)
          have BB1 := Lib.hid (HB.out.alloc hws (.cells #[.bool false, .int .i64 x1, S x2] 30))
          have hxw : w.heap.size ≤ wr.heap.size := hws
          clear HW HB c0 c1 c2
          generalize wr.alloc (.cells #[.bool false, .int .i64 x1, S x2] 30) = wa at *
          generalize wr.heap.size = xb at *
          with_reducible refine (wnum_as r r TL x1 _ W1.out hx1 (by omega)).mono ?_
          rintro y w5 ⟨rfl, h5, g5⟩
          have H5 := Lib.hid h5
          have X5 := Lib.hid (X1.out.grown g5 (by intro e; injection e; omega))
          have B5 := Lib.hid (below_grown BB1.out BB1.out.size hr0 g5)
          clear h5 g5 W1 X1 BB1
          have d1 : w5.cell? ⟨xb, 1, none⟩ = some (.int .i64 x1) := X5.out.cell 1
          go_wp2_with fail
          with_reducible refine (lnum_any _ _ hx1).mono ?_
          rintro y w6 ⟨rfl, hb⟩
          have H6 := Lib.hid (H5.out.below hb)
          have B6 := Lib.hid (B5.out.trans (hb.mono B5.out.size))
          clear hb H5 B5 X5 d1
          go_wp2
          go_roundw
          case rel =>
            refine ⟨k + 1, vnum x1.toNat :: TL, by omega, by go_num, ?_, ?_, H6.out, B6.out⟩
            · rw [HT.out, arr_append]
            · show cat TL ++ vnum x1.toNat = _
              rw [HC.out, HT.out]
          case measure => simp [intOf]; omega
      · have hke : L.take k = L := List.take_of_length_le (by omega)
        have HKE := Lib.hid hke
        clear hke
        go_wp2_with fail
        with_reducible refine (wstring_as r r TL _ HW.out (by omega)).mono ?_
        rintro y w5 ⟨rfl, hb⟩
        rw [HC.out, HKE.out]
        have B5 := Lib.hid (HB.out.trans (hb.mono HB.out.size))
        have hr5 : w.heap.size ≤ w5.heap.size := B5.out.size
        clear hb HW HB HC HKE hlk htot hlt hk
        go_wp2_with fail
        with_reducible refine (new_as (layL L) _).mono ?_
        rintro y w6 ⟨rfl, hr, hb⟩
        have R6 := Lib.hid hr
        have B6 := Lib.hid (B5.out.trans (hb.mono B5.out.size))
        clear hr hb B5
        generalize w5.heap.size = r2 at *
        have HLD : Hid (∀ k, (layL (L.drop k)).length ≤ 1000000000) := Lib.hid (fun k => by
          have h1 := layL_le (L.drop k) (fun x hx => HALL.out x (List.mem_of_mem_drop hx))
          rw [List.length_drop] at h1
          omega)
        go_wp2_with fail
        go_loopw [64] (fun i wr => ∃ k : Nat, k ≤ L.length ∧ i = .int .i64 (k : Int) ∧ Rdr wr r2 (layL (L.drop k), false) ∧ Below w.heap.size w wr) (fun i _ => L.length - (intOf i).toNat)
        case atStart => exact ⟨0, Nat.zero_le _, rfl, R6.out, B6.out⟩
        case round =>
          obtain ⟨k, hk, rfl, hrd, hb⟩ := hrel
          have RD := Lib.hid hrd
          have HB := Lib.hid hb
          have hws := hb.size
          have hrl := hrd.lt
          clear hrd hb R6 B6
          by_cases hlt : k < L.length
          · obtain ⟨b, off, cap', e, hbl, c0, c1, c2⟩ := HIN.out.at3 HB.out k hlt
            injection e with e1 e2 e3
            subst e1
            subst e3
            have hx1 := (HALL.out L[k] (List.getElem_mem hlt)).1
            have hx2 := (HALL.out L[k] (List.getElem_mem hlt)).2
            have HD := Lib.hid (layL_drop L k hlt)
            obtain ⟨x, hx⟩ : ∃ x, x = L[k] := ⟨_, rfl⟩
            rw [← hx] at c0 c1 c2 hx1 hx2 HD
            obtain ⟨x0, x1, x2⟩ := x
            clear hx e2
            have hsz : (⟨x2.toArray⟩ : ByteArray).size = x2.length := arr_size x2
            simp only at hx1 hx2 c0 c1 c2
            have HE : Hid ((layL (L.drop k)).isEmpty = false) := Lib.hid (by
              rw [HD.out]
              have := layI_pos (x0, x1, x2)
              cases h : layI (x0, x1, x2) with
              | nil => rw [h] at this; exact absurd this (by decide)
              | cons c t => rfl)
            cases x0 with
            | true =>
              have HR : Hid (textR (layL (L.drop k), false) = (x2, (layL (L.drop (k + 1)), false))) := Lib.hid (by rw [HD.out, layI_text, List.append_assoc]; exact textR_vnum x2 (by omega) _ _)
              go_wp2_with fail
              have X1 := Lib.hid (BoxT.new wr #[.bool true, .int .i64 x1, S x2] 30)
              have RA := Lib.hid (BoxT.alloc RD.out (.cells #[.bool true, .int .i64 x1, S x2] 30))
              have BB1 := Lib.hid (HB.out.alloc hws (.cells #[.bool true, .int .i64 x1, S x2] 30))
              clear RD HB c0 c1 c2
              generalize wr.alloc (.cells #[.bool true, .int .i64 x1, S x2] 30) = wa at *
              generalize wr.heap.size = xb at *
              have RA2 : Hid (Rdr wa r2 (layL (L.drop k), false)) := RA
              clear RA
              with_reducible refine (done_as r2 _ false _ RA2.out).mono ?_
              rintro y wn ⟨rfl, rfl⟩
              rw [HE.out]
              have d0 : wa.cell? ⟨xb, 0, none⟩ = some (.bool true) := X1.out.cell 0
              go_wp2_with fail
              have d2 : wa.cell? ⟨xb, 2, none⟩ = some (S x2) := X1.out.cell 2
              refine wp_region_held_drew (S := fun w' => w'.cell? ⟨xb, 0, none⟩ = some (.bool true) ∧ w'.cell? ⟨xb, 2, none⟩ = some (S x2)) (by kernel_rfl) ⟨d0, d2⟩ (fun hHeld => ?_)
              refine wpAnyH_take (i := 0) (oi := { dst := some 70, op := Go.Op.fieldAddr 30 (Go.Operand.tmp 12) 0, type := 0, pos := "law.go:70", after := #[], guard := none }) (v := ?_) rfl (by kernel_rfl) (by kernel_rfl) (by kernel_rfl) (fun _ _ _ h => h) (Or.inl ⟨by rfl, ?_⟩) hHeld ?_
              case refine_2 => (intro w hSw; (try dsimp only at hSw); go_simp <;> with_reducible rfl)
              try simp only [Act.put, List.setIfInBounds_toArray, List.set_cons_zero, List.set_cons_succ]
              refine wpAnyH_take (i := 1) (oi := { dst := some 71, op := Go.Op.load 4 (Go.Operand.tmp 70), type := 4, pos := "law.go:70", after := #[{ on := 0, ground := Go.Ground.data }], guard := none }) (v := ?_) rfl (by kernel_rfl) (by kernel_rfl) (by kernel_rfl) (fun _ _ _ h => h) (Or.inl ⟨by rfl, ?_⟩) hHeld ?_
              case refine_2 => (intro w hSw; (try dsimp only at hSw); go_simp <;> with_reducible rfl)
              try simp only [Act.put, List.setIfInBounds_toArray, List.set_cons_zero, List.set_cons_succ]
              refine wpAnyH_take (i := 2) (oi := { dst := some 72, op := Go.Op.move (Go.Operand.tmp 71), type := 4, pos := "law.go:70", after := #[{ on := 1, ground := Go.Ground.data }], guard := none }) (v := ?_) rfl (by kernel_rfl) (by kernel_rfl) (by kernel_rfl) (fun _ _ _ h => h) (Or.inl ⟨by rfl, ?_⟩) hHeld ?_
              case refine_2 => (intro w hSw; (try dsimp only at hSw); go_simp <;> with_reducible rfl)
              try simp only [Act.put, List.setIfInBounds_toArray, List.set_cons_zero, List.set_cons_succ]
              refine wpAnyH_take (i := 3) (oi := { dst := some 73, op := Go.Op.move (Go.Operand.tmp 10), type := 35, pos := "law.go:70", after := #[{ on := 2, ground := Go.Ground.guard }], guard := some (2, true) }) (v := ?_) rfl (by kernel_rfl) (by kernel_rfl) (by kernel_rfl) (fun _ _ _ h => h) (Or.inl ⟨by rfl, ?_⟩) hHeld ?_
              case refine_2 => (intro w hSw; (try dsimp only at hSw); go_simp <;> with_reducible rfl)
              try simp only [Act.put, List.setIfInBounds_toArray, List.set_cons_zero, List.set_cons_succ]
              refine wpAnyH_take (i := 5) (oi := { dst := some 75, op := Go.Op.fieldAddr 30 (Go.Operand.tmp 12) 2, type := 0, pos := "law.go:70", after := #[{ on := 2, ground := Go.Ground.guard }], guard := some (2, true) }) (v := ?_) rfl (by kernel_rfl) (by kernel_rfl) (by kernel_rfl) (fun _ _ _ h => h) (Or.inl ⟨by rfl, ?_⟩) hHeld ?_
              case refine_2 => (intro w hSw; (try dsimp only at hSw); go_simp <;> with_reducible rfl)
              try simp only [Act.put, List.setIfInBounds_toArray, List.set_cons_zero, List.set_cons_succ]
              refine wpAnyH_take (i := 6) (oi := { dst := some 76, op := Go.Op.load 9 (Go.Operand.tmp 75), type := 9, pos := "law.go:70", after := #[{ on := 5, ground := Go.Ground.data }, { on := 2, ground := Go.Ground.guard }], guard := some (2, true) }) (v := ?_) rfl (by kernel_rfl) (by kernel_rfl) (by kernel_rfl) (fun _ _ _ h => h) (Or.inl ⟨by rfl, ?_⟩) hHeld ?_
              case refine_2 => (intro w hSw; (try dsimp only at hSw); go_simp <;> with_reducible rfl)
              try simp only [Act.put, List.setIfInBounds_toArray, List.set_cons_zero, List.set_cons_succ]
              refine wpAnyH_ready (rs := [4]) (by kernel_rfl) (by simp) ?_
              refine AllReadyH.cons (o := { dst := some 74, op := Go.Op.call { callee := Go.Callee.value (Go.Operand.func 14), args := #[Go.Operand.tmp 73], argTypes := #[35] }, type := 9, pos := "law.go:70", after := #[{ on := 3, ground := Go.Ground.data }, { on := 2, ground := Go.Ground.chain }, { on := 2, ground := Go.Ground.guard }], guard := some (2, true) }) rfl (fun KK hK => ?_) AllReadyH.nil
              go_simp
              with_reducible refine (rtext_as r2 (layL (L.drop k), false) _ RA2.out.drew (HLD.out k)).mono ?_
              rw [HR.out]
              rintro y w7 ⟨rfl, hr7, hg7⟩
              have G7 := Lib.hid (grown_trans (grown_drew (World.grownBy.refl wa (some r2))) hg7)
              have e0 : w7.cell? ⟨xb, 0, none⟩ = some (.bool true) := (X1.out.grown G7.out (by intro e; injection e; omega)).cell 0
              have e2 : w7.cell? ⟨xb, 2, none⟩ = some (S x2) := (X1.out.grown G7.out (by intro e; injection e; omega)).cell 2
              have R7 := Lib.hid hr7
              clear hr7 hg7
              go_wp2_with fail
              refine hK.out _ _ ⟨e0, e2⟩ (fun hHeld2 => ?_)
              clear hK hHeld
              have hHeld := hHeld2
              clear hHeld2
              try simp only [Act.put, List.setIfInBounds_toArray, List.set_cons_zero, List.set_cons_succ]
              refine wpAnyH_take (i := 7) (oi := { dst := some 77, op := Go.Op.binOp Go.BinOp.neq 9 (Go.Operand.tmp 74) (Go.Operand.tmp 76) 9, type := 4, pos := "law.go:70", after := #[{ on := 4, ground := Go.Ground.data }, { on := 6, ground := Go.Ground.data }, { on := 2, ground := Go.Ground.guard }], guard := some (2, true) }) (v := ?_) rfl (by kernel_rfl) (by kernel_rfl) (by kernel_rfl) (fun _ _ _ h => h) (Or.inl ⟨by rfl, ?_⟩) hHeld ?_
              case refine_2 => (intro w hSw; (try dsimp only at hSw); go_simp <;> with_reducible rfl)
              try simp only [Act.put, List.setIfInBounds_toArray, List.set_cons_zero, List.set_cons_succ]
              refine wpAnyH_take (i := 8) (oi := { dst := some 78, op := Go.Op.pick (Go.Operand.tmp 72) (Go.Operand.tmp 77) (Go.Operand.const (Go.Value.bool false)), type := 4, pos := "law.go:70", after := #[{ on := 2, ground := Go.Ground.data }, { on := 7, ground := Go.Ground.data }], guard := none }) (v := ?_) rfl (by kernel_rfl) (by kernel_rfl) (by kernel_rfl) (fun _ _ _ h => h) (Or.inl ⟨by rfl, ?_⟩) hHeld ?_
              case refine_2 => (intro w hSw; (try dsimp only at hSw); go_simp <;> with_reducible rfl)
              try simp only [Act.put, List.setIfInBounds_toArray, List.set_cons_zero, List.set_cons_succ]
              refine wpAnyH_take (i := 9) (oi := { dst := some 79, op := Go.Op.move (Go.Operand.tmp 78), type := 4, pos := "law.go:70", after := #[{ on := 8, ground := Go.Ground.data }, { on := 4, ground := Go.Ground.chain }], guard := none }) (v := ?_) rfl (by kernel_rfl) (by kernel_rfl) (by kernel_rfl) (fun _ _ _ h => h) (Or.inl ⟨by rfl, ?_⟩) hHeld ?_
              case refine_2 => (intro w hSw; (try dsimp only at hSw); go_simp <;> with_reducible rfl)
              try simp only [Act.put, List.setIfInBounds_toArray, List.set_cons_zero, List.set_cons_succ]
              refine wpAnyH_take (i := 10) (oi := { dst := some 80, op := Go.Op.fieldAddr 30 (Go.Operand.tmp 12) 0, type := 0, pos := "law.go:70", after := #[{ on := 9, ground := Go.Ground.guard }], guard := some (9, false) }) (v := ?_) rfl (by kernel_rfl) (by kernel_rfl) (by kernel_rfl) (fun _ _ _ h => h) (Or.inl ⟨by rfl, ?_⟩) hHeld ?_
              case refine_2 => (intro w hSw; (try dsimp only at hSw); go_simp <;> with_reducible rfl)
              try simp only [Act.put, List.setIfInBounds_toArray, List.set_cons_zero, List.set_cons_succ]
              refine wpAnyH_take (i := 11) (oi := { dst := some 81, op := Go.Op.load 4 (Go.Operand.tmp 80), type := 4, pos := "law.go:70", after := #[{ on := 10, ground := Go.Ground.data }, { on := 9, ground := Go.Ground.guard }], guard := some (9, false) }) (v := ?_) rfl (by kernel_rfl) (by kernel_rfl) (by kernel_rfl) (fun _ _ _ h => h) (Or.inl ⟨by rfl, ?_⟩) hHeld ?_
              case refine_2 => (intro w hSw; (try dsimp only at hSw); go_simp <;> with_reducible rfl)
              try simp only [Act.put, List.setIfInBounds_toArray, List.set_cons_zero, List.set_cons_succ]
              refine wpAnyH_take (i := 12) (oi := { dst := some 82, op := Go.Op.unOp Go.UnOp.not 4 (Go.Operand.tmp 81), type := 4, pos := "law.go:70", after := #[{ on := 11, ground := Go.Ground.data }, { on := 9, ground := Go.Ground.guard }], guard := some (9, false) }) (v := ?_) rfl (by kernel_rfl) (by kernel_rfl) (by kernel_rfl) (fun _ _ _ h => h) (Or.inl ⟨by rfl, ?_⟩) hHeld ?_
              case refine_2 => (intro w hSw; (try dsimp only at hSw); go_simp <;> with_reducible rfl)
              try simp only [Act.put, List.setIfInBounds_toArray, List.set_cons_zero, List.set_cons_succ]
              refine wpAnyH_take (i := 13) (oi := { dst := some 83, op := Go.Op.move (Go.Operand.tmp 82), type := 4, pos := "law.go:70", after := #[{ on := 12, ground := Go.Ground.data }, { on := 9, ground := Go.Ground.chain }, { on := 9, ground := Go.Ground.guard }], guard := some (9, false) }) (v := ?_) rfl (by kernel_rfl) (by kernel_rfl) (by kernel_rfl) (fun _ _ _ h => h) (Or.inl ⟨by rfl, ?_⟩) hHeld ?_
              case refine_2 => (intro w hSw; (try dsimp only at hSw); go_simp <;> with_reducible rfl)
              try simp only [Act.put, List.setIfInBounds_toArray, List.set_cons_zero, List.set_cons_succ]
              refine wpAnyH_take (i := 14) (oi := { dst := some 84, op := Go.Op.move (Go.Operand.tmp 10), type := 35, pos := "law.go:70", after := #[{ on := 13, ground := Go.Ground.guard }], guard := some (13, true) }) (v := undef) rfl (by kernel_rfl) (by kernel_rfl) (by kernel_rfl) (fun _ _ _ h => h) (Or.inr ⟨by rfl, rfl⟩) hHeld ?_
              try simp only [Act.put, List.setIfInBounds_toArray, List.set_cons_zero, List.set_cons_succ]
              refine wpAnyH_take (i := 15) (oi := { dst := some 85, op := Go.Op.call { callee := Go.Callee.value (Go.Operand.func 15), args := #[Go.Operand.tmp 84], argTypes := #[35] }, type := 3, pos := "law.go:70", after := #[{ on := 14, ground := Go.Ground.data }, { on := 13, ground := Go.Ground.chain }, { on := 13, ground := Go.Ground.guard }], guard := some (13, true) }) (v := undef) rfl (by kernel_rfl) (by kernel_rfl) (by kernel_rfl) (fun _ _ _ h => h) (Or.inr ⟨by rfl, rfl⟩) hHeld ?_
              try simp only [Act.put, List.setIfInBounds_toArray, List.set_cons_zero, List.set_cons_succ]
              refine wpAnyH_take (i := 16) (oi := { dst := some 86, op := Go.Op.fieldAddr 30 (Go.Operand.tmp 12) 1, type := 0, pos := "law.go:70", after := #[{ on := 13, ground := Go.Ground.guard }], guard := some (13, true) }) (v := undef) rfl (by kernel_rfl) (by kernel_rfl) (by kernel_rfl) (fun _ _ _ h => h) (Or.inr ⟨by rfl, rfl⟩) hHeld ?_
              try simp only [Act.put, List.setIfInBounds_toArray, List.set_cons_zero, List.set_cons_succ]
              refine wpAnyH_take (i := 17) (oi := { dst := some 87, op := Go.Op.load 3 (Go.Operand.tmp 86), type := 3, pos := "law.go:70", after := #[{ on := 16, ground := Go.Ground.data }, { on := 13, ground := Go.Ground.guard }], guard := some (13, true) }) (v := undef) rfl (by kernel_rfl) (by kernel_rfl) (by kernel_rfl) (fun _ _ _ h => h) (Or.inr ⟨by rfl, rfl⟩) hHeld ?_
              try simp only [Act.put, List.setIfInBounds_toArray, List.set_cons_zero, List.set_cons_succ]
              refine wpAnyH_take (i := 18) (oi := { dst := some 88, op := Go.Op.call { callee := Go.Callee.builtin Go.Builtin.max, args := #[Go.Operand.tmp 87, Go.Operand.const (Go.Value.int Go.IntKind.i64 0)], argTypes := #[3, 3] }, type := 3, pos := "law.go:70", after := #[{ on := 17, ground := Go.Ground.data }, { on := 13, ground := Go.Ground.guard }], guard := some (13, true) }) (v := undef) rfl (by kernel_rfl) (by kernel_rfl) (by kernel_rfl) (fun _ _ _ h => h) (Or.inr ⟨by rfl, rfl⟩) hHeld ?_
              try simp only [Act.put, List.setIfInBounds_toArray, List.set_cons_zero, List.set_cons_succ]
              refine wpAnyH_take (i := 19) (oi := { dst := some 89, op := Go.Op.binOp Go.BinOp.neq 3 (Go.Operand.tmp 85) (Go.Operand.tmp 88) 3, type := 4, pos := "law.go:70", after := #[{ on := 15, ground := Go.Ground.data }, { on := 18, ground := Go.Ground.data }, { on := 13, ground := Go.Ground.guard }], guard := some (13, true) }) (v := undef) rfl (by kernel_rfl) (by kernel_rfl) (by kernel_rfl) (fun _ _ _ h => h) (Or.inr ⟨by rfl, rfl⟩) hHeld ?_
              try simp only [Act.put, List.setIfInBounds_toArray, List.set_cons_zero, List.set_cons_succ]
              refine wpAnyH_take (i := 20) (oi := { dst := some 90, op := Go.Op.pick (Go.Operand.tmp 83) (Go.Operand.tmp 89) (Go.Operand.const (Go.Value.bool false)), type := 4, pos := "law.go:70", after := #[{ on := 13, ground := Go.Ground.data }, { on := 19, ground := Go.Ground.data }, { on := 9, ground := Go.Ground.guard }], guard := some (9, false) }) (v := ?_) rfl (by kernel_rfl) (by kernel_rfl) (by kernel_rfl) (fun _ _ _ h => h) (Or.inl ⟨by rfl, ?_⟩) hHeld ?_
              case refine_2 => (intro w hSw; (try dsimp only at hSw); go_simp <;> with_reducible rfl)
              try simp only [Act.put, List.setIfInBounds_toArray, List.set_cons_zero, List.set_cons_succ]
              refine wpAnyH_take (i := 21) (oi := { dst := some 91, op := Go.Op.pick (Go.Operand.tmp 79) (Go.Operand.const (Go.Value.bool true)) (Go.Operand.tmp 90), type := 4, pos := "law.go:70", after := #[{ on := 9, ground := Go.Ground.data }, { on := 20, ground := Go.Ground.data }], guard := none }) (v := ?_) rfl (by kernel_rfl) (by kernel_rfl) (by kernel_rfl) (fun _ _ _ h => h) (Or.inl ⟨by rfl, ?_⟩) hHeld ?_
              case refine_2 => (intro w hSw; (try dsimp only at hSw); go_simp <;> with_reducible rfl)
              try simp only [Act.put, List.setIfInBounds_toArray, List.set_cons_zero, List.set_cons_succ]
              refine wpAnyH_done (by kernel_rfl) ?_ _
              clear hHeld
              have B7 := Lib.hid (below_grown BB1.out BB1.out.size hr5 G7.out)
              clear G7 e0 e2 d0 d2
              go_wp2
              go_roundw
              case rel => exact ⟨k + 1, by omega, by go_num, R7.out, B7.out⟩
              case measure => simp [intOf]; omega
            | false =>
              have HR : Hid (numR (layL (L.drop k), false) = (x1.toNat, (layL (L.drop (k + 1)), false))) := Lib.hid (by rw [HD.out, layI_num]; exact numR_vnum (by omega) _ _)
              rcases (show x1 < 0 ∨ 0 ≤ x1 by omega) with hneg | hnn
              · have HZ : Hid (((x1.toNat : Nat) : Int) = 0) := Lib.hid (by omega)
                go_wp2_with fail
                have X1 := Lib.hid (BoxT.new wr #[.bool false, .int .i64 x1, S x2] 30)
                have RA := Lib.hid (BoxT.alloc RD.out (.cells #[.bool false, .int .i64 x1, S x2] 30))
                have BB1 := Lib.hid (HB.out.alloc hws (.cells #[.bool false, .int .i64 x1, S x2] 30))
                clear RD HB c0 c1 c2
                generalize wr.alloc (.cells #[.bool false, .int .i64 x1, S x2] 30) = wa at *
                generalize wr.heap.size = xb at *
                have RA2 : Hid (Rdr wa r2 (layL (L.drop k), false)) := RA
                clear RA
                with_reducible refine (done_as r2 _ false _ RA2.out).mono ?_
                rintro y wn ⟨rfl, rfl⟩
                rw [HE.out]
                have d0 : wa.cell? ⟨xb, 0, none⟩ = some (.bool false) := X1.out.cell 0
                go_wp2_with fail
                have d1 : wa.cell? ⟨xb, 1, none⟩ = some (.int .i64 x1) := X1.out.cell 1
                refine wp_region_held_drew (S := fun w' => w'.cell? ⟨xb, 0, none⟩ = some (.bool false) ∧ w'.cell? ⟨xb, 1, none⟩ = some (.int .i64 x1)) (by kernel_rfl) ⟨d0, d1⟩ (fun hHeld => ?_)
                refine wpAnyH_take (i := 0) (oi := { dst := some 70, op := Go.Op.fieldAddr 30 (Go.Operand.tmp 12) 0, type := 0, pos := "law.go:70", after := #[], guard := none }) (v := ?_) rfl (by kernel_rfl) (by kernel_rfl) (by kernel_rfl) (fun _ _ _ h => h) (Or.inl ⟨by rfl, ?_⟩) hHeld ?_
                case refine_2 => (intro w hSw; (try dsimp only at hSw); go_simp <;> with_reducible rfl)
                try simp only [Act.put, List.setIfInBounds_toArray, List.set_cons_zero, List.set_cons_succ]
                refine wpAnyH_take (i := 1) (oi := { dst := some 71, op := Go.Op.load 4 (Go.Operand.tmp 70), type := 4, pos := "law.go:70", after := #[{ on := 0, ground := Go.Ground.data }], guard := none }) (v := ?_) rfl (by kernel_rfl) (by kernel_rfl) (by kernel_rfl) (fun _ _ _ h => h) (Or.inl ⟨by rfl, ?_⟩) hHeld ?_
                case refine_2 => (intro w hSw; (try dsimp only at hSw); go_simp <;> with_reducible rfl)
                try simp only [Act.put, List.setIfInBounds_toArray, List.set_cons_zero, List.set_cons_succ]
                refine wpAnyH_take (i := 2) (oi := { dst := some 72, op := Go.Op.move (Go.Operand.tmp 71), type := 4, pos := "law.go:70", after := #[{ on := 1, ground := Go.Ground.data }], guard := none }) (v := ?_) rfl (by kernel_rfl) (by kernel_rfl) (by kernel_rfl) (fun _ _ _ h => h) (Or.inl ⟨by rfl, ?_⟩) hHeld ?_
                case refine_2 => (intro w hSw; (try dsimp only at hSw); go_simp <;> with_reducible rfl)
                try simp only [Act.put, List.setIfInBounds_toArray, List.set_cons_zero, List.set_cons_succ]
                refine wpAnyH_take (i := 3) (oi := { dst := some 73, op := Go.Op.move (Go.Operand.tmp 10), type := 35, pos := "law.go:70", after := #[{ on := 2, ground := Go.Ground.guard }], guard := some (2, true) }) (v := undef) rfl (by kernel_rfl) (by kernel_rfl) (by kernel_rfl) (fun _ _ _ h => h) (Or.inr ⟨by rfl, rfl⟩) hHeld ?_
                try simp only [Act.put, List.setIfInBounds_toArray, List.set_cons_zero, List.set_cons_succ]
                refine wpAnyH_take (i := 4) (oi := { dst := some 74, op := Go.Op.call { callee := Go.Callee.value (Go.Operand.func 14), args := #[Go.Operand.tmp 73], argTypes := #[35] }, type := 9, pos := "law.go:70", after := #[{ on := 3, ground := Go.Ground.data }, { on := 2, ground := Go.Ground.chain }, { on := 2, ground := Go.Ground.guard }], guard := some (2, true) }) (v := undef) rfl (by kernel_rfl) (by kernel_rfl) (by kernel_rfl) (fun _ _ _ h => h) (Or.inr ⟨by rfl, rfl⟩) hHeld ?_
                try simp only [Act.put, List.setIfInBounds_toArray, List.set_cons_zero, List.set_cons_succ]
                refine wpAnyH_take (i := 5) (oi := { dst := some 75, op := Go.Op.fieldAddr 30 (Go.Operand.tmp 12) 2, type := 0, pos := "law.go:70", after := #[{ on := 2, ground := Go.Ground.guard }], guard := some (2, true) }) (v := undef) rfl (by kernel_rfl) (by kernel_rfl) (by kernel_rfl) (fun _ _ _ h => h) (Or.inr ⟨by rfl, rfl⟩) hHeld ?_
                try simp only [Act.put, List.setIfInBounds_toArray, List.set_cons_zero, List.set_cons_succ]
                refine wpAnyH_take (i := 6) (oi := { dst := some 76, op := Go.Op.load 9 (Go.Operand.tmp 75), type := 9, pos := "law.go:70", after := #[{ on := 5, ground := Go.Ground.data }, { on := 2, ground := Go.Ground.guard }], guard := some (2, true) }) (v := undef) rfl (by kernel_rfl) (by kernel_rfl) (by kernel_rfl) (fun _ _ _ h => h) (Or.inr ⟨by rfl, rfl⟩) hHeld ?_
                try simp only [Act.put, List.setIfInBounds_toArray, List.set_cons_zero, List.set_cons_succ]
                refine wpAnyH_take (i := 7) (oi := { dst := some 77, op := Go.Op.binOp Go.BinOp.neq 9 (Go.Operand.tmp 74) (Go.Operand.tmp 76) 9, type := 4, pos := "law.go:70", after := #[{ on := 4, ground := Go.Ground.data }, { on := 6, ground := Go.Ground.data }, { on := 2, ground := Go.Ground.guard }], guard := some (2, true) }) (v := undef) rfl (by kernel_rfl) (by kernel_rfl) (by kernel_rfl) (fun _ _ _ h => h) (Or.inr ⟨by rfl, rfl⟩) hHeld ?_
                try simp only [Act.put, List.setIfInBounds_toArray, List.set_cons_zero, List.set_cons_succ]
                refine wpAnyH_take (i := 8) (oi := { dst := some 78, op := Go.Op.pick (Go.Operand.tmp 72) (Go.Operand.tmp 77) (Go.Operand.const (Go.Value.bool false)), type := 4, pos := "law.go:70", after := #[{ on := 2, ground := Go.Ground.data }, { on := 7, ground := Go.Ground.data }], guard := none }) (v := ?_) rfl (by kernel_rfl) (by kernel_rfl) (by kernel_rfl) (fun _ _ _ h => h) (Or.inl ⟨by rfl, ?_⟩) hHeld ?_
                case refine_2 => (intro w hSw; (try dsimp only at hSw); go_simp <;> with_reducible rfl)
                try simp only [Act.put, List.setIfInBounds_toArray, List.set_cons_zero, List.set_cons_succ]
                refine wpAnyH_take (i := 9) (oi := { dst := some 79, op := Go.Op.move (Go.Operand.tmp 78), type := 4, pos := "law.go:70", after := #[{ on := 8, ground := Go.Ground.data }, { on := 4, ground := Go.Ground.chain }], guard := none }) (v := ?_) rfl (by kernel_rfl) (by kernel_rfl) (by kernel_rfl) (fun _ _ _ h => h) (Or.inl ⟨by rfl, ?_⟩) hHeld ?_
                case refine_2 => (intro w hSw; (try dsimp only at hSw); go_simp <;> with_reducible rfl)
                try simp only [Act.put, List.setIfInBounds_toArray, List.set_cons_zero, List.set_cons_succ]
                refine wpAnyH_take (i := 10) (oi := { dst := some 80, op := Go.Op.fieldAddr 30 (Go.Operand.tmp 12) 0, type := 0, pos := "law.go:70", after := #[{ on := 9, ground := Go.Ground.guard }], guard := some (9, false) }) (v := ?_) rfl (by kernel_rfl) (by kernel_rfl) (by kernel_rfl) (fun _ _ _ h => h) (Or.inl ⟨by rfl, ?_⟩) hHeld ?_
                case refine_2 => (intro w hSw; (try dsimp only at hSw); go_simp <;> with_reducible rfl)
                try simp only [Act.put, List.setIfInBounds_toArray, List.set_cons_zero, List.set_cons_succ]
                refine wpAnyH_take (i := 11) (oi := { dst := some 81, op := Go.Op.load 4 (Go.Operand.tmp 80), type := 4, pos := "law.go:70", after := #[{ on := 10, ground := Go.Ground.data }, { on := 9, ground := Go.Ground.guard }], guard := some (9, false) }) (v := ?_) rfl (by kernel_rfl) (by kernel_rfl) (by kernel_rfl) (fun _ _ _ h => h) (Or.inl ⟨by rfl, ?_⟩) hHeld ?_
                case refine_2 => (intro w hSw; (try dsimp only at hSw); go_simp <;> with_reducible rfl)
                try simp only [Act.put, List.setIfInBounds_toArray, List.set_cons_zero, List.set_cons_succ]
                refine wpAnyH_take (i := 12) (oi := { dst := some 82, op := Go.Op.unOp Go.UnOp.not 4 (Go.Operand.tmp 81), type := 4, pos := "law.go:70", after := #[{ on := 11, ground := Go.Ground.data }, { on := 9, ground := Go.Ground.guard }], guard := some (9, false) }) (v := ?_) rfl (by kernel_rfl) (by kernel_rfl) (by kernel_rfl) (fun _ _ _ h => h) (Or.inl ⟨by rfl, ?_⟩) hHeld ?_
                case refine_2 => (intro w hSw; (try dsimp only at hSw); go_simp <;> with_reducible rfl)
                try simp only [Act.put, List.setIfInBounds_toArray, List.set_cons_zero, List.set_cons_succ]
                refine wpAnyH_take (i := 13) (oi := { dst := some 83, op := Go.Op.move (Go.Operand.tmp 82), type := 4, pos := "law.go:70", after := #[{ on := 12, ground := Go.Ground.data }, { on := 9, ground := Go.Ground.chain }, { on := 9, ground := Go.Ground.guard }], guard := some (9, false) }) (v := ?_) rfl (by kernel_rfl) (by kernel_rfl) (by kernel_rfl) (fun _ _ _ h => h) (Or.inl ⟨by rfl, ?_⟩) hHeld ?_
                case refine_2 => (intro w hSw; (try dsimp only at hSw); go_simp <;> with_reducible rfl)
                try simp only [Act.put, List.setIfInBounds_toArray, List.set_cons_zero, List.set_cons_succ]
                refine wpAnyH_take (i := 14) (oi := { dst := some 84, op := Go.Op.move (Go.Operand.tmp 10), type := 35, pos := "law.go:70", after := #[{ on := 13, ground := Go.Ground.guard }], guard := some (13, true) }) (v := ?_) rfl (by kernel_rfl) (by kernel_rfl) (by kernel_rfl) (fun _ _ _ h => h) (Or.inl ⟨by rfl, ?_⟩) hHeld ?_
                case refine_2 => (intro w hSw; (try dsimp only at hSw); go_simp <;> with_reducible rfl)
                try simp only [Act.put, List.setIfInBounds_toArray, List.set_cons_zero, List.set_cons_succ]
                refine wpAnyH_take (i := 16) (oi := { dst := some 86, op := Go.Op.fieldAddr 30 (Go.Operand.tmp 12) 1, type := 0, pos := "law.go:70", after := #[{ on := 13, ground := Go.Ground.guard }], guard := some (13, true) }) (v := ?_) rfl (by kernel_rfl) (by kernel_rfl) (by kernel_rfl) (fun _ _ _ h => h) (Or.inl ⟨by rfl, ?_⟩) hHeld ?_
                case refine_2 => (intro w hSw; (try dsimp only at hSw); go_simp <;> with_reducible rfl)
                try simp only [Act.put, List.setIfInBounds_toArray, List.set_cons_zero, List.set_cons_succ]
                refine wpAnyH_take (i := 17) (oi := { dst := some 87, op := Go.Op.load 3 (Go.Operand.tmp 86), type := 3, pos := "law.go:70", after := #[{ on := 16, ground := Go.Ground.data }, { on := 13, ground := Go.Ground.guard }], guard := some (13, true) }) (v := ?_) rfl (by kernel_rfl) (by kernel_rfl) (by kernel_rfl) (fun _ _ _ h => h) (Or.inl ⟨by rfl, ?_⟩) hHeld ?_
                case refine_2 => (intro w hSw; (try dsimp only at hSw); go_simp <;> with_reducible rfl)
                try simp only [Act.put, List.setIfInBounds_toArray, List.set_cons_zero, List.set_cons_succ]
                refine wpAnyH_take (i := 18) (oi := { dst := some 88, op := Go.Op.call { callee := Go.Callee.builtin Go.Builtin.max, args := #[Go.Operand.tmp 87, Go.Operand.const (Go.Value.int Go.IntKind.i64 0)], argTypes := #[3, 3] }, type := 3, pos := "law.go:70", after := #[{ on := 17, ground := Go.Ground.data }, { on := 13, ground := Go.Ground.guard }], guard := some (13, true) }) (v := ?_) rfl (by kernel_rfl) (by kernel_rfl) (by kernel_rfl) (fun _ _ _ h => h) (Or.inl ⟨by rfl, ?_⟩) hHeld ?_
                case refine_2 => (intro w hSw; (try dsimp only at hSw); go_simp <;> with_reducible rfl)
                try simp only [Act.put, List.setIfInBounds_toArray, List.set_cons_zero, List.set_cons_succ]
                refine wpAnyH_ready (rs := [15]) (by kernel_rfl) (by simp) ?_
                refine AllReadyH.cons (o := { dst := some 85, op := Go.Op.call { callee := Go.Callee.value (Go.Operand.func 15), args := #[Go.Operand.tmp 84], argTypes := #[35] }, type := 3, pos := "law.go:70", after := #[{ on := 14, ground := Go.Ground.data }, { on := 13, ground := Go.Ground.chain }, { on := 13, ground := Go.Ground.guard }], guard := some (13, true) }) rfl (fun KK hK => ?_) AllReadyH.nil
                go_simp
                with_reducible refine (rnum_as r2 (layL (L.drop k), false) _ RA2.out.drew (HLD.out k)).mono ?_
                rw [HR.out]
                dsimp only
                rw [HZ.out]
                rintro y w7 ⟨rfl, hr7, hg7⟩
                have G7 := Lib.hid (grown_trans (grown_drew (World.grownBy.refl wa (some r2))) hg7)
                have e0 : w7.cell? ⟨xb, 0, none⟩ = some (.bool false) := (X1.out.grown G7.out (by intro e; injection e; omega)).cell 0
                have e1 : w7.cell? ⟨xb, 1, none⟩ = some (.int .i64 x1) := (X1.out.grown G7.out (by intro e; injection e; omega)).cell 1
                have R7 := Lib.hid hr7
                clear hr7 hg7
                go_wp2_with fail
                refine hK.out _ _ ⟨e0, e1⟩ (fun hHeld2 => ?_)
                clear hK hHeld
                have hHeld := hHeld2
                clear hHeld2
                try simp only [Act.put, List.setIfInBounds_toArray, List.set_cons_zero, List.set_cons_succ]
                refine wpAnyH_take (i := 19) (oi := { dst := some 89, op := Go.Op.binOp Go.BinOp.neq 3 (Go.Operand.tmp 85) (Go.Operand.tmp 88) 3, type := 4, pos := "law.go:70", after := #[{ on := 15, ground := Go.Ground.data }, { on := 18, ground := Go.Ground.data }, { on := 13, ground := Go.Ground.guard }], guard := some (13, true) }) (v := ?_) rfl (by kernel_rfl) (by kernel_rfl) (by kernel_rfl) (fun _ _ _ h => h) (Or.inl ⟨by rfl, ?_⟩) hHeld ?_
                case refine_2 => (intro w hSw; (try dsimp only at hSw); go_simp <;> with_reducible rfl)
                try simp only [Act.put, List.setIfInBounds_toArray, List.set_cons_zero, List.set_cons_succ]
                refine wpAnyH_take (i := 20) (oi := { dst := some 90, op := Go.Op.pick (Go.Operand.tmp 83) (Go.Operand.tmp 89) (Go.Operand.const (Go.Value.bool false)), type := 4, pos := "law.go:70", after := #[{ on := 13, ground := Go.Ground.data }, { on := 19, ground := Go.Ground.data }, { on := 9, ground := Go.Ground.guard }], guard := some (9, false) }) (v := ?_) rfl (by kernel_rfl) (by kernel_rfl) (by kernel_rfl) (fun _ _ _ h => h) (Or.inl ⟨by rfl, ?_⟩) hHeld ?_
                case refine_2 => (intro w hSw; (try dsimp only at hSw); go_simp <;> with_reducible rfl)
                try simp only [Act.put, List.setIfInBounds_toArray, List.set_cons_zero, List.set_cons_succ]
                refine wpAnyH_take (i := 21) (oi := { dst := some 91, op := Go.Op.pick (Go.Operand.tmp 79) (Go.Operand.const (Go.Value.bool true)) (Go.Operand.tmp 90), type := 4, pos := "law.go:70", after := #[{ on := 9, ground := Go.Ground.data }, { on := 20, ground := Go.Ground.data }], guard := none }) (v := ?_) rfl (by kernel_rfl) (by kernel_rfl) (by kernel_rfl) (fun _ _ _ h => h) (Or.inl ⟨by rfl, ?_⟩) hHeld ?_
                case refine_2 => (intro w hSw; (try dsimp only at hSw); go_simp <;> with_reducible rfl)
                try simp only [Act.put, List.setIfInBounds_toArray, List.set_cons_zero, List.set_cons_succ]
                refine wpAnyH_done (by kernel_rfl) ?_ _
                clear hHeld
                have B7 := Lib.hid (below_grown BB1.out BB1.out.size hr5 G7.out)
                clear G7 e0 e1 d0 d1
                go_wp2
                go_roundw
                case rel => exact ⟨k + 1, by omega, by go_num, R7.out, B7.out⟩
                case measure => simp [intOf]; omega
              · have HZ : Hid (((x1.toNat : Nat) : Int) = x1) := Lib.hid (by omega)
                go_wp2_with fail
                have X1 := Lib.hid (BoxT.new wr #[.bool false, .int .i64 x1, S x2] 30)
                have RA := Lib.hid (BoxT.alloc RD.out (.cells #[.bool false, .int .i64 x1, S x2] 30))
                have BB1 := Lib.hid (HB.out.alloc hws (.cells #[.bool false, .int .i64 x1, S x2] 30))
                clear RD HB c0 c1 c2
                generalize wr.alloc (.cells #[.bool false, .int .i64 x1, S x2] 30) = wa at *
                generalize wr.heap.size = xb at *
                have RA2 : Hid (Rdr wa r2 (layL (L.drop k), false)) := RA
                clear RA
                with_reducible refine (done_as r2 _ false _ RA2.out).mono ?_
                rintro y wn ⟨rfl, rfl⟩
                rw [HE.out]
                have d0 : wa.cell? ⟨xb, 0, none⟩ = some (.bool false) := X1.out.cell 0
                go_wp2_with fail
                have d1 : wa.cell? ⟨xb, 1, none⟩ = some (.int .i64 x1) := X1.out.cell 1
                refine wp_region_held_drew (S := fun w' => w'.cell? ⟨xb, 0, none⟩ = some (.bool false) ∧ w'.cell? ⟨xb, 1, none⟩ = some (.int .i64 x1)) (by kernel_rfl) ⟨d0, d1⟩ (fun hHeld => ?_)
                refine wpAnyH_take (i := 0) (oi := { dst := some 70, op := Go.Op.fieldAddr 30 (Go.Operand.tmp 12) 0, type := 0, pos := "law.go:70", after := #[], guard := none }) (v := ?_) rfl (by kernel_rfl) (by kernel_rfl) (by kernel_rfl) (fun _ _ _ h => h) (Or.inl ⟨by rfl, ?_⟩) hHeld ?_
                case refine_2 => (intro w hSw; (try dsimp only at hSw); go_simp <;> with_reducible rfl)
                try simp only [Act.put, List.setIfInBounds_toArray, List.set_cons_zero, List.set_cons_succ]
                refine wpAnyH_take (i := 1) (oi := { dst := some 71, op := Go.Op.load 4 (Go.Operand.tmp 70), type := 4, pos := "law.go:70", after := #[{ on := 0, ground := Go.Ground.data }], guard := none }) (v := ?_) rfl (by kernel_rfl) (by kernel_rfl) (by kernel_rfl) (fun _ _ _ h => h) (Or.inl ⟨by rfl, ?_⟩) hHeld ?_
                case refine_2 => (intro w hSw; (try dsimp only at hSw); go_simp <;> with_reducible rfl)
                try simp only [Act.put, List.setIfInBounds_toArray, List.set_cons_zero, List.set_cons_succ]
                refine wpAnyH_take (i := 2) (oi := { dst := some 72, op := Go.Op.move (Go.Operand.tmp 71), type := 4, pos := "law.go:70", after := #[{ on := 1, ground := Go.Ground.data }], guard := none }) (v := ?_) rfl (by kernel_rfl) (by kernel_rfl) (by kernel_rfl) (fun _ _ _ h => h) (Or.inl ⟨by rfl, ?_⟩) hHeld ?_
                case refine_2 => (intro w hSw; (try dsimp only at hSw); go_simp <;> with_reducible rfl)
                try simp only [Act.put, List.setIfInBounds_toArray, List.set_cons_zero, List.set_cons_succ]
                refine wpAnyH_take (i := 3) (oi := { dst := some 73, op := Go.Op.move (Go.Operand.tmp 10), type := 35, pos := "law.go:70", after := #[{ on := 2, ground := Go.Ground.guard }], guard := some (2, true) }) (v := undef) rfl (by kernel_rfl) (by kernel_rfl) (by kernel_rfl) (fun _ _ _ h => h) (Or.inr ⟨by rfl, rfl⟩) hHeld ?_
                try simp only [Act.put, List.setIfInBounds_toArray, List.set_cons_zero, List.set_cons_succ]
                refine wpAnyH_take (i := 4) (oi := { dst := some 74, op := Go.Op.call { callee := Go.Callee.value (Go.Operand.func 14), args := #[Go.Operand.tmp 73], argTypes := #[35] }, type := 9, pos := "law.go:70", after := #[{ on := 3, ground := Go.Ground.data }, { on := 2, ground := Go.Ground.chain }, { on := 2, ground := Go.Ground.guard }], guard := some (2, true) }) (v := undef) rfl (by kernel_rfl) (by kernel_rfl) (by kernel_rfl) (fun _ _ _ h => h) (Or.inr ⟨by rfl, rfl⟩) hHeld ?_
                try simp only [Act.put, List.setIfInBounds_toArray, List.set_cons_zero, List.set_cons_succ]
                refine wpAnyH_take (i := 5) (oi := { dst := some 75, op := Go.Op.fieldAddr 30 (Go.Operand.tmp 12) 2, type := 0, pos := "law.go:70", after := #[{ on := 2, ground := Go.Ground.guard }], guard := some (2, true) }) (v := undef) rfl (by kernel_rfl) (by kernel_rfl) (by kernel_rfl) (fun _ _ _ h => h) (Or.inr ⟨by rfl, rfl⟩) hHeld ?_
                try simp only [Act.put, List.setIfInBounds_toArray, List.set_cons_zero, List.set_cons_succ]
                refine wpAnyH_take (i := 6) (oi := { dst := some 76, op := Go.Op.load 9 (Go.Operand.tmp 75), type := 9, pos := "law.go:70", after := #[{ on := 5, ground := Go.Ground.data }, { on := 2, ground := Go.Ground.guard }], guard := some (2, true) }) (v := undef) rfl (by kernel_rfl) (by kernel_rfl) (by kernel_rfl) (fun _ _ _ h => h) (Or.inr ⟨by rfl, rfl⟩) hHeld ?_
                try simp only [Act.put, List.setIfInBounds_toArray, List.set_cons_zero, List.set_cons_succ]
                refine wpAnyH_take (i := 7) (oi := { dst := some 77, op := Go.Op.binOp Go.BinOp.neq 9 (Go.Operand.tmp 74) (Go.Operand.tmp 76) 9, type := 4, pos := "law.go:70", after := #[{ on := 4, ground := Go.Ground.data }, { on := 6, ground := Go.Ground.data }, { on := 2, ground := Go.Ground.guard }], guard := some (2, true) }) (v := undef) rfl (by kernel_rfl) (by kernel_rfl) (by kernel_rfl) (fun _ _ _ h => h) (Or.inr ⟨by rfl, rfl⟩) hHeld ?_
                try simp only [Act.put, List.setIfInBounds_toArray, List.set_cons_zero, List.set_cons_succ]
                refine wpAnyH_take (i := 8) (oi := { dst := some 78, op := Go.Op.pick (Go.Operand.tmp 72) (Go.Operand.tmp 77) (Go.Operand.const (Go.Value.bool false)), type := 4, pos := "law.go:70", after := #[{ on := 2, ground := Go.Ground.data }, { on := 7, ground := Go.Ground.data }], guard := none }) (v := ?_) rfl (by kernel_rfl) (by kernel_rfl) (by kernel_rfl) (fun _ _ _ h => h) (Or.inl ⟨by rfl, ?_⟩) hHeld ?_
                case refine_2 => (intro w hSw; (try dsimp only at hSw); go_simp <;> with_reducible rfl)
                try simp only [Act.put, List.setIfInBounds_toArray, List.set_cons_zero, List.set_cons_succ]
                refine wpAnyH_take (i := 9) (oi := { dst := some 79, op := Go.Op.move (Go.Operand.tmp 78), type := 4, pos := "law.go:70", after := #[{ on := 8, ground := Go.Ground.data }, { on := 4, ground := Go.Ground.chain }], guard := none }) (v := ?_) rfl (by kernel_rfl) (by kernel_rfl) (by kernel_rfl) (fun _ _ _ h => h) (Or.inl ⟨by rfl, ?_⟩) hHeld ?_
                case refine_2 => (intro w hSw; (try dsimp only at hSw); go_simp <;> with_reducible rfl)
                try simp only [Act.put, List.setIfInBounds_toArray, List.set_cons_zero, List.set_cons_succ]
                refine wpAnyH_take (i := 10) (oi := { dst := some 80, op := Go.Op.fieldAddr 30 (Go.Operand.tmp 12) 0, type := 0, pos := "law.go:70", after := #[{ on := 9, ground := Go.Ground.guard }], guard := some (9, false) }) (v := ?_) rfl (by kernel_rfl) (by kernel_rfl) (by kernel_rfl) (fun _ _ _ h => h) (Or.inl ⟨by rfl, ?_⟩) hHeld ?_
                case refine_2 => (intro w hSw; (try dsimp only at hSw); go_simp <;> with_reducible rfl)
                try simp only [Act.put, List.setIfInBounds_toArray, List.set_cons_zero, List.set_cons_succ]
                refine wpAnyH_take (i := 11) (oi := { dst := some 81, op := Go.Op.load 4 (Go.Operand.tmp 80), type := 4, pos := "law.go:70", after := #[{ on := 10, ground := Go.Ground.data }, { on := 9, ground := Go.Ground.guard }], guard := some (9, false) }) (v := ?_) rfl (by kernel_rfl) (by kernel_rfl) (by kernel_rfl) (fun _ _ _ h => h) (Or.inl ⟨by rfl, ?_⟩) hHeld ?_
                case refine_2 => (intro w hSw; (try dsimp only at hSw); go_simp <;> with_reducible rfl)
                try simp only [Act.put, List.setIfInBounds_toArray, List.set_cons_zero, List.set_cons_succ]
                refine wpAnyH_take (i := 12) (oi := { dst := some 82, op := Go.Op.unOp Go.UnOp.not 4 (Go.Operand.tmp 81), type := 4, pos := "law.go:70", after := #[{ on := 11, ground := Go.Ground.data }, { on := 9, ground := Go.Ground.guard }], guard := some (9, false) }) (v := ?_) rfl (by kernel_rfl) (by kernel_rfl) (by kernel_rfl) (fun _ _ _ h => h) (Or.inl ⟨by rfl, ?_⟩) hHeld ?_
                case refine_2 => (intro w hSw; (try dsimp only at hSw); go_simp <;> with_reducible rfl)
                try simp only [Act.put, List.setIfInBounds_toArray, List.set_cons_zero, List.set_cons_succ]
                refine wpAnyH_take (i := 13) (oi := { dst := some 83, op := Go.Op.move (Go.Operand.tmp 82), type := 4, pos := "law.go:70", after := #[{ on := 12, ground := Go.Ground.data }, { on := 9, ground := Go.Ground.chain }, { on := 9, ground := Go.Ground.guard }], guard := some (9, false) }) (v := ?_) rfl (by kernel_rfl) (by kernel_rfl) (by kernel_rfl) (fun _ _ _ h => h) (Or.inl ⟨by rfl, ?_⟩) hHeld ?_
                case refine_2 => (intro w hSw; (try dsimp only at hSw); go_simp <;> with_reducible rfl)
                try simp only [Act.put, List.setIfInBounds_toArray, List.set_cons_zero, List.set_cons_succ]
                refine wpAnyH_take (i := 14) (oi := { dst := some 84, op := Go.Op.move (Go.Operand.tmp 10), type := 35, pos := "law.go:70", after := #[{ on := 13, ground := Go.Ground.guard }], guard := some (13, true) }) (v := ?_) rfl (by kernel_rfl) (by kernel_rfl) (by kernel_rfl) (fun _ _ _ h => h) (Or.inl ⟨by rfl, ?_⟩) hHeld ?_
                case refine_2 => (intro w hSw; (try dsimp only at hSw); go_simp <;> with_reducible rfl)
                try simp only [Act.put, List.setIfInBounds_toArray, List.set_cons_zero, List.set_cons_succ]
                refine wpAnyH_take (i := 16) (oi := { dst := some 86, op := Go.Op.fieldAddr 30 (Go.Operand.tmp 12) 1, type := 0, pos := "law.go:70", after := #[{ on := 13, ground := Go.Ground.guard }], guard := some (13, true) }) (v := ?_) rfl (by kernel_rfl) (by kernel_rfl) (by kernel_rfl) (fun _ _ _ h => h) (Or.inl ⟨by rfl, ?_⟩) hHeld ?_
                case refine_2 => (intro w hSw; (try dsimp only at hSw); go_simp <;> with_reducible rfl)
                try simp only [Act.put, List.setIfInBounds_toArray, List.set_cons_zero, List.set_cons_succ]
                refine wpAnyH_take (i := 17) (oi := { dst := some 87, op := Go.Op.load 3 (Go.Operand.tmp 86), type := 3, pos := "law.go:70", after := #[{ on := 16, ground := Go.Ground.data }, { on := 13, ground := Go.Ground.guard }], guard := some (13, true) }) (v := ?_) rfl (by kernel_rfl) (by kernel_rfl) (by kernel_rfl) (fun _ _ _ h => h) (Or.inl ⟨by rfl, ?_⟩) hHeld ?_
                case refine_2 => (intro w hSw; (try dsimp only at hSw); go_simp <;> with_reducible rfl)
                try simp only [Act.put, List.setIfInBounds_toArray, List.set_cons_zero, List.set_cons_succ]
                refine wpAnyH_take (i := 18) (oi := { dst := some 88, op := Go.Op.call { callee := Go.Callee.builtin Go.Builtin.max, args := #[Go.Operand.tmp 87, Go.Operand.const (Go.Value.int Go.IntKind.i64 0)], argTypes := #[3, 3] }, type := 3, pos := "law.go:70", after := #[{ on := 17, ground := Go.Ground.data }, { on := 13, ground := Go.Ground.guard }], guard := some (13, true) }) (v := ?_) rfl (by kernel_rfl) (by kernel_rfl) (by kernel_rfl) (fun _ _ _ h => h) (Or.inl ⟨by rfl, ?_⟩) hHeld ?_
                case refine_2 => (intro w hSw; (try dsimp only at hSw); go_simp <;> with_reducible rfl)
                try simp only [Act.put, List.setIfInBounds_toArray, List.set_cons_zero, List.set_cons_succ]
                refine wpAnyH_ready (rs := [15]) (by kernel_rfl) (by simp) ?_
                refine AllReadyH.cons (o := { dst := some 85, op := Go.Op.call { callee := Go.Callee.value (Go.Operand.func 15), args := #[Go.Operand.tmp 84], argTypes := #[35] }, type := 3, pos := "law.go:70", after := #[{ on := 14, ground := Go.Ground.data }, { on := 13, ground := Go.Ground.chain }, { on := 13, ground := Go.Ground.guard }], guard := some (13, true) }) rfl (fun KK hK => ?_) AllReadyH.nil
                go_simp
                with_reducible refine (rnum_as r2 (layL (L.drop k), false) _ RA2.out.drew (HLD.out k)).mono ?_
                rw [HR.out]
                dsimp only
                rw [HZ.out]
                rintro y w7 ⟨rfl, hr7, hg7⟩
                have G7 := Lib.hid (grown_trans (grown_drew (World.grownBy.refl wa (some r2))) hg7)
                have e0 : w7.cell? ⟨xb, 0, none⟩ = some (.bool false) := (X1.out.grown G7.out (by intro e; injection e; omega)).cell 0
                have e1 : w7.cell? ⟨xb, 1, none⟩ = some (.int .i64 x1) := (X1.out.grown G7.out (by intro e; injection e; omega)).cell 1
                have R7 := Lib.hid hr7
                clear hr7 hg7
                go_wp2_with fail
                refine hK.out _ _ ⟨e0, e1⟩ (fun hHeld2 => ?_)
                clear hK hHeld
                have hHeld := hHeld2
                clear hHeld2
                try simp only [Act.put, List.setIfInBounds_toArray, List.set_cons_zero, List.set_cons_succ]
                refine wpAnyH_take (i := 19) (oi := { dst := some 89, op := Go.Op.binOp Go.BinOp.neq 3 (Go.Operand.tmp 85) (Go.Operand.tmp 88) 3, type := 4, pos := "law.go:70", after := #[{ on := 15, ground := Go.Ground.data }, { on := 18, ground := Go.Ground.data }, { on := 13, ground := Go.Ground.guard }], guard := some (13, true) }) (v := ?_) rfl (by kernel_rfl) (by kernel_rfl) (by kernel_rfl) (fun _ _ _ h => h) (Or.inl ⟨by rfl, ?_⟩) hHeld ?_
                case refine_2 => (intro w hSw; (try dsimp only at hSw); go_simp <;> with_reducible rfl)
                try simp only [Act.put, List.setIfInBounds_toArray, List.set_cons_zero, List.set_cons_succ]
                refine wpAnyH_take (i := 20) (oi := { dst := some 90, op := Go.Op.pick (Go.Operand.tmp 83) (Go.Operand.tmp 89) (Go.Operand.const (Go.Value.bool false)), type := 4, pos := "law.go:70", after := #[{ on := 13, ground := Go.Ground.data }, { on := 19, ground := Go.Ground.data }, { on := 9, ground := Go.Ground.guard }], guard := some (9, false) }) (v := ?_) rfl (by kernel_rfl) (by kernel_rfl) (by kernel_rfl) (fun _ _ _ h => h) (Or.inl ⟨by rfl, ?_⟩) hHeld ?_
                case refine_2 => (intro w hSw; (try dsimp only at hSw); go_simp <;> with_reducible rfl)
                try simp only [Act.put, List.setIfInBounds_toArray, List.set_cons_zero, List.set_cons_succ]
                refine wpAnyH_take (i := 21) (oi := { dst := some 91, op := Go.Op.pick (Go.Operand.tmp 79) (Go.Operand.const (Go.Value.bool true)) (Go.Operand.tmp 90), type := 4, pos := "law.go:70", after := #[{ on := 9, ground := Go.Ground.data }, { on := 20, ground := Go.Ground.data }], guard := none }) (v := ?_) rfl (by kernel_rfl) (by kernel_rfl) (by kernel_rfl) (fun _ _ _ h => h) (Or.inl ⟨by rfl, ?_⟩) hHeld ?_
                case refine_2 => (intro w hSw; (try dsimp only at hSw); go_simp <;> with_reducible rfl)
                try simp only [Act.put, List.setIfInBounds_toArray, List.set_cons_zero, List.set_cons_succ]
                refine wpAnyH_done (by kernel_rfl) ?_ _
                clear hHeld
                have B7 := Lib.hid (below_grown BB1.out BB1.out.size hr5 G7.out)
                clear G7 e0 e1 d0 d1
                go_wp2
                go_roundw
                case rel => exact ⟨k + 1, by omega, by go_num, R7.out, B7.out⟩
                case measure => simp [intOf]; omega
          · have hdk : layL (L.drop k) = [] := by rw [List.drop_eq_nil_of_le (by omega)]; rfl
            have RE : Hid (Rdr wr r2 ([], false)) := Lib.hid (by rw [← hdk]; exact RD.out)
            clear hdk RD
            by_cases h0 : L.length = 0
            · have hl0 : (layL L).length = 0 := by rw [List.eq_nil_of_length_eq_zero h0]; rfl
              clear h0
              go_wp2_with fail
              with_reducible refine (done_as r2 [] false _ RE.out).mono ?_
              rintro y wn ⟨rfl, rfl⟩
              go_wp2_with fail
              with_reducible refine (ok_as r2 [] false _ RE.out).mono ?_
              rintro y wn ⟨rfl, rfl⟩
              go_wp2_with fail
              with_reducible refine (done_as r2 [] false _ RE.out).mono ?_
              rintro y wn ⟨rfl, rfl⟩
              go_wp2
              go_ret
              exact ⟨rfl, HB.out⟩
            · have hlp : 0 < (layL L).length := by
                cases hL : L with
                | nil => rw [hL] at h0; exact absurd rfl h0
                | cons x t =>
                  have e : layL (x :: t) = layI x ++ layL t := List.flatMap_cons
                  have := layI_pos x
                  rw [e, List.length_append]; omega
              have hl6 : (layL L).length ≤ 6400 := by omega
              have hl0b : (((layL L).length : Int) == 0) = false := by rw [beq_eq_false_iff_ne]; omega
              obtain ⟨m, hm, hand⟩ := and_mask n 65535 (by decide)
              have hand2 : bits .and .i64 n 65535 = (m : Int) := hand
              obtain ⟨c, hc⟩ : ∃ c, c = m % (layL L).length := ⟨_, rfl⟩
              have hcl : c < (layL L).length := by rw [hc]; exact Nat.mod_lt _ hlp
              have hmc : (m : Int) % ((layL L).length : Int) = (c : Int) := by rw [hc]; omega
              have hsz : (⟨(layL L).toArray⟩ : ByteArray).size = (layL L).length := arr_size _
              have HTS : Hid ((⟨(layL L).toArray⟩ : ByteArray).extract 0 c = ⟨((layL L).take c).toArray⟩) := Lib.hid (by rw [take_S, arr_list])
              have HCUT := Lib.hid (rdL_cut L HOK.out c hcl)
              clear hand h0 hc
              go_wp2_with fail
              with_reducible refine (done_as r2 [] false _ RE.out).mono ?_
              rintro y wn ⟨rfl, rfl⟩
              go_wp2_with fail
              with_reducible refine (ok_as r2 [] false _ RE.out).mono ?_
              rintro y wn ⟨rfl, rfl⟩
              go_wp2_with fail
              rw [HTS.out]
              with_reducible refine (new_as ((layL L).take c) _).mono ?_
              rintro y w7 ⟨rfl, hr, hb⟩
              have R7 := Lib.hid hr
              have B7 := Lib.hid (HB.out.trans (hb.mono HB.out.size))
              have hr7 : w.heap.size ≤ wr.heap.size := HB.out.size
              have htl : ((layL L).take c).length ≤ 6400 := by rw [List.length_take]; omega
              have HTL := Lib.hid htl
              clear hr hb RE HB htl hmc hand2 hcl hlp hl6 hl0b hlt hk HTS
              generalize (layL L).take c = Z at *
              generalize wr.heap.size = r3 at *
              go_wp2_with fail
              go_loopw [119] (fun i wr => ∃ k : Nat, k ≤ L.length ∧ i = .int .i64 (k : Int) ∧ Rdr wr r3 (rdL (L.take k) (Z, false)) ∧ Below w.heap.size w wr) (fun i _ => L.length - (intOf i).toNat)
              case atStart => exact ⟨0, Nat.zero_le _, rfl, R7.out, B7.out⟩
              case round =>
                obtain ⟨k, hk, rfl, hrd, hb⟩ := hrel
                have RD := Lib.hid hrd
                have HB := Lib.hid hb
                have hws := hb.size
                have hrl := hrd.lt
                have HQL : Hid ((rdL (L.take k) (Z, false)).1.length ≤ 1000000000) := Lib.hid (by have h1 := rdL_len (L.take k) (Z, false); have h2 := HTL.out; simp only at h1; omega)
                clear hrd hb R7 B7
                by_cases hlt : k < L.length
                · obtain ⟨b, off, cap', e, hbl, c0, c1, c2⟩ := HIN.out.at3 HB.out k hlt
                  injection e with e1 e2 e3
                  subst e1
                  subst e3
                  have HD := Lib.hid (rdL_take L k hlt (Z, false))
                  obtain ⟨x, hx⟩ : ∃ x, x = L[k] := ⟨_, rfl⟩
                  rw [← hx] at c0 c1 c2 HD
                  obtain ⟨x0, x1, x2⟩ := x
                  clear hx e2
                  have hsz : (⟨x2.toArray⟩ : ByteArray).size = x2.length := arr_size x2
                  simp only at c0 c1 c2
                  cases x0 with
                  | true =>
                    go_wp2_with fail
                    have RA := Lib.hid (BoxT.alloc RD.out (.cells #[.bool true, .int .i64 x1, S x2] 30))
                    have BB1 := Lib.hid (HB.out.alloc hws (.cells #[.bool true, .int .i64 x1, S x2] 30))
                    clear RD HB c0 c1 c2
                    generalize wr.alloc (.cells #[.bool true, .int .i64 x1, S x2] 30) = wa at *
                    have RA2 : Hid (Rdr wa r3 (rdL (L.take k) (Z, false))) := RA
                    clear RA
                    with_reducible refine (rtext_as r3 _ _ RA2.out HQL.out).mono ?_
                    rintro y w8 ⟨rfl, hr8, hg8⟩
                    have R8 := Lib.hid hr8
                    have B8 := Lib.hid (below_grown BB1.out BB1.out.size hr7 hg8)
                    clear hr8 hg8
                    go_wp2
                    go_roundw
                    case rel => exact ⟨k + 1, by omega, by go_num, by rw [HD.out]; exact R8.out, B8.out⟩
                    case measure => simp [intOf]; omega
                  | false =>
                    go_wp2_with fail
                    have RA := Lib.hid (BoxT.alloc RD.out (.cells #[.bool false, .int .i64 x1, S x2] 30))
                    have BB1 := Lib.hid (HB.out.alloc hws (.cells #[.bool false, .int .i64 x1, S x2] 30))
                    clear RD HB c0 c1 c2
                    generalize wr.alloc (.cells #[.bool false, .int .i64 x1, S x2] 30) = wa at *
                    have RA2 : Hid (Rdr wa r3 (rdL (L.take k) (Z, false))) := RA
                    clear RA
                    with_reducible refine (rnum_as r3 _ _ RA2.out HQL.out).mono ?_
                    rintro y w8 ⟨rfl, hr8, hg8⟩
                    have R8 := Lib.hid hr8
                    have B8 := Lib.hid (below_grown BB1.out BB1.out.size hr7 hg8)
                    clear hr8 hg8
                    go_wp2
                    go_roundw
                    case rel => exact ⟨k + 1, by omega, by go_num, by rw [HD.out]; exact R8.out, B8.out⟩
                    case measure => simp [intOf]; omega
                · have RE2 : Hid (Rdr wr r3 badR) := Lib.hid (by rw [← HCUT.out, ← List.take_of_length_le (show L.length ≤ k by omega)]; exact RD.out)
                  clear RD HQL HCUT
                  go_wp2_with fail
                  with_reducible refine (ok_as r3 [] true _ RE2.out).mono ?_
                  rintro y wn ⟨rfl, rfl⟩
                  go_wp2_with fail
                  with_reducible refine (done_as r3 [] true _ RE2.out).mono ?_
                  rintro y wn ⟨rfl, rfl⟩
                  go_wp2_with fail
                  with_reducible refine (rnum_as r3 badR _ RE2.out (by decide)).mono ?_
                  rw [numR_bad]
                  rintro y w8 ⟨rfl, hr, hg⟩
                  have RX := Lib.hid hr
                  have BX := Lib.hid (below_grown HB.out HB.out.size hr7 hg)
                  clear hr hg
                  go_wp2_with fail
                  with_reducible refine (rtext_as r3 badR _ RX.out (by decide)).mono ?_
                  rw [textR_bad]
                  rintro y w9 ⟨rfl, hr, hg⟩
                  have BY := Lib.hid (below_grown BX.out BX.out.size hr7 hg)
                  clear hr hg RX
                  go_wp2
                  go_ret
                  exact ⟨rfl, BY.out⟩
end Go.Proofs.Ytopcheblhacaeaa
