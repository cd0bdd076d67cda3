/- Texts with places: Fill of a row in which some are long that stand at no place; what the law writes, by rounds. -/
import Derived.Test.YtmopcgmodaahkaaDoorBrF
namespace Go.Proofs.YtmopcgmodaahkaaDoor
open Go.RowKit Florin
set_option linter.unusedVariables false
set_option linter.unusedSimpArgs false
theorem flK_lenG (L T : List (List UInt8)) (P : List Nat) (M : Nat) (hT : ∀ t ∈ T, t.length ≤ M) (hL : ∀ d ∈ P, (L.getD d []).length ≤ M) : ∀ i, (flK L T P i).1.length ≤ i * (2 * M)
  | 0 => Nat.zero_le _
  | i + 1 => by
    have ih := flK_lenG L T P M hT hL i
    have h1 := get_len hT i
    rw [flK_succ, Nat.add_mul]
    cases ho : P[i]? with
    | none => rw [stB_none]; simp only [List.length_append]; omega
    | some d =>
      have h2 := hL d (List.mem_of_getElem? ho)
      by_cases h : d < L.length
      · rw [stB_yes h]; simp only [List.length_append]; omega
      · rw [stB_no h]; simp only [List.length_append]; omega
set_option maxRecDepth 100000 in
set_option maxHeartbeats 3200000 in
theorem fill_asG (vt vp vl : Value) (T : List (List UInt8)) (P : List Nat) (L : List (List UInt8)) (w : World) (hT : InT w vt T) (hP : InP w vp P) (hL : InT w vl L) (h0 : 0 < T.length) (hTl : T.length ≤ 1000) (hPl : P.length ≤ 1000) (hLl : L.length ≤ 1000)
    (hTs : ∀ t ∈ T, t.length ≤ 1000) (hLs : ∀ d ∈ P, (L.getD d []).length ≤ 1000) :
    Calls Tryd.prog 19 #[.agg #[vt, vp], vl] w fun e w' => ∃ v, e = .returned (.tuple #[S (flK L T P T.length).1, v]) ∧ OwnS w' w.heap.size v L.length (flK L T P T.length).2 ∧ Below w.heap.size w w' := by
  obtain ⟨i1, hj, hy0, hy1, hy2⟩ := info_parts infoN
  obtain ⟨a1, cap1, rfl, hc1, hm1, hT4⟩ := hT
  obtain ⟨b1, o1, rfl, hb1, hT5⟩ := hT4 h0
  obtain ⟨a2, cap2, rfl, hc2, hm2, hP4⟩ := hP
  obtain ⟨a3, cap3, rfl, hc3, hm3, hL4⟩ := hL
  have HT5 := Lib.hid hT5
  have HP4 := Lib.hid hP4
  have HL4 := Lib.hid hL4
  have HTs := Lib.hid hTs
  have HLs := Lib.hid hLs
  clear hT4 hT5 hP4 hL4 hTs hLs
  have X0 := Lib.hid ((BoxT.new w #[.slice (some ⟨b1, o1, none⟩) T.length cap1, .slice a2 P.length cap2] TBr).alloc (.cells #[.pointer none, .slice none 0 0] TB))
  have BD0 : Hid (Lib.IsBuilder TB 5 (w.heap.size + 1) (w.heap.size + 1) [] ((w.alloc (.cells #[.slice (some ⟨b1, o1, none⟩) T.length cap1, .slice a2 P.length cap2] TBr)).alloc (.cells #[.pointer none, .slice none 0 0] TB))) := Lib.hid (by
    have := Lib.fresh_isBuilder TB 5 (w.alloc (.cells #[.slice (some ⟨b1, o1, none⟩) T.length cap1, .slice a2 P.length cap2] TBr))
    simpa using this)
  have BB0 : Hid (Below w.heap.size w ((w.alloc (.cells #[.slice (some ⟨b1, o1, none⟩) T.length cap1, .slice a2 P.length cap2] TBr)).alloc (.cells #[.pointer none, .slice none 0 0] TB))) := Lib.hid (((Below.refl _ _).alloc (Nat.le_refl _) _).alloc (by simp) _)
  have F0 : Hid (∀ w3 : World, ((w.alloc (.cells #[.slice (some ⟨b1, o1, none⟩) T.length cap1, .slice a2 P.length cap2] TBr)).alloc (.cells #[.pointer none, .slice none 0 0] TB)).grownBy w3 none →
      w3.ownsRow (w.heap.size + 1 + 1) 3 1 (.slice (some ⟨w.heap.size + 1 + 1, 0, none⟩) L.length L.length) L.length (madeCells (Value.int .i64 0).cells (L.length * 1)).toList → FIn w w3 (.slice (some ⟨b1, o1, none⟩) T.length cap1) (.slice a2 P.length cap2) L.length ([], fun _ => 0)) := Lib.hid (fun w3 hg ho => by
    refine ⟨box_made X0.out hg, ?_, by rw [zero_st] at ho; exact ho, BB0.out.trans ((below_none hg).mono BB0.out.size), ?_⟩
    · rcases BD0.out with h | h
      · obtain ⟨hB, v, hbk, hown, hn⟩ := h
        exact .inl ⟨hB, v, (hg.block _ (BoxT.lt (w := _) (b := _) (cs := _) (t := _) hbk) (fun e => by cases e)).trans hbk, hown.kept hg (by rcases hown.2 with ⟨rfl, _⟩ | ⟨g, _, _, _, _, _, _, _, _⟩ <;> first | exact .inl rfl | exact .inr (by intro e; simp_all [Value.ownBlock])), hn⟩
      · obtain ⟨hB, v, hbk, hown, hn⟩ := h
        exact .inr ⟨hB, v, (hg.block _ (BoxT.lt (w := _) (b := _) (cs := _) (t := _) hbk) (fun e => by cases e)).trans hbk, hown.kept hg (by rcases hown.2 with ⟨rfl, _⟩ | ⟨g, _, _, _, _, _, _, _, _⟩ <;> first | exact .inl rfl | exact .inr (by intro e; simp_all [Value.ownBlock])), hn⟩
    · rcases ho.2 with ⟨h1, h2⟩ | ⟨g, cap, cur, h1, h2, h3, _⟩
      · cases h1
      · cases h1
        exact BoxT.lt (w := w3) (b := w.heap.size + 1 + 1) (cs := cur) (t := 3) h3)
  have HSZ : Hid (((w.alloc (.cells #[.slice (some ⟨b1, o1, none⟩) T.length cap1, .slice a2 P.length cap2] TBr)).alloc (.cells #[.pointer none, .slice none 0 0] TB)).heap.size = w.heap.size + 1 + 1) := Lib.hid (by simp)
  go_enter Tryd.func19, Tryd.ntmps19
  go_wp2_with (at_make; go_loud (refine wpList_make_full _ rfl (.tmp 12) (.tmp 12) 40 rfl (w.heap.size + 1 + 1) 3 i1 (.int .i64 0) 1 Tryd.underlying40 hj hy0 hy1 .i64 .i64 _ _ L.length rfl rfl rfl rfl (by rw [hy2]; omega) (by unfold maxLen; omega) (by simp) ?_; intro w3 hown hgrow; rw [HSZ.out] at hown; have FI := Lib.hid (F0.out w3 hgrow hown); have c0 := FI.out.bx.cell 0; have xl := FI.out.bx.lt; simp at c0))
  clear F0 BB0 BD0 X0
  go_loopw [17] (fun i wr => ∃ k : Nat, k ≤ T.length ∧ i = .int .i64 k ∧ FIn w wr (.slice (some ⟨b1, o1, none⟩) T.length cap1) (.slice a2 P.length cap2) L.length (flK L T P k)) (fun i _ => T.length - (intOf i).toNat)
  case atStart => exact ⟨0, Nat.zero_le _, rfl, FI.out⟩
  case round =>
    obtain ⟨k, hk, rfl, hfi⟩ := hrel
    by_cases hlt : k < T.length
    · have hlti : (k : Int) < (T.length : Int) := by omega
      have HF := Lib.hid hfi
      have hcT := (HF.out.b.cell (p := ⟨b1, o1 + k, none⟩) hb1).trans (HT5.out k hlt)
      have hlenx := flK_lenG L T P 1000 HTs.out HLs.out k
      have htl := get_len HTs.out k
      have hkl : k ≤ 1000 := by omega
      have HX := Lib.hid (flK_succ L T P k)
      have hbx0 := HF.out.bx.cell 0
      have hbxl := HF.out.bx.lt
      simp at hbx0
      clear hfi
      generalize flK L T P k = x at HF HX hlenx
      generalize T.getD k [] = t at hcT HX htl
      go_wp2_with fail
      with_reducible refine (wstr_as (w.heap.size + 1) (w.heap.size + 1) _ ⟨t.toArray⟩ _ HF.out.bd (by rw [Lib.byteCells_length, arr_size]; omega) (by have := HF.out.l; omega)).mono ?_
      rintro e w4 ⟨rfl, hbd, hbl, hkt⟩
      have HF1 := Lib.hid (HF.out.wrote hbd hbl hkt)
      clear hbd hbl hkt HF hcT hbx0 hbxl
      have c1 := HF1.out.bx.cell 1
      have xl := HF1.out.bx.lt
      simp at c1
      by_cases hkp : (P.length : Int) ≤ (k : Int)
      · have HN : Hid (P[k]? = none) := Lib.hid (List.getElem?_eq_none (by omega))
        go_wp2
        go_roundw
        case rel => exact ⟨k + 1, by omega, by go_num, by rw [HX.out, HN.out, stB_none]; exact HF1.out⟩
        case measure => simp [intOf]; omega
      · have hkP : k < P.length := by omega
        obtain ⟨b2, o2, rfl, hb2, hP5⟩ := HP4.out (by omega)
        have hcP := (HF1.out.b.cell (p := ⟨b2, o2 + k, none⟩) hb2).trans (hP5 k hkP)
        have HN : Hid (P[k]? = some (P.getD k 0)) := Lib.hid (by rw [List.getD_eq_getElem?_getD, List.getElem?_eq_getElem hkP]; rfl)
        generalize P.getD k 0 = d at hcP HN
        clear hP5
        have hki : (k : Int) < (P.length : Int) := by omega
        by_cases hdL : d < L.length
        · obtain ⟨b3, o3, rfl, hb3, hL5⟩ := HL4.out (by omega)
          have hdi : (d : Int) < (L.length : Int) := by omega
          have hd0 : (0 : Int) ≤ (d : Int) := by omega
          have HL5 := Lib.hid hL5
          clear hL5
          go_wp2_with fail
          with_reducible refine (Tryd.Builder_Len _ _ _ _ HF1.out.bd).mono ?_
          rintro e w5 ⟨rfl, rfl⟩
          rw [Lib.byteCells_length]
          have hf2 := HF1.out.put d (x.1 ++ t).length hdL
          rw [show ((x.1 ++ t).length : Int) = (x.1.length : Int) + (t.length : Int) by rw [List.length_append]; rfl] at hf2
          have HF2 := Lib.hid hf2
          clear hf2
          have hsc := World.ownsRow.cellAt HF1.out.st d (by omega)
          have hsf := World.ownsRow.frozenAt HF1.out.st d
          have hsg : (stL L.length x.2)[d]? = some (pv (x.2 d)) := by simp [stL, hdL]
          rw [hsg] at hsc
          have hsl := HF1.out.l
          have hcL := (HF1.out.b.cell (p := ⟨b3, o3 + d, none⟩) hb3).trans (HL5.out d hdL)
          have hn3 : ¬ b3 = w.heap.size + 1 + 1 := by omega
          have hn4 : ¬ w.heap.size + 1 + 1 = b3 := by omega
          have htl2 := HLs.out d (List.mem_of_getElem? HN.out)
          obtain ⟨g, hg⟩ : ∃ g, L.getD d [] = g := ⟨_, rfl⟩
          rw [hg] at hcL htl2
          have HGe := Lib.hid hg
          clear HF1 c1 xl hcP hsg hg
          go_wp2_with fail
          with_reducible refine (wstr_as (w.heap.size + 1) (w.heap.size + 1) _ ⟨g.toArray⟩ _ HF2.out.bd (by rw [Lib.byteCells_length, arr_size, List.length_append]; omega) (by have := HF2.out.l; omega)).mono ?_
          rintro e w6 ⟨rfl, hbd, hbl, hkt⟩
          have HF3 := Lib.hid (HF2.out.wrote hbd hbl hkt)
          clear hbd hbl hkt HF2
          go_wp2
          go_roundw
          case rel => exact ⟨k + 1, by omega, by go_num, by rw [HX.out, HN.out, stB_yes hdL, HGe.out]; exact HF3.out⟩
          case measure => simp [intOf]; omega
        · have hdi : ¬ ((d : Int) < (L.length : Int)) := by omega
          have hd0 : (0 : Int) ≤ (d : Int) := by omega
          go_wp2
          go_roundw
          case rel => exact ⟨k + 1, by omega, by go_num, by rw [HX.out, HN.out, stB_no hdL]; exact HF1.out⟩
          case measure => simp [intOf]; omega
    · obtain rfl : k = T.length := by omega
      have hlt2 : ¬ ((T.length : Int) < (T.length : Int)) := by omega
      have HF := Lib.hid hfi
      clear hfi hlt hk FI
      go_wp2_with fail
      with_reducible refine (Tryd.Builder_String_any_k _ _ _ _ (Lib.IsBuilderF.of HF.out.bd) (by have := HF.out.l; omega)).mono ?_
      rintro e w4 ⟨rfl, _, hb4, hok⟩
      have HS4 := Lib.hid (own_othersT HF.out.st (by decide) (by omega) hok)
      go_wp2
      go_ret2
      exact ⟨_, rfl, own_mono HS4.out (by omega), HF.out.b.trans (hb4.mono (by omega))⟩
/-- What the law writes, by rounds. -/
def mnT (T : List (List UInt8)) (i : Nat) : List (List UInt8) := (List.range i).map fun j => T.getD j []
theorem mnT_len (T : List (List UInt8)) (i : Nat) : (mnT T i).length = i := by simp [mnT]
theorem mnT_succ (T : List (List UInt8)) (i : Nat) : mnT T (i + 1) = mnT T i ++ [T.getD i []] := by simp [mnT, List.range_succ]
theorem mnT_get (T : List (List UInt8)) {i j : Nat} (h : j < i) : (mnT T i).getD j [] = T.getD j [] := by simp [mnT, h]
def jnI (T : List (List UInt8)) (P : List Nat) (i : Nat) : List UInt8 := jnB (mnT T i) (P.take i)
theorem jnI_zero (T : List (List UInt8)) (P : List Nat) : jnI T P 0 = [] := rfl
theorem jnI_some (T : List (List UInt8)) (P : List Nat) {i d : Nat} (h : P[i]? = some d) : jnI T P (i + 1) = jnI T P i ++ (T.getD i [] ++ sgB d) := by
  obtain ⟨h1, h2⟩ := List.getElem?_eq_some_iff.1 h
  unfold jnI
  rw [mnT_succ, List.take_succ_eq_append_getElem h1, h2, jnB_snoc2 _ _ _ _ (by rw [mnT_len, List.length_take]; omega)]
theorem jnI_none (T : List (List UInt8)) (P : List Nat) {i : Nat} (h : P.length = i) : jnI T P (i + 1) = jnI T P i ++ T.getD i [] := by
  unfold jnI
  rw [mnT_succ, List.take_of_length_le (by omega), List.take_of_length_le (by omega), jnB_snoc _ _ _ (by rw [mnT_len]; omega)]
theorem flK_mn (L T : List (List UInt8)) (P : List Nat) (n : Nat) : ∀ i, i ≤ n → flK L (mnT T n) P i = flK L T P i
  | 0, _ => rfl
  | i + 1, h => by rw [flK_succ, flK_succ, flK_mn L T P n i (by omega), mnT_get T (by omega)]
end Go.Proofs.YtmopcgmodaahkaaDoor
