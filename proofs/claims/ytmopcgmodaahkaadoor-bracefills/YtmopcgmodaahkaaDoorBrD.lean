/- Texts with places: Fill. -/
import Derived.Test.YtmopcgmodaahkaaDoorBrC
import Derived.Lib.OthersKept
namespace Go.Proofs.YtmopcgmodaahkaaDoor
open Go.RowKit Florin
set_option linter.unusedVariables false
set_option linter.unusedSimpArgs false
theorem box_made {W w3 : World} {b : Nat} {cs : Array Value} {t : TypeId} (h : BoxT W b cs t) (hg : W.grownBy w3 none) : BoxT w3 b cs t := h.grown hg (fun e => by cases e)
theorem below_none {w w' : World} (hg : w.grownBy w' none) : Below w.heap.size w w' := ⟨hg.os, hg.tape, hg.output, hg.size, fun k hk => hg.block k hk (fun e => by cases e)⟩
theorem zero_st (m : Nat) : (madeCells (Value.int .i64 0).cells (m * 1)).toList = stL m (fun _ => 0) := by
  rw [Nat.mul_one]
  unfold stL
  have := toList_madeCells_one (Value.int .i64 0) m
  show (madeCells #[Value.int .i64 0] m).toList = _
  rw [this]
  apply List.ext_getElem
  · simp
  · intro i h1 h2; simp
/-- The state of filling. -/
structure FIn (w wr : World) (vt vp : Value) (m : Nat) (x : List UInt8 × (Nat → Nat)) : Prop where
  bx : BoxT wr w.heap.size #[vt, vp] TBr
  bd : Lib.IsBuilder TB 5 (w.heap.size + 1) (w.heap.size + 1) (Lib.byteCells x.1) wr
  st : OwnS wr (w.heap.size + 1 + 1) (.slice (some ⟨w.heap.size + 1 + 1, 0, none⟩) m m) m x.2
  b : Below w.heap.size w wr
  l : w.heap.size + 2 < wr.heap.size
theorem own_keptT {w w' : World} {B : Nat} {e : TypeId} {size : Nat} {v : Value} {n : Nat} {xs : List Value} {b : Nat} (h : w.ownsRow B e size v n xs) (he : e ≠ 5) (hb : b < B) (hk : KeptT b w w') : w'.ownsRow B e size v n xs := by
  refine ⟨h.1, ?_⟩
  rcases h.2 with hn | ⟨g, cap, cur, rfl, hB, hg, rest⟩
  · exact .inl hn
  · exact .inr ⟨g, cap, cur, rfl, hB, hk g cur e he (by omega) hg, rest⟩
theorem FIn.wrote {w wr w' : World} {vt vp : Value} {m : Nat} {x : List UInt8 × (Nat → Nat)} {t : List UInt8} (h : FIn w wr vt vp m x) (hb : Lib.BuilderAt TB 5 (w.heap.size + 1) (w.heap.size + 1) (.pointer (some ⟨w.heap.size + 1, 0, none⟩)) (Lib.byteCells x.1 ++ Lib.strCells ⟨t.toArray⟩) w') (hbl : Below (w.heap.size + 1) wr w') (hk : KeptT (w.heap.size + 1) wr w') : FIn w w' vt vp m (x.1 ++ t, x.2) := by
  refine ⟨hk _ _ _ (by decide) (by omega) h.bx, .inr ?_, own_keptT h.st (by decide) (by omega) hk, h.b.trans (hbl.mono (by omega)), Nat.lt_of_lt_of_le h.l hbl.size⟩
  show Lib.BuilderAt _ _ _ _ _ _ _
  rw [Lib.byteCells_append, ← strC_S]
  exact hb
theorem at_other {B b : Nat} {p : Value} {bs : List Value} {w : World} (h : Lib.BuilderAt TB 5 B b p bs w) {c : Nat} {cs : Array Value} {t : TypeId} (hc : BoxT w c cs t) (ht : t ≠ 5) (hne : b ≠ c) (i : Nat) (u : Value) : Lib.BuilderAt TB 5 B b p bs (w.setCell ⟨c, i, none⟩ u) := by
  obtain ⟨hB, v, hbk, hown, hn⟩ := h
  refine ⟨hB, v, ?_, own_other hown hc ht i u, hn⟩
  rw [Below.heap_setCell w ⟨c, i, none⟩ u b hne]
  exact hbk
theorem FIn.put {w wr : World} {vt vp : Value} {m : Nat} {x : List UInt8 × (Nat → Nat)} (h : FIn w wr vt vp m x) (d n : Nat) (hd : d < m) : FIn w (wr.setCell ⟨w.heap.size + 1 + 1, d, none⟩ (.int .i64 (n : Int))) vt vp m (x.1, upS x.2 d n) := by
  refine ⟨h.bx.other (a := ⟨w.heap.size + 1 + 1, d, none⟩) (by simp; omega) _, ?_, ?_, h.b.setCell (p := ⟨w.heap.size + 1 + 1, d, none⟩) (by simp; omega) _, by simpa using h.l⟩
  · obtain ⟨cur, hcur⟩ : ∃ cur, BoxT wr (w.heap.size + 1 + 1) cur 3 := by
      rcases h.st.2 with ⟨h1, h2⟩ | ⟨g, cap, cur, h1, h2, h3, _⟩
      · omega
      · cases h1; exact ⟨cur, h3⟩
    rcases h.bd with hb | hb
    · exact .inl (at_other hb hcur (by decide) (by omega) d _)
    · exact .inr (at_other hb hcur (by decide) (by omega) d _)
  · have := (h.st.stored d (pv n)).1
    rw [stL_set m x.2 d n hd] at this
    exact this
theorem own_othersT {w w' : World} {B : Nat} {e : TypeId} {size : Nat} {v : Value} {n : Nat} {xs : List Value} {b : Nat} (h : w.ownsRow B e size v n xs) (he : e ≠ 5) (hb : b < B) (hk : Lib.OthersKept 5 (some b) w w') : w'.ownsRow B e size v n xs := by
  refine ⟨h.1, ?_⟩
  rcases h.2 with hn | ⟨g, cap, cur, rfl, hB, hg, rest⟩
  · exact .inl hn
  · exact .inr ⟨g, cap, cur, rfl, hB, hk g _ hg (by intro e; have := Option.some.inj e; omega) (by intro c fz e; cases e; exact he rfl), rest⟩
theorem flK_succ (L T : List (List UInt8)) (P : List Nat) (k : Nat) : flK L T P (k + 1) = stB L (T.getD k []) P[k]? (flK L T P k) := rfl
theorem get_len {X : List (List UInt8)} {M : Nat} (h : ∀ t ∈ X, t.length ≤ M) (j : Nat) : (X.getD j []).length ≤ M := by
  rw [List.getD_eq_getElem?_getD]
  cases h2 : X[j]? with
  | none => simp
  | some t => exact h t (List.mem_of_getElem? h2)
set_option maxRecDepth 100000 in
set_option maxHeartbeats 3200000 in
theorem fill_as (vt vp vl : Value) (T : List (List UInt8)) (P : List Nat) (L : List (List UInt8)) (w : World) (hT : InT w vt T) (hP : InP w vp P) (hL : InT w vl L) (h0 : 0 < T.length) (hTl : T.length ≤ 1000) (hPl : P.length ≤ 1000) (hLl : L.length ≤ 1000)
    (hTs : ∀ t ∈ T, t.length ≤ 1000) (hLs : ∀ t ∈ L, t.length ≤ 1000) :
    Calls Tryd.prog 19 #[.agg #[vt, vp], vl] w fun e w' => ∃ v, e = .returned (.tuple #[S (flK L T P T.length).1, v]) ∧ OwnS w' w.heap.size v L.length (flK L T P T.length).2 ∧ Below w.heap.size w w' := by
  obtain ⟨i1, hj, hy0, hy1, hy2⟩ := info_parts infoN
  obtain ⟨a1, cap1, rfl, hc1, hm1, hT4⟩ := hT
  obtain ⟨b1, o1, rfl, hb1, hT5⟩ := hT4 h0
  obtain ⟨a2, cap2, rfl, hc2, hm2, hP4⟩ := hP
  obtain ⟨a3, cap3, rfl, hc3, hm3, hL4⟩ := hL
  have HT5 := Lib.hid hT5
  have HP4 := Lib.hid hP4
  have HL4 := Lib.hid hL4
  have HTs := Lib.hid hTs
  have HLs := Lib.hid hLs
  clear hT4 hT5 hP4 hL4 hTs hLs
  have X0 := Lib.hid ((BoxT.new w #[.slice (some ⟨b1, o1, none⟩) T.length cap1, .slice a2 P.length cap2] TBr).alloc (.cells #[.pointer none, .slice none 0 0] TB))
  have BD0 : Hid (Lib.IsBuilder TB 5 (w.heap.size + 1) (w.heap.size + 1) [] ((w.alloc (.cells #[.slice (some ⟨b1, o1, none⟩) T.length cap1, .slice a2 P.length cap2] TBr)).alloc (.cells #[.pointer none, .slice none 0 0] TB))) := Lib.hid (by
    have := Lib.fresh_isBuilder TB 5 (w.alloc (.cells #[.slice (some ⟨b1, o1, none⟩) T.length cap1, .slice a2 P.length cap2] TBr))
    simpa using this)
  have BB0 : Hid (Below w.heap.size w ((w.alloc (.cells #[.slice (some ⟨b1, o1, none⟩) T.length cap1, .slice a2 P.length cap2] TBr)).alloc (.cells #[.pointer none, .slice none 0 0] TB))) := Lib.hid (((Below.refl _ _).alloc (Nat.le_refl _) _).alloc (by simp) _)
  have F0 : Hid (∀ w3 : World, ((w.alloc (.cells #[.slice (some ⟨b1, o1, none⟩) T.length cap1, .slice a2 P.length cap2] TBr)).alloc (.cells #[.pointer none, .slice none 0 0] TB)).grownBy w3 none →
      w3.ownsRow (w.heap.size + 1 + 1) 3 1 (.slice (some ⟨w.heap.size + 1 + 1, 0, none⟩) L.length L.length) L.length (madeCells (Value.int .i64 0).cells (L.length * 1)).toList → FIn w w3 (.slice (some ⟨b1, o1, none⟩) T.length cap1) (.slice a2 P.length cap2) L.length ([], fun _ => 0)) := Lib.hid (fun w3 hg ho => by
    refine ⟨box_made X0.out hg, ?_, by rw [zero_st] at ho; exact ho, BB0.out.trans ((below_none hg).mono BB0.out.size), ?_⟩
    · rcases BD0.out with h | h
      · obtain ⟨hB, v, hbk, hown, hn⟩ := h
        exact .inl ⟨hB, v, (hg.block _ (BoxT.lt (w := _) (b := _) (cs := _) (t := _) hbk) (fun e => by cases e)).trans hbk, hown.kept hg (by rcases hown.2 with ⟨rfl, _⟩ | ⟨g, _, _, _, _, _, _, _, _⟩ <;> first | exact .inl rfl | exact .inr (by intro e; simp_all [Value.ownBlock])), hn⟩
      · obtain ⟨hB, v, hbk, hown, hn⟩ := h
        exact .inr ⟨hB, v, (hg.block _ (BoxT.lt (w := _) (b := _) (cs := _) (t := _) hbk) (fun e => by cases e)).trans hbk, hown.kept hg (by rcases hown.2 with ⟨rfl, _⟩ | ⟨g, _, _, _, _, _, _, _, _⟩ <;> first | exact .inl rfl | exact .inr (by intro e; simp_all [Value.ownBlock])), hn⟩
    · rcases ho.2 with ⟨h1, h2⟩ | ⟨g, cap, cur, h1, h2, h3, _⟩
      · cases h1
      · cases h1
        exact BoxT.lt (w := w3) (b := w.heap.size + 1 + 1) (cs := cur) (t := 3) h3)
  have HSZ : Hid (((w.alloc (.cells #[.slice (some ⟨b1, o1, none⟩) T.length cap1, .slice a2 P.length cap2] TBr)).alloc (.cells #[.pointer none, .slice none 0 0] TB)).heap.size = w.heap.size + 1 + 1) := Lib.hid (by simp)
  go_enter Tryd.func19, Tryd.ntmps19
  go_wp2_with (at_make; go_loud (refine wpList_make_full _ rfl (.tmp 12) (.tmp 12) 40 rfl (w.heap.size + 1 + 1) 3 i1 (.int .i64 0) 1 Tryd.underlying40 hj hy0 hy1 .i64 .i64 _ _ L.length rfl rfl rfl rfl (by rw [hy2]; omega) (by unfold maxLen; omega) (by simp) ?_; intro w3 hown hgrow; rw [HSZ.out] at hown; have FI := Lib.hid (F0.out w3 hgrow hown); have c0 := FI.out.bx.cell 0; have xl := FI.out.bx.lt; simp at c0))
  clear F0 BB0 BD0 X0
  go_loopw [17] (fun i wr => ∃ k : Nat, k ≤ T.length ∧ i = .int .i64 k ∧ FIn w wr (.slice (some ⟨b1, o1, none⟩) T.length cap1) (.slice a2 P.length cap2) L.length (flK L T P k)) (fun i _ => T.length - (intOf i).toNat)
  case atStart => exact ⟨0, Nat.zero_le _, rfl, FI.out⟩
  case round =>
    obtain ⟨k, hk, rfl, hfi⟩ := hrel
    by_cases hlt : k < T.length
    · have hlti : (k : Int) < (T.length : Int) := by omega
      have HF := Lib.hid hfi
      have hcT := (HF.out.b.cell (p := ⟨b1, o1 + k, none⟩) hb1).trans (HT5.out k hlt)
      have hlenx := flK_len L T P 1000 HTs.out HLs.out k
      have htl := get_len HTs.out k
      have hkl : k ≤ 1000 := by omega
      have HX := Lib.hid (flK_succ L T P k)
      have hbx0 := HF.out.bx.cell 0
      have hbxl := HF.out.bx.lt
      simp at hbx0
      clear hfi
      generalize flK L T P k = x at HF HX hlenx
      generalize T.getD k [] = t at hcT HX htl
      go_wp2_with fail
      with_reducible refine (wstr_as (w.heap.size + 1) (w.heap.size + 1) _ ⟨t.toArray⟩ _ HF.out.bd (by rw [Lib.byteCells_length, arr_size]; omega) (by have := HF.out.l; omega)).mono ?_
      rintro e w4 ⟨rfl, hbd, hbl, hkt⟩
      have HF1 := Lib.hid (HF.out.wrote hbd hbl hkt)
      clear hbd hbl hkt HF hcT hbx0 hbxl
      have c1 := HF1.out.bx.cell 1
      have xl := HF1.out.bx.lt
      simp at c1
      by_cases hkp : (P.length : Int) ≤ (k : Int)
      · have HN : Hid (P[k]? = none) := Lib.hid (List.getElem?_eq_none (by omega))
        go_wp2
        go_roundw
        case rel => exact ⟨k + 1, by omega, by go_num, by rw [HX.out, HN.out, stB_none]; exact HF1.out⟩
        case measure => simp [intOf]; omega
      · have hkP : k < P.length := by omega
        obtain ⟨b2, o2, rfl, hb2, hP5⟩ := HP4.out (by omega)
        have hcP := (HF1.out.b.cell (p := ⟨b2, o2 + k, none⟩) hb2).trans (hP5 k hkP)
        have HN : Hid (P[k]? = some (P.getD k 0)) := Lib.hid (by rw [List.getD_eq_getElem?_getD, List.getElem?_eq_getElem hkP]; rfl)
        generalize P.getD k 0 = d at hcP HN
        clear hP5
        have hki : (k : Int) < (P.length : Int) := by omega
        by_cases hdL : d < L.length
        · obtain ⟨b3, o3, rfl, hb3, hL5⟩ := HL4.out (by omega)
          have hdi : (d : Int) < (L.length : Int) := by omega
          have hd0 : (0 : Int) ≤ (d : Int) := by omega
          have HL5 := Lib.hid hL5
          clear hL5
          go_wp2_with fail
          with_reducible refine (Tryd.Builder_Len _ _ _ _ HF1.out.bd).mono ?_
          rintro e w5 ⟨rfl, rfl⟩
          rw [Lib.byteCells_length]
          have hf2 := HF1.out.put d (x.1 ++ t).length hdL
          rw [show ((x.1 ++ t).length : Int) = (x.1.length : Int) + (t.length : Int) by rw [List.length_append]; rfl] at hf2
          have HF2 := Lib.hid hf2
          clear hf2
          have hsc := World.ownsRow.cellAt HF1.out.st d (by omega)
          have hsf := World.ownsRow.frozenAt HF1.out.st d
          have hsg : (stL L.length x.2)[d]? = some (pv (x.2 d)) := by simp [stL, hdL]
          rw [hsg] at hsc
          have hsl := HF1.out.l
          have hcL := (HF1.out.b.cell (p := ⟨b3, o3 + d, none⟩) hb3).trans (HL5.out d hdL)
          have hn3 : ¬ b3 = w.heap.size + 1 + 1 := by omega
          have hn4 : ¬ w.heap.size + 1 + 1 = b3 := by omega
          have htl2 := get_len HLs.out d
          obtain ⟨g, hg⟩ : ∃ g, L.getD d [] = g := ⟨_, rfl⟩
          rw [hg] at hcL htl2
          have HGe := Lib.hid hg
          clear HF1 c1 xl hcP hsg hg
          go_wp2_with fail
          with_reducible refine (wstr_as (w.heap.size + 1) (w.heap.size + 1) _ ⟨g.toArray⟩ _ HF2.out.bd (by rw [Lib.byteCells_length, arr_size, List.length_append]; omega) (by have := HF2.out.l; omega)).mono ?_
          rintro e w6 ⟨rfl, hbd, hbl, hkt⟩
          have HF3 := Lib.hid (HF2.out.wrote hbd hbl hkt)
          clear hbd hbl hkt HF2
          go_wp2
          go_roundw
          case rel => exact ⟨k + 1, by omega, by go_num, by rw [HX.out, HN.out, stB_yes hdL, HGe.out]; exact HF3.out⟩
          case measure => simp [intOf]; omega
        · have hdi : ¬ ((d : Int) < (L.length : Int)) := by omega
          have hd0 : (0 : Int) ≤ (d : Int) := by omega
          go_wp2
          go_roundw
          case rel => exact ⟨k + 1, by omega, by go_num, by rw [HX.out, HN.out, stB_no hdL]; exact HF1.out⟩
          case measure => simp [intOf]; omega
    · obtain rfl : k = T.length := by omega
      have hlt2 : ¬ ((T.length : Int) < (T.length : Int)) := by omega
      have HF := Lib.hid hfi
      clear hfi hlt hk FI
      go_wp2_with fail
      with_reducible refine (Tryd.Builder_String_any_k _ _ _ _ (Lib.IsBuilderF.of HF.out.bd) (by have := HF.out.l; omega)).mono ?_
      rintro e w4 ⟨rfl, _, hb4, hok⟩
      have HS4 := Lib.hid (own_othersT HF.out.st (by decide) (by omega) hok)
      go_wp2
      go_ret2
      exact ⟨_, rfl, own_mono HS4.out (by omega), HF.out.b.trans (hb4.mono (by omega))⟩
end Go.Proofs.YtmopcgmodaahkaaDoor
