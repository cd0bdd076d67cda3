/- Texts with places: Parse. -/
import Derived.Test.YtmopcgmodaahkaaDoorIxB
import Derived.Deep.RegionHeld3
import Derived.Deep.AppendLies
namespace Go.Proofs.YtmopcgmodaahkaaDoor
open Go.RowKit Florin
set_option linter.unusedVariables false
set_option linter.unusedSimpArgs false
theorem con_br (c : UInt8) : ([123, 125] : List UInt8).contains c = isBr c := by
  simp only [isBr, List.contains, List.elem]
  cases c == 123 <;> cases c == 125 <;> rfl
/-- A text has no brace, or a first one. -/
theorem split_br : ∀ m : List UInt8, (∀ c ∈ m, isBr c = false) ∨ ∃ a c t, m = a ++ c :: t ∧ (∀ d ∈ a, isBr d = false) ∧ isBr c = true
  | [] => .inl (by simp)
  | x :: m => by
    cases hx : isBr x with
    | true => exact .inr ⟨[], x, m, rfl, by simp, hx⟩
    | false =>
      rcases split_br m with h | ⟨a, c, t, rfl, ha, hc⟩
      · exact .inl (fun c hc => by
          cases hc with
          | head => exact hx
          | tail _ h2 => exact h c h2)
      · exact .inr ⟨x :: a, c, t, rfl, (fun c hc => by
          cases hc with
          | head => exact hx
          | tail _ h2 => exact ha c h2), hc⟩
theorem ixa_none {m : List UInt8} (h : ∀ c ∈ m, isBr c = false) : Lib.indexAny m [123, 125] = -1 :=
  Lib.indexAny_none (fun j b hj hb => by rw [con_br]; exact h b (List.mem_of_getElem? hb))
theorem ixa_hit {a t : List UInt8} {c : UInt8} (h : ∀ c ∈ a, isBr c = false) (hc : isBr c = true) : Lib.indexAny (a ++ c :: t) [123, 125] = a.length :=
  Lib.indexAny_hit (x := c) (fun j b hj hb => by
    rw [con_br]
    rw [List.getElem?_append_left hj] at hb
    exact h b (List.mem_of_getElem? hb)) (by simp) (by rw [con_br]; exact hc)
abbrev TBr : TypeId := 43
/-- What Parse tells, by what is read. -/
def BTold (w w' : World) (R : BR) (e : Ending) : Prop := match R with
  | .ok T P => ∃ vt vp, e = .returned (.tuple #[.agg #[vt, vp], .int .i64 0, .int .i64 0]) ∧ OwnT w' w.heap.size vt T ∧ OwnP w' w.heap.size vp P
  | .bad c k => e = .returned (.tuple #[.agg #[.slice none 0 0, .slice none 0 0], .int .i64 (c : Int), .int .i64 (k : Int)])
theorem bt_bad {w w' : World} {R : BR} {c k : Nat} {e : Ending} (h : .bad c k = R) (he : e = .returned (.tuple #[.agg #[.slice none 0 0, .slice none 0 0], .int .i64 (c : Int), .int .i64 (k : Int)])) : BTold w w' R e := by
  subst h; exact he
theorem bt_ok {w w' : World} {R : BR} {T : List (List UInt8)} {P : List Nat} {e : Ending} {vt vp : Value} (h : .ok T P = R) (he : e = .returned (.tuple #[.agg #[vt, vp], .int .i64 0, .int .i64 0])) (ht : OwnT w' w.heap.size vt T) (hp : OwnP w' w.heap.size vp P) : BTold w w' R e := by
  subst h; exact ⟨vt, vp, he, ht, hp⟩
set_option maxRecDepth 100000 in
set_option maxHeartbeats 1600000 in
theorem bparse_no (s : ByteArray) (n : Int) (w : World) (hT : Tabs w) (hs : s.size ≤ 1000) (hr : rightL s.data.toList = false) :
    Calls Tryd.prog 17 #[.string s, .int .i64 n] w fun e w' => e = .returned (.tuple #[.agg #[.slice none 0 0, .slice none 0 0], .int .i64 1, .int .i64 0]) ∧ Below w.heap.size w w' := by
  have B0 := Lib.hid ((Below.refl w.heap.size w).alloc (Nat.le_refl _) (.cells #[.slice none 0 0, .slice none 0 0] TBr))
  have X0 := Lib.hid (BoxT.new w #[.slice none 0 0, .slice none 0 0] TBr)
  have T0 := Lib.hid (hT.below B0.out)
  clear hT
  go_enter Tryd.func17, Tryd.ntmps17
  go_wp2_with fail
  with_reducible refine (right_as s _ T0.out (by omega) false hr).mono ?_
  rintro e w1 ⟨rfl, hb⟩
  have X1 := Lib.hid (X0.out.below hb)
  have B1 := Lib.hid (B0.out.trans (hb.mono B0.out.size))
  clear hb
  have c0 := X1.out.cell 0
  have c1 := X1.out.cell 1
  have z0 := X1.out.frozen 0
  have z1 := X1.out.frozen 1
  have xl := X1.out.lt
  simp at c0 c1
  go_wp2
  have D := (X1.out.set 0 (.slice none 0 0)).set 1 (.slice none 0 0)
  have r0 := D.cell 0
  have r1 := D.cell 1
  simp at r0 r1
  refine bodyPost_ret (v := .tuple #[.agg #[.slice none 0 0, .slice none 0 0], .int .i64 1, .int .i64 0]) (by simp [results, Tryd.results17, go_sem, r0, r1]) rfl ⟨rfl, (B1.out.setCell (by simp) _).setCell (by simp) _⟩
theorem ext_lst (s : ByteArray) (k m : Nat) (h : m ≤ s.size) : (s.extract k m).data.toList = (s.data.toList.drop k).take (m - k) := by
  rw [ByteArray.data_extract, Array.toList_extract]
theorem infoS : (Tryd.prog.info? 9).map (fun i => (i.zero, i.size, i.bytes)) = some (some (.string ⟨#[]⟩), 1, 16) := by kernel_rfl
theorem infoN : (Tryd.prog.info? 3).map (fun i => (i.zero, i.size, i.bytes)) = some (some (.int .i64 0), 1, 8) := by kernel_rfl
theorem own_mono {w : World} {base base' : Nat} {e : TypeId} {size : Nat} {v : Value} {n : Nat} {xs : List Value} (h : w.ownsRow base e size v n xs) (hb : base' ≤ base) : w.ownsRow base' e size v n xs := by
  refine ⟨h.1, ?_⟩
  rcases h.2 with hn | ⟨g, cap, cur, rfl, hB, rest⟩
  · exact .inl hn
  · exact .inr ⟨g, cap, cur, rfl, Nat.le_trans hb hB, rest⟩
theorem ext_S (s : ByteArray) (k : Nat) : Value.string (s.extract k s.size) = S (s.data.toList.drop k) := by
  show _ = Value.string ⟨_⟩
  rw [← ext_list, list_arr]
theorem ext_S2 (s : ByteArray) (k m : Nat) (h : m ≤ s.size) : Value.string (s.extract k m) = S ((s.data.toList.drop k).take (m - k)) := by
  show _ = Value.string ⟨_⟩
  rw [← ext_lst s k m h, list_arr]
/-- What the reader holds: its two rows, the place of its answer. -/
structure BIn (w : World) (bb : Nat) (W : World) (vt vp : Value) (T : List (List UInt8)) (P : List Nat) : Prop where
  x : BoxT W bb #[vt, vp] TBr
  y : BoxT W w.heap.size #[.slice none 0 0, .slice none 0 0] TBr
  t : OwnT W (bb + 1) vt T
  p : OwnP W (bb + 1) vp P
  b : Below w.heap.size w W
  l : w.heap.size < bb
theorem BIn.below {w : World} {bb : Nat} {W W' : World} {vt vp : Value} {T : List (List UInt8)} {P : List Nat} (h : BIn w bb W vt vp T P) (hb : Below W.heap.size W W') : BIn w bb W' vt vp T P :=
  ⟨h.x.below hb, h.y.below hb, own_below h.t hb, own_below h.p hb, h.b.trans (hb.mono h.b.size), h.l⟩
theorem BIn.drew {w : World} {bb : Nat} {W : World} {vt vp : Value} {T : List (List UInt8)} {P : List Nat} (h : BIn w bb W vt vp T P) : BIn w bb W.drew vt vp T P := h.below (Below.refl _ _).drew
theorem BIn.alloc {w : World} {bb : Nat} {W : World} {vt vp : Value} {T : List (List UInt8)} {P : List Nat} (h : BIn w bb W vt vp T P) (o : Obj) : BIn w bb (W.alloc o) vt vp T P := h.below ((Below.refl _ _).alloc (Nat.le_refl _) o)
theorem BIn.text {w : World} {bb : Nat} {W W' : World} {vt vp v : Value} {T : List (List UInt8)} {P : List Nat} {t : List UInt8} (h : BIn w bb W vt vp T P) (hg : W.grownBy W' vt.ownBlock) (ho : W'.ownsRow (bb + 1) 9 1 v (T.length + 1) (T.map S ++ [S t])) :
    BoxT W' bb #[vt, vp] TBr ∧ BIn w bb (W'.setCell ⟨bb, 0, none⟩ v) v vp (T ++ [t]) P := by
  have x := h.x.grown hg (own_not h.t (Nat.lt_succ_self _))
  refine ⟨x, ?_, ?_, ?_, ?_, ?_, h.l⟩
  · exact x.set 0 v
  · exact (h.y.grown hg (own_not h.t (Nat.lt_succ_of_lt h.l))).other (a := ⟨bb, 0, none⟩) (by have := h.l; show w.heap.size ≠ bb; omega) v
  · have := own_other ho x (show TBr ≠ 9 by decide) 0 v
    show World.ownsRow _ _ _ _ _ _ _
    rw [List.map_append, List.length_append]
    exact this
  · exact own_other (h.p.kept hg (own_two h.p h.t (by decide))) x (by decide) 0 v
  · exact (h.b.grown hg h.b.size (fun k hk => by have := (h.t.lt k hk).1; have := h.l; omega)).setCell (p := ⟨bb, 0, none⟩) (by have := h.l; show w.heap.size ≤ bb; omega) v
theorem BIn.place {w : World} {bb : Nat} {W W' : World} {vt vp v : Value} {T : List (List UInt8)} {P : List Nat} {d : Nat} (h : BIn w bb W vt vp T P) (hg : W.grownBy W' vp.ownBlock) (ho : W'.ownsRow (bb + 1) 3 1 v (P.length + 1) (P.map pv ++ [pv d])) :
    BoxT W' bb #[vt, vp] TBr ∧ BIn w bb (W'.setCell ⟨bb, 1, none⟩ v) vt v T (P ++ [d]) := by
  have x := h.x.grown hg (own_not h.p (Nat.lt_succ_self _))
  refine ⟨x, ?_, ?_, ?_, ?_, ?_, h.l⟩
  · exact x.set 1 v
  · exact (h.y.grown hg (own_not h.p (Nat.lt_succ_of_lt h.l))).other (a := ⟨bb, 1, none⟩) (by have := h.l; show w.heap.size ≠ bb; omega) v
  · exact own_other (h.t.kept hg (own_two h.t h.p (by decide))) x (by decide) 1 v
  · have := own_other ho x (show TBr ≠ 3 by decide) 1 v
    show World.ownsRow _ _ _ _ _ _ _
    rw [List.map_append, List.length_append]
    exact this
  · exact (h.b.grown hg h.b.size (fun k hk => by have := (h.p.lt k hk).1; have := h.l; omega)).setCell (p := ⟨bb, 1, none⟩) (by have := h.l; show w.heap.size ≤ bb; omega) v
theorem take_cut (k a : Nat) (m1 : List UInt8) : k + a - k = a := by omega
set_option maxRecDepth 100000 in
set_option maxHeartbeats 3200000 in
theorem bparse_as (s : ByteArray) (n : Int) (w : World) (hT : Tabs w) (hs : s.size ≤ 1000) (hr : rightL s.data.toList = true) (R : BR) (hR : brS n s.data.toList 0 0 [] [] [] = R) :
    Calls Tryd.prog 17 #[.string s, .int .i64 n] w fun e w' => BTold w w' R e ∧ Below w.heap.size w w' := by
  obtain ⟨i0, hi, hz0, hz1, hz2⟩ := info_parts infoS
  obtain ⟨i1, hj, hy0, hy1, hy2⟩ := info_parts infoN
  have B0 := Lib.hid ((Below.refl w.heap.size w).alloc (Nat.le_refl _) (.cells #[.slice none 0 0, .slice none 0 0] TBr))
  have X0 := Lib.hid (BoxT.new w #[.slice none 0 0, .slice none 0 0] TBr)
  have T0 := Lib.hid (hT.below B0.out)
  have HR := Lib.hid hR
  clear hT hR
  go_enter Tryd.func17, Tryd.ntmps17
  go_wp2_with fail
  with_reducible refine (right_as s _ T0.out (by omega) true hr).mono ?_
  rintro e w1 ⟨rfl, hb⟩
  have X1 := Lib.hid (X0.out.below hb)
  have B1 := Lib.hid (B0.out.trans (hb.mono B0.out.size))
  have hsz1 : w.heap.size < w1.heap.size := X1.out.lt
  clear hb T0 B0 X0 hr
  go_wp2_with fail
  go_loopw [8] (fun i wr => ∃ (k : Nat) (T : List (List UInt8)) (P : List Nat) (vt vp : Value), i = .int .i64 k ∧ k ≤ s.size ∧ 3 * T.length ≤ k ∧ T.length = P.length ∧ brS n (s.data.toList.drop k) 0 k [] T P = R ∧ BIn w w1.heap.size wr vt vp T P) (fun i _ => s.size + 1 - (intOf i).toNat)
  case atStart => exact ⟨0, [], [], .slice none 0 0, .slice none 0 0, rfl, Nat.zero_le _, Nat.zero_le _, rfl, HR.out, BoxT.new w1 _ _, X1.out.alloc _, World.ownsRow_nil _ _ _ _, World.ownsRow_nil _ _ _ _, B1.out.alloc B1.out.size _, hsz1⟩
  case round =>
    obtain ⟨k, T, P, vt, vp, rfl, hk, h3, hTP, hbr, hbin⟩ := hrel
    have HBI := Lib.hid hbin
    have HS := Lib.hid hbr
    have HTP := Lib.hid hTP
    have hki : (k : Int) ≤ (s.size : Int) := by omega
    have hlen : (s.data.toList.drop k).length = s.size - k := by rw [List.length_drop, size_list]
    have HE := Lib.hid (ext_list s k)
    have hesz : (s.extract k s.size).size ≤ 1000000 := by rw [ext_size]; omega
    clear hbin hbr hTP
    obtain ⟨at_, ct_, rfl⟩ := own_slice HBI.out.t
    obtain ⟨ap_, cp_, rfl⟩ := own_slice HBI.out.p
    rcases split_br (s.data.toList.drop k) with hno | ⟨a, c, t, hm, ha, hc⟩
    · have HI : Hid (Lib.indexAny (s.extract k s.size).data.toList [123, 125] = -1) := Lib.hid (by rw [HE.out]; exact ixa_none hno)
      have HN := Lib.hid hno
      clear hno
      go_wp2_with fail
      with_reducible refine (ix_asB (ix_allB _ hesz) _ _ HI.out).mono ?_
      rintro e w2 ⟨rfl, hb⟩
      have HB2 := Lib.hid (HBI.out.below hb)
      clear hb HBI HI
      have c0 := HB2.out.x.cell 0
      have c1 := HB2.out.x.cell 1
      have z0 := HB2.out.x.frozen 0
      have z1 := HB2.out.x.frozen 1
      have xl := HB2.out.x.lt
      have d0 := HB2.out.y.cell 0
      have d1 := HB2.out.y.cell 1
      have y0 := HB2.out.y.frozen 0
      have y1 := HB2.out.y.frozen 1
      have yl := HB2.out.y.lt
      simp at c0 c1 d0 d1
      have HSn : Hid (brS n [] 0 s.size (s.data.toList.drop k) T P = R) := Lib.hid (by
        rw [← HS.out]
        have := brS_run n (s.data.toList.drop k) [] k [] T P HN.out
        rw [List.append_nil, List.nil_append, hlen] at this
        rw [this]; congr 1; omega)
      by_cases hmn : (P.length : Int) < min n 10
      · have HM : Hid (.bad 3 s.size = R) := Lib.hid (by
          rw [← HSn.out]
          show _ = (if (P.length : Int) < min n 10 then BR.bad 3 s.size else _)
          rw [if_pos hmn])
        go_wp2
        have D := (HB2.out.y.set 0 (.slice none 0 0)).set 1 (.slice none 0 0)
        have r0 := D.cell 0
        have r1 := D.cell 1
        simp at r0 r1
        refine bodyPost_ret (v := .tuple #[.agg #[.slice none 0 0, .slice none 0 0], .int .i64 3, .int .i64 s.size]) (by simp [results, Tryd.results17, go_sem, r0, r1]) rfl ⟨bt_bad HM.out rfl, (HB2.out.b.setCell (by simp) _).setCell (by simp) _⟩
      · have HM : Hid (.ok (T ++ [s.data.toList.drop k]) P = R) := Lib.hid (by
          rw [← HSn.out]
          show _ = (if (P.length : Int) < min n 10 then BR.bad 3 s.size else .ok (T ++ [s.data.toList.drop k]) P)
          rw [if_neg hmn])
        have hTl : T.length ≤ 1000 := by omega
        have hw12 : w1.heap.size + 1 ≤ w2.heap.size := by omega
        go_wp2_with fail
        go_region_law ((refine step_append_lies _ (by rfl) _ _ _ (by rfl) (w1.heap.size + 1) 9 i0 (.string ⟨#[]⟩) 1 16 Tryd.underlying39 hi hz0 hz1 hz2 (by rfl) (by omega) (.slice at_ T.length ct_) T.length (T.map S) (by rfl) (HB2.out.t.drew.alloc _) ⟨_, 0, none⟩ 1 1 [.string (s.extract k s.size)] (by rfl) (by rfl) (World.news_of_block (heap_alloc_new _ _)) (by simp [Value.oneCell']) (by omega) (by unfold maxLen; omega) (by omega) (by simp; omega) _ rfl ?_; intro g cap w3 hown hgr hat hlt3; have hX3 := Lib.hid ((HB2.out.x.drew.alloc _).grown hgr (own_not HB2.out.t (Nat.lt_succ_self _))); have f0 := hX3.out.cell 0; have f1 := hX3.out.cell 1; have fz0 := hX3.out.frozen 0; have fz1 := hX3.out.frozen 1; have fl := hX3.out.lt; simp at f0 f1))
        all_goals (
          rw [ext_S] at hown
          have BI4 := Lib.hid ((HB2.out.drew.alloc _).text hgr hown).2
          clear hown hgr hat hlt3 hX3 f0 f1 fz0 fz1 fl c0 c1 z0 z1 xl d0 d1 y0 y1 yl
          generalize w3.setCell ⟨w1.heap.size, 0, none⟩ (.slice (some ⟨g, 0, none⟩) (T.length + 1) cap) = w4 at BI4 ⊢
          have c0 := BI4.out.x.cell 0
          have c1 := BI4.out.x.cell 1
          have z0 := BI4.out.x.frozen 0
          have z1 := BI4.out.x.frozen 1
          have xl := BI4.out.x.lt
          have d0 := BI4.out.y.cell 0
          have d1 := BI4.out.y.cell 1
          have y0 := BI4.out.y.frozen 0
          have y1 := BI4.out.y.frozen 1
          have yl := BI4.out.y.lt
          simp at c0 c1 d0 d1
          go_wp2
          have D := (BI4.out.y.set 0 (.slice (some ⟨g, 0, none⟩) (T.length + 1) cap)).set 1 (.slice ap_ P.length cp_)
          have r0 := D.cell 0
          have r1 := D.cell 1
          simp at r0 r1
          have y1' := BI4.out.y.set 0 (.slice (some ⟨g, 0, none⟩) (T.length + 1) cap)
          refine bodyPost_ret (v := .tuple #[.agg #[.slice (some ⟨g, 0, none⟩) (T.length + 1) cap, .slice ap_ P.length cp_], .int .i64 0, .int .i64 0]) (by simp [results, Tryd.results17, go_sem, r0, r1]) rfl ⟨bt_ok HM.out rfl (own_mono (own_other (own_other BI4.out.t BI4.out.y (by decide) 0 _) y1' (by decide) 1 _) (by omega)) (own_mono (own_other (own_other BI4.out.p BI4.out.y (by decide) 0 _) y1' (by decide) 1 _) (by omega)), (BI4.out.b.setCell (by simp) _).setCell (by simp) _⟩)
    · have HI : Hid (Lib.indexAny (s.extract k s.size).data.toList [123, 125] = a.length) := Lib.hid (by rw [HE.out, hm]; exact ixa_hit ha hc)
      have hal : k + a.length < s.size := by have := congrArg List.length hm; simp only [List.length_append, List.length_cons] at this; omega
      have hali : (k : Int) + (a.length : Int) < (s.size : Int) := by omega
      have HDr : Hid (s.data.toList.drop (k + a.length) = c :: t) := Lib.hid (by rw [← List.drop_drop, hm, List.drop_left])
      have HTk : Hid ((s.data.toList.drop k).take (k + a.length - k) = a) := Lib.hid (by rw [hm, Nat.add_sub_cancel_left, List.take_left])
      have HS2 : Hid (brS n (c :: t) 0 (k + a.length) a T P = R) := Lib.hid (by rw [← HS.out, hm, brS_run n a (c :: t) k [] T P ha]; rfl)
      have HCb := Lib.hid hc
      clear hm ha hc HS
      go_wp2_with fail
      with_reducible refine (ix_asB (ix_allB _ hesz) _ _ HI.out).mono ?_
      rintro e w2 ⟨rfl, hb⟩
      have BI2 := Lib.hid (HBI.out.below hb)
      clear hb HBI HI
      obtain ⟨o, ho⟩ : ∃ o, plcB (c :: t) = o := ⟨_, rfl⟩
      have HO := Lib.hid ho
      have HP : Hid (plcB (s.extract (k + a.length) s.size).data.toList = o) := Lib.hid (by rw [ext_list, HDr.out]; exact ho)
      clear ho
      go_wp2_with fail
      with_reducible refine (place_as _ _ _ HP.out).mono ?_
      rintro e w3 ⟨rfl, hb⟩
      have BI3 := Lib.hid (BI2.out.below hb)
      clear hb BI2 HP
      cases o with
      | none =>
        have HM : Hid (.bad 1 (k + a.length) = R) := Lib.hid (by rw [← HS2.out, brS_none n HCb.out HO.out])
        have hpi : plI none = -1 := rfl
        rw [hpi]
        have c0 := BI3.out.x.cell 0
        have c1 := BI3.out.x.cell 1
        have z0 := BI3.out.x.frozen 0
        have z1 := BI3.out.x.frozen 1
        have xl := BI3.out.x.lt
        have d0 := BI3.out.y.cell 0
        have d1 := BI3.out.y.cell 1
        have y0 := BI3.out.y.frozen 0
        have y1 := BI3.out.y.frozen 1
        have yl := BI3.out.y.lt
        simp at c0 c1 d0 d1
        go_wp2
        have D := (BI3.out.y.set 0 (.slice none 0 0)).set 1 (.slice none 0 0)
        have r0 := D.cell 0
        have r1 := D.cell 1
        simp at r0 r1
        refine bodyPost_ret (v := .tuple #[.agg #[.slice none 0 0, .slice none 0 0], .int .i64 1, .int .i64 ((k : Int) + (a.length : Int))]) (by simp [results, Tryd.results17, go_sem, r0, r1]) rfl ⟨bt_bad HM.out rfl, (BI3.out.b.setCell (by simp) _).setCell (by simp) _⟩
      | some d =>
        have hpi : plI (some d) = (d : Int) := rfl
        rw [hpi]
        have hd10 := (plcB_is HO.out).1
        by_cases hnd : n ≤ (d : Int)
        · have HM : Hid (.bad 3 (k + a.length) = R) := Lib.hid (by rw [← HS2.out, brS_arg n HCb.out HO.out _ _ _ _ (.inl hnd)])
          have c0 := BI3.out.x.cell 0
          have c1 := BI3.out.x.cell 1
          have z0 := BI3.out.x.frozen 0
          have z1 := BI3.out.x.frozen 1
          have xl := BI3.out.x.lt
          have d0 := BI3.out.y.cell 0
          have d1 := BI3.out.y.cell 1
          have y0 := BI3.out.y.frozen 0
          have y1 := BI3.out.y.frozen 1
          have yl := BI3.out.y.lt
          simp at c0 c1 d0 d1
          go_wp2
          have D := (BI3.out.y.set 0 (.slice none 0 0)).set 1 (.slice none 0 0)
          have r0 := D.cell 0
          have r1 := D.cell 1
          simp at r0 r1
          refine bodyPost_ret (v := .tuple #[.agg #[.slice none 0 0, .slice none 0 0], .int .i64 3, .int .i64 ((k : Int) + (a.length : Int))]) (by simp [results, Tryd.results17, go_sem, r0, r1]) rfl ⟨bt_bad HM.out rfl, (BI3.out.b.setCell (by simp) _).setCell (by simp) _⟩
        · have hPl : P.length ≤ 1000000 := by have := HTP.out; omega
          have c0 := BI3.out.x.cell 0
          have c1 := BI3.out.x.cell 1
          have z0 := BI3.out.x.frozen 0
          have z1 := BI3.out.x.frozen 1
          have xl := BI3.out.x.lt
          have d0 := BI3.out.y.cell 0
          have d1 := BI3.out.y.cell 1
          have y0 := BI3.out.y.frozen 0
          have y1 := BI3.out.y.frozen 1
          have yl := BI3.out.y.lt
          simp at c0 c1 d0 d1
          cases hin : decide (d ∈ P) with
          | true =>
            have HM : Hid (.bad 3 (k + a.length) = R) := Lib.hid (by rw [← HS2.out, brS_arg n HCb.out HO.out _ _ _ _ (.inr (of_decide_eq_true hin))])
            have HIN := Lib.hid hin
            clear hin
            go_wp2_with fail
            with_reducible refine (cont_as _ _ P d _ BI3.out.p hPl true HIN.out).mono ?_
            rintro e w4 ⟨rfl, rfl⟩
            go_wp2
            have D := (BI3.out.y.set 0 (.slice none 0 0)).set 1 (.slice none 0 0)
            have r0 := D.cell 0
            have r1 := D.cell 1
            simp at r0 r1
            refine bodyPost_ret (v := .tuple #[.agg #[.slice none 0 0, .slice none 0 0], .int .i64 3, .int .i64 ((k : Int) + (a.length : Int))]) (by simp [results, Tryd.results17, go_sem, r0, r1]) rfl ⟨bt_bad HM.out rfl, (BI3.out.b.setCell (by simp) _).setCell (by simp) _⟩
          | false =>
            have HIN := Lib.hid hin
            have hnin : ¬ (n ≤ (d : Int) ∨ d ∈ P) := by
              rintro (h | h)
              · exact hnd h
              · exact of_decide_eq_false hin h
            obtain ⟨t2, ht2⟩ := (plcB_is HO.out).2
            have HS3 : Hid (brS n t2 0 (k + a.length + 3) [] (T ++ [a]) (P ++ [d]) = R) := Lib.hid (by
              rw [← HS2.out, ht2, brS_more n hd10 _ _ _ _ hnin])
            have HD3 : Hid (s.data.toList.drop (k + a.length + 3) = t2) := Lib.hid (by rw [← List.drop_drop, HDr.out, ht2]; rfl)
            have hal3 : k + a.length + 3 ≤ s.size := by
              have h1 := congrArg List.length HDr.out
              rw [ht2] at h1
              simp only [List.length_drop, size_list, List.length_cons] at h1
              omega
            clear hin hnin ht2
            go_wp2_with fail
            with_reducible refine (cont_as _ _ P d _ BI3.out.p hPl false HIN.out).mono ?_
            rintro e w4 ⟨rfl, rfl⟩
            have hTl : T.length ≤ 1000 := by omega
            have hw12 : w1.heap.size + 1 ≤ w3.heap.size := by omega
            have q1 : (0 : Int) ≤ (k : Int) + (a.length : Int) := by omega
            have q2 : (k : Int) + (a.length : Int) ≤ (s.size : Int) := by omega
            have q3 : (k : Int) ≤ (k : Int) + (a.length : Int) := by omega
            have q4 : ((k : Int) + (a.length : Int)).toNat = k + a.length := by omega
            go_wp2_with fail
            go_region_law ((refine step_append_lies _ (by rfl) _ _ _ (by rfl) (w1.heap.size + 1) 9 i0 (.string ⟨#[]⟩) 1 16 Tryd.underlying39 hi hz0 hz1 hz2 (by rfl) (by omega) (.slice at_ T.length ct_) T.length (T.map S) (by rfl) (BI3.out.t.drew.alloc _) ⟨_, 0, none⟩ 1 1 [.string (s.extract k (k + a.length))] (by rfl) (by rfl) (World.news_of_block (heap_alloc_new _ _)) (by simp [Value.oneCell']) (by omega) (by unfold maxLen; omega) (by omega) (by simp; omega) _ rfl ?_; intro g cap w5 hown hgr hat hlt3; have hX3 := Lib.hid ((BI3.out.x.drew.alloc _).grown hgr (own_not BI3.out.t (Nat.lt_succ_self _))); have f0 := hX3.out.cell 0; have f1 := hX3.out.cell 1; have fz0 := hX3.out.frozen 0; have fz1 := hX3.out.frozen 1; have fl := hX3.out.lt; simp at f0 f1))
            all_goals (
              rw [ext_S2 s k (k + a.length) (by omega), HTk.out] at hown
              have BI4 := Lib.hid ((BI3.out.drew.alloc _).text hgr hown).2
              clear hown hgr hat hlt3 hX3 f0 f1 fz0 fz1 fl c0 c1 z0 z1 xl d0 d1 y0 y1 yl
              generalize w5.setCell ⟨w1.heap.size, 0, none⟩ (.slice (some ⟨g, 0, none⟩) (T.length + 1) cap) = w6 at BI4 ⊢
              have c0 := BI4.out.x.cell 0
              have c1 := BI4.out.x.cell 1
              have z0 := BI4.out.x.frozen 0
              have z1 := BI4.out.x.frozen 1
              have xl := BI4.out.x.lt
              have d0 := BI4.out.y.cell 0
              have d1 := BI4.out.y.cell 1
              have y0 := BI4.out.y.frozen 0
              have y1 := BI4.out.y.frozen 1
              have yl := BI4.out.y.lt
              simp at c0 c1 d0 d1
              clear q1 q2 q3 q4
              have hw6 : w1.heap.size + 1 ≤ w6.heap.size := by omega
              go_wp2_with (at_builtin; refine wpList_append_lies _ rfl _ _ _ rfl (w1.heap.size + 1) 3 i1 (.int .i64 0) 1 8 Tryd.underlying40 hj hy0 hy1 hy2 rfl (by omega) (.slice ap_ P.length cp_) P.length (P.map pv) rfl (BI4.out.p.alloc _) ⟨w6.heap.size, 0, none⟩ 1 1 [.int .i64 (d : Int)] rfl rfl (World.news_of_block (heap_alloc_new _ _)) (by simp [Value.oneCell']) (by omega) (by unfold maxLen; omega) (by omega) (by simp; omega) _ rfl ?_; intro g2 cap2 w7 hown hgr hat hlt3; have hX3 := Lib.hid ((BI4.out.x.alloc _).grown hgr (own_not BI4.out.p (Nat.lt_succ_self _))); have f0 := hX3.out.cell 0; have f1 := hX3.out.cell 1; have fz0 := hX3.out.frozen 0; have fz1 := hX3.out.frozen 1; have fl := hX3.out.lt; simp at f0 f1)
              have BI7 := Lib.hid ((BI4.out.alloc _).place hgr hown).2
              clear hown hgr hat hlt3 hX3 f0 f1 fz0 fz1 fl c0 c1 z0 z1 xl d0 d1 y0 y1 yl
              have hs3 : (⟨(sgB d).toArray⟩ : ByteArray).size = 3 := rfl
              with_reducible refine (bsign_as d hd10 _).mono ?_
              rintro e w8 ⟨rfl, rfl⟩
              generalize w7.setCell ⟨w1.heap.size, 1, none⟩ (.slice (some ⟨g2, 0, none⟩) (P.length + 1) cap2) = w8 at BI7 ⊢
              go_wp2
              go_roundw
              case rel => exact ⟨k + a.length + 3, T ++ [a], P ++ [d], _, _, by go_num, by omega, by rw [List.length_append]; simp; omega, by simp [HTP.out], by rw [HD3.out]; exact HS3.out, BI7.out⟩
              case measure => simp [intOf]; omega)
end Go.Proofs.YtmopcgmodaahkaaDoor
