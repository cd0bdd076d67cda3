/- The walk of the law BraceFills. -/
import Derived.Test.YtmopcgmodaahkaaDoorBrG
namespace Go.Proofs.YtmopcgmodaahkaaDoor
open Go.RowKit Florin
set_option linter.unusedVariables false
set_option linter.unusedSimpArgs false
attribute [local go_sem ↓] Go.wp_at_zero Go.wp_at_succ
theorem jnB_lenH : ∀ (T : List (List UInt8)) (P : List Nat) (t : List UInt8), t ∈ T → t.length ≤ (jnB T P).length
  | [], P, t, h => absurd h (by simp)
  | s :: T, [], t, h => by
    show _ ≤ (s ++ jnB T []).length
    rw [List.length_append]
    rcases List.mem_cons.1 h with h | h
    · subst h; omega
    · have := jnB_lenH T [] t h; omega
  | s :: T, d :: P, t, h => by
    show _ ≤ (s ++ sgB d ++ jnB T P).length
    rw [List.length_append, List.length_append]
    rcases List.mem_cons.1 h with h | h
    · subst h; omega
    · have := jnB_lenH T P t h; omega
theorem cat_list (a b : ByteArray) : (a ++ b).data.toList = a.data.toList ++ b.data.toList := by simp [ByteArray.data_append]
theorem cat_size (a b : ByteArray) : (a ++ b).size = a.size + b.size := by simp
theorem getD_some (P : List Nat) {i : Nat} (h : i < P.length) : P[i]? = some (P.getD i 0) := by
  rw [List.getD_eq_getElem?_getD, List.getElem?_eq_getElem h]; rfl
/-- What the law holds while it writes. -/
structure HIn (w2 wr : World) (gm : Value) (m : Nat) (L T : List (List UInt8)) (P : List Nat) (i : Nat) (X Y : ByteArray) (v : Value) : Prop where
  x : X.data.toList = jnI T P i
  y : Y.data.toList = (flK L T P i).1
  xs : X.size ≤ 23 * i
  ys : Y.size ≤ 60 * i
  st : OwnS wr w2.heap.size gm m (flK L T P i).2
  mn : OwnT wr (w2.heap.size + 1) v (mnT T i)
  pl : ∀ j, j < i → plainB (T.getD j []) = true
  ls : ∀ j, j < i → ∀ d, P[j]? = some d → d < L.length → (L.getD d []).length ≤ 40
  b : Below w2.heap.size w2 wr
theorem get_lenM {X : List (List UInt8)} (h : ∀ t ∈ X, t.length ≤ maxLen) (j : Nat) : (X.getD j []).length ≤ maxLen := by
  rw [List.getD_eq_getElem?_getD]
  cases h2 : X[j]? with
  | none => exact Nat.zero_le _
  | some t => exact h t (List.mem_of_getElem? h2)
theorem catX {X t : ByteArray} {a b : List UInt8} {c : UInt8} (hX : X.data.toList = a) (ht : t.data.toList = b) : (X ++ t ++ ⟨#[123]⟩ ++ ⟨#[c]⟩ ++ ⟨#[125]⟩).data.toList = a ++ (b ++ [123, c, 125]) := by
  rw [cat_list, cat_list, cat_list, cat_list, hX, ht]; simp
theorem catY1 {X t : ByteArray} {a b : List UInt8} (hX : X.data.toList = a) (ht : t.data.toList = b) : (X ++ t).data.toList = a ++ b := by rw [cat_list, hX, ht]
theorem catY2 {X t u : ByteArray} {a b c : List UInt8} (hX : X.data.toList = a) (ht : t.data.toList = b) (hu : u.data.toList = c) : (X ++ t ++ u).data.toList = a ++ b ++ c := by rw [cat_list, cat_list, hX, ht, hu]
theorem lenYT {X t : ByteArray} {a b : List UInt8} (hX : X.data.toList = a) (ht : t.data.toList = b) : (a ++ b).length = X.size + t.size := by rw [← hX, ← ht, List.length_append, size_list, size_list]
theorem len20 {l : List UInt8} (h : plainB l = true) : l.length ≤ 20 := (plainB_true h).2.1
set_option maxRecDepth 100000 in
set_option maxHeartbeats 6400000 in
theorem braceFills_walk (T : List (List UInt8)) (vt : Value) (n k : Int) (L : List (List UInt8)) (vl : Value) (w : World) (hT0 : InT w vt T) (hTm : ∀ t ∈ T, t.length ≤ maxLen) (_hn : (Lit.int .i64 n).wf = true) (_hk : (Lit.int .i64 k).wf = true) (hL0 : InT w vl L) (hLm : ∀ t ∈ L, t.length ≤ maxLen) (hTab : Tabs w) :
    Calls Tryd.prog 5 #[vt, .int .i64 n, .int .i64 k, vl] w fun x w' => x = .returned (.bool true) ∧ Below w.heap.size w w' := by
  obtain ⟨i0, hi, hz0, hz1, hz2⟩ := info_parts infoS
  obtain ⟨i1, hj, hy0, hy1, hy2⟩ := info_parts infoN
  obtain ⟨at_, ct_, rfl, _, _, _⟩ := id hT0
  obtain ⟨al_, cl_, rfl, _, _, _⟩ := id hL0
  have HT := Lib.hid hTab
  have IT := Lib.hid hT0
  have IL := Lib.hid hL0
  have HTm := Lib.hid hTm
  have HLm := Lib.hid hLm
  obtain ⟨K, hK, eK⟩ := and_mask n 7 (by omega)
  rw [show ((7 : Nat) : Int) = 7 from rfl] at eK
  clear hTab hT0 hL0 hTm hLm
  by_cases hbig : (12 : Int) < (L.length : Int)
  · go_enter Tryd.func5, Tryd.ntmps5
    go_wp2_with fail
    with_reducible refine (head13 _ HT.out).mono ?_
    rintro x w1 ⟨rfl, hb⟩
    clear eK
    go_wp2
    go_ret
    exact ⟨rfl, hb⟩
  · have hL12 : L.length ≤ 12 := by omega
    go_enter Tryd.func5, Tryd.ntmps5
    go_wp2_with fail
    with_reducible refine (head13 _ HT.out).mono ?_
    rintro x w1 ⟨rfl, hb⟩
    have B1 := Lib.hid hb
    have hw1 := hb.size
    clear hb
    go_wp2_with fail
    clear eK
    with_reducible refine (order_as K k _ hK).mono ?_
    rintro e w2 ⟨vp, P, rfl, hop, hpl, hpn, hpd, hb⟩
    have B2 := Lib.hid (B1.out.trans (hb.mono hw1))
    have hw2 := B2.out.size
    have T2 := Lib.hid (HT.out.below B2.out)
    have IP := Lib.hid (OwnP.inP hop)
    have IT2 := Lib.hid (IT.out.below B2.out)
    have IL2 := Lib.hid (IL.out.below B2.out)
    have HPL := Lib.hid hpl
    have HPN := Lib.hid hpn
    have HPD := Lib.hid hpd
    obtain ⟨ap_, cp_, rfl⟩ := own_slice hop
    clear hop hpl hpn hpd hb
    go_wp2_with (at_make; go_loud (refine wpList_make_full _ rfl (.tmp 34) (.tmp 34) 40 rfl w2.heap.size 3 i1 (.int .i64 0) 1 Tryd.underlying40 hj hy0 hy1 .i64 .i64 _ _ L.length rfl rfl rfl rfl (by rw [hy2]; omega) (by unfold maxLen; omega) (by simp) ?_; intro w3 hown hgrow; rw [zero_st] at hown; have HS3 := Lib.hid hown; have HB3 := Lib.hid (below_none hgrow)))
    have hw3 : w2.heap.size < w3.heap.size := (HS3.out.lt _ rfl).2
    have M3 : Hid (OwnT (w3.alloc (.cells #[] 9)) (w2.heap.size + 1) (.slice (some ⟨w3.heap.size, 0, none⟩) 0 0) []) := Lib.hid (own_mono (own_lit0 w3 9) (by omega))
    go_loopw [10, 11, 13, 14] (fun sx sy v i wr => ∃ (I : Nat) (X Y : ByteArray), sx = .string X ∧ sy = .string Y ∧ i = .int .i64 I ∧ I ≤ K + 1 ∧ HIn w2 wr (.slice (some ⟨w2.heap.size, 0, none⟩) L.length L.length) L.length L T P I X Y v) (fun _ _ _ i _ => K + 2 - (intOf i).toNat)
    case atStart => exact ⟨0, ⟨#[]⟩, ⟨#[]⟩, rfl, rfl, rfl, Nat.zero_le _, rfl, rfl, Nat.le_refl _, Nat.le_refl _, HS3.out.alloc _, M3.out, fun j h => absurd h (by omega), fun j h => absurd h (by omega), HB3.out.alloc HB3.out.size _⟩
    case round =>
      obtain ⟨I, X, Y, rfl, rfl, rfl, hI, hh⟩ := hrel
      have HH := Lib.hid hh
      have hXs := hh.xs
      have hYs := hh.ys
      obtain ⟨av, cv, rfl⟩ := own_slice hh.mn
      have BWr := Lib.hid (B2.out.trans (hh.b.mono hw2))
      have hwr := hh.b.size
      clear hh
      have hmn : (mnT T I).length ≤ 8 := by rw [mnT_len]; omega
      by_cases hlt : I ≤ K
      · have hlti : (I : Int) ≤ (K : Int) := by omega
        obtain ⟨t, ht⟩ : ∃ t : ByteArray, (⟨(T.getD I []).toArray⟩ : ByteArray) = t := ⟨_, rfl⟩
        have HTL : Hid (t.data.toList = T.getD I []) := Lib.hid (by rw [← ht, arr_list])
        have HTS : Hid (t.size ≤ maxLen) := Lib.hid (by rw [← size_list, HTL.out]; exact get_lenM HTm.out I)
        by_cases hIT : I < T.length
        · have hITi : (I : Int) < (T.length : Int) := by omega
          obtain ⟨a_, c_, hv_, _, _, hT4⟩ := IT2.out
          cases hv_
          obtain ⟨bt_, ot_, rfl, hbt, hct⟩ := hT4 (by omega)
          have ct0 : wr.cell? ⟨bt_, ot_ + I, none⟩ = some (.string t) := by rw [← ht]; exact (HH.out.b.cell (p := ⟨bt_, ot_ + I, none⟩) hbt).trans (hct I hIT)
          have hbt2 := Nat.lt_of_lt_of_le hbt hwr
          clear hct hT4 ht
          obtain ⟨q, hq⟩ : ∃ q, plainB (t).data.toList = q := ⟨_, rfl⟩
          have HQ := Lib.hid hq
          go_wp2_with fail
          with_reducible refine (plain_as (t) _ (T2.out.below (HH.out.b)) HTS.out q HQ.out).mono ?_
          rintro e w4 ⟨rfl, hb⟩
          have B4 := Lib.hid (HH.out.b.trans (hb.mono hwr))
          have O4 := Lib.hid (own_below HH.out.mn hb)
          have S4 := Lib.hid (own_below HH.out.st hb)
          have BW4 := Lib.hid (BWr.out.trans (hb.mono (by omega)))
          have hw4 := hb.size
          have hb4s := Lib.hid hb
          clear hb hq
          cases q with
          | false =>
            go_wp2
            go_ret
            exact ⟨rfl, BW4.out⟩
          | true =>
            have hTs : (t).size ≤ 20 := by have := len20 HQ.out; rw [size_list] at this; exact this
            by_cases hIK : I < K
            · have hIKj : (I : Int) < (K : Int) := by omega
              have hIP : I < P.length := by rw [HPL.out]; exact hIK
              have hIPi : (I : Int) < (P.length : Int) := by omega
              obtain ⟨a2_, c2_, hv2_, _, _, hP4⟩ := IP.out
              cases hv2_
              obtain ⟨bp_, op_, rfl, hbp, hcp⟩ := hP4 (by omega)
              have hcp2 : w2.cell? ⟨bp_, op_ + I, none⟩ = some (pv (P.getD I 0)) := hcp I hIP
              have HN : Hid (P[I]? = some (P.getD I 0)) := Lib.hid (getD_some P hIP)
              have HD : Hid (P.getD I 0 < K) := Lib.hid (HPD.out _ (List.mem_of_getElem? HN.out))
              obtain ⟨d, hd⟩ : ∃ d, P.getD I 0 = d := ⟨_, rfl⟩
              rw [hd] at hcp2 HN HD
              have hdK := HD.out
              clear hd hcp hP4
              go_wp2_with (at_builtin; refine wpList_append_lies _ rfl _ _ _ rfl (w2.heap.size + 1) 9 i0 (.string ⟨#[]⟩) 1 16 Tryd.underlying39 hi hz0 hz1 hz2 rfl (by omega) (.slice av (mnT T I).length cv) (mnT T I).length ((mnT T I).map S) rfl (O4.out.alloc _) ⟨w4.heap.size, 0, none⟩ 1 1 [.string (t)] rfl rfl (World.news_of_block (heap_alloc_new _ _)) (by simp [Value.oneCell']) (by omega) (by unfold maxLen; omega) (by omega) (by simp; omega) _ rfl ?_; intro g5 cap5 w5 hown hgr hat hlt5; have f0 := (((HH.out.b.trans (hb4s.out.mono hwr)).alloc (by omega) (.cells #[.string (t)] 9)).grown hgr (by simp; omega) (fun j hj2 => by have := (O4.out.lt j hj2).1; omega)).cell (p := ⟨bp_, op_ + I, none⟩) hbp |>.trans hcp2)
              have O5 : Hid (OwnT w5 (w2.heap.size + 1) (.slice (some ⟨g5, 0, none⟩) ((mnT T I).length + 1) cap5) (mnT T (I + 1))) := Lib.hid (by
                rw [mnT_succ, ← HTL.out]
                show World.ownsRow _ _ _ _ _ _ _
                rw [List.map_append, List.length_append, List.map_singleton, show S (t).data.toList = .string (t) by show Value.string ⟨_⟩ = _; rw [list_arr]]
                exact hown)
              have S5 : Hid (OwnS w5 w2.heap.size (.slice (some ⟨w2.heap.size, 0, none⟩) L.length L.length) L.length (flK L T P I).2) := Lib.hid ((S4.out.alloc _).kept hgr (own_two S4.out O4.out (by decide)))
              have B5 := Lib.hid ((B4.out.alloc B4.out.size (.cells #[.string (t)] 9)).grown hgr (by simp; omega) (fun j hj2 => by have := (O4.out.lt j hj2).1; omega))
              have BW5 := Lib.hid (B2.out.trans (B5.out.mono hw2))
              have hw5 := B5.out.size
              clear hown hgr hat hlt5 hlti hITi
              obtain ⟨c, hc⟩ : ∃ c, dg d = c := ⟨_, rfl⟩
              have HDg : Hid (Calls Tryd.prog 16 #[.int .i64 (d : Int)] w5 fun e w' => e = .returned (S [c]) ∧ Below w5.heap.size w5 w') := Lib.hid (by rw [← hc]; exact digit_as d (by omega) w5)
              have HSg : Hid (sgB d = [123, c, 125]) := Lib.hid (by rw [← hc]; rfl)
              clear hc f0
              with_reducible refine HDg.out.mono ?_
              rintro e w6 ⟨rfl, hb⟩
              have B6 := Lib.hid (B5.out.trans (hb.mono hw5))
              have O6 := Lib.hid (own_below O5.out hb)
              have S6 := Lib.hid (own_below S5.out hb)
              have BW6 := Lib.hid (BW5.out.trans (hb.mono (by omega)))
              have hw6 := hb.size
              have hbp6 : bp_ < w6.heap.size := by omega
              have f6 := (B6.out.cell (p := ⟨bp_, op_ + I, none⟩) hbp).trans hcp2
              have HX := Lib.hid (HH.out.x)
              have HY := Lib.hid (HH.out.y)
              have HP := Lib.hid (HH.out.pl)
              have HLs := Lib.hid (HH.out.ls)
              have hnp : ¬ bp_ = w2.heap.size := by omega
              have hnp2 : ¬ w2.heap.size = bp_ := by omega
              clear hb HDg
              by_cases hdL : d < L.length
              · have hdLi : (d : Int) < (L.length : Int) := by omega
                obtain ⟨a3_, c3_, hv3_, _, _, hL4⟩ := IL2.out
                cases hv3_
                obtain ⟨bl_, ol_, rfl, hbl, hcl⟩ := hL4 (by omega)
                obtain ⟨u, hu⟩ : ∃ u : ByteArray, (⟨(L.getD d []).toArray⟩ : ByteArray) = u := ⟨_, rfl⟩
                have HUL : Hid (u.data.toList = L.getD d []) := Lib.hid (by rw [← hu, arr_list])
                have f7 : w6.cell? ⟨bl_, ol_ + d, none⟩ = some (.string u) := by rw [← hu]; exact (B6.out.cell (p := ⟨bl_, ol_ + d, none⟩) hbl).trans (hcl d hdL)
                have hus : (u.size : Int) ≤ 9223372036854775807 := by have h1 := get_lenM HLm.out d; rw [← HUL.out, size_list] at h1; unfold maxLen at h1; omega
                have hbl6 : bl_ < w6.heap.size := by omega
                have hnl : ¬ bl_ = w2.heap.size := by omega
                have hnl2 : ¬ w2.heap.size = bl_ := by omega
                have hsc := World.ownsRow.cellAt S6.out d (by omega)
                have hsf := World.ownsRow.frozenAt S6.out d
                have hsg : (stL L.length (flK L T P I).2)[d]? = some (pv ((flK L T P I).2 d)) := by simp [stL, hdL]
                rw [hsg] at hsc
                have hsl := (S6.out.lt _ rfl).2
                clear hu hcl hL4 hsg
                by_cases hu40 : (40 : Int) < (u.size : Int)
                · go_wp2
                  go_ret
                  exact ⟨rfl, BW6.out⟩
                · have hS7 := (World.ownsRow.stored S6.out d (pv (Y.size + t.size))).1
                  rw [stL_set _ _ _ _ hdL] at hS7
                  have S7 : Hid (OwnS (w6.setCell ⟨w2.heap.size, d, none⟩ (.int .i64 ((Y.size : Int) + ((t).size : Int)))) w2.heap.size (.slice (some ⟨w2.heap.size, 0, none⟩) L.length L.length) L.length (upS (flK L T P I).2 d (Y.size + (t).size))) := Lib.hid hS7
                  obtain ⟨cur, hcur⟩ : ∃ cur, BoxT w6 w2.heap.size cur 3 := by
                    rcases S6.out.2 with ⟨h1, _⟩ | ⟨g, cap, cur, h1, h2, h3, _⟩
                    · cases h1
                    · cases h1; exact ⟨cur, h3⟩
                  have O7 := Lib.hid (own_other O6.out hcur (by decide) d (.int .i64 ((Y.size : Int) + ((t).size : Int))))
                  have B7 := Lib.hid (B6.out.setCell (p := ⟨w2.heap.size, d, none⟩) (Nat.le_refl _) (.int .i64 ((Y.size : Int) + ((t).size : Int))))
                  clear hS7 hcur
                  go_wp2
                  refine ⟨⟨I + 1, X ++ t ++ ⟨#[123]⟩ ++ ⟨#[c]⟩ ++ ⟨#[125]⟩, Y ++ t ++ u, rfl, rfl, by go_num, by omega, ⟨?_, ?_, ?_, ?_, ?_, O7.out, ?_, ?_, B7.out⟩⟩, ?_⟩
                  · rw [catX HX.out HTL.out, jnI_some T P HN.out, HSg.out]
                  · rw [catY2 HY.out HTL.out HUL.out, flK_succ, HN.out, stB_yes hdL]
                  · simp only [cat_size]; show _ + _ + 1 + 1 + 1 ≤ _; omega
                  · simp only [cat_size]; omega
                  · rw [flK_succ, HN.out, stB_yes hdL, lenYT (t := t) HY.out HTL.out]
                    exact S7.out
                  · intro j hj3
                    rcases Nat.lt_or_ge j I with h | h
                    · exact HP.out j h
                    · obtain rfl : j = I := by omega
                      exact (congrArg plainB HTL.out).symm.trans HQ.out
                  · intro j hj3 d2 hd2 hd3
                    rcases Nat.lt_or_ge j I with h | h
                    · exact HLs.out j h d2 hd2 hd3
                    · obtain rfl : j = I := by omega
                      rw [HN.out] at hd2
                      cases hd2
                      rw [← HUL.out, size_list]; omega
                  · simp [intOf]; omega
              · have hdLi : ¬ (d : Int) < (L.length : Int) := by omega
                go_wp2
                refine ⟨⟨I + 1, X ++ t ++ ⟨#[123]⟩ ++ ⟨#[c]⟩ ++ ⟨#[125]⟩, Y ++ t, rfl, rfl, by go_num, by omega, ⟨?_, ?_, ?_, ?_, ?_, O6.out, ?_, ?_, B6.out⟩⟩, ?_⟩
                · rw [catX HX.out HTL.out, jnI_some T P HN.out, HSg.out]
                · rw [catY1 HY.out HTL.out, flK_succ, HN.out, stB_no hdL]
                · simp only [cat_size]; show _ + _ + 1 + 1 + 1 ≤ _; omega
                · simp only [cat_size]; omega
                · rw [flK_succ, HN.out, stB_no hdL]; exact S6.out
                · intro j hj3
                  rcases Nat.lt_or_ge j I with h | h
                  · exact HP.out j h
                  · obtain rfl : j = I := by omega
                    exact (congrArg plainB HTL.out).symm.trans HQ.out
                · intro j hj3 d2 hd2 hd3
                  rcases Nat.lt_or_ge j I with h | h
                  · exact HLs.out j h d2 hd2 hd3
                  · obtain rfl : j = I := by omega
                    rw [HN.out] at hd2
                    cases hd2
                    exact absurd hd3 hdL
                · simp [intOf]; omega
            · have hIKj : ¬ (I : Int) < (K : Int) := by omega
              go_wp2_with (at_builtin; refine wpList_append_lies _ rfl _ _ _ rfl (w2.heap.size + 1) 9 i0 (.string ⟨#[]⟩) 1 16 Tryd.underlying39 hi hz0 hz1 hz2 rfl (by omega) (.slice av (mnT T I).length cv) (mnT T I).length ((mnT T I).map S) rfl (O4.out.alloc _) ⟨w4.heap.size, 0, none⟩ 1 1 [.string (t)] rfl rfl (World.news_of_block (heap_alloc_new _ _)) (by simp [Value.oneCell']) (by omega) (by unfold maxLen; omega) (by omega) (by simp; omega) _ rfl ?_; intro g5 cap5 w5 hown hgr hat hlt5)
              have O5 : Hid (OwnT w5 (w2.heap.size + 1) (.slice (some ⟨g5, 0, none⟩) ((mnT T I).length + 1) cap5) (mnT T (I + 1))) := Lib.hid (by
                rw [mnT_succ, ← HTL.out]
                show World.ownsRow _ _ _ _ _ _ _
                rw [List.map_append, List.length_append, List.map_singleton, show S (t).data.toList = .string (t) by show Value.string ⟨_⟩ = _; rw [list_arr]]
                exact hown)
              have S5 : Hid (OwnS w5 w2.heap.size (.slice (some ⟨w2.heap.size, 0, none⟩) L.length L.length) L.length (flK L T P I).2) := Lib.hid ((S4.out.alloc _).kept hgr (own_two S4.out O4.out (by decide)))
              have B5 := Lib.hid ((B4.out.alloc B4.out.size (.cells #[.string (t)] 9)).grown hgr (by simp; omega) (fun j hj2 => by have := (O4.out.lt j hj2).1; omega))
              have BW5 := Lib.hid (B2.out.trans (B5.out.mono hw2))
              have hw5 := B5.out.size
              clear hown hgr hat hlt5 hlti hITi
              have HN : Hid (P[I]? = none) := Lib.hid (List.getElem?_eq_none (by rw [HPL.out]; omega))
              have HX := Lib.hid (HH.out.x)
              have HY := Lib.hid (HH.out.y)
              have HP := Lib.hid (HH.out.pl)
              have HLs := Lib.hid (HH.out.ls)
              go_wp2
              refine ⟨⟨I + 1, X ++ t, Y ++ t, rfl, rfl, by go_num, by omega, ⟨by rw [catY1 HX.out HTL.out, jnI_none T P (by rw [HPL.out]; omega)], by rw [catY1 HY.out HTL.out, flK_succ, HN.out, stB_none], by rw [cat_size]; omega, by rw [cat_size]; omega, by rw [flK_succ, HN.out, stB_none]; exact S5.out, O5.out, fun j hj3 => by
                rcases Nat.lt_or_ge j I with h | h
                · exact HP.out j h
                · obtain rfl : j = I := by omega
                  exact (congrArg plainB HTL.out).symm.trans HQ.out, fun j hj3 d2 hd => by
                rcases Nat.lt_or_ge j I with h | h
                · exact HLs.out j h d2 hd
                · obtain rfl : j = I := by omega
                  exact absurd hd (by rw [HN.out]; simp), B5.out⟩⟩, ?_⟩
              simp [intOf]; omega
        · have hITi : ¬ (I : Int) < (T.length : Int) := by omega
          have HE : Hid (t = ⟨#[]⟩) := Lib.hid (by rw [← ht, List.getD_eq_getElem?_getD, List.getElem?_eq_none (by omega)]; rfl)
          clear ht
          obtain rfl := HE.out
          obtain ⟨q, hq⟩ : ∃ q, plainB ((⟨#[]⟩ : ByteArray)).data.toList = q := ⟨_, rfl⟩
          have HQ := Lib.hid hq
          go_wp2_with fail
          with_reducible refine (plain_as ((⟨#[]⟩ : ByteArray)) _ (T2.out.below (HH.out.b)) HTS.out q HQ.out).mono ?_
          rintro e w4 ⟨rfl, hb⟩
          have B4 := Lib.hid (HH.out.b.trans (hb.mono hwr))
          have O4 := Lib.hid (own_below HH.out.mn hb)
          have S4 := Lib.hid (own_below HH.out.st hb)
          have BW4 := Lib.hid (BWr.out.trans (hb.mono (by omega)))
          have hw4 := hb.size
          have hb4s := Lib.hid hb
          clear hb hq
          cases q with
          | false =>
            go_wp2
            go_ret
            exact ⟨rfl, BW4.out⟩
          | true =>
            have hTs : ((⟨#[]⟩ : ByteArray)).size ≤ 20 := by decide
            by_cases hIK : I < K
            · have hIKj : (I : Int) < (K : Int) := by omega
              have hIP : I < P.length := by rw [HPL.out]; exact hIK
              have hIPi : (I : Int) < (P.length : Int) := by omega
              obtain ⟨a2_, c2_, hv2_, _, _, hP4⟩ := IP.out
              cases hv2_
              obtain ⟨bp_, op_, rfl, hbp, hcp⟩ := hP4 (by omega)
              have hcp2 : w2.cell? ⟨bp_, op_ + I, none⟩ = some (pv (P.getD I 0)) := hcp I hIP
              have HN : Hid (P[I]? = some (P.getD I 0)) := Lib.hid (getD_some P hIP)
              have HD : Hid (P.getD I 0 < K) := Lib.hid (HPD.out _ (List.mem_of_getElem? HN.out))
              obtain ⟨d, hd⟩ : ∃ d, P.getD I 0 = d := ⟨_, rfl⟩
              rw [hd] at hcp2 HN HD
              have hdK := HD.out
              clear hd hcp hP4
              go_wp2_with (at_builtin; refine wpList_append_lies _ rfl _ _ _ rfl (w2.heap.size + 1) 9 i0 (.string ⟨#[]⟩) 1 16 Tryd.underlying39 hi hz0 hz1 hz2 rfl (by omega) (.slice av (mnT T I).length cv) (mnT T I).length ((mnT T I).map S) rfl (O4.out.alloc _) ⟨w4.heap.size, 0, none⟩ 1 1 [.string ((⟨#[]⟩ : ByteArray))] rfl rfl (World.news_of_block (heap_alloc_new _ _)) (by simp [Value.oneCell']) (by omega) (by unfold maxLen; omega) (by omega) (by simp; omega) _ rfl ?_; intro g5 cap5 w5 hown hgr hat hlt5; have f0 := (((HH.out.b.trans (hb4s.out.mono hwr)).alloc (by omega) (.cells #[.string ((⟨#[]⟩ : ByteArray))] 9)).grown hgr (by simp; omega) (fun j hj2 => by have := (O4.out.lt j hj2).1; omega)).cell (p := ⟨bp_, op_ + I, none⟩) hbp |>.trans hcp2)
              have O5 : Hid (OwnT w5 (w2.heap.size + 1) (.slice (some ⟨g5, 0, none⟩) ((mnT T I).length + 1) cap5) (mnT T (I + 1))) := Lib.hid (by
                rw [mnT_succ, ← HTL.out]
                show World.ownsRow _ _ _ _ _ _ _
                rw [List.map_append, List.length_append, List.map_singleton, show S ((⟨#[]⟩ : ByteArray)).data.toList = .string ((⟨#[]⟩ : ByteArray)) by show Value.string ⟨_⟩ = _; rw [list_arr]]
                exact hown)
              have S5 : Hid (OwnS w5 w2.heap.size (.slice (some ⟨w2.heap.size, 0, none⟩) L.length L.length) L.length (flK L T P I).2) := Lib.hid ((S4.out.alloc _).kept hgr (own_two S4.out O4.out (by decide)))
              have B5 := Lib.hid ((B4.out.alloc B4.out.size (.cells #[.string ((⟨#[]⟩ : ByteArray))] 9)).grown hgr (by simp; omega) (fun j hj2 => by have := (O4.out.lt j hj2).1; omega))
              have BW5 := Lib.hid (B2.out.trans (B5.out.mono hw2))
              have hw5 := B5.out.size
              clear hown hgr hat hlt5 hlti hITi
              obtain ⟨c, hc⟩ : ∃ c, dg d = c := ⟨_, rfl⟩
              have HDg : Hid (Calls Tryd.prog 16 #[.int .i64 (d : Int)] w5 fun e w' => e = .returned (S [c]) ∧ Below w5.heap.size w5 w') := Lib.hid (by rw [← hc]; exact digit_as d (by omega) w5)
              have HSg : Hid (sgB d = [123, c, 125]) := Lib.hid (by rw [← hc]; rfl)
              clear hc f0
              with_reducible refine HDg.out.mono ?_
              rintro e w6 ⟨rfl, hb⟩
              have B6 := Lib.hid (B5.out.trans (hb.mono hw5))
              have O6 := Lib.hid (own_below O5.out hb)
              have S6 := Lib.hid (own_below S5.out hb)
              have BW6 := Lib.hid (BW5.out.trans (hb.mono (by omega)))
              have hw6 := hb.size
              have hbp6 : bp_ < w6.heap.size := by omega
              have f6 := (B6.out.cell (p := ⟨bp_, op_ + I, none⟩) hbp).trans hcp2
              have HX := Lib.hid (HH.out.x)
              have HY := Lib.hid (HH.out.y)
              have HP := Lib.hid (HH.out.pl)
              have HLs := Lib.hid (HH.out.ls)
              have hnp : ¬ bp_ = w2.heap.size := by omega
              have hnp2 : ¬ w2.heap.size = bp_ := by omega
              clear hb HDg
              by_cases hdL : d < L.length
              · have hdLi : (d : Int) < (L.length : Int) := by omega
                obtain ⟨a3_, c3_, hv3_, _, _, hL4⟩ := IL2.out
                cases hv3_
                obtain ⟨bl_, ol_, rfl, hbl, hcl⟩ := hL4 (by omega)
                obtain ⟨u, hu⟩ : ∃ u : ByteArray, (⟨(L.getD d []).toArray⟩ : ByteArray) = u := ⟨_, rfl⟩
                have HUL : Hid (u.data.toList = L.getD d []) := Lib.hid (by rw [← hu, arr_list])
                have f7 : w6.cell? ⟨bl_, ol_ + d, none⟩ = some (.string u) := by rw [← hu]; exact (B6.out.cell (p := ⟨bl_, ol_ + d, none⟩) hbl).trans (hcl d hdL)
                have hus : (u.size : Int) ≤ 9223372036854775807 := by have h1 := get_lenM HLm.out d; rw [← HUL.out, size_list] at h1; unfold maxLen at h1; omega
                have hbl6 : bl_ < w6.heap.size := by omega
                have hnl : ¬ bl_ = w2.heap.size := by omega
                have hnl2 : ¬ w2.heap.size = bl_ := by omega
                have hsc := World.ownsRow.cellAt S6.out d (by omega)
                have hsf := World.ownsRow.frozenAt S6.out d
                have hsg : (stL L.length (flK L T P I).2)[d]? = some (pv ((flK L T P I).2 d)) := by simp [stL, hdL]
                rw [hsg] at hsc
                have hsl := (S6.out.lt _ rfl).2
                clear hu hcl hL4 hsg
                by_cases hu40 : (40 : Int) < (u.size : Int)
                · go_wp2
                  go_ret
                  exact ⟨rfl, BW6.out⟩
                · have hS7 := (World.ownsRow.stored S6.out d (pv (Y.size + (⟨#[]⟩ : ByteArray).size))).1
                  rw [stL_set _ _ _ _ hdL] at hS7
                  have S7 : Hid (OwnS (w6.setCell ⟨w2.heap.size, d, none⟩ (.int .i64 ((Y.size : Int) + (((⟨#[]⟩ : ByteArray)).size : Int)))) w2.heap.size (.slice (some ⟨w2.heap.size, 0, none⟩) L.length L.length) L.length (upS (flK L T P I).2 d (Y.size + ((⟨#[]⟩ : ByteArray)).size))) := Lib.hid hS7
                  obtain ⟨cur, hcur⟩ : ∃ cur, BoxT w6 w2.heap.size cur 3 := by
                    rcases S6.out.2 with ⟨h1, _⟩ | ⟨g, cap, cur, h1, h2, h3, _⟩
                    · cases h1
                    · cases h1; exact ⟨cur, h3⟩
                  have O7 := Lib.hid (own_other O6.out hcur (by decide) d (.int .i64 ((Y.size : Int) + (((⟨#[]⟩ : ByteArray)).size : Int))))
                  have B7 := Lib.hid (B6.out.setCell (p := ⟨w2.heap.size, d, none⟩) (Nat.le_refl _) (.int .i64 ((Y.size : Int) + (((⟨#[]⟩ : ByteArray)).size : Int))))
                  clear hS7 hcur
                  go_wp2
                  refine ⟨⟨I + 1, X ++ (⟨#[]⟩ : ByteArray) ++ ⟨#[123]⟩ ++ ⟨#[c]⟩ ++ ⟨#[125]⟩, Y ++ (⟨#[]⟩ : ByteArray) ++ u, rfl, rfl, by go_num, by omega, ⟨?_, ?_, ?_, ?_, ?_, O7.out, ?_, ?_, B7.out⟩⟩, ?_⟩
                  · rw [catX HX.out HTL.out, jnI_some T P HN.out, HSg.out]
                  · rw [catY2 HY.out HTL.out HUL.out, flK_succ, HN.out, stB_yes hdL]
                  · simp only [cat_size]; show _ + _ + 1 + 1 + 1 ≤ _; omega
                  · simp only [cat_size]; omega
                  · rw [flK_succ, HN.out, stB_yes hdL, lenYT (t := (⟨#[]⟩ : ByteArray)) HY.out HTL.out]
                    exact S7.out
                  · intro j hj3
                    rcases Nat.lt_or_ge j I with h | h
                    · exact HP.out j h
                    · obtain rfl : j = I := by omega
                      exact (congrArg plainB HTL.out).symm.trans HQ.out
                  · intro j hj3 d2 hd2 hd3
                    rcases Nat.lt_or_ge j I with h | h
                    · exact HLs.out j h d2 hd2 hd3
                    · obtain rfl : j = I := by omega
                      rw [HN.out] at hd2
                      cases hd2
                      rw [← HUL.out, size_list]; omega
                  · simp [intOf]; omega
              · have hdLi : ¬ (d : Int) < (L.length : Int) := by omega
                go_wp2
                refine ⟨⟨I + 1, X ++ (⟨#[]⟩ : ByteArray) ++ ⟨#[123]⟩ ++ ⟨#[c]⟩ ++ ⟨#[125]⟩, Y ++ (⟨#[]⟩ : ByteArray), rfl, rfl, by go_num, by omega, ⟨?_, ?_, ?_, ?_, ?_, O6.out, ?_, ?_, B6.out⟩⟩, ?_⟩
                · rw [catX HX.out HTL.out, jnI_some T P HN.out, HSg.out]
                · rw [catY1 HY.out HTL.out, flK_succ, HN.out, stB_no hdL]
                · simp only [cat_size]; show _ + _ + 1 + 1 + 1 ≤ _; omega
                · simp only [cat_size]; omega
                · rw [flK_succ, HN.out, stB_no hdL]; exact S6.out
                · intro j hj3
                  rcases Nat.lt_or_ge j I with h | h
                  · exact HP.out j h
                  · obtain rfl : j = I := by omega
                    exact (congrArg plainB HTL.out).symm.trans HQ.out
                · intro j hj3 d2 hd2 hd3
                  rcases Nat.lt_or_ge j I with h | h
                  · exact HLs.out j h d2 hd2 hd3
                  · obtain rfl : j = I := by omega
                    rw [HN.out] at hd2
                    cases hd2
                    exact absurd hd3 hdL
                · simp [intOf]; omega
            · have hIKj : ¬ (I : Int) < (K : Int) := by omega
              go_wp2_with (at_builtin; refine wpList_append_lies _ rfl _ _ _ rfl (w2.heap.size + 1) 9 i0 (.string ⟨#[]⟩) 1 16 Tryd.underlying39 hi hz0 hz1 hz2 rfl (by omega) (.slice av (mnT T I).length cv) (mnT T I).length ((mnT T I).map S) rfl (O4.out.alloc _) ⟨w4.heap.size, 0, none⟩ 1 1 [.string ((⟨#[]⟩ : ByteArray))] rfl rfl (World.news_of_block (heap_alloc_new _ _)) (by simp [Value.oneCell']) (by omega) (by unfold maxLen; omega) (by omega) (by simp; omega) _ rfl ?_; intro g5 cap5 w5 hown hgr hat hlt5)
              have O5 : Hid (OwnT w5 (w2.heap.size + 1) (.slice (some ⟨g5, 0, none⟩) ((mnT T I).length + 1) cap5) (mnT T (I + 1))) := Lib.hid (by
                rw [mnT_succ, ← HTL.out]
                show World.ownsRow _ _ _ _ _ _ _
                rw [List.map_append, List.length_append, List.map_singleton, show S ((⟨#[]⟩ : ByteArray)).data.toList = .string ((⟨#[]⟩ : ByteArray)) by show Value.string ⟨_⟩ = _; rw [list_arr]]
                exact hown)
              have S5 : Hid (OwnS w5 w2.heap.size (.slice (some ⟨w2.heap.size, 0, none⟩) L.length L.length) L.length (flK L T P I).2) := Lib.hid ((S4.out.alloc _).kept hgr (own_two S4.out O4.out (by decide)))
              have B5 := Lib.hid ((B4.out.alloc B4.out.size (.cells #[.string ((⟨#[]⟩ : ByteArray))] 9)).grown hgr (by simp; omega) (fun j hj2 => by have := (O4.out.lt j hj2).1; omega))
              have BW5 := Lib.hid (B2.out.trans (B5.out.mono hw2))
              have hw5 := B5.out.size
              clear hown hgr hat hlt5 hlti hITi
              have HN : Hid (P[I]? = none) := Lib.hid (List.getElem?_eq_none (by rw [HPL.out]; omega))
              have HX := Lib.hid (HH.out.x)
              have HY := Lib.hid (HH.out.y)
              have HP := Lib.hid (HH.out.pl)
              have HLs := Lib.hid (HH.out.ls)
              go_wp2
              refine ⟨⟨I + 1, X ++ (⟨#[]⟩ : ByteArray), Y ++ (⟨#[]⟩ : ByteArray), rfl, rfl, by go_num, by omega, ⟨by rw [catY1 HX.out HTL.out, jnI_none T P (by rw [HPL.out]; omega)], by rw [catY1 HY.out HTL.out, flK_succ, HN.out, stB_none], by rw [cat_size]; omega, by rw [cat_size]; omega, by rw [flK_succ, HN.out, stB_none]; exact S5.out, O5.out, fun j hj3 => by
                rcases Nat.lt_or_ge j I with h | h
                · exact HP.out j h
                · obtain rfl : j = I := by omega
                  exact (congrArg plainB HTL.out).symm.trans HQ.out, fun j hj3 d2 hd => by
                rcases Nat.lt_or_ge j I with h | h
                · exact HLs.out j h d2 hd
                · obtain rfl : j = I := by omega
                  exact absurd hd (by rw [HN.out]; simp), B5.out⟩⟩, ?_⟩
              simp [intOf]; omega
      · have hlti : ¬ (I : Int) ≤ (K : Int) := by omega
        obtain rfl : I = K + 1 := by omega
        have hml : (mnT T (K + 1)).length = K + 1 := mnT_len T (K + 1)
        have HXL : Hid (X.data.toList = jnB (mnT T (K + 1)) P) := Lib.hid (by rw [HH.out.x]; unfold jnI; rw [List.take_of_length_le (by rw [HPL.out]; omega)])
        have HMP : Hid (∀ t ∈ mnT T (K + 1), plainB t = true) := Lib.hid (fun t ht => by
          obtain ⟨j, hj1, rfl⟩ := List.mem_map.1 ht
          exact HH.out.pl j (List.mem_range.1 hj1))
        have HD10 : Hid (∀ d ∈ P, d < 10) := Lib.hid (fun d hd => by have := HPD.out d hd; omega)
        have HRt : Hid (rightL X.data.toList = true) := Lib.hid (by rw [HXL.out]; exact right_jn _ _ (fun t ht => (plainB_true (HMP.out t ht)).2.2) HD10.out)
        have HRd : Hid (brS (K : Int) X.data.toList 0 0 [] [] [] = .ok (mnT T (K + 1)) P) := Lib.hid (by
          rw [HXL.out]
          exact brS_back K (mnT T (K + 1)) P 0 [] [] (by rw [hml, HPL.out]) (fun t ht => (plainB_true (HMP.out t ht)).1) (fun d hd => ⟨HD10.out d hd, by have := HPD.out d hd; omega⟩) (by simpa using HPN.out) (by have := HPL.out; simp; omega))
        have HMs : Hid (∀ t ∈ mnT T (K + 1), t.length ≤ 1000) := Lib.hid (fun t ht => by have := len20 (HMP.out t ht); omega)
        rw [hml, HPL.out]
        go_wp2_with fail
        with_reducible refine (bparse_as X K _ (T2.out.below HH.out.b) (by omega) HRt.out _ HRd.out).mono ?_
        rintro e w8 ⟨hbt, hb⟩
        obtain ⟨v8, v9, rfl, hot, hop⟩ := hbt
        have OT8 := Lib.hid (OwnT.inT hot)
        have OP8 := Lib.hid (OwnP.inP hop)
        obtain ⟨a8, c8, hv8⟩ : ∃ a c, v8 = .slice a (K + 1) c := by obtain ⟨a, c, h⟩ := own_slice hot; rw [hml] at h; exact ⟨a, c, h⟩
        obtain ⟨a9, c9, hv9⟩ : ∃ a c, v9 = .slice a K c := by obtain ⟨a, c, h⟩ := own_slice hop; rw [HPL.out] at h; exact ⟨a, c, h⟩
        subst hv8 hv9
        have B8 := Lib.hid (HH.out.b.trans (hb.mono hwr))
        have hw8 := hb.size
        have M8 := Lib.hid (OwnT.inT (own_below HH.out.mn hb))
        have S8 := Lib.hid (own_below HH.out.st hb)
        have HYl := Lib.hid (HH.out.y)
        have HLs := Lib.hid (HH.out.ls)
        clear hb hot hop HH BWr
        have X8 := Lib.hid (BoxT.new w8 #[.slice a8 (K + 1) c8, .slice a9 K c9] TBr)
        have A8 : Hid (Below w8.heap.size w8 (w8.alloc (.cells #[.slice a8 (K + 1) c8, .slice a9 K c9] TBr))) := Lib.hid ((Below.refl _ _).alloc (Nat.le_refl _) _)
        have FS : Hid (Calls Tryd.prog 18 #[.agg #[.slice a8 (K + 1) c8, .slice a9 K c9]] (w8.alloc (.cells #[.slice a8 (K + 1) c8, .slice a9 K c9] TBr)) fun e w' => e = .returned (.string X) ∧ Below (w8.alloc (.cells #[.slice a8 (K + 1) c8, .slice a9 K c9] TBr)).heap.size (w8.alloc (.cells #[.slice a8 (K + 1) c8, .slice a9 K c9] TBr)) w') := Lib.hid (by
          have := bstr_as (.slice a8 (K + 1) c8) (.slice a9 K c9) (mnT T (K + 1)) P _ (OT8.out.below A8.out) (OP8.out.below A8.out) (by rw [hml]; omega) (by rw [hml]; omega) (by rw [hml, HPL.out]; omega) HMs.out HD10.out X.data.toList HXL.out.symm
          rw [show S X.data.toList = .string X by show Value.string ⟨_⟩ = _; rw [list_arr]] at this
          exact this)
        go_wp2_with fail
        with_reducible refine FS.out.mono ?_
        rintro e w9 ⟨rfl, hb⟩
        have X9 := Lib.hid (X8.out.below hb)
        have A9 := Lib.hid (A8.out.trans (hb.mono A8.out.size))
        have hw9 := X9.out.lt
        have c0 := X9.out.cell 0
        have c1 := X9.out.cell 1
        simp at c0 c1
        have B9 := Lib.hid (B8.out.trans (A9.out.mono B8.out.size))
        have W9 := Lib.hid (B2.out.trans (B9.out.mono hw2))
        clear hb FS
        go_wp2_with fail
        have M9 := Lib.hid ((M8.out.below A9.out))
        have I9 := Lib.hid (OT8.out.below A9.out)
        have J9 := Lib.hid (OP8.out.below A9.out)
        have P9 := Lib.hid (IP.out.below (B9.out))
        have L9 := Lib.hid (IL2.out.below (B9.out))
        have S9 := Lib.hid (own_below S8.out A9.out)
        have hm9 : InF w9 (.slice av (K + 1) cv) (K + 1) (fun i => S ((mnT T (K + 1)).getD i [])) := by have := M9.out; change InF _ _ (mnT T (K + 1)).length _ at this; rw [hml] at this; exact this
        have hi9 : InF w9 (.slice a8 (K + 1) c8) (K + 1) (fun i => S ((mnT T (K + 1)).getD i [])) := by have := I9.out; change InF _ _ (mnT T (K + 1)).length _ at this; rw [hml] at this; exact this
        have hj9 : InF w9 (.slice a9 K c9) K (fun i => pv (P.getD i 0)) := by have := J9.out; change InF _ _ P.length _ at this; rw [HPL.out] at this; exact this
        have hp9 : InF w9 (.slice ap_ K cp_) K (fun i => pv (P.getD i 0)) := by have := P9.out; change InF _ _ P.length _ at this; rw [HPL.out] at this; exact this
        obtain ⟨q1, q2, q3, _, _, q4⟩ := hm9
        cases q3
        obtain ⟨bm, om, rfl, hbm, hcm⟩ := q4 (by omega)
        obtain ⟨q5, q6, q7, _, _, q8⟩ := hi9
        cases q7
        obtain ⟨bi, oi, rfl, hbi, hci⟩ := q8 (by omega)
        have HCM := Lib.hid hcm
        have HCI := Lib.hid hci
        have HJ9 := Lib.hid hj9
        have HP9 := Lib.hid hp9
        clear q4 q8 hcm hci hj9 hp9 hmn
        go_loopw [144] (fun i wx => ∃ j : Nat, j ≤ K + 1 ∧ i = .int .i64 j ∧ Below w9.heap.size w9 wx) (fun i _ => K + 1 - (intOf i).toNat)
        case atStart => exact ⟨0, Nat.zero_le _, rfl, Below.refl _ _⟩
        case round =>
          obtain ⟨j, hj, rfl, hbx⟩ := hrel
          have HBX := Lib.hid hbx
          have hxs := hbx.size
          have xb0 := (X9.out.below hbx).cell 0
          have xb1 := (X9.out.below hbx).cell 1
          have xbl := (X9.out.below hbx).lt
          simp at xb0 xb1
          clear hbx
          by_cases hlt2 : j < K + 1
          · have hlt2i : (j : Int) < (K : Int) + 1 := by omega
            obtain ⟨G, hG⟩ : ∃ G : ByteArray, (⟨((mnT T (K + 1)).getD j []).toArray⟩ : ByteArray) = G := ⟨_, rfl⟩
            have e1 : wr.cell? ⟨bm, om + j, none⟩ = some (.string G) := by rw [← hG]; exact (HBX.out.cell (p := ⟨bm, om + j, none⟩) hbm).trans (HCM.out j hlt2)
            have e2 : wr.cell? ⟨bi, oi + j, none⟩ = some (.string G) := by rw [← hG]; exact (HBX.out.cell (p := ⟨bi, oi + j, none⟩) hbi).trans (HCI.out j hlt2)
            have hbm2 := Nat.lt_of_lt_of_le hbm hxs
            have hbi2 := Nat.lt_of_lt_of_le hbi hxs
            clear hG
            by_cases hjK : j < K
            · have hjKi : (j : Int) < (K : Int) := by omega
              have hjKb : decide ((j : Int) < (K : Int)) = true := decide_eq_true hjKi
              obtain ⟨r1, r2, r3, _, _, r4⟩ := HJ9.out
              cases r3
              obtain ⟨bq, oq, rfl, hbq, hcq⟩ := r4 (by omega)
              obtain ⟨r5, r6, r7, _, _, r8⟩ := HP9.out
              cases r7
              obtain ⟨bs, os, rfl, hbs, hcs⟩ := r8 (by omega)
              have e3 := (HBX.out.cell (p := ⟨bq, oq + j, none⟩) hbq).trans (hcq j hjK)
              have e4 := (HBX.out.cell (p := ⟨bs, os + j, none⟩) hbs).trans (hcs j hjK)
              have hbq2 := Nat.lt_of_lt_of_le hbq hxs
              have hbs2 := Nat.lt_of_lt_of_le hbs hxs
              dsimp only at e3 e4
              clear r4 r8 hcq hcs
              generalize P.getD j 0 = z at e3 e4
              go_wp2_with fail
              refine wp_region_held_drew (S := fun w' => w' = wr.drew) (by kernel_rfl) rfl (fun hHeld => ?_)
              refine wpAnyH_take (i := 0) (oi := { dst := some 147, op := Go.Op.fieldAddr 43 (Go.Operand.tmp 16) 0, type := 0, pos := "law.go:86", after := #[], guard := none }) (v := ?_) rfl (by kernel_rfl) (by kernel_rfl) (by kernel_rfl) (fun _ _ _ h => h) (Or.inl ⟨by rfl, ?_⟩) rfl ?_
              case refine_2 => (intro w hSw; (try dsimp only at hSw); subst hSw; go_simp <;> with_reducible rfl)
              try simp only [Act.put, List.setIfInBounds_toArray, List.set_cons_zero, List.set_cons_succ]
              refine wpAnyH_take (i := 1) (oi := { dst := some 148, op := Go.Op.load 39 (Go.Operand.tmp 147), type := 39, pos := "law.go:86", after := #[{ on := 0, ground := Go.Ground.data }], guard := none }) (v := ?_) rfl (by kernel_rfl) (by kernel_rfl) (by kernel_rfl) (fun _ _ _ h => h) (Or.inl ⟨by rfl, ?_⟩) rfl ?_
              case refine_2 => (intro w hSw; (try dsimp only at hSw); subst hSw; go_simp <;> with_reducible rfl)
              try simp only [Act.put, List.setIfInBounds_toArray, List.set_cons_zero, List.set_cons_succ]
              refine wpAnyH_take (i := 2) (oi := { dst := some 149, op := Go.Op.move (Go.Operand.tmp 19), type := 3, pos := "law.go:86", after := #[], guard := none }) (v := ?_) rfl (by kernel_rfl) (by kernel_rfl) (by kernel_rfl) (fun _ _ _ h => h) (Or.inl ⟨by rfl, ?_⟩) rfl ?_
              case refine_2 => (intro w hSw; (try dsimp only at hSw); subst hSw; go_simp <;> with_reducible rfl)
              try simp only [Act.put, List.setIfInBounds_toArray, List.set_cons_zero, List.set_cons_succ]
              refine wpAnyH_take (i := 3) (oi := { dst := some 150, op := Go.Op.indexAddr 39 (Go.Operand.tmp 148) (Go.Operand.tmp 149), type := 0, pos := "law.go:86", after := #[{ on := 1, ground := Go.Ground.data }, { on := 2, ground := Go.Ground.data }], guard := none }) (v := ?_) rfl (by kernel_rfl) (by kernel_rfl) (by kernel_rfl) (fun _ _ _ h => h) (Or.inl ⟨by rfl, ?_⟩) rfl ?_
              case refine_2 => (intro w hSw; (try dsimp only at hSw); subst hSw; go_simp <;> with_reducible rfl)
              try simp only [Act.put, List.setIfInBounds_toArray, List.set_cons_zero, List.set_cons_succ]
              refine wpAnyH_take (i := 4) (oi := { dst := some 151, op := Go.Op.load 9 (Go.Operand.tmp 150), type := 9, pos := "law.go:86", after := #[{ on := 3, ground := Go.Ground.data }], guard := none }) (v := ?_) rfl (by kernel_rfl) (by kernel_rfl) (by kernel_rfl) (fun _ _ _ h => h) (Or.inl ⟨by rfl, ?_⟩) rfl ?_
              case refine_2 => (intro w hSw; (try dsimp only at hSw); subst hSw; go_simp <;> with_reducible rfl)
              try simp only [Act.put, List.setIfInBounds_toArray, List.set_cons_zero, List.set_cons_succ]
              refine wpAnyH_take (i := 5) (oi := { dst := some 152, op := Go.Op.move (Go.Operand.tmp 13), type := 39, pos := "law.go:86", after := #[], guard := none }) (v := ?_) rfl (by kernel_rfl) (by kernel_rfl) (by kernel_rfl) (fun _ _ _ h => h) (Or.inl ⟨by rfl, ?_⟩) rfl ?_
              case refine_2 => (intro w hSw; (try dsimp only at hSw); subst hSw; go_simp <;> with_reducible rfl)
              try simp only [Act.put, List.setIfInBounds_toArray, List.set_cons_zero, List.set_cons_succ]
              refine wpAnyH_take (i := 6) (oi := { dst := some 153, op := Go.Op.move (Go.Operand.tmp 19), type := 3, pos := "law.go:86", after := #[], guard := none }) (v := ?_) rfl (by kernel_rfl) (by kernel_rfl) (by kernel_rfl) (fun _ _ _ h => h) (Or.inl ⟨by rfl, ?_⟩) rfl ?_
              case refine_2 => (intro w hSw; (try dsimp only at hSw); subst hSw; go_simp <;> with_reducible rfl)
              try simp only [Act.put, List.setIfInBounds_toArray, List.set_cons_zero, List.set_cons_succ]
              refine wpAnyH_take (i := 7) (oi := { dst := some 154, op := Go.Op.indexAddr 39 (Go.Operand.tmp 152) (Go.Operand.tmp 153), type := 0, pos := "law.go:86", after := #[{ on := 5, ground := Go.Ground.data }, { on := 6, ground := Go.Ground.data }], guard := none }) (v := ?_) rfl (by kernel_rfl) (by kernel_rfl) (by kernel_rfl) (fun _ _ _ h => h) (Or.inl ⟨by rfl, ?_⟩) rfl ?_
              case refine_2 => (intro w hSw; (try dsimp only at hSw); subst hSw; go_simp <;> with_reducible rfl)
              try simp only [Act.put, List.setIfInBounds_toArray, List.set_cons_zero, List.set_cons_succ]
              refine wpAnyH_take (i := 8) (oi := { dst := some 155, op := Go.Op.load 9 (Go.Operand.tmp 154), type := 9, pos := "law.go:86", after := #[{ on := 7, ground := Go.Ground.data }], guard := none }) (v := ?_) rfl (by kernel_rfl) (by kernel_rfl) (by kernel_rfl) (fun _ _ _ h => h) (Or.inl ⟨by rfl, ?_⟩) rfl ?_
              case refine_2 => (intro w hSw; (try dsimp only at hSw); subst hSw; go_simp <;> with_reducible rfl)
              try simp only [Act.put, List.setIfInBounds_toArray, List.set_cons_zero, List.set_cons_succ]
              refine wpAnyH_take (i := 9) (oi := { dst := some 156, op := Go.Op.binOp Go.BinOp.neq 9 (Go.Operand.tmp 151) (Go.Operand.tmp 155) 9, type := 4, pos := "law.go:86", after := #[{ on := 4, ground := Go.Ground.data }, { on := 8, ground := Go.Ground.data }], guard := none }) (v := ?_) rfl (by kernel_rfl) (by kernel_rfl) (by kernel_rfl) (fun _ _ _ h => h) (Or.inl ⟨by rfl, ?_⟩) rfl ?_
              case refine_2 => (intro w hSw; (try dsimp only at hSw); subst hSw; go_simp <;> with_reducible rfl)
              try simp only [Act.put, List.setIfInBounds_toArray, List.set_cons_zero, List.set_cons_succ]
              refine wpAnyH_take (i := 10) (oi := { dst := some 157, op := Go.Op.move (Go.Operand.tmp 156), type := 4, pos := "law.go:86", after := #[{ on := 9, ground := Go.Ground.data }], guard := none }) (v := ?_) rfl (by kernel_rfl) (by kernel_rfl) (by kernel_rfl) (fun _ _ _ h => h) (Or.inl ⟨by rfl, ?_⟩) rfl ?_
              case refine_2 => (intro w hSw; (try dsimp only at hSw); subst hSw; go_simp <;> with_reducible rfl)
              try simp only [Act.put, List.setIfInBounds_toArray, List.set_cons_zero, List.set_cons_succ]
              refine wpAnyH_take (i := 11) (oi := { dst := some 158, op := Go.Op.move (Go.Operand.tmp 19), type := 3, pos := "law.go:86", after := #[{ on := 10, ground := Go.Ground.guard }], guard := some (10, false) }) (v := ?_) rfl (by kernel_rfl) (by kernel_rfl) (by kernel_rfl) (fun _ _ _ h => h) (Or.inl ⟨by rfl, ?_⟩) rfl ?_
              case refine_2 => (intro w hSw; (try dsimp only at hSw); subst hSw; go_simp <;> with_reducible rfl)
              try simp only [Act.put, List.setIfInBounds_toArray, List.set_cons_zero, List.set_cons_succ]
              refine wpAnyH_take (i := 12) (oi := { dst := some 159, op := Go.Op.move (Go.Operand.tmp 1), type := 3, pos := "law.go:86", after := #[{ on := 10, ground := Go.Ground.guard }], guard := some (10, false) }) (v := ?_) rfl (by kernel_rfl) (by kernel_rfl) (by kernel_rfl) (fun _ _ _ h => h) (Or.inl ⟨by rfl, ?_⟩) rfl ?_
              case refine_2 => (intro w hSw; (try dsimp only at hSw); subst hSw; go_simp <;> with_reducible rfl)
              try simp only [Act.put, List.setIfInBounds_toArray, List.set_cons_zero, List.set_cons_succ]
              refine wpAnyH_take (i := 13) (oi := { dst := some 160, op := Go.Op.binOp Go.BinOp.lss 3 (Go.Operand.tmp 158) (Go.Operand.tmp 159) 3, type := 4, pos := "law.go:86", after := #[{ on := 11, ground := Go.Ground.data }, { on := 12, ground := Go.Ground.data }, { on := 10, ground := Go.Ground.guard }], guard := some (10, false) }) (v := ?_) rfl (by kernel_rfl) (by kernel_rfl) (by kernel_rfl) (fun _ _ _ h => h) (Or.inl ⟨by rfl, ?_⟩) rfl ?_
              case refine_2 => (intro w hSw; (try dsimp only at hSw); subst hSw; go_simp <;> with_reducible rfl)
              try simp only [Act.put, List.setIfInBounds_toArray, List.set_cons_zero, List.set_cons_succ]
              refine wpAnyH_take (i := 14) (oi := { dst := some 161, op := Go.Op.move (Go.Operand.tmp 160), type := 4, pos := "law.go:86", after := #[{ on := 13, ground := Go.Ground.data }, { on := 10, ground := Go.Ground.chain }, { on := 10, ground := Go.Ground.guard }], guard := some (10, false) }) (v := ?_) rfl (by kernel_rfl) (by kernel_rfl) (by kernel_rfl) (fun _ _ _ h => h) (Or.inl ⟨by rfl, ?_⟩) rfl ?_
              case refine_2 => (intro w hSw; (try dsimp only at hSw); subst hSw; go_simp <;> with_reducible rfl)
              try simp only [Act.put, List.setIfInBounds_toArray, List.set_cons_zero, List.set_cons_succ]
              refine wpAnyH_take (i := 15) (oi := { dst := some 162, op := Go.Op.fieldAddr 43 (Go.Operand.tmp 16) 1, type := 0, pos := "law.go:86", after := #[{ on := 14, ground := Go.Ground.guard }], guard := some (14, true) }) (v := ?_) rfl (by kernel_rfl) (by kernel_rfl) (by kernel_rfl) (fun _ _ _ h => h) (Or.inl ⟨by rfl, ?_⟩) rfl ?_
              case refine_2 => (intro w hSw; (try dsimp only at hSw); subst hSw; go_simp <;> with_reducible rfl)
              try simp only [Act.put, List.setIfInBounds_toArray, List.set_cons_zero, List.set_cons_succ]
              refine wpAnyH_take (i := 16) (oi := { dst := some 163, op := Go.Op.load 40 (Go.Operand.tmp 162), type := 40, pos := "law.go:86", after := #[{ on := 15, ground := Go.Ground.data }, { on := 14, ground := Go.Ground.guard }], guard := some (14, true) }) (v := ?_) rfl (by kernel_rfl) (by kernel_rfl) (by kernel_rfl) (fun _ _ _ h => h) (Or.inl ⟨by rfl, ?_⟩) rfl ?_
              case refine_2 => (intro w hSw; (try dsimp only at hSw); subst hSw; go_simp <;> with_reducible rfl)
              try simp only [Act.put, List.setIfInBounds_toArray, List.set_cons_zero, List.set_cons_succ]
              refine wpAnyH_take (i := 17) (oi := { dst := some 164, op := Go.Op.move (Go.Operand.tmp 19), type := 3, pos := "law.go:86", after := #[{ on := 14, ground := Go.Ground.guard }], guard := some (14, true) }) (v := ?_) rfl (by kernel_rfl) (by kernel_rfl) (by kernel_rfl) (fun _ _ _ h => h) (Or.inl ⟨by rfl, ?_⟩) rfl ?_
              case refine_2 => (intro w hSw; (try dsimp only at hSw); subst hSw; go_simp <;> with_reducible rfl)
              try simp only [Act.put, List.setIfInBounds_toArray, List.set_cons_zero, List.set_cons_succ]
              refine wpAnyH_take (i := 18) (oi := { dst := some 165, op := Go.Op.indexAddr 40 (Go.Operand.tmp 163) (Go.Operand.tmp 164), type := 0, pos := "law.go:86", after := #[{ on := 16, ground := Go.Ground.data }, { on := 17, ground := Go.Ground.data }, { on := 14, ground := Go.Ground.guard }], guard := some (14, true) }) (v := ?_) rfl (by kernel_rfl) (by kernel_rfl) (by kernel_rfl) (fun _ _ _ h => h) (Or.inl ⟨by rfl, ?_⟩) rfl ?_
              case refine_2 => (intro w hSw; (try dsimp only at hSw); subst hSw; go_simp <;> with_reducible rfl)
              try simp only [Act.put, List.setIfInBounds_toArray, List.set_cons_zero, List.set_cons_succ]
              refine wpAnyH_take (i := 19) (oi := { dst := some 166, op := Go.Op.load 3 (Go.Operand.tmp 165), type := 3, pos := "law.go:86", after := #[{ on := 18, ground := Go.Ground.data }, { on := 14, ground := Go.Ground.guard }], guard := some (14, true) }) (v := ?_) rfl (by kernel_rfl) (by kernel_rfl) (by kernel_rfl) (fun _ _ _ h => h) (Or.inl ⟨by rfl, ?_⟩) rfl ?_
              case refine_2 => (intro w hSw; (try dsimp only at hSw); subst hSw; go_simp <;> with_reducible rfl)
              try simp only [Act.put, List.setIfInBounds_toArray, List.set_cons_zero, List.set_cons_succ]
              refine wpAnyH_take (i := 20) (oi := { dst := some 167, op := Go.Op.move (Go.Operand.tmp 9), type := 40, pos := "law.go:86", after := #[{ on := 14, ground := Go.Ground.guard }], guard := some (14, true) }) (v := ?_) rfl (by kernel_rfl) (by kernel_rfl) (by kernel_rfl) (fun _ _ _ h => h) (Or.inl ⟨by rfl, ?_⟩) rfl ?_
              case refine_2 => (intro w hSw; (try dsimp only at hSw); subst hSw; go_simp <;> with_reducible rfl)
              try simp only [Act.put, List.setIfInBounds_toArray, List.set_cons_zero, List.set_cons_succ]
              refine wpAnyH_take (i := 21) (oi := { dst := some 168, op := Go.Op.move (Go.Operand.tmp 19), type := 3, pos := "law.go:86", after := #[{ on := 14, ground := Go.Ground.guard }], guard := some (14, true) }) (v := ?_) rfl (by kernel_rfl) (by kernel_rfl) (by kernel_rfl) (fun _ _ _ h => h) (Or.inl ⟨by rfl, ?_⟩) rfl ?_
              case refine_2 => (intro w hSw; (try dsimp only at hSw); subst hSw; go_simp <;> with_reducible rfl)
              try simp only [Act.put, List.setIfInBounds_toArray, List.set_cons_zero, List.set_cons_succ]
              refine wpAnyH_take (i := 22) (oi := { dst := some 169, op := Go.Op.indexAddr 40 (Go.Operand.tmp 167) (Go.Operand.tmp 168), type := 0, pos := "law.go:86", after := #[{ on := 20, ground := Go.Ground.data }, { on := 21, ground := Go.Ground.data }, { on := 14, ground := Go.Ground.guard }], guard := some (14, true) }) (v := ?_) rfl (by kernel_rfl) (by kernel_rfl) (by kernel_rfl) (fun _ _ _ h => h) (Or.inl ⟨by rfl, ?_⟩) rfl ?_
              case refine_2 => (intro w hSw; (try dsimp only at hSw); subst hSw; go_simp <;> with_reducible rfl)
              try simp only [Act.put, List.setIfInBounds_toArray, List.set_cons_zero, List.set_cons_succ]
              refine wpAnyH_take (i := 23) (oi := { dst := some 170, op := Go.Op.load 3 (Go.Operand.tmp 169), type := 3, pos := "law.go:86", after := #[{ on := 22, ground := Go.Ground.data }, { on := 14, ground := Go.Ground.guard }], guard := some (14, true) }) (v := ?_) rfl (by kernel_rfl) (by kernel_rfl) (by kernel_rfl) (fun _ _ _ h => h) (Or.inl ⟨by rfl, ?_⟩) rfl ?_
              case refine_2 => (intro w hSw; (try dsimp only at hSw); subst hSw; go_simp <;> with_reducible rfl)
              try simp only [Act.put, List.setIfInBounds_toArray, List.set_cons_zero, List.set_cons_succ]
              refine wpAnyH_take (i := 24) (oi := { dst := some 171, op := Go.Op.binOp Go.BinOp.neq 3 (Go.Operand.tmp 166) (Go.Operand.tmp 170) 3, type := 4, pos := "law.go:86", after := #[{ on := 19, ground := Go.Ground.data }, { on := 23, ground := Go.Ground.data }, { on := 14, ground := Go.Ground.guard }], guard := some (14, true) }) (v := ?_) rfl (by kernel_rfl) (by kernel_rfl) (by kernel_rfl) (fun _ _ _ h => h) (Or.inl ⟨by rfl, ?_⟩) rfl ?_
              case refine_2 => (intro w hSw; (try dsimp only at hSw); subst hSw; go_simp <;> with_reducible rfl)
              try simp only [Act.put, List.setIfInBounds_toArray, List.set_cons_zero, List.set_cons_succ]
              refine wpAnyH_take (i := 25) (oi := { dst := some 172, op := Go.Op.pick (Go.Operand.tmp 161) (Go.Operand.tmp 171) (Go.Operand.const (Go.Value.bool false)), type := 4, pos := "law.go:86", after := #[{ on := 14, ground := Go.Ground.data }, { on := 24, ground := Go.Ground.data }, { on := 10, ground := Go.Ground.guard }], guard := some (10, false) }) (v := ?_) rfl (by kernel_rfl) (by kernel_rfl) (by kernel_rfl) (fun _ _ _ h => h) (Or.inl ⟨by rfl, ?_⟩) rfl ?_
              case refine_2 => (intro w hSw; (try dsimp only at hSw); subst hSw; go_simp <;> with_reducible rfl)
              try simp only [Act.put, List.setIfInBounds_toArray, List.set_cons_zero, List.set_cons_succ]
              refine wpAnyH_take (i := 26) (oi := { dst := some 173, op := Go.Op.pick (Go.Operand.tmp 157) (Go.Operand.const (Go.Value.bool true)) (Go.Operand.tmp 172), type := 4, pos := "law.go:86", after := #[{ on := 10, ground := Go.Ground.data }, { on := 25, ground := Go.Ground.data }], guard := none }) (v := ?_) rfl (by kernel_rfl) (by kernel_rfl) (by kernel_rfl) (fun _ _ _ h => h) (Or.inl ⟨by rfl, ?_⟩) rfl ?_
              case refine_2 => (intro w hSw; (try dsimp only at hSw); subst hSw; go_simp <;> with_reducible rfl)
              try simp only [Act.put, List.setIfInBounds_toArray, List.set_cons_zero, List.set_cons_succ]
              refine wpAnyH_done (by kernel_rfl) ?_ _
              try clear hHeld
              go_wp2
              go_roundw
              case rel => exact ⟨j + 1, by omega, by go_num, HBX.out.drew⟩
              case measure => simp [intOf]; omega
            · have hjKi : ¬ (j : Int) < (K : Int) := by omega
              have hjKb : decide ((j : Int) < (K : Int)) = false := decide_eq_false hjKi
              go_wp2_with fail
              refine wp_region_held_drew (S := fun w' => w' = wr.drew) (by kernel_rfl) rfl (fun hHeld => ?_)
              refine wpAnyH_take (i := 0) (oi := { dst := some 147, op := Go.Op.fieldAddr 43 (Go.Operand.tmp 16) 0, type := 0, pos := "law.go:86", after := #[], guard := none }) (v := ?_) rfl (by kernel_rfl) (by kernel_rfl) (by kernel_rfl) (fun _ _ _ h => h) (Or.inl ⟨by rfl, ?_⟩) rfl ?_
              case refine_2 => (intro w hSw; (try dsimp only at hSw); subst hSw; go_simp <;> with_reducible rfl)
              try simp only [Act.put, List.setIfInBounds_toArray, List.set_cons_zero, List.set_cons_succ]
              refine wpAnyH_take (i := 1) (oi := { dst := some 148, op := Go.Op.load 39 (Go.Operand.tmp 147), type := 39, pos := "law.go:86", after := #[{ on := 0, ground := Go.Ground.data }], guard := none }) (v := ?_) rfl (by kernel_rfl) (by kernel_rfl) (by kernel_rfl) (fun _ _ _ h => h) (Or.inl ⟨by rfl, ?_⟩) rfl ?_
              case refine_2 => (intro w hSw; (try dsimp only at hSw); subst hSw; go_simp <;> with_reducible rfl)
              try simp only [Act.put, List.setIfInBounds_toArray, List.set_cons_zero, List.set_cons_succ]
              refine wpAnyH_take (i := 2) (oi := { dst := some 149, op := Go.Op.move (Go.Operand.tmp 19), type := 3, pos := "law.go:86", after := #[], guard := none }) (v := ?_) rfl (by kernel_rfl) (by kernel_rfl) (by kernel_rfl) (fun _ _ _ h => h) (Or.inl ⟨by rfl, ?_⟩) rfl ?_
              case refine_2 => (intro w hSw; (try dsimp only at hSw); subst hSw; go_simp <;> with_reducible rfl)
              try simp only [Act.put, List.setIfInBounds_toArray, List.set_cons_zero, List.set_cons_succ]
              refine wpAnyH_take (i := 3) (oi := { dst := some 150, op := Go.Op.indexAddr 39 (Go.Operand.tmp 148) (Go.Operand.tmp 149), type := 0, pos := "law.go:86", after := #[{ on := 1, ground := Go.Ground.data }, { on := 2, ground := Go.Ground.data }], guard := none }) (v := ?_) rfl (by kernel_rfl) (by kernel_rfl) (by kernel_rfl) (fun _ _ _ h => h) (Or.inl ⟨by rfl, ?_⟩) rfl ?_
              case refine_2 => (intro w hSw; (try dsimp only at hSw); subst hSw; go_simp <;> with_reducible rfl)
              try simp only [Act.put, List.setIfInBounds_toArray, List.set_cons_zero, List.set_cons_succ]
              refine wpAnyH_take (i := 4) (oi := { dst := some 151, op := Go.Op.load 9 (Go.Operand.tmp 150), type := 9, pos := "law.go:86", after := #[{ on := 3, ground := Go.Ground.data }], guard := none }) (v := ?_) rfl (by kernel_rfl) (by kernel_rfl) (by kernel_rfl) (fun _ _ _ h => h) (Or.inl ⟨by rfl, ?_⟩) rfl ?_
              case refine_2 => (intro w hSw; (try dsimp only at hSw); subst hSw; go_simp <;> with_reducible rfl)
              try simp only [Act.put, List.setIfInBounds_toArray, List.set_cons_zero, List.set_cons_succ]
              refine wpAnyH_take (i := 5) (oi := { dst := some 152, op := Go.Op.move (Go.Operand.tmp 13), type := 39, pos := "law.go:86", after := #[], guard := none }) (v := ?_) rfl (by kernel_rfl) (by kernel_rfl) (by kernel_rfl) (fun _ _ _ h => h) (Or.inl ⟨by rfl, ?_⟩) rfl ?_
              case refine_2 => (intro w hSw; (try dsimp only at hSw); subst hSw; go_simp <;> with_reducible rfl)
              try simp only [Act.put, List.setIfInBounds_toArray, List.set_cons_zero, List.set_cons_succ]
              refine wpAnyH_take (i := 6) (oi := { dst := some 153, op := Go.Op.move (Go.Operand.tmp 19), type := 3, pos := "law.go:86", after := #[], guard := none }) (v := ?_) rfl (by kernel_rfl) (by kernel_rfl) (by kernel_rfl) (fun _ _ _ h => h) (Or.inl ⟨by rfl, ?_⟩) rfl ?_
              case refine_2 => (intro w hSw; (try dsimp only at hSw); subst hSw; go_simp <;> with_reducible rfl)
              try simp only [Act.put, List.setIfInBounds_toArray, List.set_cons_zero, List.set_cons_succ]
              refine wpAnyH_take (i := 7) (oi := { dst := some 154, op := Go.Op.indexAddr 39 (Go.Operand.tmp 152) (Go.Operand.tmp 153), type := 0, pos := "law.go:86", after := #[{ on := 5, ground := Go.Ground.data }, { on := 6, ground := Go.Ground.data }], guard := none }) (v := ?_) rfl (by kernel_rfl) (by kernel_rfl) (by kernel_rfl) (fun _ _ _ h => h) (Or.inl ⟨by rfl, ?_⟩) rfl ?_
              case refine_2 => (intro w hSw; (try dsimp only at hSw); subst hSw; go_simp <;> with_reducible rfl)
              try simp only [Act.put, List.setIfInBounds_toArray, List.set_cons_zero, List.set_cons_succ]
              refine wpAnyH_take (i := 8) (oi := { dst := some 155, op := Go.Op.load 9 (Go.Operand.tmp 154), type := 9, pos := "law.go:86", after := #[{ on := 7, ground := Go.Ground.data }], guard := none }) (v := ?_) rfl (by kernel_rfl) (by kernel_rfl) (by kernel_rfl) (fun _ _ _ h => h) (Or.inl ⟨by rfl, ?_⟩) rfl ?_
              case refine_2 => (intro w hSw; (try dsimp only at hSw); subst hSw; go_simp <;> with_reducible rfl)
              try simp only [Act.put, List.setIfInBounds_toArray, List.set_cons_zero, List.set_cons_succ]
              refine wpAnyH_take (i := 9) (oi := { dst := some 156, op := Go.Op.binOp Go.BinOp.neq 9 (Go.Operand.tmp 151) (Go.Operand.tmp 155) 9, type := 4, pos := "law.go:86", after := #[{ on := 4, ground := Go.Ground.data }, { on := 8, ground := Go.Ground.data }], guard := none }) (v := ?_) rfl (by kernel_rfl) (by kernel_rfl) (by kernel_rfl) (fun _ _ _ h => h) (Or.inl ⟨by rfl, ?_⟩) rfl ?_
              case refine_2 => (intro w hSw; (try dsimp only at hSw); subst hSw; go_simp <;> with_reducible rfl)
              try simp only [Act.put, List.setIfInBounds_toArray, List.set_cons_zero, List.set_cons_succ]
              refine wpAnyH_take (i := 10) (oi := { dst := some 157, op := Go.Op.move (Go.Operand.tmp 156), type := 4, pos := "law.go:86", after := #[{ on := 9, ground := Go.Ground.data }], guard := none }) (v := ?_) rfl (by kernel_rfl) (by kernel_rfl) (by kernel_rfl) (fun _ _ _ h => h) (Or.inl ⟨by rfl, ?_⟩) rfl ?_
              case refine_2 => (intro w hSw; (try dsimp only at hSw); subst hSw; go_simp <;> with_reducible rfl)
              try simp only [Act.put, List.setIfInBounds_toArray, List.set_cons_zero, List.set_cons_succ]
              refine wpAnyH_take (i := 11) (oi := { dst := some 158, op := Go.Op.move (Go.Operand.tmp 19), type := 3, pos := "law.go:86", after := #[{ on := 10, ground := Go.Ground.guard }], guard := some (10, false) }) (v := ?_) rfl (by kernel_rfl) (by kernel_rfl) (by kernel_rfl) (fun _ _ _ h => h) (Or.inl ⟨by rfl, ?_⟩) rfl ?_
              case refine_2 => (intro w hSw; (try dsimp only at hSw); subst hSw; go_simp <;> with_reducible rfl)
              try simp only [Act.put, List.setIfInBounds_toArray, List.set_cons_zero, List.set_cons_succ]
              refine wpAnyH_take (i := 12) (oi := { dst := some 159, op := Go.Op.move (Go.Operand.tmp 1), type := 3, pos := "law.go:86", after := #[{ on := 10, ground := Go.Ground.guard }], guard := some (10, false) }) (v := ?_) rfl (by kernel_rfl) (by kernel_rfl) (by kernel_rfl) (fun _ _ _ h => h) (Or.inl ⟨by rfl, ?_⟩) rfl ?_
              case refine_2 => (intro w hSw; (try dsimp only at hSw); subst hSw; go_simp <;> with_reducible rfl)
              try simp only [Act.put, List.setIfInBounds_toArray, List.set_cons_zero, List.set_cons_succ]
              refine wpAnyH_take (i := 13) (oi := { dst := some 160, op := Go.Op.binOp Go.BinOp.lss 3 (Go.Operand.tmp 158) (Go.Operand.tmp 159) 3, type := 4, pos := "law.go:86", after := #[{ on := 11, ground := Go.Ground.data }, { on := 12, ground := Go.Ground.data }, { on := 10, ground := Go.Ground.guard }], guard := some (10, false) }) (v := ?_) rfl (by kernel_rfl) (by kernel_rfl) (by kernel_rfl) (fun _ _ _ h => h) (Or.inl ⟨by rfl, ?_⟩) rfl ?_
              case refine_2 => (intro w hSw; (try dsimp only at hSw); subst hSw; go_simp <;> with_reducible rfl)
              try simp only [Act.put, List.setIfInBounds_toArray, List.set_cons_zero, List.set_cons_succ]
              refine wpAnyH_take (i := 14) (oi := { dst := some 161, op := Go.Op.move (Go.Operand.tmp 160), type := 4, pos := "law.go:86", after := #[{ on := 13, ground := Go.Ground.data }, { on := 10, ground := Go.Ground.chain }, { on := 10, ground := Go.Ground.guard }], guard := some (10, false) }) (v := ?_) rfl (by kernel_rfl) (by kernel_rfl) (by kernel_rfl) (fun _ _ _ h => h) (Or.inl ⟨by rfl, ?_⟩) rfl ?_
              case refine_2 => (intro w hSw; (try dsimp only at hSw); subst hSw; go_simp <;> with_reducible rfl)
              try simp only [Act.put, List.setIfInBounds_toArray, List.set_cons_zero, List.set_cons_succ]
              refine wpAnyH_take (i := 15) (oi := { dst := some 162, op := Go.Op.fieldAddr 43 (Go.Operand.tmp 16) 1, type := 0, pos := "law.go:86", after := #[{ on := 14, ground := Go.Ground.guard }], guard := some (14, true) }) (v := undef) rfl (by kernel_rfl) (by kernel_rfl) (by kernel_rfl) (fun _ _ _ h => h) (Or.inr ⟨by rfl, rfl⟩) rfl ?_
              try simp only [Act.put, List.setIfInBounds_toArray, List.set_cons_zero, List.set_cons_succ]
              refine wpAnyH_take (i := 16) (oi := { dst := some 163, op := Go.Op.load 40 (Go.Operand.tmp 162), type := 40, pos := "law.go:86", after := #[{ on := 15, ground := Go.Ground.data }, { on := 14, ground := Go.Ground.guard }], guard := some (14, true) }) (v := undef) rfl (by kernel_rfl) (by kernel_rfl) (by kernel_rfl) (fun _ _ _ h => h) (Or.inr ⟨by rfl, rfl⟩) rfl ?_
              try simp only [Act.put, List.setIfInBounds_toArray, List.set_cons_zero, List.set_cons_succ]
              refine wpAnyH_take (i := 17) (oi := { dst := some 164, op := Go.Op.move (Go.Operand.tmp 19), type := 3, pos := "law.go:86", after := #[{ on := 14, ground := Go.Ground.guard }], guard := some (14, true) }) (v := undef) rfl (by kernel_rfl) (by kernel_rfl) (by kernel_rfl) (fun _ _ _ h => h) (Or.inr ⟨by rfl, rfl⟩) rfl ?_
              try simp only [Act.put, List.setIfInBounds_toArray, List.set_cons_zero, List.set_cons_succ]
              refine wpAnyH_take (i := 18) (oi := { dst := some 165, op := Go.Op.indexAddr 40 (Go.Operand.tmp 163) (Go.Operand.tmp 164), type := 0, pos := "law.go:86", after := #[{ on := 16, ground := Go.Ground.data }, { on := 17, ground := Go.Ground.data }, { on := 14, ground := Go.Ground.guard }], guard := some (14, true) }) (v := undef) rfl (by kernel_rfl) (by kernel_rfl) (by kernel_rfl) (fun _ _ _ h => h) (Or.inr ⟨by rfl, rfl⟩) rfl ?_
              try simp only [Act.put, List.setIfInBounds_toArray, List.set_cons_zero, List.set_cons_succ]
              refine wpAnyH_take (i := 19) (oi := { dst := some 166, op := Go.Op.load 3 (Go.Operand.tmp 165), type := 3, pos := "law.go:86", after := #[{ on := 18, ground := Go.Ground.data }, { on := 14, ground := Go.Ground.guard }], guard := some (14, true) }) (v := undef) rfl (by kernel_rfl) (by kernel_rfl) (by kernel_rfl) (fun _ _ _ h => h) (Or.inr ⟨by rfl, rfl⟩) rfl ?_
              try simp only [Act.put, List.setIfInBounds_toArray, List.set_cons_zero, List.set_cons_succ]
              refine wpAnyH_take (i := 20) (oi := { dst := some 167, op := Go.Op.move (Go.Operand.tmp 9), type := 40, pos := "law.go:86", after := #[{ on := 14, ground := Go.Ground.guard }], guard := some (14, true) }) (v := undef) rfl (by kernel_rfl) (by kernel_rfl) (by kernel_rfl) (fun _ _ _ h => h) (Or.inr ⟨by rfl, rfl⟩) rfl ?_
              try simp only [Act.put, List.setIfInBounds_toArray, List.set_cons_zero, List.set_cons_succ]
              refine wpAnyH_take (i := 21) (oi := { dst := some 168, op := Go.Op.move (Go.Operand.tmp 19), type := 3, pos := "law.go:86", after := #[{ on := 14, ground := Go.Ground.guard }], guard := some (14, true) }) (v := undef) rfl (by kernel_rfl) (by kernel_rfl) (by kernel_rfl) (fun _ _ _ h => h) (Or.inr ⟨by rfl, rfl⟩) rfl ?_
              try simp only [Act.put, List.setIfInBounds_toArray, List.set_cons_zero, List.set_cons_succ]
              refine wpAnyH_take (i := 22) (oi := { dst := some 169, op := Go.Op.indexAddr 40 (Go.Operand.tmp 167) (Go.Operand.tmp 168), type := 0, pos := "law.go:86", after := #[{ on := 20, ground := Go.Ground.data }, { on := 21, ground := Go.Ground.data }, { on := 14, ground := Go.Ground.guard }], guard := some (14, true) }) (v := undef) rfl (by kernel_rfl) (by kernel_rfl) (by kernel_rfl) (fun _ _ _ h => h) (Or.inr ⟨by rfl, rfl⟩) rfl ?_
              try simp only [Act.put, List.setIfInBounds_toArray, List.set_cons_zero, List.set_cons_succ]
              refine wpAnyH_take (i := 23) (oi := { dst := some 170, op := Go.Op.load 3 (Go.Operand.tmp 169), type := 3, pos := "law.go:86", after := #[{ on := 22, ground := Go.Ground.data }, { on := 14, ground := Go.Ground.guard }], guard := some (14, true) }) (v := undef) rfl (by kernel_rfl) (by kernel_rfl) (by kernel_rfl) (fun _ _ _ h => h) (Or.inr ⟨by rfl, rfl⟩) rfl ?_
              try simp only [Act.put, List.setIfInBounds_toArray, List.set_cons_zero, List.set_cons_succ]
              refine wpAnyH_take (i := 24) (oi := { dst := some 171, op := Go.Op.binOp Go.BinOp.neq 3 (Go.Operand.tmp 166) (Go.Operand.tmp 170) 3, type := 4, pos := "law.go:86", after := #[{ on := 19, ground := Go.Ground.data }, { on := 23, ground := Go.Ground.data }, { on := 14, ground := Go.Ground.guard }], guard := some (14, true) }) (v := undef) rfl (by kernel_rfl) (by kernel_rfl) (by kernel_rfl) (fun _ _ _ h => h) (Or.inr ⟨by rfl, rfl⟩) rfl ?_
              try simp only [Act.put, List.setIfInBounds_toArray, List.set_cons_zero, List.set_cons_succ]
              refine wpAnyH_take (i := 25) (oi := { dst := some 172, op := Go.Op.pick (Go.Operand.tmp 161) (Go.Operand.tmp 171) (Go.Operand.const (Go.Value.bool false)), type := 4, pos := "law.go:86", after := #[{ on := 14, ground := Go.Ground.data }, { on := 24, ground := Go.Ground.data }, { on := 10, ground := Go.Ground.guard }], guard := some (10, false) }) (v := ?_) rfl (by kernel_rfl) (by kernel_rfl) (by kernel_rfl) (fun _ _ _ h => h) (Or.inl ⟨by rfl, ?_⟩) rfl ?_
              case refine_2 => (intro w hSw; (try dsimp only at hSw); subst hSw; go_simp <;> with_reducible rfl)
              try simp only [Act.put, List.setIfInBounds_toArray, List.set_cons_zero, List.set_cons_succ]
              refine wpAnyH_take (i := 26) (oi := { dst := some 173, op := Go.Op.pick (Go.Operand.tmp 157) (Go.Operand.const (Go.Value.bool true)) (Go.Operand.tmp 172), type := 4, pos := "law.go:86", after := #[{ on := 10, ground := Go.Ground.data }, { on := 25, ground := Go.Ground.data }], guard := none }) (v := ?_) rfl (by kernel_rfl) (by kernel_rfl) (by kernel_rfl) (fun _ _ _ h => h) (Or.inl ⟨by rfl, ?_⟩) rfl ?_
              case refine_2 => (intro w hSw; (try dsimp only at hSw); subst hSw; go_simp <;> with_reducible rfl)
              try simp only [Act.put, List.setIfInBounds_toArray, List.set_cons_zero, List.set_cons_succ]
              refine wpAnyH_done (by kernel_rfl) ?_ _
              try clear hHeld
              go_wp2
              go_roundw
              case rel => exact ⟨j + 1, by omega, by go_num, HBX.out.drew⟩
              case measure => simp [intOf]; omega
          · obtain rfl : j = K + 1 := by omega
            have I10 := Lib.hid (show InT wr (.slice (some ⟨bi, oi, none⟩) (K + 1) c8) (mnT T (K + 1)) by have h := I9.out.below HBX.out; exact h)
            have hLs2 : Hid (∀ d ∈ P, (L.getD d []).length ≤ 1000) := Lib.hid (fun d hd => by
              obtain ⟨jj, hjj⟩ := List.getElem?_of_mem hd
              have hjl := (List.getElem?_eq_some_iff.1 hjj).1
              by_cases hdL : d < L.length
              · have := HLs.out jj (by have := HPL.out; omega) d hjj hdL; omega
              · rw [List.getD_eq_getElem?_getD, List.getElem?_eq_none (by omega)]; simp)
            have FF := fill_asG (.slice (some ⟨bi, oi, none⟩) (K + 1) c8) (.slice a9 K c9) (.slice al_ L.length cl_) (mnT T (K + 1)) P L wr I10.out (J9.out.below HBX.out) (L9.out.below HBX.out) (by rw [hml]; omega) (by rw [hml]; omega) (by rw [HPL.out]; omega) (by omega) HMs.out hLs2.out
            rw [hml, flK_mn L T P (K + 1) (K + 1) (Nat.le_refl _), show S (flK L T P (K + 1)).1 = .string Y by rw [← HYl.out]] at FF
            have HFF := Lib.hid FF
            clear FF
            go_wp2_with fail
            with_reducible refine HFF.out.mono ?_
            rintro e w10 ⟨v10, rfl, hos, hb⟩
            have O10 := Lib.hid hos
            have A10 := Lib.hid (HBX.out.trans (hb.mono hxs))
            have S10 := Lib.hid (own_below S9.out A10.out)
            have W10 := Lib.hid (W9.out.trans (A10.out.mono W9.out.size))
            have hstY : ∀ i, (flK L T P (K + 1)).2 i ≤ Y.size := fun i => by have := flK_le L T P (K + 1) i; rw [← HYl.out, size_list] at this; exact this
            obtain ⟨a10, c10, rfl⟩ := own_slice hos
            clear hos hb HFF
            generalize (flK L T P (K + 1)).2 = st at O10 S10 hstY
            have HSY := Lib.hid hstY
            clear hstY
            go_wp2_with fail
            go_loopw [193] (fun i wx => ∃ q : Nat, q ≤ L.length ∧ i = .int .i64 q ∧ Below w10.heap.size w10 wx) (fun i _ => L.length - (intOf i).toNat)
            case atStart => exact ⟨0, Nat.zero_le _, rfl, Below.refl _ _⟩
            case round =>
              obtain ⟨q, hq, rfl, hbx⟩ := hrel
              have HBZ := Lib.hid hbx
              have hzs := hbx.size
              clear hbx
              by_cases hlt3 : q < L.length
              · have hlt3i : (q : Int) < (L.length : Int) := by omega
                obtain ⟨g10, rfl⟩ : ∃ g, a10 = some ⟨g, 0, none⟩ := by
                  rcases O10.out.2 with ⟨_, h0⟩ | ⟨g, cap, cur, hv, _⟩
                  · omega
                  · cases hv; exact ⟨g, rfl⟩
                have p1 := World.ownsRow.cellAt O10.out q (by omega)
                have p2 := World.ownsRow.cellAt S10.out q (by omega)
                have hg1 := (O10.out.lt g10 rfl).2
                have hg2 := (S10.out.lt _ rfl).2
                have p3 : (stL L.length st)[q]? = some (pv (st q)) := by simp [stL, hlt3]
                rw [p3] at p1 p2
                have p4 := (HBZ.out.cell (p := ⟨g10, q, none⟩) hg1).trans p1
                have p5 := (HBZ.out.cell (p := ⟨w2.heap.size, q, none⟩) hg2).trans p2
                have hg12 := Nat.lt_of_lt_of_le hg1 hzs
                have hg22 := Nat.lt_of_lt_of_le hg2 hzs
                have hsY := HSY.out q
                clear p1 p2 p3
                generalize st q = z at p4 p5 hsY
                have p6 : decide ((Y.size : Int) < (z : Int)) = false := decide_eq_false (by omega)
                go_wp2_with fail
                refine wp_region_held_drew (S := fun w' => w' = wr.drew) (by kernel_rfl) rfl (fun hHeld => ?_)
                refine wpAnyH_take (i := 0) (oi := { dst := some 196, op := Go.Op.move (Go.Operand.tmp 21), type := 40, pos := "law.go:95", after := #[], guard := none }) (v := ?_) rfl (by kernel_rfl) (by kernel_rfl) (by kernel_rfl) (fun _ _ _ h => h) (Or.inl ⟨by rfl, ?_⟩) rfl ?_
                case refine_2 => (intro w hSw; (try dsimp only at hSw); subst hSw; go_simp <;> with_reducible rfl)
                try simp only [Act.put, List.setIfInBounds_toArray, List.set_cons_zero, List.set_cons_succ]
                refine wpAnyH_take (i := 1) (oi := { dst := some 197, op := Go.Op.move (Go.Operand.tmp 22), type := 3, pos := "law.go:95", after := #[], guard := none }) (v := ?_) rfl (by kernel_rfl) (by kernel_rfl) (by kernel_rfl) (fun _ _ _ h => h) (Or.inl ⟨by rfl, ?_⟩) rfl ?_
                case refine_2 => (intro w hSw; (try dsimp only at hSw); subst hSw; go_simp <;> with_reducible rfl)
                try simp only [Act.put, List.setIfInBounds_toArray, List.set_cons_zero, List.set_cons_succ]
                refine wpAnyH_take (i := 2) (oi := { dst := some 198, op := Go.Op.indexAddr 40 (Go.Operand.tmp 196) (Go.Operand.tmp 197), type := 0, pos := "law.go:95", after := #[{ on := 0, ground := Go.Ground.data }, { on := 1, ground := Go.Ground.data }], guard := none }) (v := ?_) rfl (by kernel_rfl) (by kernel_rfl) (by kernel_rfl) (fun _ _ _ h => h) (Or.inl ⟨by rfl, ?_⟩) rfl ?_
                case refine_2 => (intro w hSw; (try dsimp only at hSw); subst hSw; go_simp <;> with_reducible rfl)
                try simp only [Act.put, List.setIfInBounds_toArray, List.set_cons_zero, List.set_cons_succ]
                refine wpAnyH_take (i := 3) (oi := { dst := some 199, op := Go.Op.load 3 (Go.Operand.tmp 198), type := 3, pos := "law.go:95", after := #[{ on := 2, ground := Go.Ground.data }], guard := none }) (v := ?_) rfl (by kernel_rfl) (by kernel_rfl) (by kernel_rfl) (fun _ _ _ h => h) (Or.inl ⟨by rfl, ?_⟩) rfl ?_
                case refine_2 => (intro w hSw; (try dsimp only at hSw); subst hSw; go_simp <;> with_reducible rfl)
                try simp only [Act.put, List.setIfInBounds_toArray, List.set_cons_zero, List.set_cons_succ]
                refine wpAnyH_take (i := 4) (oi := { dst := some 200, op := Go.Op.move (Go.Operand.tmp 12), type := 40, pos := "law.go:95", after := #[], guard := none }) (v := ?_) rfl (by kernel_rfl) (by kernel_rfl) (by kernel_rfl) (fun _ _ _ h => h) (Or.inl ⟨by rfl, ?_⟩) rfl ?_
                case refine_2 => (intro w hSw; (try dsimp only at hSw); subst hSw; go_simp <;> with_reducible rfl)
                try simp only [Act.put, List.setIfInBounds_toArray, List.set_cons_zero, List.set_cons_succ]
                refine wpAnyH_take (i := 5) (oi := { dst := some 201, op := Go.Op.move (Go.Operand.tmp 22), type := 3, pos := "law.go:95", after := #[], guard := none }) (v := ?_) rfl (by kernel_rfl) (by kernel_rfl) (by kernel_rfl) (fun _ _ _ h => h) (Or.inl ⟨by rfl, ?_⟩) rfl ?_
                case refine_2 => (intro w hSw; (try dsimp only at hSw); subst hSw; go_simp <;> with_reducible rfl)
                try simp only [Act.put, List.setIfInBounds_toArray, List.set_cons_zero, List.set_cons_succ]
                refine wpAnyH_take (i := 6) (oi := { dst := some 202, op := Go.Op.indexAddr 40 (Go.Operand.tmp 200) (Go.Operand.tmp 201), type := 0, pos := "law.go:95", after := #[{ on := 4, ground := Go.Ground.data }, { on := 5, ground := Go.Ground.data }], guard := none }) (v := ?_) rfl (by kernel_rfl) (by kernel_rfl) (by kernel_rfl) (fun _ _ _ h => h) (Or.inl ⟨by rfl, ?_⟩) rfl ?_
                case refine_2 => (intro w hSw; (try dsimp only at hSw); subst hSw; go_simp <;> with_reducible rfl)
                try simp only [Act.put, List.setIfInBounds_toArray, List.set_cons_zero, List.set_cons_succ]
                refine wpAnyH_take (i := 7) (oi := { dst := some 203, op := Go.Op.load 3 (Go.Operand.tmp 202), type := 3, pos := "law.go:95", after := #[{ on := 6, ground := Go.Ground.data }], guard := none }) (v := ?_) rfl (by kernel_rfl) (by kernel_rfl) (by kernel_rfl) (fun _ _ _ h => h) (Or.inl ⟨by rfl, ?_⟩) rfl ?_
                case refine_2 => (intro w hSw; (try dsimp only at hSw); subst hSw; go_simp <;> with_reducible rfl)
                try simp only [Act.put, List.setIfInBounds_toArray, List.set_cons_zero, List.set_cons_succ]
                refine wpAnyH_take (i := 8) (oi := { dst := some 204, op := Go.Op.binOp Go.BinOp.neq 3 (Go.Operand.tmp 199) (Go.Operand.tmp 203) 3, type := 4, pos := "law.go:95", after := #[{ on := 3, ground := Go.Ground.data }, { on := 7, ground := Go.Ground.data }], guard := none }) (v := ?_) rfl (by kernel_rfl) (by kernel_rfl) (by kernel_rfl) (fun _ _ _ h => h) (Or.inl ⟨by rfl, ?_⟩) rfl ?_
                case refine_2 => (intro w hSw; (try dsimp only at hSw); subst hSw; go_simp <;> with_reducible rfl)
                try simp only [Act.put, List.setIfInBounds_toArray, List.set_cons_zero, List.set_cons_succ]
                refine wpAnyH_take (i := 9) (oi := { dst := some 205, op := Go.Op.move (Go.Operand.tmp 204), type := 4, pos := "law.go:95", after := #[{ on := 8, ground := Go.Ground.data }], guard := none }) (v := ?_) rfl (by kernel_rfl) (by kernel_rfl) (by kernel_rfl) (fun _ _ _ h => h) (Or.inl ⟨by rfl, ?_⟩) rfl ?_
                case refine_2 => (intro w hSw; (try dsimp only at hSw); subst hSw; go_simp <;> with_reducible rfl)
                try simp only [Act.put, List.setIfInBounds_toArray, List.set_cons_zero, List.set_cons_succ]
                refine wpAnyH_take (i := 10) (oi := { dst := some 206, op := Go.Op.move (Go.Operand.tmp 21), type := 40, pos := "law.go:95", after := #[{ on := 9, ground := Go.Ground.guard }], guard := some (9, false) }) (v := ?_) rfl (by kernel_rfl) (by kernel_rfl) (by kernel_rfl) (fun _ _ _ h => h) (Or.inl ⟨by rfl, ?_⟩) rfl ?_
                case refine_2 => (intro w hSw; (try dsimp only at hSw); subst hSw; go_simp <;> with_reducible rfl)
                try simp only [Act.put, List.setIfInBounds_toArray, List.set_cons_zero, List.set_cons_succ]
                refine wpAnyH_take (i := 11) (oi := { dst := some 207, op := Go.Op.move (Go.Operand.tmp 22), type := 3, pos := "law.go:95", after := #[{ on := 9, ground := Go.Ground.guard }], guard := some (9, false) }) (v := ?_) rfl (by kernel_rfl) (by kernel_rfl) (by kernel_rfl) (fun _ _ _ h => h) (Or.inl ⟨by rfl, ?_⟩) rfl ?_
                case refine_2 => (intro w hSw; (try dsimp only at hSw); subst hSw; go_simp <;> with_reducible rfl)
                try simp only [Act.put, List.setIfInBounds_toArray, List.set_cons_zero, List.set_cons_succ]
                refine wpAnyH_take (i := 12) (oi := { dst := some 208, op := Go.Op.indexAddr 40 (Go.Operand.tmp 206) (Go.Operand.tmp 207), type := 0, pos := "law.go:95", after := #[{ on := 10, ground := Go.Ground.data }, { on := 11, ground := Go.Ground.data }, { on := 9, ground := Go.Ground.guard }], guard := some (9, false) }) (v := ?_) rfl (by kernel_rfl) (by kernel_rfl) (by kernel_rfl) (fun _ _ _ h => h) (Or.inl ⟨by rfl, ?_⟩) rfl ?_
                case refine_2 => (intro w hSw; (try dsimp only at hSw); subst hSw; go_simp <;> with_reducible rfl)
                try simp only [Act.put, List.setIfInBounds_toArray, List.set_cons_zero, List.set_cons_succ]
                refine wpAnyH_take (i := 13) (oi := { dst := some 209, op := Go.Op.load 3 (Go.Operand.tmp 208), type := 3, pos := "law.go:95", after := #[{ on := 12, ground := Go.Ground.data }, { on := 9, ground := Go.Ground.guard }], guard := some (9, false) }) (v := ?_) rfl (by kernel_rfl) (by kernel_rfl) (by kernel_rfl) (fun _ _ _ h => h) (Or.inl ⟨by rfl, ?_⟩) rfl ?_
                case refine_2 => (intro w hSw; (try dsimp only at hSw); subst hSw; go_simp <;> with_reducible rfl)
                try simp only [Act.put, List.setIfInBounds_toArray, List.set_cons_zero, List.set_cons_succ]
                refine wpAnyH_take (i := 14) (oi := { dst := some 210, op := Go.Op.move (Go.Operand.tmp 20), type := 9, pos := "law.go:95", after := #[{ on := 9, ground := Go.Ground.guard }], guard := some (9, false) }) (v := ?_) rfl (by kernel_rfl) (by kernel_rfl) (by kernel_rfl) (fun _ _ _ h => h) (Or.inl ⟨by rfl, ?_⟩) rfl ?_
                case refine_2 => (intro w hSw; (try dsimp only at hSw); subst hSw; go_simp <;> with_reducible rfl)
                try simp only [Act.put, List.setIfInBounds_toArray, List.set_cons_zero, List.set_cons_succ]
                refine wpAnyH_take (i := 15) (oi := { dst := some 211, op := Go.Op.call { callee := Go.Callee.builtin Go.Builtin.len, args := #[Go.Operand.tmp 210], argTypes := #[9] }, type := 3, pos := "law.go:95", after := #[{ on := 14, ground := Go.Ground.data }, { on := 9, ground := Go.Ground.guard }], guard := some (9, false) }) (v := ?_) rfl (by kernel_rfl) (by kernel_rfl) (by kernel_rfl) (fun _ _ _ h => h) (Or.inl ⟨by rfl, ?_⟩) rfl ?_
                case refine_2 => (intro w hSw; (try dsimp only at hSw); subst hSw; go_simp <;> with_reducible rfl)
                try simp only [Act.put, List.setIfInBounds_toArray, List.set_cons_zero, List.set_cons_succ]
                refine wpAnyH_take (i := 16) (oi := { dst := some 212, op := Go.Op.binOp Go.BinOp.gtr 3 (Go.Operand.tmp 209) (Go.Operand.tmp 211) 3, type := 4, pos := "law.go:95", after := #[{ on := 13, ground := Go.Ground.data }, { on := 15, ground := Go.Ground.data }, { on := 9, ground := Go.Ground.guard }], guard := some (9, false) }) (v := ?_) rfl (by kernel_rfl) (by kernel_rfl) (by kernel_rfl) (fun _ _ _ h => h) (Or.inl ⟨by rfl, ?_⟩) rfl ?_
                case refine_2 => (intro w hSw; (try dsimp only at hSw); subst hSw; go_simp <;> with_reducible rfl)
                try simp only [Act.put, List.setIfInBounds_toArray, List.set_cons_zero, List.set_cons_succ]
                refine wpAnyH_take (i := 17) (oi := { dst := some 213, op := Go.Op.pick (Go.Operand.tmp 205) (Go.Operand.const (Go.Value.bool true)) (Go.Operand.tmp 212), type := 4, pos := "law.go:95", after := #[{ on := 9, ground := Go.Ground.data }, { on := 16, ground := Go.Ground.data }], guard := none }) (v := ?_) rfl (by kernel_rfl) (by kernel_rfl) (by kernel_rfl) (fun _ _ _ h => h) (Or.inl ⟨by rfl, ?_⟩) rfl ?_
                case refine_2 => (intro w hSw; (try dsimp only at hSw); subst hSw; go_simp <;> with_reducible rfl)
                try simp only [Act.put, List.setIfInBounds_toArray, List.set_cons_zero, List.set_cons_succ]
                refine wpAnyH_done (by kernel_rfl) ?_ _
                try clear hHeld
                go_wp2
                go_roundw
                case rel => exact ⟨q + 1, by omega, by go_num, HBZ.out.drew⟩
                case measure => simp [intOf]; omega
              · obtain rfl : q = L.length := by omega
                go_wp2
                go_ret
                exact ⟨rfl, W10.out.trans (HBZ.out.mono W10.out.size)⟩
end Go.Proofs.YtmopcgmodaahkaaDoor
