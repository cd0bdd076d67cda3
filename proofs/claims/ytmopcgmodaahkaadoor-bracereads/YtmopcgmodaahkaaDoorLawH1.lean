/- The walk of the law BraceReads. -/
import Derived.Test.YtmopcgmodaahkaaDoorBrE
namespace Go.Proofs.YtmopcgmodaahkaaDoor
open Go.RowKit Florin
set_option linter.unusedVariables false
set_option linter.unusedSimpArgs false
/-- Ten cells tell which places were seen. -/
def Seen (w : World) (b : Nat) (P : List Nat) : Prop := b < w.heap.size ∧ ∀ k, k < 10 → w.cell? ⟨b, k, none⟩ = some (.bool (decide (k ∈ P))) ∧ w.frozen? ⟨b, k, none⟩ = false
theorem Seen.below {w w' : World} {b : Nat} {P : List Nat} (h : Seen w b P) (hb : Below w.heap.size w w') : Seen w' b P :=
  ⟨Nat.lt_of_lt_of_le h.1 hb.size, fun k hk => ⟨(hb.cell (p := ⟨b, k, none⟩) h.1).trans (h.2 k hk).1, (World.frozen?_of_block (a := ⟨b, k, none⟩) (hb.block b h.1)).trans (h.2 k hk).2⟩⟩
theorem Seen.set {w : World} {b : Nat} {P : List Nat} (h : Seen w b P) (d : Nat) (hd : d < 10) : Seen (w.setCell ⟨b, d, none⟩ (.bool true)) b (P ++ [d]) := by
  refine ⟨by simpa using h.1, fun k hk => ⟨?_, by simpa using (h.2 k hk).2⟩⟩
  by_cases e : k = d
  · subst e
    rw [World.cell?_setCell_same w _ _ (h.2 k hk).1]; simp
  · rw [World.cell?_setCell_other w _ _ _ (by intro h; apply e; injection h with h1 h2; exact h2.symm), (h.2 k hk).1]
    simp [e]
theorem Seen.new (w : World) : Seen (w.alloc (.cells #[.bool false, .bool false, .bool false, .bool false, .bool false, .bool false, .bool false, .bool false, .bool false, .bool false] 50)) w.heap.size [] := by
  refine ⟨by simp, fun k hk => ?_⟩
  have h := heap_alloc_new w (.cells #[.bool false, .bool false, .bool false, .bool false, .bool false, .bool false, .bool false, .bool false, .bool false, .bool false] 50)
  refine ⟨?_, Lib.frozen_of_heap h k⟩
  rw [Lib.cell_of_heap h k]
  match k, hk with
  | 0, _ => rfl
  | 1, _ => rfl
  | 2, _ => rfl
  | 3, _ => rfl
  | 4, _ => rfl
  | 5, _ => rfl
  | 6, _ => rfl
  | 7, _ => rfl
  | 8, _ => rfl
  | 9, _ => rfl
theorem jnB_mem_len : ∀ (T : List (List UInt8)) (P : List Nat) (t : List UInt8), t ∈ T → t.length ≤ (jnB T P).length
  | [], P, t, h => absurd h (by simp)
  | s :: T, [], t, h => by
    show _ ≤ (s ++ jnB T []).length
    rw [List.length_append]
    rcases List.mem_cons.1 h with h | h
    · subst h; omega
    · have := jnB_mem_len T [] t h; omega
  | s :: T, d :: P, t, h => by
    show _ ≤ (s ++ sgB d ++ jnB T P).length
    rw [List.length_append, List.length_append]
    rcases List.mem_cons.1 h with h | h
    · subst h; omega
    · have := jnB_mem_len T P t h; omega
theorem at_list (s : ByteArray) (i : Nat) (h : i < s.size) : s.data.toList.drop i = s[i] :: s.data.toList.drop (i + 1) := by
  have hq : i < s.data.toList.length := by rw [size_list]; exact h
  rw [List.drop_eq_getElem_cons hq]; rfl
theorem isBr_iff (c : UInt8) : isBr c = true ↔ c.toNat = 123 ∨ c.toNat = 125 := by
  unfold isBr
  rw [Bool.or_eq_true, beq_iff_eq, beq_iff_eq, ← UInt8.toNat_inj, ← UInt8.toNat_inj]
  rfl
theorem plcB_iff (l : List UInt8) : (∃ d, plcB l = some d) ∨ plcB l = none := by cases plcB l with | none => exact .inr rfl | some d => exact .inl ⟨d, rfl⟩
/-- Where no place stands. -/
theorem plcB_not {l : List UInt8} (h : ∀ d, d < 10 → ∀ t, l ≠ 123 :: dg d :: 125 :: t) : plcB l = none := by
  rcases plcB_iff l with ⟨d, hd⟩ | h2
  · obtain ⟨h1, t, ht⟩ := plcB_is hd
    exact absurd ht (h d h1 t)
  · exact h2
section
variable (n : Int) (s : ByteArray) (i : Nat) (cur : List UInt8) (T : List (List UInt8)) (P : List Nat)
theorem rd_close (h : i < s.size) (h2 : s[i].toNat = 125) : brS n (s.data.toList.drop i) 0 i cur T P = .bad 1 i := by
  rw [at_list s i h]
  refine brS_none n ((isBr_iff _).2 (.inr h2)) (plcB_not fun d hd t e => ?_) i cur T P
  have := congrArg UInt8.toNat (List.cons.inj e).1
  rw [h2] at this; exact absurd this (by decide)
theorem rd_plain (h : i < s.size) (h1 : ¬ s[i].toNat = 123) (h2 : ¬ s[i].toNat = 125) : brS n (s.data.toList.drop i) 0 i cur T P = brS n (s.data.toList.drop (i + 1)) 0 (i + 1) (cur ++ [s[i]]) T P := by
  rw [at_list s i h]
  exact brS_plain n (by cases hb : isBr s[i] with | false => rfl | true => rcases (isBr_iff _).1 hb with h | h <;> omega) _ _ _ _ _
theorem rd_short (h : i < s.size) (h1 : s[i].toNat = 123) (h2 : s.size ≤ i + 2) : brS n (s.data.toList.drop i) 0 i cur T P = .bad 1 i := by
  have e := at_list s i h
  have hl := congrArg List.length e
  rw [e]
  refine brS_none n ((isBr_iff _).2 (.inl h1)) (plcB_not fun d hd t e2 => ?_) i cur T P
  have := congrArg List.length e2
  rw [List.length_drop, size_list] at hl
  simp only [List.length_cons] at this hl
  omega
theorem rd_three (h : i + 2 < s.size) : s.data.toList.drop i = s[i] :: s[i + 1] :: s[i + 2] :: s.data.toList.drop (i + 3) := by
  rw [at_list s i (by omega), at_list s (i + 1) (by omega), at_list s (i + 2) (by omega)]
theorem rd_bad (h : i + 2 < s.size) (h1 : s[i].toNat = 123) (h2 : s[i + 1].toNat < 48 ∨ 57 < s[i + 1].toNat ∨ ¬ s[i + 2].toNat = 125) : brS n (s.data.toList.drop i) 0 i cur T P = .bad 1 i := by
  rw [rd_three s i h]
  refine brS_none n ((isBr_iff _).2 (.inl h1)) (plcB_not fun d hd t e2 => ?_) i cur T P
  simp only [List.cons.injEq] at e2
  have g1 := congrArg UInt8.toNat e2.2.1
  have g2 := congrArg UInt8.toNat e2.2.2.1
  rw [dg_nat hd] at g1
  have g3 : (125 : UInt8).toNat = 125 := rfl
  rw [g3] at g2
  omega
theorem rd_plc (h : i + 2 < s.size) (h1 : s[i].toNat = 123) (h2 : 48 ≤ s[i + 1].toNat) (h3 : s[i + 1].toNat ≤ 57) (h4 : s[i + 2].toNat = 125) : s.data.toList.drop i = 123 :: dg (s[i + 1].toNat - 48) :: 125 :: s.data.toList.drop (i + 3) := by
  rw [rd_three s i h]
  have e1 : s[i] = 123 := UInt8.toNat_inj.1 h1
  have e3 : s[i + 2] = 125 := UInt8.toNat_inj.1 h4
  rw [e1, e3, ← dg_of h2 h3]
theorem rd_arg (h : i + 2 < s.size) (h1 : s[i].toNat = 123) (h2 : 48 ≤ s[i + 1].toNat) (h3 : s[i + 1].toNat ≤ 57) (h4 : s[i + 2].toNat = 125) (h5 : n ≤ ((s[i + 1].toNat - 48 : Nat) : Int) ∨ s[i + 1].toNat - 48 ∈ P) :
    brS n (s.data.toList.drop i) 0 i cur T P = .bad 3 i := by
  rw [rd_plc s i h h1 h2 h3 h4]
  have e : plcB (123 :: dg (s[i + 1].toNat - 48) :: 125 :: s.data.toList.drop (i + 3)) = some (s[i + 1].toNat - 48) := by
    rw [← dg_of h2 h3]; exact plcB_some h2 h3
  exact brS_arg n rfl e i cur T P h5
theorem rd_more (h : i + 2 < s.size) (h1 : s[i].toNat = 123) (h2 : 48 ≤ s[i + 1].toNat) (h3 : s[i + 1].toNat ≤ 57) (h4 : s[i + 2].toNat = 125) (h5 : ¬ n ≤ ((s[i + 1].toNat - 48 : Nat) : Int)) (h6 : s[i + 1].toNat - 48 ∉ P) :
    brS n (s.data.toList.drop i) 0 i cur T P = brS n (s.data.toList.drop (i + 3)) 0 (i + 3) [] (T ++ [cur]) (P ++ [s[i + 1].toNat - 48]) := by
  rw [rd_plc s i h h1 h2 h3 h4]
  exact brS_more n (by omega) i cur T P (by rintro (h | h); exact h5 h; exact h6 h)
theorem rd_end (h : ¬ i < s.size) (hi : i ≤ s.size) : brS n (s.data.toList.drop i) 0 i cur T P = if (P.length : Int) < min n 10 then .bad 3 s.size else .ok (T ++ [cur]) P := by
  rw [List.drop_eq_nil_of_le (by rw [size_list]; omega)]
  obtain rfl : i = s.size := by omega
  rfl
end
theorem eR_bad {c k : Nat} {R : BR} (h : .bad c k = R) : (eR R : Int) = c ∧ (kR R : Int) = k ∧ (nR R).1 = 0 := by subst h; exact ⟨rfl, rfl, rfl⟩
attribute [local go_sem ↓] Go.wp_at_zero Go.wp_at_succ
set_option maxRecDepth 100000 in
set_option maxHeartbeats 6400000 in
theorem braceReads_walk (s : ByteArray) (n : Int) (w : World) (_hs : s.size ≤ maxLen) (_hn : (Lit.int .i64 n).wf = true) (hTab : Tabs w) :
    Calls Tryd.prog 6 #[.string s, .int .i64 n] w fun x w' => x = .returned (.bool true) ∧ Below w.heap.size w w' := by
  have HT := Lib.hid hTab
  clear hTab
  by_cases hbig : (100 : Int) < (s.size : Int)
  · go_enter Tryd.func6, Tryd.ntmps6
    go_wp2_with fail
    with_reducible refine (head13 _ HT.out).mono ?_
    rintro x w1 ⟨rfl, hb⟩
    go_wp2
    go_ret
    exact ⟨rfl, hb⟩
  · have hsz : s.size ≤ 100 := by omega
    go_enter Tryd.func6, Tryd.ntmps6
    go_wp2_with fail
    with_reducible refine (head13 _ HT.out).mono ?_
    rintro x w1 ⟨rfl, hb⟩
    have B1 := Lib.hid hb
    have T1 := Lib.hid (HT.out.below hb)
    clear hb
    go_wp2_with fail
    generalize wrap64 (n.tmod 14 - 1) = m
    cases hr : rightL s.data.toList with
    | false =>
      have HR := Lib.hid hr
      clear hr
      with_reducible refine (bparse_no s m _ T1.out (by omega) HR.out).mono ?_
      rintro e w2 ⟨rfl, hb⟩
      have B2 := Lib.hid (B1.out.trans (hb.mono B1.out.size))
      have T2 := Lib.hid ((T1.out.below hb).below ((Below.refl _ w2).alloc (Nat.le_refl _) (.cells #[.slice none 0 0, .slice none 0 0] TBr)))
      have X2 := Lib.hid (BoxT.new w2 #[.slice none 0 0, .slice none 0 0] TBr)
      have B2a := Lib.hid (B2.out.alloc B2.out.size (.cells #[.slice none 0 0, .slice none 0 0] TBr))
      clear hb
      go_wp2_with fail
      with_reducible refine (right_as s _ T2.out (by omega) false HR.out).mono ?_
      rintro e w3 ⟨rfl, hb⟩
      have B3 := Lib.hid (B2a.out.trans (hb.mono B2a.out.size))
      have X3 := Lib.hid (X2.out.below hb)
      have c0 := X3.out.cell 0
      have xl := X3.out.lt
      simp at c0
      clear hb
      go_wp2
      go_ret
      exact ⟨rfl, B3.out⟩
    | true =>
      obtain ⟨R, hR⟩ : ∃ R, brS m s.data.toList 0 0 [] [] [] = R := ⟨_, rfl⟩
      have HR := Lib.hid hr
      have HRR := Lib.hid hR
      clear hr
      with_reducible refine (bparse_as s m _ T1.out (by omega) HR.out R HRR.out).mono ?_
      rintro e w2 ⟨hbt, hb⟩
      obtain ⟨at_, ct_, ap_, cp_, rfl, hok⟩ := btold_all hbt
      have HOK := Lib.hid hok
      have B2 := Lib.hid (B1.out.trans (hb.mono B1.out.size))
      have T2 := Lib.hid ((T1.out.below hb).below ((Below.refl _ w2).alloc (Nat.le_refl _) (.cells #[.slice at_ (nR R).1 ct_, .slice ap_ (nR R).2 cp_] TBr)))
      have X2 := Lib.hid (BoxT.new w2 #[.slice at_ (nR R).1 ct_, .slice ap_ (nR R).2 cp_] TBr)
      have B2a := Lib.hid (B2.out.alloc B2.out.size (.cells #[.slice at_ (nR R).1 ct_, .slice ap_ (nR R).2 cp_] TBr))
      have hw1 := B1.out.size
      have hw0 := B2.out.size
      clear hb hok hbt hR
      go_wp2_with fail
      with_reducible refine (right_as s _ T2.out (by omega) true HR.out).mono ?_
      rintro e w3 ⟨rfl, hb⟩
      have B3 := Lib.hid (B2a.out.trans (hb.mono B2a.out.size))
      have X3 := Lib.hid (X2.out.below hb)
      have hw2 := X3.out.lt
      have hb23 : Hid (Below w2.heap.size w2 w3) := Lib.hid (((Below.refl _ w2).alloc (Nat.le_refl _) _).trans (hb.mono (by simp)))
      clear hb
      go_wp2_with fail
      have S0 : Hid (Seen (w3.alloc (.cells #[.bool false, .bool false, .bool false, .bool false, .bool false, .bool false, .bool false, .bool false, .bool false, .bool false] 50)) w3.heap.size []) := Lib.hid (Seen.new w3)
      go_loopw [9, 10] (fun pl i wr => ∃ (i0 : Nat) (cur : List UInt8) (T : List (List UInt8)) (P : List Nat), i = .int .i64 i0 ∧ pl = .int .i64 P.length ∧ i0 ≤ s.size ∧ P.length ≤ i0 ∧ brS m (s.data.toList.drop i0) 0 i0 cur T P = R ∧ BoxT wr w2.heap.size #[.slice at_ (nR R).1 ct_, .slice ap_ (nR R).2 cp_] TBr ∧ Seen wr w3.heap.size P ∧ Below w3.heap.size w3 wr) (fun _ i _ => s.size + 1 - (intOf i).toNat)
      case atStart => exact ⟨0, [], [], [], rfl, rfl, Nat.zero_le _, Nat.le_refl _, HRR.out, X3.out.alloc _, S0.out, (Below.refl _ _).alloc (Nat.le_refl _) _⟩
      case round =>
        obtain ⟨i, cur, T, P, rfl, rfl, hi, hPi, hbr, hx, hse, hb⟩ := hrel
        have HS := Lib.hid hbr
        have HX := Lib.hid hx
        have HSE := Lib.hid hse
        have HBW := Lib.hid hb
        have BW := Lib.hid (B3.out.trans (hb.mono (by omega)))
        have hii : (i : Int) ≤ (s.size : Int) := by omega
        have c0 := hx.cell 0
        have c1 := hx.cell 1
        have xl := hx.lt
        simp at c0 c1
        clear hbr hx hse hb
        by_cases hlt : i < s.size
        · have hlti : (i : Int) < (s.size : Int) := by omega
          by_cases h1 : s[i].toNat = 125
          · obtain ⟨e1, e2, e3⟩ := eR_bad ((rd_close m s i cur T P hlt h1).symm.trans HS.out)
            have h1i : (s[i].toNat : Int) = 125 := by omega
            clear h1
            go_wp2
            go_ret
            exact ⟨rfl, BW.out⟩
          · by_cases h2 : s[i].toNat = 123
            · have h2i : (s[i].toNat : Int) = 123 := by omega
              by_cases h3 : s.size ≤ i + 2
              · obtain ⟨e1, e2, e3⟩ := eR_bad ((rd_short m s i cur T P hlt h2 h3).symm.trans HS.out)
                have h3i : (s.size : Int) ≤ (i : Int) + 2 := by omega
                clear h1 h2
                go_wp2
                go_ret
                exact ⟨rfl, BW.out⟩
              · have h3n : i + 2 < s.size := by omega
                have h3i : ¬ (s.size : Int) ≤ (i : Int) + 2 := by omega
                have q1 : (i : Int) + 1 < (s.size : Int) := by omega
                have q2 : (i : Int) + 2 < (s.size : Int) := by omega
                have hlt1 : i + 1 < s.size := by omega
                by_cases h4 : s[i + 1].toNat < 48
                · obtain ⟨e1, e2, e3⟩ := eR_bad ((rd_bad m s i cur T P h3n h2 (.inl h4)).symm.trans HS.out)
                  have h4i : (s[i + 1].toNat : Int) < 48 := by omega
                  clear h1 h2 h4
                  go_wp2
                  go_ret
                  exact ⟨rfl, BW.out⟩
                · have h4i : ¬ (s[i + 1].toNat : Int) < 48 := by omega
                  by_cases h5 : 57 < s[i + 1].toNat
                  · obtain ⟨e1, e2, e3⟩ := eR_bad ((rd_bad m s i cur T P h3n h2 (.inr (.inl h5))).symm.trans HS.out)
                    have h5i : (57 : Int) < (s[i + 1].toNat : Int) := by omega
                    clear h1 h2 h4 h5
                    go_wp2
                    go_ret
                    exact ⟨rfl, BW.out⟩
                  · have h5i : ¬ (57 : Int) < (s[i + 1].toNat : Int) := by omega
                    by_cases h6 : s[i + 2].toNat = 125
                    · have h6i : (s[i + 2].toNat : Int) = 125 := by omega
                      obtain ⟨d, hd⟩ : ∃ d, s[i + 1].toNat - 48 = d := ⟨_, rfl⟩
                      have hd10 : d < 10 := by omega
                      have hdi : (s[i + 1].toNat : Int) - 48 = (d : Int) := by omega
                      have hdi2 : (d : Int) < 10 := by omega
                      have hse := (HSE.out.2 d hd10)
                      have hsl := HSE.out.1
                      have hs1 := hse.1
                      have hs2 := hse.2
                      by_cases h7 : m ≤ (d : Int)
                      · obtain ⟨e1, e2, e3⟩ := eR_bad ((rd_arg m s i cur T P h3n h2 (by omega) (by omega) h6 (.inl (by rw [hd]; exact h7))).symm.trans HS.out)
                        clear h1 h2 h4 h5 h6 hd hse
                        go_wp2
                        go_ret
                        exact ⟨rfl, BW.out⟩
                      · by_cases h8 : d ∈ P
                        · obtain ⟨e1, e2, e3⟩ := eR_bad ((rd_arg m s i cur T P h3n h2 (by omega) (by omega) h6 (.inr (by rw [hd]; exact h8))).symm.trans HS.out)
                          rw [decide_eq_true h8] at hs1
                          clear h1 h2 h4 h5 h6 hd hse h8
                          go_wp2
                          go_ret
                          exact ⟨rfl, BW.out⟩
                        · have HM := Lib.hid ((rd_more m s i cur T P h3n h2 (by omega) (by omega) h6 (by rw [hd]; exact h7) (by rw [hd]; exact h8)).symm.trans HS.out)
                          rw [hd] at HM
                          rw [decide_eq_false h8] at hs1
                          have HSE2 := Lib.hid (HSE.out.set d hd10)
                          have HX2 := Lib.hid (HX.out.other (a := ⟨w3.heap.size, d, none⟩) (show w2.heap.size ≠ w3.heap.size by omega) (.bool true))
                          have HB2 := Lib.hid (HBW.out.setCell (p := ⟨w3.heap.size, d, none⟩) (Nat.le_refl _) (.bool true))
                          clear h1 h2 h4 h5 h6 hd hse h8
                          go_wp2
                          go_roundw
                          case rel => exact ⟨i + 3, [], T ++ [cur], P ++ [d], by go_num, by rw [List.length_append]; rfl, by omega, by rw [List.length_append]; simp; omega, HM.out, HX2.out, HSE2.out, HB2.out⟩
                          case measure => simp [intOf]; omega
                    · obtain ⟨e1, e2, e3⟩ := eR_bad ((rd_bad m s i cur T P h3n h2 (.inr (.inr h6))).symm.trans HS.out)
                      have h6i : ((s[i + 2].toNat : Int) != 125) = true := by simp; omega
                      clear h1 h2 h4 h5 h6
                      go_wp2
                      go_ret
                      exact ⟨rfl, BW.out⟩
            · have HM := Lib.hid ((rd_plain m s i cur T P hlt h2 h1).symm.trans HS.out)
              have h1i : ¬ (s[i].toNat : Int) = 125 := by omega
              have h2i : ¬ (s[i].toNat : Int) = 123 := by omega
              clear h1 h2
              go_wp2
              go_roundw
              case rel => exact ⟨i + 1, cur ++ [s[i]], T, P, by go_num, rfl, by omega, by omega, HM.out, HX.out, HSE.out, HBW.out⟩
              case measure => simp [intOf]; omega
        · have hlti : ¬ (i : Int) < (s.size : Int) := by omega
          have HE := Lib.hid ((rd_end m s i cur T P hlt hi).symm.trans HS.out)
          by_cases hm : (P.length : Int) < min m 10
          · have hm2 : (P.length : Int) < min (max m 0) 10 := by omega
            obtain ⟨e1, e2, e3⟩ := eR_bad (show BR.bad 3 s.size = R by rw [← HE.out, if_pos hm])
            clear hm
            go_wp2
            go_ret
            exact ⟨rfl, BW.out⟩
          · have hm2 : ¬ (P.length : Int) < min (max m 0) 10 := by omega
            have HK : Hid (R = .ok (T ++ [cur]) P) := Lib.hid (by rw [← HE.out, if_neg hm])
            have HO := Lib.hid (HOK.out _ _ HK.out)
            have HF := Lib.hid (brS_ok m s.size s.data.toList 0 [] [] [] (T ++ [cur]) P (by rw [size_list]; exact Nat.le_refl _) rfl (by simp) List.nodup_nil (by simp) (by simp) (HRR.out.trans HK.out))
            have e1 : (eR R : Int) = 0 := by rw [HK.out]; rfl
            have e2 : (kR R : Int) = 0 := by rw [HK.out]; rfl
            have e3 : (nR R).1 = P.length + 1 := by rw [HK.out]; exact HF.out.2.1
            have e4 : (nR R).2 = P.length := by rw [HK.out]; rfl
            have hTl := HF.out.2.1
            have hLs : Hid (∀ t ∈ T ++ [cur], t.length ≤ 1000) := Lib.hid (fun t ht => by
              have h1 := jnB_mem_len (T ++ [cur]) P t ht
              rw [HF.out.1] at h1
              simp only [jnB, List.nil_append, List.append_nil, size_list] at h1
              omega)
            have hJ : Hid (jnB (T ++ [cur]) P = s.data.toList) := Lib.hid (by rw [HF.out.1]; simp [jnB])
            have hW : Below w2.heap.size w2 wr := hb23.out.trans (HBW.out.mono hb23.out.size)
            have I1 : InT wr (.slice at_ (P.length + 1) ct_) (T ++ [cur]) := by have := (OwnT.inT HO.out.1).below hW; rw [hTl] at this; show InF _ _ (T ++ [cur]).length _; rw [hTl]; exact this
            have I2 : InP wr (.slice ap_ P.length cp_) P := (OwnP.inP HO.out.2).below hW
            have FS : Hid (Calls Tryd.prog 18 #[.agg #[.slice at_ (P.length + 1) ct_, .slice ap_ P.length cp_]] wr fun e w' => e = .returned (.string s) ∧ Below wr.heap.size wr w') := Lib.hid (by
              have := bstr_as (.slice at_ (P.length + 1) ct_) (.slice ap_ P.length cp_) (T ++ [cur]) P wr I1 I2 (by rw [hTl]; omega) (by rw [hTl]; omega) (by rw [hTl]; omega) hLs.out (fun d hd => (HF.out.2.2.1 d hd).1) s.data.toList hJ.out
              rw [show S s.data.toList = .string s by show Value.string ⟨_⟩ = _; rw [list_arr]] at this
              exact this)
            clear I1 I2 hW hm hTl
            rw [e3] at c0
            rw [e4] at c1
            go_wp2_with fail
            with_reducible refine FS.out.mono ?_
            rintro e w6 ⟨rfl, hb⟩
            have BW6 := Lib.hid (BW.out.trans (hb.mono BW.out.size))
            have X6 := Lib.hid (HX.out.below hb)
            have c0 := X6.out.cell 0
            have c1 := X6.out.cell 1
            have xl := X6.out.lt
            simp at c0 c1
            clear hb
            go_wp2
            go_ret
            exact ⟨rfl, BW6.out⟩
end Go.Proofs.YtmopcgmodaahkaaDoor
