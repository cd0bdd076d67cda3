/- The walk of the law ClassGrammar. -/
import Derived.Test.YtbfhkcljkblnmaaDoorCrW
import Derived.Test.YtbfhkcljkblnmaaDoorCrZ
namespace Go.Proofs.YtbfhkcljkblnmaaDoor
open Go.RowKit Florin
set_option linter.unusedVariables false
set_option linter.unusedSimpArgs false
attribute [local go_sem ↓] Go.wp_at_zero Go.wp_at_succ
theorem want_is {c d xs : List (Int × Int)} {nt : Bool} (hc : settledC c) (hd : settledC d) (hm : ∀ z, memC c z ↔ 0 ≤ z ∧ z ≤ cTop ∧ (nt != hasC xs z) = true) (hk : ∀ r, hasC d r = (topB r && (nt != hasC xs r))) : decide (c = d) = true := by
  refine decide_eq_true (ext_b hc hd (fun r => ?_))
  have h := hm r
  rw [← hasC_iff] at h
  unfold cTop at h
  rw [Bool.eq_iff_iff, h, hk r]
  unfold topB
  simp [and_assoc]
theorem es_text (nt : Bool) (es : List El) : preN nt ++ txtE es = (if nt then [91, 94] else [91]) ++ txtE es := rfl
theorem txtE_len {es : List El} (h : ∀ e ∈ es, e.ok) : (txtE es).length ≤ 47 * es.length + 1 := by
  have := flatE_len es h
  unfold txtE
  rw [List.length_append]
  simp only [List.length_cons, List.length_nil]
  omega
set_option maxRecDepth 100000 in
set_option maxHeartbeats 3200000 in
theorem classGrammar_walk (ps : List PairM) (v0 : Value) (nt : Bool) (w : World) (h0 : InP w v0 ps) (hTD : Tabs w ∧ Deb w) :
    Calls Tryd.prog 5 #[v0, .bool nt] w fun x w' => x = .returned (.bool true) ∧ Below w.heap.size w w' := by
  have HT := Lib.hid hTD.1
  have HD := Lib.hid hTD.2
  have HH := Lib.hid h0
  obtain ⟨a0, p0, rfl, _⟩ := h0
  clear hTD
  by_cases hbig : (20 : Int) < (ps.length : Int)
  · go_enter Tryd.func5, Tryd.ntmps5
    go_wp2_with fail
    with_reducible refine (head10 _ HT.out HD.out).mono ?_
    rintro x w1 ⟨rfl, hb⟩
    go_wp2
    go_ret
    exact ⟨rfl, hb⟩
  · have hl20 : ps.length ≤ 20 := by omega
    go_enter Tryd.func5, Tryd.ntmps5
    go_wp2_with fail
    with_reducible refine (head10 _ HT.out HD.out).mono ?_
    rintro x w1 ⟨rfl, hb⟩
    have B1 := Lib.hid hb
    have T1 := Lib.hid (HT.out.below hb)
    have I1 := Lib.hid (HH.out.below hb)
    clear hb HH
    go_wp2_with fail
    with_reducible refine (write_as _ _ ps nt I1.out hl20).mono ?_
    rintro x w2 ⟨v2, es, rfl, hok, ho, hes, hb⟩
    have hel : es.length ≤ 20 := by omega
    have B2 := Lib.hid (B1.out.trans (hb.mono B1.out.size))
    have T2 := Lib.hid (T1.out.below hb)
    have I2 := Lib.hid ho.inC
    have HCE := Lib.hid (class_es nt es hok)
    have HLEN : Hid ((preN nt ++ txtE es).length ≤ 1000000) := Lib.hid (by
      have h1 := txtE_len hok
      have h2 : (preN nt).length ≤ 2 := by unfold preN; cases nt <;> simp
      rw [List.length_append]
      omega)
    have hml : (es.map El.rng).length ≤ 1000000 := by rw [List.length_map]; omega
    generalize es.map El.rng = xs at *
    generalize hTX : preN nt ++ txtE es = TX at *
    have HTX := Lib.hid hTX
    clear hok ho hes hb hTX
    go_wp2_with fail
    with_reducible refine (made_at _ v2 xs I2.out hml).mono ?_
    rintro x w3 ⟨v3, c3, rfl, hs3, hm3, ho3, hb3⟩
    have B3 := Lib.hid (B2.out.trans (hb3.mono B2.out.size))
    have T3 := Lib.hid (T2.out.below hb3)
    have I3 := Lib.hid ho3.inC
    have S3 := Lib.hid hs3
    have M3 := Lib.hid hm3
    have HPAR : Hid (∀ W, Tabs W → Calls Tryd.prog 23 #[S TX] W fun e w' => ∃ v c, e = .returned (.tuple #[v, .int .i64 0, .int .i64 0]) ∧ OwnC w' W.heap.size v c ∧ settledC c ∧ (∀ z, memC c z ↔ 0 ≤ z ∧ z ≤ cTop ∧ (nt != hasC xs z) = true) ∧ Below W.heap.size W w') := Lib.hid (fun W hT => by
      refine (parse_as ⟨TX.toArray⟩ W (by rw [arr_size]; exact HLEN.out) hT).mono ?_
      intro e w' hp
      unfold ParTold at hp
      rw [arr_list, ← HTX.out, es_text, HCE.out, if_pos rfl] at hp
      exact hp)
    clear hs3 hm3 ho3 hb3 HLEN HCE HTX
    cases nt with
    | false =>
      go_wp2_with fail
      with_reducible refine (HPAR.out _ T3.out).mono ?_
      rintro x w4 ⟨v4, c4, rfl, ho4, hs4, hm4, hb4⟩
      have B4 := Lib.hid (B3.out.trans (hb4.mono B3.out.size))
      have I4 := Lib.hid (I3.out.below hb4 (Nat.le_refl _))
      have J4 := Lib.hid ho4.inC
      have HW := Lib.hid (want_is hs4 S3.out hm4 (fun r => by rw [M3.out r]; simp))
      have S4 := Lib.hid hs4
      clear ho4 hs4 hm4 hb4
      go_wp2_with fail
      with_reducible refine (same_as _ v4 v3 c4 c3 J4.out I4.out (settled_few S4.out) (settled_few S3.out) true HW.out).mono ?_
      rintro x w5 ⟨rfl, hb5⟩
      have B5 := Lib.hid (B4.out.trans (hb5.mono B4.out.size))
      clear hb5
      go_wp2
      go_ret
      exact ⟨rfl, B5.out⟩
    | true =>
      go_wp2_with fail
      with_reducible refine (not_at _ v3 c3 I3.out S3.out).mono ?_
      rintro x w6 ⟨v6, c6, rfl, hs6, hm6, ho6, hb6⟩
      have B6 := Lib.hid (B3.out.trans (hb6.mono B3.out.size))
      have T6 := Lib.hid (T3.out.below hb6)
      have I6 := Lib.hid ho6.inC
      have S6 := Lib.hid hs6
      have M6 := Lib.hid hm6
      clear hs6 hm6 ho6 hb6
      go_wp2_with fail
      with_reducible refine (HPAR.out _ T6.out).mono ?_
      rintro x w4 ⟨v4, c4, rfl, ho4, hs4, hm4, hb4⟩
      have B4 := Lib.hid (B6.out.trans (hb4.mono B6.out.size))
      have I4 := Lib.hid (I6.out.below hb4 (Nat.le_refl _))
      have J4 := Lib.hid ho4.inC
      have HW := Lib.hid (want_is hs4 S6.out hm4 (fun r => by rw [M6.out r, M3.out r]; cases topB r <;> simp))
      have S4 := Lib.hid hs4
      clear ho4 hs4 hm4 hb4
      go_wp2_with fail
      with_reducible refine (same_as _ v4 v6 c4 c6 J4.out I4.out (settled_few S4.out) (settled_few S6.out) true HW.out).mono ?_
      rintro x w5 ⟨rfl, hb5⟩
      have B5 := Lib.hid (B4.out.trans (hb5.mono B4.out.size))
      clear hb5
      go_wp2
      go_ret
      exact ⟨rfl, B5.out⟩
end Go.Proofs.YtbfhkcljkblnmaaDoor
