/- The law DecReads, whatever came in. -/
import Derived.Test.YtlppofjmkepceaaDoorDawS
import Derived.Test.YtlppofjmkepceaaDoorDawT
import Derived.Test.YtlppofjmkepceaaDoorDecS
namespace Go.Proofs.YtlppofjmkepceaaDoor
open Go.RowKit Florin
set_option linter.unusedVariables false
set_option linter.unusedSimpArgs false

theorem parse_at (s : ByteArray) (hs : s.size ≤ 1000000) (d : Tri) (e : Int) (hd : triF s.data.toList = d) (he : errF s.data.toList = e) (w : World) :
    Calls Tryd.prog 22 #[.string s] w fun x w' => x = .returned (.tuple #[V d, .int .i64 e]) ∧ Below w.heap.size w w' := by
  refine parse_as s w hs (ix_all _ ?_) d e hd he
  have h1 := less_len s.data.toList
  rw [len_data] at h1
  rw [arr_size]; omega
theorem parse_list (l : List UInt8) (hs : l.length ≤ 1000000) (d : Tri) (e : Int) (hd : triF l = d) (he : errF l = e) (w : World) :
    Calls Tryd.prog 22 #[S l] w fun x w' => x = .returned (.tuple #[V d, .int .i64 e]) ∧ Below w.heap.size w w' :=
  parse_at ⟨l.toArray⟩ (by rw [arr_size]; exact hs) d e (by rw [arr_list]; exact hd) (by rw [arr_list]; exact he) w
theorem form_list (l : List UInt8) (hs : l.length ≤ 1000000) (r : Bool) (hr : okF l = r) (w : World) :
    Calls Tryd.prog 25 #[S l] w fun y w' => y = .returned (.bool r) ∧ w = w' :=
  form_as ⟨l.toArray⟩ w (by rw [arr_size]; exact hs) r (by rw [arr_list]; exact hr)
theorem plainT_len (d : Tri) (h1 : d.l.length ≤ 1000) (h2 : -30000 ≤ d.e) (h3 : d.e ≤ 30000) : (plainT d).length ≤ 1000000 := by
  have hp : (partsT d).1.length ≤ 32000 ∧ (partsT d).2.length ≤ 32000 := by
    unfold partsT
    split
    · exact ⟨by rw [List.length_append, zs_length]; omega, by simp⟩
    · split
      · exact ⟨by simp, by rw [List.length_append, zs_length]; omega⟩
      · exact ⟨by rw [List.length_take]; omega, by rw [List.length_drop]; omega⟩
  unfold plainT signL
  obtain ⟨p1, p2⟩ := hp
  generalize (partsT d).1 = A at *
  generalize (partsT d).2 = B at *
  have q1 : (if d.neg then [45] else ([] : List UInt8)).length ≤ 1 := by cases d.neg <;> simp
  have q2 : (if A = [] then [48] else A).length ≤ 32001 := by
    split
    · simp
    · omega
  have q3 : (if B = [] then [] else 46 :: B).length ≤ 32001 := by
    split
    · simp
    · rw [List.length_cons]; omega
  rw [List.length_append, List.length_append]
  omega

theorem decReads_walk (s : ByteArray) (w : World) (hm : s.size ≤ maxLen) (htab : Tab w) :
    Calls Tryd.prog 5 #[.string s] w fun x w' => x = .returned (.bool true) ∧ Below w.heap.size w w' := by
  by_cases hs : 200 < s.size
  · exact rd_N s w htab hs hm
  have hs' : s.size ≤ 200 := by omega
  have CF := fun r hr w1 => form_as s w1 (by omega) r hr
  have CP := fun d e hd he w1 => parse_at s (by omega) d e hd he w1
  cases hok : okF s.data.toList with
  | false => exact rd_F s w htab hs' (CP zero 1 (by unfold triF; rw [hok]; rfl) (by unfold errF; rw [hok]; rfl)) (CF false hok)
  | true =>
    cases hlo : longF s.data.toList with
    | true => exact rd_L s w htab hs' (CP zero 2 (by unfold triF; rw [hok, hlo]; rfl) (by unfold errF; rw [hok, hlo]; rfl)) (CF true hok)
    | false =>
      obtain ⟨d, hd⟩ : ∃ d, decF s.data.toList = d := ⟨_, rfl⟩
      have hnr : d = zero ∨ Nrm d := by rw [← hd]; exact made_nrm _ _ _
      have hid : made d.neg d.l d.e = d := by rw [← hd]; exact made_idem _ _ _
      have hb : -30000 ≤ d.e ∧ d.e ≤ 30000 := by rw [← hd]; exact made_exp _ _ _
      have hl : d.l.length ≤ 900 := by
        rw [← hd]
        have h1 := made_length (minus s.data.toList) (whole s.data.toList ++ frac s.data.toList) (powF s.data.toList - (frac s.data.toList).length)
        have h2 := len_parts s.data.toList
        rw [List.length_append] at h1
        rw [len_data] at h2
        unfold decF; omega
      have h0 := CP d 0 (by unfold triF; rw [hok, hlo]; exact hd) (by unfold errF; rw [hok, hlo]; rfl)
      have CN := fun w1 => normal_as d w1 (by omega) hnr
      have CS := fun w1 (ht : Tab w1) => string_as d.neg ⟨d.l.toArray⟩ d.e w1 (by rw [arr_size]; omega) d (by rw [arr_list]; exact hid) hid ht
      obtain ⟨W, ex, sgn, Q, t1, t2, t3, t4, t5, t6⟩ := text_ren hnr
      have hQ : Q.length ≤ 20 := by
        rw [t6]
        split
        · simp
        · have := (dig_length_le d.e.natAbs 5).2 (by omega); omega
      have tl : (textT d).length ≤ 1000000 := by
        rw [t1]; have := render_len (neg := d.neg) t2; simp at this; omega
      by_cases e1 : 9000 < d.e
      · exact rd_G s w htab hs' d _ h0 (CF true hok) CN CS _ _ e1 (parse_list _ tl _ _ rfl rfl)
      by_cases e2 : d.e < -9000
      · exact rd_H s w htab hs' d _ h0 (CF true hok) CN CS _ _ e2 (parse_list _ tl _ _ rfl rfl)
      have vq : val Q ≤ 10000 := by
        rw [t6]
        split
        · decide
        · rw [val_dig]; omega
      obtain ⟨r1, r2⟩ := render_tri (neg := d.neg) t2 vq (by simp; omega)
      rw [t3, List.length_nil] at r2
      have CX := parse_list (textT d) tl d 0 (by rw [t1, r2]; simp only [Int.natCast_zero, Int.sub_zero]; exact t4) (by rw [t1]; exact r1)
      have CL := fun w1 => plain_as d.neg ⟨d.l.toArray⟩ d.e w1 (by rw [arr_size]; omega) d (by rw [arr_list]; exact hid) hid
      obtain ⟨W2, pt, P2, p1, p2, p3⟩ := plain_ren hnr
      have pl := plainT_len d (by omega) hb.1 hb.2
      have CG := form_list (plainT d) pl true (by rw [p1]; exact render_ok p2)
      by_cases h9 : 900 < (plainT d).length
      · exact rd_W s w htab hs' d _ h0 (CF true hok) CN CS (by omega) (by omega) (plainT d) h9 pl CX CL CG
      · have hWP : W2.length + P2.length ≤ 1000 := by
          have := h9
          rw [p1] at this
          unfold render at this
          simp only [Bool.false_eq_true, if_false, List.append_nil, List.length_append] at this
          cases pt with
          | false => have hp := p2.p; simp at hp; subst hp; simp at this ⊢; omega
          | true => simp at this; omega
        obtain ⟨q1, q2⟩ := render_tri (neg := d.neg) p2 (by decide) hWP
        have CY := parse_list (plainT d) pl d 0 (by
          rw [p1, q2]
          have e0 : ((if ([] : List UInt8) == [45] then -(val [] : Int) else val []) - (P2.length : Int)) = -(P2.length : Int) := by
            show (0 : Int) - _ = _; omega
          rw [e0]; exact p3) (by rw [p1]; exact q1)
        exact rd_R s w htab hs' d _ h0 (CF true hok) CN CS (by omega) (by omega) (plainT d) (by omega) CX CL CG CY
end Go.Proofs.YtlppofjmkepceaaDoor
