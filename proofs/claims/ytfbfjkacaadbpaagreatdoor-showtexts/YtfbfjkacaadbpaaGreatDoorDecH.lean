/- What dec.Parse returns, whatever the text. -/
import Derived.Test.YtfbfjkacaadbpaaGreatDoorDecG
namespace Go.Proofs.YtfbfjkacaadbpaaGreatDoor
open Go.RowKit Florin
set_option linter.unusedVariables false

def Splits (s : ByteArray) (m : Bool) (a f : List UInt8) (n : Bool) (q : List UInt8) : Prop := ∀ w : World, Calls Tryz.prog 53 #[.string s] w fun x w' => x = .returned (.tuple #[.agg #[.bool m, S a, S f, .bool n, S q], .bool true]) ∧ Below w.heap.size w w'
theorem Splits.run {s : ByteArray} {m : Bool} {a f : List UInt8} {n : Bool} {q : List UInt8} (h : Splits s m a f n q) (w : World) : Calls Tryz.prog 53 #[.string s] w fun x w' => x = .returned (.tuple #[.agg #[.bool m, S a, S f, .bool n, S q], .bool true]) ∧ Below w.heap.size w w' := h w

set_option maxRecDepth 100000 in
set_option maxHeartbeats 1600000 in
theorem parse_form (s : ByteArray) (w : World) (hs : s.size ≤ 1000000) (hix : IxOK ⟨(less s.data.toList).toArray⟩) (h : okF s.data.toList = false) :
    Calls Tryz.prog 31 #[.string s] w fun x w' => x = .returned (.tuple #[V zero, .int .i64 1]) ∧ Below w.heap.size w w' := by
  have HX := Lib.hid hix
  have H := Lib.hid h
  clear hix h
  go_enter Tryz.func31, Tryz.ntmps31
  go_wp2_with fail
  with_reducible refine (split_no s _ hs HX.out H.out).mono ?_
  rintro x w1 ⟨rfl, hb⟩
  have B1 := Lib.hid ((Box.new w zc 31).below hb (by simp))
  have HB1 := Lib.hid ((below_alloc w (.cells zc 31)).trans (hb.mono (B' := w.heap.size) (by simp)))
  obtain ⟨q0, q1, q2, f0, f1, f2, lt⟩ := B1.out.three
  have lt1 : w.heap.size < w1.heap.size + 1 := by omega
  clear hb
  go_wp2
  refine bodyPost_ret (v := .tuple #[V zero, .int .i64 1]) (by simp [results, Tryz.results31, go_sem, zero, q0, q1, q2, lt]) rfl ⟨rfl, ?_⟩
  exact (below_store3 HB1.out (Nat.le_refl _) _ _ _).alloc (by simp; omega) _

set_option maxRecDepth 100000 in
set_option maxHeartbeats 1600000 in
theorem parse_l1 (s : ByteArray) (w : World) (m : Bool) (a f : List UInt8) (n : Bool) (q : List UInt8) (hsp : Splits s m a f n q) (hd : isDig q = true) (ql : q.length ≤ 1000000) (al : a.length ≤ 1000000) (fl : f.length ≤ 1000000) (h1 : 18 < (dig (val q)).length) :
    Calls Tryz.prog 31 #[.string s] w fun x w' => x = .returned (.tuple #[V zero, .int .i64 2]) ∧ Below w.heap.size w w' := by
  have HSP := Lib.hid hsp
  have HD := Lib.hid hd
  have H1 := Lib.hid h1
  clear hsp hd h1
  go_enter Tryz.func31, Tryz.ntmps31
  go_wp2_with fail
  with_reducible refine (HSP.out.run _).mono ?_
  rintro x w1 ⟨rfl, hb⟩
  have B1 := Lib.hid ((Box.new w zc 31).below hb (by simp))
  have HB1 := Lib.hid ((below_alloc w (.cells zc 31)).trans (hb.mono (B' := w.heap.size) (by simp)))
  obtain ⟨q0, q1, q2, f0, f1, f2, lt⟩ := B1.out.three
  have lt1 : w.heap.size < w1.heap.size + 1 := by omega
  clear hb
  go_wp2_with fail
  with_reducible refine (intS_big q _ ql HD.out H1.out).mono ?_
  rintro x w' ⟨rfl, rfl⟩
  go_wp2
  refine bodyPost_ret (v := .tuple #[V zero, .int .i64 2]) (by simp [results, Tryz.results31, go_sem, zero, q0, q1, q2, lt]) rfl ⟨rfl, ?_⟩
  exact (below_store3 HB1.out (Nat.le_refl _) _ _ _).alloc (by simp; omega) _

set_option maxRecDepth 100000 in
set_option maxHeartbeats 1600000 in
theorem parse_l2 (s : ByteArray) (w : World) (m : Bool) (a f : List UInt8) (n : Bool) (q : List UInt8) (hsp : Splits s m a f n q) (hd : isDig q = true) (ql : q.length ≤ 1000000) (al : a.length ≤ 1000000) (fl : f.length ≤ 1000000) (h3 : (dig (val q)).length ≤ 18) (h1 : 10000 < val q) :
    Calls Tryz.prog 31 #[.string s] w fun x w' => x = .returned (.tuple #[V zero, .int .i64 2]) ∧ Below w.heap.size w w' := by
  have HSP := Lib.hid hsp
  have HD := Lib.hid hd
  have H3 := Lib.hid h3
  have H1 := Lib.hid h1
  clear hsp hd h3 h1
  have n1 : (10000 : Int) < (val q : Int) := by have := H1.out; omega
  go_enter Tryz.func31, Tryz.ntmps31
  go_wp2_with fail
  with_reducible refine (HSP.out.run _).mono ?_
  rintro x w1 ⟨rfl, hb⟩
  have B1 := Lib.hid ((Box.new w zc 31).below hb (by simp))
  have HB1 := Lib.hid ((below_alloc w (.cells zc 31)).trans (hb.mono (B' := w.heap.size) (by simp)))
  obtain ⟨q0, q1, q2, f0, f1, f2, lt⟩ := B1.out.three
  have lt1 : w.heap.size < w1.heap.size + 1 := by omega
  clear hb
  go_wp2_with fail
  with_reducible refine (intS q _ ql HD.out H3.out).mono ?_
  rintro x w' ⟨rfl, rfl⟩
  go_wp2
  refine bodyPost_ret (v := .tuple #[V zero, .int .i64 2]) (by simp [results, Tryz.results31, go_sem, zero, q0, q1, q2, lt]) rfl ⟨rfl, ?_⟩
  exact (below_store3 HB1.out (Nat.le_refl _) _ _ _).alloc (by simp; omega) _

set_option maxRecDepth 100000 in
set_option maxHeartbeats 1600000 in
theorem parse_l3 (s : ByteArray) (w : World) (m : Bool) (a f : List UInt8) (n : Bool) (q : List UInt8) (hsp : Splits s m a f n q) (hd : isDig q = true) (ql : q.length ≤ 1000000) (al : a.length ≤ 1000000) (fl : f.length ≤ 1000000) (h3 : (dig (val q)).length ≤ 18) (h1 : val q ≤ 10000) (h2 : 1000 < a.length + f.length) :
    Calls Tryz.prog 31 #[.string s] w fun x w' => x = .returned (.tuple #[V zero, .int .i64 2]) ∧ Below w.heap.size w w' := by
  have HSP := Lib.hid hsp
  have HD := Lib.hid hd
  have H3 := Lib.hid h3
  have H1 := Lib.hid h1
  have H2 := Lib.hid h2
  clear hsp hd h3 h1 h2
  have n1 : ¬ (10000 : Int) < (val q : Int) := by have := H1.out; omega
  have n2 : (1000 : Int) < (a.length : Int) + (f.length : Int) := by have := H2.out; omega
  go_enter Tryz.func31, Tryz.ntmps31
  go_wp2_with fail
  with_reducible refine (HSP.out.run _).mono ?_
  rintro x w1 ⟨rfl, hb⟩
  have B1 := Lib.hid ((Box.new w zc 31).below hb (by simp))
  have HB1 := Lib.hid ((below_alloc w (.cells zc 31)).trans (hb.mono (B' := w.heap.size) (by simp)))
  obtain ⟨q0, q1, q2, f0, f1, f2, lt⟩ := B1.out.three
  have lt1 : w.heap.size < w1.heap.size + 1 := by omega
  clear hb
  go_wp2_with fail
  with_reducible refine (intS q _ ql HD.out H3.out).mono ?_
  rintro x w' ⟨rfl, rfl⟩
  go_wp2
  refine bodyPost_ret (v := .tuple #[V zero, .int .i64 2]) (by simp [results, Tryz.results31, go_sem, zero, q0, q1, q2, lt]) rfl ⟨rfl, ?_⟩
  exact (below_store3 HB1.out (Nat.le_refl _) _ _ _).alloc (by simp; omega) _

set_option maxRecDepth 100000 in
set_option maxHeartbeats 1600000 in
theorem parse_up (s : ByteArray) (w : World) (m : Bool) (a f : List UInt8) (n : Bool) (q : List UInt8) (hsp : Splits s m a f n q) (hd : isDig q = true) (ql : q.length ≤ 1000000) (al : a.length ≤ 1000000) (fl : f.length ≤ 1000000) (h3 : (dig (val q)).length ≤ 18) (h1 : val q ≤ 10000) (h2 : a.length + f.length ≤ 1000) (hn : n = false) (d : Tri) (hm : made m (a ++ f) ((val q : Int) - (f.length : Int)) = d) :
    Calls Tryz.prog 31 #[.string s] w fun x w' => x = .returned (.tuple #[V d, .int .i64 0]) ∧ Below w.heap.size w w' := by
  have HSP := Lib.hid hsp
  have HD := Lib.hid hd
  have H3 := Lib.hid h3
  have H1 := Lib.hid h1
  have H2 := Lib.hid h2
  have HN := Lib.hid hn
  have HM := Lib.hid hm
  clear hsp hd h3 h1 h2 hn hm
  have hcat : ¬ 9223372036854775807 < a.length + f.length := by omega
  have vq : (val q : Int) ≤ 10000 := by have := H1.out; omega
  have n1 : ¬ (10000 : Int) < (val q : Int) := by omega
  have n2 : ¬ (1000 : Int) < (a.length : Int) + (f.length : Int) := by have := H2.out; omega
  obtain rfl : n = false := HN.out
  go_enter Tryz.func31, Tryz.ntmps31
  go_wp2_with fail
  with_reducible refine (HSP.out.run _).mono ?_
  rintro x w1 ⟨rfl, hb⟩
  have B1 := Lib.hid ((Box.new w zc 31).below hb (by simp))
  have HB1 := Lib.hid ((below_alloc w (.cells zc 31)).trans (hb.mono (B' := w.heap.size) (by simp)))
  obtain ⟨q0, q1, q2, f0, f1, f2, lt⟩ := B1.out.three
  have lt1 : w.heap.size < w1.heap.size + 1 := by omega
  clear hb
  go_wp2_with fail
  with_reducible refine (intS q _ ql HD.out H3.out).mono ?_
  rintro x w' ⟨rfl, rfl⟩
  clear q0 q1 q2 f0 f1 f2 lt lt1
  go_wp2_with fail
  with_reducible refine (made_as m _ ((val q : Int) - (f.length : Int)) _ (by rw [arr_append, arr_size, List.length_append]; have := H2.out; omega) d (by rw [arr_append, arr_list]; exact HM.out)).mono ?_
  rintro x w2 ⟨rfl, hb⟩
  have B2 := Lib.hid ((B1.out.alloc _).below hb (by have := B1.out.lt; simp; omega))
  have HB2 := Lib.hid ((HB1.out.alloc HB1.out.size _).trans (hb.mono (B' := w.heap.size) (by have := HB1.out.size; simp; omega)))
  obtain ⟨q0, q1, q2, f0, f1, f2, lt⟩ := B2.out.three
  clear hb B1 HB1
  go_wp2
  refine bodyPost_ret (v := .tuple #[V d, .int .i64 0]) (by simp [results, Tryz.results31, go_sem, q0, q1, q2]) rfl ⟨rfl, below_store3 HB2.out (Nat.le_refl _) _ _ _⟩

set_option maxRecDepth 100000 in
set_option maxHeartbeats 1600000 in
theorem parse_dn (s : ByteArray) (w : World) (m : Bool) (a f : List UInt8) (n : Bool) (q : List UInt8) (hsp : Splits s m a f n q) (hd : isDig q = true) (ql : q.length ≤ 1000000) (al : a.length ≤ 1000000) (fl : f.length ≤ 1000000) (h3 : (dig (val q)).length ≤ 18) (h1 : val q ≤ 10000) (h2 : a.length + f.length ≤ 1000) (hn : n = true) (d : Tri) (hm : made m (a ++ f) (-(val q : Int) - (f.length : Int)) = d) :
    Calls Tryz.prog 31 #[.string s] w fun x w' => x = .returned (.tuple #[V d, .int .i64 0]) ∧ Below w.heap.size w w' := by
  have HSP := Lib.hid hsp
  have HD := Lib.hid hd
  have H3 := Lib.hid h3
  have H1 := Lib.hid h1
  have H2 := Lib.hid h2
  have HN := Lib.hid hn
  have HM := Lib.hid hm
  clear hsp hd h3 h1 h2 hn hm
  have hcat : ¬ 9223372036854775807 < a.length + f.length := by omega
  have vq : (val q : Int) ≤ 10000 := by have := H1.out; omega
  have n1 : ¬ (10000 : Int) < (val q : Int) := by omega
  have n2 : ¬ (1000 : Int) < (a.length : Int) + (f.length : Int) := by have := H2.out; omega
  obtain rfl : n = true := HN.out
  go_enter Tryz.func31, Tryz.ntmps31
  go_wp2_with fail
  with_reducible refine (HSP.out.run _).mono ?_
  rintro x w1 ⟨rfl, hb⟩
  have B1 := Lib.hid ((Box.new w zc 31).below hb (by simp))
  have HB1 := Lib.hid ((below_alloc w (.cells zc 31)).trans (hb.mono (B' := w.heap.size) (by simp)))
  obtain ⟨q0, q1, q2, f0, f1, f2, lt⟩ := B1.out.three
  have lt1 : w.heap.size < w1.heap.size + 1 := by omega
  clear hb
  go_wp2_with fail
  with_reducible refine (intS q _ ql HD.out H3.out).mono ?_
  rintro x w' ⟨rfl, rfl⟩
  clear q0 q1 q2 f0 f1 f2 lt lt1
  go_wp2_with fail
  with_reducible refine (made_as m _ (-(val q : Int) - (f.length : Int)) _ (by rw [arr_append, arr_size, List.length_append]; have := H2.out; omega) d (by rw [arr_append, arr_list]; exact HM.out)).mono ?_
  rintro x w2 ⟨rfl, hb⟩
  have B2 := Lib.hid ((B1.out.alloc _).below hb (by have := B1.out.lt; simp; omega))
  have HB2 := Lib.hid ((HB1.out.alloc HB1.out.size _).trans (hb.mono (B' := w.heap.size) (by have := HB1.out.size; simp; omega)))
  obtain ⟨q0, q1, q2, f0, f1, f2, lt⟩ := B2.out.three
  clear hb B1 HB1
  go_wp2
  refine bodyPost_ret (v := .tuple #[V d, .int .i64 0]) (by simp [results, Tryz.results31, go_sem, q0, q1, q2]) rfl ⟨rfl, below_store3 HB2.out (Nat.le_refl _) _ _ _⟩

theorem len_parts (l : List UInt8) : (whole l).length ≤ l.length ∧ (frac l).length ≤ l.length ∧ (pw l).length ≤ l.length := by
  have h0 : (less l).length ≤ l.length := by unfold less; split <;> simp
  have h1 : (eA l).length ≤ (less l).length := (List.takeWhile_sublist _).length_le
  have h2 : (eB l).length ≤ (less l).length := (List.dropWhile_sublist _).length_le
  have h3 : (whole l).length ≤ (eA l).length := (List.takeWhile_sublist _).length_le
  have h4 : (pB l).length ≤ (eA l).length := (List.dropWhile_sublist _).length_le
  have h5 : (pw l).length ≤ (eB l).length := by unfold pw bareP; split <;> (try split) <;> simp <;> omega
  have h6 : (frac l).length ≤ (pB l).length := by unfold frac; simp
  omega
theorem ok_isDig {l : List UInt8} (h : okF l = true) : isDig (pw l) = true ∧ isDig (whole l ++ frac l) = true := by
  unfold okF at h
  simp only [Bool.and_eq_true, Bool.or_eq_true] at h
  obtain ⟨h1, h2, h3⟩ := h
  constructor
  · rcases h1 with h1 | h1
    · have : pw l = [] := by unfold pw; rw [List.isEmpty_iff.1 h1]; rfl
      rw [this]; rfl
    · exact ((sdig_iff _).1 h1).2
  · rw [isDig_append, ((sdig_iff _).1 h2).2]
    rcases h3 with h3 | h3
    · have : frac l = [] := by unfold frac; rw [List.isEmpty_iff.1 h3]; rfl
      rw [this]; rfl
    · rw [((sdig_iff _).1 h3).2]; rfl
theorem val_big {n : Nat} (h : 18 < (dig n).length) : 10000 < n := by
  have h1 : ¬ (dig n).length ≤ 5 := by omega
  rw [dig_length_le] at h1
  have : (10 : Nat) ^ 5 = 100000 := by decide
  omega
theorem parse_any (s : ByteArray) (w : World) (hs : s.size ≤ 1000000) (hix : IxOK ⟨(less s.data.toList).toArray⟩) :
    Calls Tryz.prog 31 #[.string s] w fun x w' => x = .returned (.tuple #[V (triF s.data.toList), .int .i64 (errF s.data.toList)]) ∧ Below w.heap.size w w' := by
  by_cases hok : okF s.data.toList = true
  · have hsp : Splits s (minus s.data.toList) (whole s.data.toList) (frac s.data.toList) (pneg s.data.toList) (pw s.data.toList) := fun w => split_ok s w hs hix hok
    obtain ⟨d1, d2⟩ := ok_isDig hok
    obtain ⟨l1, l2, l3⟩ := len_parts s.data.toList
    rw [size_list] at l1 l2 l3
    unfold triF errF
    rw [if_pos hok, if_pos hok]
    by_cases hl : longF s.data.toList = true
    · rw [if_pos hl, if_pos hl]
      by_cases h18 : (dig (val (pw s.data.toList))).length ≤ 18
      · unfold longF at hl
        simp only [Bool.or_eq_true, decide_eq_true_eq] at hl
        by_cases hv : 10000 < val (pw s.data.toList)
        · exact parse_l2 s w _ _ _ _ _ hsp d1 (by omega) (by omega) (by omega) h18 hv
        · exact parse_l3 s w _ _ _ _ _ hsp d1 (by omega) (by omega) (by omega) h18 (by omega) (by omega)
      · exact parse_l1 s w _ _ _ _ _ hsp d1 (by omega) (by omega) (by omega) (by omega)
    · rw [if_neg hl, if_neg hl]
      unfold longF at hl
      simp only [Bool.or_eq_true, decide_eq_true_eq, not_or] at hl
      have h18 : (dig (val (pw s.data.toList))).length ≤ 18 := by
        rcases Nat.lt_or_ge 18 (dig (val (pw s.data.toList))).length with h | h
        · exact absurd (val_big h) hl.1
        · exact h
      cases hn : pneg s.data.toList with
      | false => rw [hn] at hsp; exact parse_up s w _ _ _ _ _ hsp d1 (by omega) (by omega) (by omega) h18 (by omega) (by omega) rfl _ (by unfold decF powF; rw [hn]; rfl)
      | true => rw [hn] at hsp; exact parse_dn s w _ _ _ _ _ hsp d1 (by omega) (by omega) (by omega) h18 (by omega) (by omega) rfl _ (by unfold decF powF; rw [hn]; rfl)
  · have hok' : okF s.data.toList = false := by simpa using hok
    unfold triF errF
    rw [if_neg hok, if_neg hok]
    exact parse_form s w hs hix hok'
theorem parse_as (s : ByteArray) (w : World) (hs : s.size ≤ 1000000) (hix : IxOK ⟨(less s.data.toList).toArray⟩) (d : Tri) (e : Int) (hd : triF s.data.toList = d) (he : errF s.data.toList = e) :
    Calls Tryz.prog 31 #[.string s] w fun x w' => x = .returned (.tuple #[V d, .int .i64 e]) ∧ Below w.heap.size w w' := by
  subst hd he; exact parse_any s w hs hix
end Go.Proofs.YtfbfjkacaadbpaaGreatDoor
