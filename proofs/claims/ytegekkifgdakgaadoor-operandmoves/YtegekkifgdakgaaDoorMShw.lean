/- RndS, ShwA, ShwB, ShwC, ShwE, in one text. -/
import Derived.Test.YtegekkifgdakgaaDoorRndG
import Derived.Laws.StructEq
namespace Go.Proofs.YtegekkifgdakgaaDoor
open Go.RowKit Florin
set_option linter.unusedVariables false

def sigT (d : Tri) (k m : Int) : Tri := if d.l = [] then zero else mulT d 1 (hld (d.e + (d.l.length : Int) - 1 - min (max k 1) 30000 + 1)) m
theorem sig_T (d : Tri) (k m : Int) (g : Tri) (w : World) (h1 : d.l.length ≤ 100000) (h : sigT (made d.neg d.l d.e) k m = g) (ht : Tab w) :
    Calls Tryd.prog 45 #[V d, .int .i64 k, .int .i64 m] w fun z w' => z = .returned (V g) ∧ Below w.heap.size w w' := by
  unfold sigT at h
  by_cases hz : (made d.neg d.l d.e).l = []
  · rw [if_pos hz] at h
    subst h
    have hd : made d.neg d.l d.e = zero := by
      rcases made_nrm d.neg d.l d.e with h | h
      · exact h
      · exact absurd hz h.ne
    exact sig_zero d.neg ⟨d.l.toArray⟩ d.e k m w (by rw [arr_size]; exact h1) (by rw [arr_list]; exact hd)
  · rw [if_neg hz] at h
    exact sig_some d.neg ⟨d.l.toArray⟩ d.e k m w (by rw [arr_size]; exact h1) _ (by rw [arr_list]) hz _ _ rfl rfl ht g h
end Go.Proofs.YtegekkifgdakgaaDoor

namespace Go.Proofs.YtegekkifgdakgaaDoor
open Go.RowKit Florin
set_option linter.unusedVariables false
set_option linter.unusedSimpArgs false
attribute [local go_sem ↓] Go.wp_at_zero Go.wp_at_succ

/-- What is asked. -/
structure Prc where
  kind : Int
  mn : Int
  mx : Int
  inc : Tri
  mode : Int
  mi : Int
abbrev PV (p : Prc) : Value := .agg #[.int .i64 p.kind, .int .i64 p.mn, .int .i64 p.mx, .bool p.inc.neg, S p.inc.l, .int .i64 p.inc.e, .int .i64 p.mode, .int .i64 p.mi]
def wi (n a b : Int) : Bool := decide (a ≤ n) && decide (n ≤ b)

set_option maxHeartbeats 800000 in
theorem within_as (n a b : Int) (w : World) (v : Bool) (hv : wi n a b = v) :
    Calls Tryd.prog 59 #[.int .i64 n, .int .i64 a, .int .i64 b] w fun x w' => x = .returned (.bool v) ∧ w = w' := by
  unfold wi at hv
  by_cases h1 : a ≤ n
  · have e1 : decide (a ≤ n) = true := by simpa using h1
    by_cases h2 : n ≤ b
    · have e2 : decide (n ≤ b) = true := by simpa using h2
      rw [e1, e2] at hv
      subst hv
      go_enter Tryd.func59, Tryd.ntmps59
      go_wp2
      go_ret
      exact ⟨ret_bool (by simp), rfl⟩
    · have e2 : decide (n ≤ b) = false := by simpa using h2
      rw [e1, e2] at hv
      subst hv
      go_enter Tryd.func59, Tryd.ntmps59
      go_wp2
      go_ret
      exact ⟨ret_bool (by simp), rfl⟩
  · have e1 : decide (a ≤ n) = false := by simpa using h1
    rw [e1] at hv
    simp only [Bool.false_and] at hv
    subst hv
    go_enter Tryd.func59, Tryd.ntmps59
    go_wp2
    go_ret
    exact ⟨rfl, rfl⟩

/-- May it be an increment? -/
def vinc (d : Tri) : Bool := !d.l.isEmpty && (!d.neg && (decide ((d.l.length : Int) ≤ 9) && wi d.e (-100) 100))
set_option maxRecDepth 100000 in
set_option maxHeartbeats 1600000 in
theorem vinc_z (d : Tri) (w : World) (hl : d.l.length ≤ 100000) (hn : made d.neg d.l d.e = d) (hz : d.l.isEmpty = true) :
    Calls Tryd.prog 60 #[V d] w fun x w' => x = .returned (.bool false) ∧ Below w.heap.size w w' := by
  have HN := Lib.hid hn
  clear hn
  have HZ : Hid ((made d.neg d.l d.e).l.isEmpty = true) := Lib.hid (by rw [HN.out]; exact hz)
  clear hz
  go_enter Tryd.func60, Tryd.ntmps60
  go_wp2_with fail
  with_reducible refine (zero_T d true _ hl HZ.out).mono ?_
  rintro x w1 ⟨rfl, hb⟩
  have H1 : Hid (HeldL w [(w.heap.size, #[.bool d.neg, S d.l, .int .i64 d.e])] w1) := Lib.hid (HeldL.keep (HeldL.alloc (HeldL.refl w) (w.heap.size) #[.bool d.neg, S d.l, .int .i64 d.e] 31 (by simp)) hb)
  clear hb
  have x0 : w1.cell? ⟨w.heap.size, 0, none⟩ = some (.bool d.neg) := (H1.out.f (List.Mem.head _)).cell 0
  have x1 : w1.cell? ⟨w.heap.size, 1, none⟩ = some (S d.l) := (H1.out.f (List.Mem.head _)).cell 1
  have x2 : w1.cell? ⟨w.heap.size, 2, none⟩ = some (.int .i64 d.e) := (H1.out.f (List.Mem.head _)).cell 2
  have xl : w.heap.size < w1.heap.size := (H1.out.f (List.Mem.head _)).lt
  go_wp2
  go_ret
  exact ⟨rfl, H1.out.bel⟩

set_option maxRecDepth 100000 in
set_option maxHeartbeats 1600000 in
theorem vinc_n (d : Tri) (w : World) (hl : d.l.length ≤ 100000) (hn : made d.neg d.l d.e = d) (hz : d.l.isEmpty = false) (hneg : d.neg = true) :
    Calls Tryd.prog 60 #[V d] w fun x w' => x = .returned (.bool false) ∧ Below w.heap.size w w' := by
  have HN := Lib.hid hn
  clear hn
  have HZ : Hid ((made d.neg d.l d.e).l.isEmpty = false) := Lib.hid (by rw [HN.out]; exact hz)
  clear hz
  obtain ⟨dn, dl, de⟩ := d
  simp only at *
  subst hneg
  go_enter Tryd.func60, Tryd.ntmps60
  go_wp2_with fail
  with_reducible refine (zero_T ⟨true, dl, de⟩ false _ hl HZ.out).mono ?_
  rintro x w1 ⟨rfl, hb⟩
  have H1 : Hid (HeldL w [(w.heap.size, #[.bool true, S dl, .int .i64 de])] w1) := Lib.hid (HeldL.keep (HeldL.alloc (HeldL.refl w) (w.heap.size) #[.bool true, S dl, .int .i64 de] 31 (by simp)) hb)
  clear hb
  have x0 : w1.cell? ⟨w.heap.size, 0, none⟩ = some (.bool true) := (H1.out.f (List.Mem.head _)).cell 0
  have x1 : w1.cell? ⟨w.heap.size, 1, none⟩ = some (S dl) := (H1.out.f (List.Mem.head _)).cell 1
  have x2 : w1.cell? ⟨w.heap.size, 2, none⟩ = some (.int .i64 de) := (H1.out.f (List.Mem.head _)).cell 2
  have xl : w.heap.size < w1.heap.size := (H1.out.f (List.Mem.head _)).lt
  go_wp2
  go_ret
  exact ⟨rfl, H1.out.bel⟩

set_option maxRecDepth 100000 in
set_option maxHeartbeats 1600000 in
theorem vinc_l (d : Tri) (w : World) (hl : d.l.length ≤ 100000) (hn : made d.neg d.l d.e = d) (hz : d.l.isEmpty = false) (hneg : d.neg = false) (h9 : ¬ (d.l.length : Int) ≤ 9) :
    Calls Tryd.prog 60 #[V d] w fun x w' => x = .returned (.bool false) ∧ Below w.heap.size w w' := by
  have HN := Lib.hid hn
  clear hn
  have HZ : Hid ((made d.neg d.l d.e).l.isEmpty = false) := Lib.hid (by rw [HN.out]; exact hz)
  clear hz
  obtain ⟨dn, dl, de⟩ := d
  simp only at *
  subst hneg
  go_enter Tryd.func60, Tryd.ntmps60
  go_wp2_with fail
  with_reducible refine (zero_T ⟨false, dl, de⟩ false _ hl HZ.out).mono ?_
  rintro x w1 ⟨rfl, hb⟩
  have H1 : Hid (HeldL w [(w.heap.size, #[.bool false, S dl, .int .i64 de])] w1) := Lib.hid (HeldL.keep (HeldL.alloc (HeldL.refl w) (w.heap.size) #[.bool false, S dl, .int .i64 de] 31 (by simp)) hb)
  clear hb
  have x0 : w1.cell? ⟨w.heap.size, 0, none⟩ = some (.bool false) := (H1.out.f (List.Mem.head _)).cell 0
  have x1 : w1.cell? ⟨w.heap.size, 1, none⟩ = some (S dl) := (H1.out.f (List.Mem.head _)).cell 1
  have x2 : w1.cell? ⟨w.heap.size, 2, none⟩ = some (.int .i64 de) := (H1.out.f (List.Mem.head _)).cell 2
  have xl : w.heap.size < w1.heap.size := (H1.out.f (List.Mem.head _)).lt
  go_wp2
  go_ret
  exact ⟨rfl, H1.out.bel⟩

set_option maxRecDepth 100000 in
set_option maxHeartbeats 1600000 in
theorem vinc_r (d : Tri) (w : World) (hl : d.l.length ≤ 100000) (hn : made d.neg d.l d.e = d) (hz : d.l.isEmpty = false) (hneg : d.neg = false) (h9 : (d.l.length : Int) ≤ 9) (v : Bool) (hv : wi d.e (-100) 100 = v) :
    Calls Tryd.prog 60 #[V d] w fun x w' => x = .returned (.bool v) ∧ Below w.heap.size w w' := by
  have HN := Lib.hid hn
  clear hn
  have HZ : Hid ((made d.neg d.l d.e).l.isEmpty = false) := Lib.hid (by rw [HN.out]; exact hz)
  clear hz
  obtain ⟨dn, dl, de⟩ := d
  simp only at *
  subst hneg
  go_enter Tryd.func60, Tryd.ntmps60
  go_wp2_with fail
  with_reducible refine (zero_T ⟨false, dl, de⟩ false _ hl HZ.out).mono ?_
  rintro x w1 ⟨rfl, hb⟩
  have H1 : Hid (HeldL w [(w.heap.size, #[.bool false, S dl, .int .i64 de])] w1) := Lib.hid (HeldL.keep (HeldL.alloc (HeldL.refl w) (w.heap.size) #[.bool false, S dl, .int .i64 de] 31 (by simp)) hb)
  clear hb
  have x0 : w1.cell? ⟨w.heap.size, 0, none⟩ = some (.bool false) := (H1.out.f (List.Mem.head _)).cell 0
  have x1 : w1.cell? ⟨w.heap.size, 1, none⟩ = some (S dl) := (H1.out.f (List.Mem.head _)).cell 1
  have x2 : w1.cell? ⟨w.heap.size, 2, none⟩ = some (.int .i64 de) := (H1.out.f (List.Mem.head _)).cell 2
  have xl : w.heap.size < w1.heap.size := (H1.out.f (List.Mem.head _)).lt
  go_wp2_with fail
  with_reducible refine (within_as de (-100) 100 _ v hv).mono ?_
  rintro x wz ⟨rfl, rfl⟩
  go_wp2
  go_ret
  exact ⟨rfl, H1.out.bel⟩

theorem vinc_as (d : Tri) (w : World) (hl : d.l.length ≤ 100000) (hn : made d.neg d.l d.e = d) (v : Bool) (hv : vinc d = v) :
    Calls Tryd.prog 60 #[V d] w fun x w' => x = .returned (.bool v) ∧ Below w.heap.size w w' := by
  unfold vinc at hv
  cases hz : d.l.isEmpty with
  | true => rw [hz] at hv; simp only [Bool.not_true, Bool.false_and] at hv; subst hv; exact vinc_z d w hl hn hz
  | false =>
    cases hneg : d.neg with
    | true => rw [hz, hneg] at hv; simp only [Bool.not_true, Bool.false_and, Bool.and_false] at hv; subst hv; exact vinc_n d w hl hn hz hneg
    | false =>
      by_cases h9 : (d.l.length : Int) ≤ 9
      · rw [hz, hneg, decide_eq_true h9] at hv
        simp only [Bool.not_false, Bool.true_and] at hv
        exact vinc_r d w hl hn hz hneg h9 v hv
      · rw [hz, hneg, decide_eq_false h9] at hv
        simp only [Bool.not_false, Bool.true_and, Bool.false_and] at hv
        subst hv
        exact vinc_l d w hl hn hz hneg h9
set_option maxRecDepth 100000 in
set_option maxHeartbeats 1600000 in
theorem valid_m (p : Prc) (w : World) (hl : p.inc.l.length ≤ 100000) (hm : vm p.mode = false) :
    Calls Tryd.prog 40 #[PV p] w fun x w' => x = .returned (.bool false) ∧ Below w.heap.size w w' := by
  go_enter Tryd.func40, Tryd.ntmps40
  go_wp2_with fail
  with_reducible refine (modeValid_as p.mode _ false hm).mono ?_
  rintro x wz ⟨rfl, rfl⟩
  go_wp2
  go_ret
  exact ⟨rfl, (HeldL.alloc (HeldL.refl w) (w.heap.size) #[.int .i64 p.kind, .int .i64 p.mn, .int .i64 p.mx, .bool p.inc.neg, S p.inc.l, .int .i64 p.inc.e, .int .i64 p.mode, .int .i64 p.mi] 34 (by simp)).bel⟩

set_option maxRecDepth 100000 in
set_option maxHeartbeats 1600000 in
theorem valid_i (p : Prc) (w : World) (hl : p.inc.l.length ≤ 100000) (hm : vm p.mode = true) (hi : wi p.mi 0 100 = false) :
    Calls Tryd.prog 40 #[PV p] w fun x w' => x = .returned (.bool false) ∧ Below w.heap.size w w' := by
  go_enter Tryd.func40, Tryd.ntmps40
  go_wp2_with fail
  with_reducible refine (modeValid_as p.mode _ true hm).mono ?_
  rintro x wz ⟨rfl, rfl⟩
  go_wp2_with fail
  with_reducible refine (within_as p.mi 0 100 _ false hi).mono ?_
  rintro x wz ⟨rfl, rfl⟩
  go_wp2
  go_ret
  exact ⟨rfl, (HeldL.alloc (HeldL.refl w) (w.heap.size) #[.int .i64 p.kind, .int .i64 p.mn, .int .i64 p.mx, .bool p.inc.neg, S p.inc.l, .int .i64 p.inc.e, .int .i64 p.mode, .int .i64 p.mi] 34 (by simp)).bel⟩

set_option maxRecDepth 100000 in
set_option maxHeartbeats 1600000 in
theorem valid_n (p : Prc) (w : World) (hl : p.inc.l.length ≤ 100000) (hm : vm p.mode = true) (hi : wi p.mi 0 100 = true) (hmn : wi p.mn 0 100 = false) :
    Calls Tryd.prog 40 #[PV p] w fun x w' => x = .returned (.bool false) ∧ Below w.heap.size w w' := by
  go_enter Tryd.func40, Tryd.ntmps40
  go_wp2_with fail
  with_reducible refine (modeValid_as p.mode _ true hm).mono ?_
  rintro x wz ⟨rfl, rfl⟩
  go_wp2_with fail
  with_reducible refine (within_as p.mi 0 100 _ true hi).mono ?_
  rintro x wz ⟨rfl, rfl⟩
  go_wp2_with fail
  with_reducible refine (within_as p.mn 0 100 _ false hmn).mono ?_
  rintro x wz ⟨rfl, rfl⟩
  go_wp2
  go_ret
  exact ⟨rfl, (HeldL.alloc (HeldL.refl w) (w.heap.size) #[.int .i64 p.kind, .int .i64 p.mn, .int .i64 p.mx, .bool p.inc.neg, S p.inc.l, .int .i64 p.inc.e, .int .i64 p.mode, .int .i64 p.mi] 34 (by simp)).bel⟩

set_option maxRecDepth 100000 in
set_option maxHeartbeats 1600000 in
theorem valid_f (p : Prc) (w : World) (hl : p.inc.l.length ≤ 100000) (hm : vm p.mode = true) (hi : wi p.mi 0 100 = true) (hmn : wi p.mn 0 100 = true) (hk : p.kind = 0) (v : Bool) (hv : wi p.mx p.mn 100 = v) :
    Calls Tryd.prog 40 #[PV p] w fun x w' => x = .returned (.bool v) ∧ Below w.heap.size w w' := by
  obtain ⟨pk, pmn, pmx, pinc, pmo, pmi⟩ := p
  simp only at *
  subst hk
  go_enter Tryd.func40, Tryd.ntmps40
  go_wp2_with fail
  with_reducible refine (modeValid_as pmo _ true hm).mono ?_
  rintro x wz ⟨rfl, rfl⟩
  go_wp2_with fail
  with_reducible refine (within_as pmi 0 100 _ true hi).mono ?_
  rintro x wz ⟨rfl, rfl⟩
  go_wp2_with fail
  with_reducible refine (within_as pmn 0 100 _ true hmn).mono ?_
  rintro x wz ⟨rfl, rfl⟩
  go_wp2_with fail
  with_reducible refine (within_as pmx pmn 100 _ v hv).mono ?_
  rintro x wz ⟨rfl, rfl⟩
  go_wp2
  go_ret
  exact ⟨rfl, (HeldL.alloc (HeldL.refl w) (w.heap.size) #[.int .i64 0, .int .i64 pmn, .int .i64 pmx, .bool pinc.neg, S pinc.l, .int .i64 pinc.e, .int .i64 pmo, .int .i64 pmi] 34 (by simp)).bel⟩

set_option maxRecDepth 100000 in
set_option maxHeartbeats 1600000 in
theorem valid_s0 (p : Prc) (w : World) (hl : p.inc.l.length ≤ 100000) (hm : vm p.mode = true) (hi : wi p.mi 0 100 = true) (hmn : wi p.mn 0 100 = true) (hk : p.kind = 1) (h1 : ¬ 1 ≤ p.mn) :
    Calls Tryd.prog 40 #[PV p] w fun x w' => x = .returned (.bool false) ∧ Below w.heap.size w w' := by
  obtain ⟨pk, pmn, pmx, pinc, pmo, pmi⟩ := p
  simp only at *
  subst hk
  go_enter Tryd.func40, Tryd.ntmps40
  go_wp2_with fail
  with_reducible refine (modeValid_as pmo _ true hm).mono ?_
  rintro x wz ⟨rfl, rfl⟩
  go_wp2_with fail
  with_reducible refine (within_as pmi 0 100 _ true hi).mono ?_
  rintro x wz ⟨rfl, rfl⟩
  go_wp2_with fail
  with_reducible refine (within_as pmn 0 100 _ true hmn).mono ?_
  rintro x wz ⟨rfl, rfl⟩
  go_wp2
  go_ret
  exact ⟨rfl, (HeldL.alloc (HeldL.refl w) (w.heap.size) #[.int .i64 1, .int .i64 pmn, .int .i64 pmx, .bool pinc.neg, S pinc.l, .int .i64 pinc.e, .int .i64 pmo, .int .i64 pmi] 34 (by simp)).bel⟩

set_option maxRecDepth 100000 in
set_option maxHeartbeats 1600000 in
theorem valid_s (p : Prc) (w : World) (hl : p.inc.l.length ≤ 100000) (hm : vm p.mode = true) (hi : wi p.mi 0 100 = true) (hmn : wi p.mn 0 100 = true) (hk : p.kind = 1) (h1 : 1 ≤ p.mn) (v : Bool) (hv : wi p.mx p.mn 100 = v) :
    Calls Tryd.prog 40 #[PV p] w fun x w' => x = .returned (.bool v) ∧ Below w.heap.size w w' := by
  obtain ⟨pk, pmn, pmx, pinc, pmo, pmi⟩ := p
  simp only at *
  subst hk
  go_enter Tryd.func40, Tryd.ntmps40
  go_wp2_with fail
  with_reducible refine (modeValid_as pmo _ true hm).mono ?_
  rintro x wz ⟨rfl, rfl⟩
  go_wp2_with fail
  with_reducible refine (within_as pmi 0 100 _ true hi).mono ?_
  rintro x wz ⟨rfl, rfl⟩
  go_wp2_with fail
  with_reducible refine (within_as pmn 0 100 _ true hmn).mono ?_
  rintro x wz ⟨rfl, rfl⟩
  go_wp2_with fail
  with_reducible refine (within_as pmx pmn 100 _ v hv).mono ?_
  rintro x wz ⟨rfl, rfl⟩
  go_wp2
  go_ret
  exact ⟨rfl, (HeldL.alloc (HeldL.refl w) (w.heap.size) #[.int .i64 1, .int .i64 pmn, .int .i64 pmx, .bool pinc.neg, S pinc.l, .int .i64 pinc.e, .int .i64 pmo, .int .i64 pmi] 34 (by simp)).bel⟩

set_option maxRecDepth 100000 in
set_option maxHeartbeats 1600000 in
theorem valid_t (p : Prc) (w : World) (hl : p.inc.l.length ≤ 100000) (hm : vm p.mode = true) (hi : wi p.mi 0 100 = true) (hmn : wi p.mn 0 100 = true) (hk : p.kind = 2) (g : Tri) (hn : made p.inc.neg p.inc.l p.inc.e = g) (gl : g.l.length ≤ 100000) (v : Bool) (hvi : vinc g = v) :
    Calls Tryd.prog 40 #[PV p] w fun x w' => x = .returned (.bool v) ∧ Below w.heap.size w w' := by
  have HN := Lib.hid hn
  have HVI := Lib.hid hvi
  clear hn hvi
  obtain ⟨pk, pmn, pmx, pinc, pmo, pmi⟩ := p
  simp only at *
  subst hk
  go_enter Tryd.func40, Tryd.ntmps40
  go_wp2_with fail
  with_reducible refine (modeValid_as pmo _ true hm).mono ?_
  rintro x wz ⟨rfl, rfl⟩
  go_wp2_with fail
  with_reducible refine (within_as pmi 0 100 _ true hi).mono ?_
  rintro x wz ⟨rfl, rfl⟩
  go_wp2_with fail
  with_reducible refine (within_as pmn 0 100 _ true hmn).mono ?_
  rintro x wz ⟨rfl, rfl⟩
  go_wp2_with fail
  with_reducible refine (norm_T pinc g _ hl HN.out).mono ?_
  rintro x w1 ⟨rfl, hb⟩
  have H1 : Hid (HeldL w [(w.heap.size, #[.int .i64 2, .int .i64 pmn, .int .i64 pmx, .bool pinc.neg, S pinc.l, .int .i64 pinc.e, .int .i64 pmo, .int .i64 pmi])] w1) := Lib.hid (HeldL.keep (HeldL.alloc (HeldL.refl w) (w.heap.size) #[.int .i64 2, .int .i64 pmn, .int .i64 pmx, .bool pinc.neg, S pinc.l, .int .i64 pinc.e, .int .i64 pmo, .int .i64 pmi] 34 (by simp)) hb)
  clear hb
  go_wp2_with fail
  with_reducible refine (vinc_as g _ gl (idem_of HN.out) v HVI.out).mono ?_
  rintro x w2 ⟨rfl, hb⟩
  have H2 : Hid (HeldL w [(w.heap.size, #[.int .i64 2, .int .i64 pmn, .int .i64 pmx, .bool pinc.neg, S pinc.l, .int .i64 pinc.e, .int .i64 pmo, .int .i64 pmi])] w2) := Lib.hid (HeldL.keep H1.out hb)
  clear H1
  clear hb
  go_wp2
  go_ret
  exact ⟨rfl, H2.out.bel⟩

set_option maxRecDepth 100000 in
set_option maxHeartbeats 1600000 in
theorem valid_o (p : Prc) (w : World) (hl : p.inc.l.length ≤ 100000) (hm : vm p.mode = true) (hi : wi p.mi 0 100 = true) (hmn : wi p.mn 0 100 = true) (k0 : ¬ p.kind = 0) (k1 : ¬ p.kind = 1) (k2 : ¬ p.kind = 2) :
    Calls Tryd.prog 40 #[PV p] w fun x w' => x = .returned (.bool false) ∧ Below w.heap.size w w' := by
  go_enter Tryd.func40, Tryd.ntmps40
  go_wp2_with fail
  with_reducible refine (modeValid_as p.mode _ true hm).mono ?_
  rintro x wz ⟨rfl, rfl⟩
  go_wp2_with fail
  with_reducible refine (within_as p.mi 0 100 _ true hi).mono ?_
  rintro x wz ⟨rfl, rfl⟩
  go_wp2_with fail
  with_reducible refine (within_as p.mn 0 100 _ true hmn).mono ?_
  rintro x wz ⟨rfl, rfl⟩
  go_wp2
  go_ret
  exact ⟨rfl, (HeldL.alloc (HeldL.refl w) (w.heap.size) #[.int .i64 p.kind, .int .i64 p.mn, .int .i64 p.mx, .bool p.inc.neg, S p.inc.l, .int .i64 p.inc.e, .int .i64 p.mode, .int .i64 p.mi] 34 (by simp)).bel⟩

/-- What may be asked. -/
def validP (p : Prc) : Bool := vm p.mode && (wi p.mi 0 100 && (wi p.mn 0 100 &&
  (if p.kind = 0 then wi p.mx p.mn 100 else if p.kind = 1 then decide (1 ≤ p.mn) && wi p.mx p.mn 100 else if p.kind = 2 then vinc (made p.inc.neg p.inc.l p.inc.e) else false)))
theorem valid_as (p : Prc) (w : World) (hl : p.inc.l.length ≤ 100000) (v : Bool) (hv : validP p = v) :
    Calls Tryd.prog 40 #[PV p] w fun x w' => x = .returned (.bool v) ∧ Below w.heap.size w w' := by
  unfold validP at hv
  cases hm : vm p.mode with
  | false => rw [hm] at hv; simp only [Bool.false_and] at hv; subst hv; exact valid_m p w hl hm
  | true =>
    cases hi : wi p.mi 0 100 with
    | false => rw [hm, hi] at hv; simp only [Bool.false_and, Bool.and_false] at hv; subst hv; exact valid_i p w hl hm hi
    | true =>
      cases hn : wi p.mn 0 100 with
      | false => rw [hm, hi, hn] at hv; simp only [Bool.false_and, Bool.and_false] at hv; subst hv; exact valid_n p w hl hm hi hn
      | true =>
        rw [hm, hi, hn] at hv
        simp only [Bool.true_and] at hv
        by_cases k0 : p.kind = 0
        · rw [if_pos k0] at hv; exact valid_f p w hl hm hi hn k0 v hv
        · rw [if_neg k0] at hv
          by_cases k1 : p.kind = 1
          · rw [if_pos k1] at hv
            by_cases h1 : 1 ≤ p.mn
            · rw [decide_eq_true h1, Bool.true_and] at hv; exact valid_s p w hl hm hi hn k1 h1 v hv
            · rw [decide_eq_false h1, Bool.false_and] at hv; subst hv; exact valid_s0 p w hl hm hi hn k1 h1
          · rw [if_neg k1] at hv
            by_cases k2 : p.kind = 2
            · rw [if_pos k2] at hv
              exact valid_t p w hl hm hi hn k2 _ rfl (Nat.le_trans (made_length _ _ _) hl) v hv
            · rw [if_neg k2] at hv; subst hv; exact valid_o p w hl hm hi hn k0 k1 k2
end Go.Proofs.YtegekkifgdakgaaDoor

namespace Go.Proofs.YtegekkifgdakgaaDoor
open Go.RowKit Florin
set_option linter.unusedVariables false
set_option linter.unusedSimpArgs false
attribute [local go_sem ↓] Go.wp_at_zero Go.wp_at_succ

/-- A decimal (in its normal form) as it is shown, rounded. -/
def roundP (p : Prc) (d : Tri) : Tri :=
  if p.kind = 0 then mulT d 1 (hld (-p.mx)) p.mode else if p.kind = 1 then sigT d p.mx p.mode else mulT d (val (made p.inc.neg p.inc.l p.inc.e).l) (made p.inc.neg p.inc.l p.inc.e).e p.mode
theorem stepT_any (d i : Tri) (m : Int) (g : Tri) (w : World) (h1 : d.l.length ≤ 100000) (h2 : i.l.length ≤ 100000) (hi : vinc (made i.neg i.l i.e) = true) (h : mulT (made d.neg d.l d.e) (val (made i.neg i.l i.e).l) (made i.neg i.l i.e).e m = g) (ht : Tab w) :
    Calls Tryd.prog 46 #[V d, V i, .int .i64 m] w fun z w' => z = .returned (V g) ∧ Below w.heap.size w w' := by
  have hdg := made_isDig i.neg i.l i.e
  have hnr := made_nrm i.neg i.l i.e
  cases hI : made i.neg i.l i.e with
  | mk b l e =>
  rw [hI] at hi h hdg hnr
  unfold vinc at hi
  simp only [Bool.and_eq_true, Bool.not_eq_true', decide_eq_true_eq] at hi
  obtain ⟨i1, i2, i3, i4⟩ := hi
  simp only at i1 i2 i3 hdg h
  subst i2
  have hlt := val_lt l hdg
  have h9 : 10 ^ l.length ≤ 10 ^ 9 := Nat.pow_le_pow_right (by decide) (by omega)
  have hpos : 1 ≤ val l := by
    rcases hnr with h0 | h0
    · have := congrArg Tri.l h0
      simp only [zero] at this
      rw [this] at i1; simp at i1
    · rcases Nat.eq_zero_or_pos (val l) with hv | hv
      · exfalso
        have hm := h0.made
        have hb : bare l = [] := by rw [bare_dig hdg, hv, dig_zero]
        simp only at hm
        rw [made_zero _ _ hb] at hm
        exact h0.ne (by rw [← hm]; rfl)
      · exact hv
  exact stepT_yes d i m g w h1 h2 l e hI hpos (by omega) h ht

set_option maxRecDepth 100000 in
set_option maxHeartbeats 3200000 in
theorem roundP_b (p : Prc) (x : Tri) (w : World) (pl : p.inc.l.length ≤ 100000) (xl : x.l.length ≤ 100000) (hv : validP p = false) :
    Calls Tryd.prog 15 #[PV p, V x] w fun z w' => z = .returned (V zero) ∧ Below w.heap.size w w' := by
  have HV := Lib.hid hv
  clear hv
  go_enter Tryd.func15, Tryd.ntmps15
  go_wp2_with fail
  with_reducible refine (valid_as p _ pl false HV.out).mono ?_
  rintro x w1 ⟨rfl, hb⟩
  have H1 : Hid (HeldL w [(w.heap.size + 1 + 1, #[.bool false, .string ⟨#[]⟩, .int .i64 0]), (w.heap.size + 1, #[.bool x.neg, S x.l, .int .i64 x.e]), (w.heap.size, #[.int .i64 p.kind, .int .i64 p.mn, .int .i64 p.mx, .bool p.inc.neg, S p.inc.l, .int .i64 p.inc.e, .int .i64 p.mode, .int .i64 p.mi])] w1) := Lib.hid (HeldL.keep (HeldL.alloc (HeldL.alloc (HeldL.alloc (HeldL.refl w) (w.heap.size) #[.int .i64 p.kind, .int .i64 p.mn, .int .i64 p.mx, .bool p.inc.neg, S p.inc.l, .int .i64 p.inc.e, .int .i64 p.mode, .int .i64 p.mi] 34 (by simp)) (w.heap.size + 1) #[.bool x.neg, S x.l, .int .i64 x.e] 31 (by simp)) (w.heap.size + 1 + 1) #[.bool false, .string ⟨#[]⟩, .int .i64 0] 31 (by simp)) hb)
  clear hb
  have bp0 : w1.cell? ⟨w.heap.size, 0, none⟩ = some (.int .i64 p.kind) := (H1.out.f (List.Mem.tail _ (List.Mem.tail _ (List.Mem.head _)))).cell 0
  have bp1 : w1.cell? ⟨w.heap.size, 1, none⟩ = some (.int .i64 p.mn) := (H1.out.f (List.Mem.tail _ (List.Mem.tail _ (List.Mem.head _)))).cell 1
  have bp2 : w1.cell? ⟨w.heap.size, 2, none⟩ = some (.int .i64 p.mx) := (H1.out.f (List.Mem.tail _ (List.Mem.tail _ (List.Mem.head _)))).cell 2
  have bp3 : w1.cell? ⟨w.heap.size, 3, none⟩ = some (.bool p.inc.neg) := (H1.out.f (List.Mem.tail _ (List.Mem.tail _ (List.Mem.head _)))).cell 3
  have bp4 : w1.cell? ⟨w.heap.size, 4, none⟩ = some (S p.inc.l) := (H1.out.f (List.Mem.tail _ (List.Mem.tail _ (List.Mem.head _)))).cell 4
  have bp5 : w1.cell? ⟨w.heap.size, 5, none⟩ = some (.int .i64 p.inc.e) := (H1.out.f (List.Mem.tail _ (List.Mem.tail _ (List.Mem.head _)))).cell 5
  have bp6 : w1.cell? ⟨w.heap.size, 6, none⟩ = some (.int .i64 p.mode) := (H1.out.f (List.Mem.tail _ (List.Mem.tail _ (List.Mem.head _)))).cell 6
  have bp7 : w1.cell? ⟨w.heap.size, 7, none⟩ = some (.int .i64 p.mi) := (H1.out.f (List.Mem.tail _ (List.Mem.tail _ (List.Mem.head _)))).cell 7
  have bpl : w.heap.size < w1.heap.size := (H1.out.f (List.Mem.tail _ (List.Mem.tail _ (List.Mem.head _)))).lt
  have bx0 : w1.cell? ⟨w.heap.size + 1, 0, none⟩ = some (.bool x.neg) := (H1.out.f (List.Mem.tail _ (List.Mem.head _))).cell 0
  have bx1 : w1.cell? ⟨w.heap.size + 1, 1, none⟩ = some (S x.l) := (H1.out.f (List.Mem.tail _ (List.Mem.head _))).cell 1
  have bx2 : w1.cell? ⟨w.heap.size + 1, 2, none⟩ = some (.int .i64 x.e) := (H1.out.f (List.Mem.tail _ (List.Mem.head _))).cell 2
  have bxl : w.heap.size + 1 < w1.heap.size := (H1.out.f (List.Mem.tail _ (List.Mem.head _))).lt
  have r0 : w1.cell? ⟨w.heap.size + 1 + 1, 0, none⟩ = some (.bool false) := (H1.out.f (List.Mem.head _)).cell 0
  have rz0 : w1.frozen? ⟨w.heap.size + 1 + 1, 0, none⟩ = false := (H1.out.f (List.Mem.head _)).frozen 0
  have r1 : w1.cell? ⟨w.heap.size + 1 + 1, 1, none⟩ = some (.string ⟨#[]⟩) := (H1.out.f (List.Mem.head _)).cell 1
  have rz1 : w1.frozen? ⟨w.heap.size + 1 + 1, 1, none⟩ = false := (H1.out.f (List.Mem.head _)).frozen 1
  have r2 : w1.cell? ⟨w.heap.size + 1 + 1, 2, none⟩ = some (.int .i64 0) := (H1.out.f (List.Mem.head _)).cell 2
  have rz2 : w1.frozen? ⟨w.heap.size + 1 + 1, 2, none⟩ = false := (H1.out.f (List.Mem.head _)).frozen 2
  have rl : w.heap.size + 1 + 1 < w1.heap.size := (H1.out.f (List.Mem.head _)).lt
  go_wp2
  exact bodyPost_ret (v := .agg #[.bool false, .string ⟨#[]⟩, .int .i64 0]) (by simp [results, Tryd.results15, go_sem, r0, r1, r2]) rfl ⟨rfl, (HeldL.store3 [] [(w.heap.size + 1, #[.bool x.neg, S x.l, .int .i64 x.e]), (w.heap.size, #[.int .i64 p.kind, .int .i64 p.mn, .int .i64 p.mx, .bool p.inc.neg, S p.inc.l, .int .i64 p.inc.e, .int .i64 p.mode, .int .i64 p.mi])] H1.out (.bool false) (.string ⟨#[]⟩) (.int .i64 0)).bel⟩

set_option maxRecDepth 100000 in
set_option maxHeartbeats 3200000 in
theorem roundP_f (p : Prc) (x : Tri) (w : World) (pl : p.inc.l.length ≤ 100000) (xl : x.l.length ≤ 100000) (hv : validP p = true) (kb : (p.kind == 0) = true) (b1 : 0 ≤ p.mx) (b2 : p.mx ≤ 100) (htab : Tab w) (g : Tri) (hg : mulT (made x.neg x.l x.e) 1 (hld (-p.mx)) p.mode = g) :
    Calls Tryd.prog 15 #[PV p, V x] w fun z w' => z = .returned (V g) ∧ Below w.heap.size w w' := by
  have HV := Lib.hid hv
  have HG := Lib.hid hg
  have HT := Lib.hid htab
  clear hv hg htab
  go_enter Tryd.func15, Tryd.ntmps15
  go_wp2_with fail
  with_reducible refine (valid_as p _ pl true HV.out).mono ?_
  rintro x w1 ⟨rfl, hb⟩
  have H1 : Hid (HeldL w [(w.heap.size + 1 + 1, #[.bool false, .string ⟨#[]⟩, .int .i64 0]), (w.heap.size + 1, #[.bool x.neg, S x.l, .int .i64 x.e]), (w.heap.size, #[.int .i64 p.kind, .int .i64 p.mn, .int .i64 p.mx, .bool p.inc.neg, S p.inc.l, .int .i64 p.inc.e, .int .i64 p.mode, .int .i64 p.mi])] w1) := Lib.hid (HeldL.keep (HeldL.alloc (HeldL.alloc (HeldL.alloc (HeldL.refl w) (w.heap.size) #[.int .i64 p.kind, .int .i64 p.mn, .int .i64 p.mx, .bool p.inc.neg, S p.inc.l, .int .i64 p.inc.e, .int .i64 p.mode, .int .i64 p.mi] 34 (by simp)) (w.heap.size + 1) #[.bool x.neg, S x.l, .int .i64 x.e] 31 (by simp)) (w.heap.size + 1 + 1) #[.bool false, .string ⟨#[]⟩, .int .i64 0] 31 (by simp)) hb)
  clear hb
  have bp0 : w1.cell? ⟨w.heap.size, 0, none⟩ = some (.int .i64 p.kind) := (H1.out.f (List.Mem.tail _ (List.Mem.tail _ (List.Mem.head _)))).cell 0
  have bp1 : w1.cell? ⟨w.heap.size, 1, none⟩ = some (.int .i64 p.mn) := (H1.out.f (List.Mem.tail _ (List.Mem.tail _ (List.Mem.head _)))).cell 1
  have bp2 : w1.cell? ⟨w.heap.size, 2, none⟩ = some (.int .i64 p.mx) := (H1.out.f (List.Mem.tail _ (List.Mem.tail _ (List.Mem.head _)))).cell 2
  have bp3 : w1.cell? ⟨w.heap.size, 3, none⟩ = some (.bool p.inc.neg) := (H1.out.f (List.Mem.tail _ (List.Mem.tail _ (List.Mem.head _)))).cell 3
  have bp4 : w1.cell? ⟨w.heap.size, 4, none⟩ = some (S p.inc.l) := (H1.out.f (List.Mem.tail _ (List.Mem.tail _ (List.Mem.head _)))).cell 4
  have bp5 : w1.cell? ⟨w.heap.size, 5, none⟩ = some (.int .i64 p.inc.e) := (H1.out.f (List.Mem.tail _ (List.Mem.tail _ (List.Mem.head _)))).cell 5
  have bp6 : w1.cell? ⟨w.heap.size, 6, none⟩ = some (.int .i64 p.mode) := (H1.out.f (List.Mem.tail _ (List.Mem.tail _ (List.Mem.head _)))).cell 6
  have bp7 : w1.cell? ⟨w.heap.size, 7, none⟩ = some (.int .i64 p.mi) := (H1.out.f (List.Mem.tail _ (List.Mem.tail _ (List.Mem.head _)))).cell 7
  have bpl : w.heap.size < w1.heap.size := (H1.out.f (List.Mem.tail _ (List.Mem.tail _ (List.Mem.head _)))).lt
  have bx0 : w1.cell? ⟨w.heap.size + 1, 0, none⟩ = some (.bool x.neg) := (H1.out.f (List.Mem.tail _ (List.Mem.head _))).cell 0
  have bx1 : w1.cell? ⟨w.heap.size + 1, 1, none⟩ = some (S x.l) := (H1.out.f (List.Mem.tail _ (List.Mem.head _))).cell 1
  have bx2 : w1.cell? ⟨w.heap.size + 1, 2, none⟩ = some (.int .i64 x.e) := (H1.out.f (List.Mem.tail _ (List.Mem.head _))).cell 2
  have bxl : w.heap.size + 1 < w1.heap.size := (H1.out.f (List.Mem.tail _ (List.Mem.head _))).lt
  have r0 : w1.cell? ⟨w.heap.size + 1 + 1, 0, none⟩ = some (.bool false) := (H1.out.f (List.Mem.head _)).cell 0
  have rz0 : w1.frozen? ⟨w.heap.size + 1 + 1, 0, none⟩ = false := (H1.out.f (List.Mem.head _)).frozen 0
  have r1 : w1.cell? ⟨w.heap.size + 1 + 1, 1, none⟩ = some (.string ⟨#[]⟩) := (H1.out.f (List.Mem.head _)).cell 1
  have rz1 : w1.frozen? ⟨w.heap.size + 1 + 1, 1, none⟩ = false := (H1.out.f (List.Mem.head _)).frozen 1
  have r2 : w1.cell? ⟨w.heap.size + 1 + 1, 2, none⟩ = some (.int .i64 0) := (H1.out.f (List.Mem.head _)).cell 2
  have rz2 : w1.frozen? ⟨w.heap.size + 1 + 1, 2, none⟩ = false := (H1.out.f (List.Mem.head _)).frozen 2
  have rl : w.heap.size + 1 + 1 < w1.heap.size := (H1.out.f (List.Mem.head _)).lt
  go_wp2_with fail
  with_reducible refine (at_T x (-p.mx) p.mode g _ xl HG.out (HT.out.below H1.out.bel)).mono ?_
  rintro x w2 ⟨rfl, hb⟩
  clear bp0 bp1 bp2 bp3 bp4 bp5 bp6 bp7 bpl bx0 bx1 bx2 bxl r0 rz0 r1 rz1 r2 rz2 rl
  have H2 : Hid (HeldL w [(w.heap.size + 1 + 1, #[.bool false, .string ⟨#[]⟩, .int .i64 0]), (w.heap.size + 1, #[.bool x.neg, S x.l, .int .i64 x.e]), (w.heap.size, #[.int .i64 p.kind, .int .i64 p.mn, .int .i64 p.mx, .bool p.inc.neg, S p.inc.l, .int .i64 p.inc.e, .int .i64 p.mode, .int .i64 p.mi])] w2) := Lib.hid (HeldL.keep H1.out hb)
  clear H1
  clear hb
  have r0 : w2.cell? ⟨w.heap.size + 1 + 1, 0, none⟩ = some (.bool false) := (H2.out.f (List.Mem.head _)).cell 0
  have rz0 : w2.frozen? ⟨w.heap.size + 1 + 1, 0, none⟩ = false := (H2.out.f (List.Mem.head _)).frozen 0
  have r1 : w2.cell? ⟨w.heap.size + 1 + 1, 1, none⟩ = some (.string ⟨#[]⟩) := (H2.out.f (List.Mem.head _)).cell 1
  have rz1 : w2.frozen? ⟨w.heap.size + 1 + 1, 1, none⟩ = false := (H2.out.f (List.Mem.head _)).frozen 1
  have r2 : w2.cell? ⟨w.heap.size + 1 + 1, 2, none⟩ = some (.int .i64 0) := (H2.out.f (List.Mem.head _)).cell 2
  have rz2 : w2.frozen? ⟨w.heap.size + 1 + 1, 2, none⟩ = false := (H2.out.f (List.Mem.head _)).frozen 2
  have rl : w.heap.size + 1 + 1 < w2.heap.size := (H2.out.f (List.Mem.head _)).lt
  go_wp2
  exact bodyPost_ret (v := V g) (by simp [results, Tryd.results15, go_sem, r0, r1, r2]) rfl ⟨rfl, (HeldL.store3 [] [(w.heap.size + 1, #[.bool x.neg, S x.l, .int .i64 x.e]), (w.heap.size, #[.int .i64 p.kind, .int .i64 p.mn, .int .i64 p.mx, .bool p.inc.neg, S p.inc.l, .int .i64 p.inc.e, .int .i64 p.mode, .int .i64 p.mi])] H2.out (.bool g.neg) (S g.l) (.int .i64 g.e)).bel⟩

set_option maxRecDepth 100000 in
set_option maxHeartbeats 3200000 in
theorem roundP_s (p : Prc) (x : Tri) (w : World) (pl : p.inc.l.length ≤ 100000) (xl : x.l.length ≤ 100000) (hv : validP p = true) (kb : (p.kind == 0) = false) (kb1 : (p.kind == 1) = true) (htab : Tab w) (g : Tri) (hg : sigT (made x.neg x.l x.e) p.mx p.mode = g) :
    Calls Tryd.prog 15 #[PV p, V x] w fun z w' => z = .returned (V g) ∧ Below w.heap.size w w' := by
  have HV := Lib.hid hv
  have HG := Lib.hid hg
  have HT := Lib.hid htab
  clear hv hg htab
  go_enter Tryd.func15, Tryd.ntmps15
  go_wp2_with fail
  with_reducible refine (valid_as p _ pl true HV.out).mono ?_
  rintro x w1 ⟨rfl, hb⟩
  have H1 : Hid (HeldL w [(w.heap.size + 1 + 1, #[.bool false, .string ⟨#[]⟩, .int .i64 0]), (w.heap.size + 1, #[.bool x.neg, S x.l, .int .i64 x.e]), (w.heap.size, #[.int .i64 p.kind, .int .i64 p.mn, .int .i64 p.mx, .bool p.inc.neg, S p.inc.l, .int .i64 p.inc.e, .int .i64 p.mode, .int .i64 p.mi])] w1) := Lib.hid (HeldL.keep (HeldL.alloc (HeldL.alloc (HeldL.alloc (HeldL.refl w) (w.heap.size) #[.int .i64 p.kind, .int .i64 p.mn, .int .i64 p.mx, .bool p.inc.neg, S p.inc.l, .int .i64 p.inc.e, .int .i64 p.mode, .int .i64 p.mi] 34 (by simp)) (w.heap.size + 1) #[.bool x.neg, S x.l, .int .i64 x.e] 31 (by simp)) (w.heap.size + 1 + 1) #[.bool false, .string ⟨#[]⟩, .int .i64 0] 31 (by simp)) hb)
  clear hb
  have bp0 : w1.cell? ⟨w.heap.size, 0, none⟩ = some (.int .i64 p.kind) := (H1.out.f (List.Mem.tail _ (List.Mem.tail _ (List.Mem.head _)))).cell 0
  have bp1 : w1.cell? ⟨w.heap.size, 1, none⟩ = some (.int .i64 p.mn) := (H1.out.f (List.Mem.tail _ (List.Mem.tail _ (List.Mem.head _)))).cell 1
  have bp2 : w1.cell? ⟨w.heap.size, 2, none⟩ = some (.int .i64 p.mx) := (H1.out.f (List.Mem.tail _ (List.Mem.tail _ (List.Mem.head _)))).cell 2
  have bp3 : w1.cell? ⟨w.heap.size, 3, none⟩ = some (.bool p.inc.neg) := (H1.out.f (List.Mem.tail _ (List.Mem.tail _ (List.Mem.head _)))).cell 3
  have bp4 : w1.cell? ⟨w.heap.size, 4, none⟩ = some (S p.inc.l) := (H1.out.f (List.Mem.tail _ (List.Mem.tail _ (List.Mem.head _)))).cell 4
  have bp5 : w1.cell? ⟨w.heap.size, 5, none⟩ = some (.int .i64 p.inc.e) := (H1.out.f (List.Mem.tail _ (List.Mem.tail _ (List.Mem.head _)))).cell 5
  have bp6 : w1.cell? ⟨w.heap.size, 6, none⟩ = some (.int .i64 p.mode) := (H1.out.f (List.Mem.tail _ (List.Mem.tail _ (List.Mem.head _)))).cell 6
  have bp7 : w1.cell? ⟨w.heap.size, 7, none⟩ = some (.int .i64 p.mi) := (H1.out.f (List.Mem.tail _ (List.Mem.tail _ (List.Mem.head _)))).cell 7
  have bpl : w.heap.size < w1.heap.size := (H1.out.f (List.Mem.tail _ (List.Mem.tail _ (List.Mem.head _)))).lt
  have bx0 : w1.cell? ⟨w.heap.size + 1, 0, none⟩ = some (.bool x.neg) := (H1.out.f (List.Mem.tail _ (List.Mem.head _))).cell 0
  have bx1 : w1.cell? ⟨w.heap.size + 1, 1, none⟩ = some (S x.l) := (H1.out.f (List.Mem.tail _ (List.Mem.head _))).cell 1
  have bx2 : w1.cell? ⟨w.heap.size + 1, 2, none⟩ = some (.int .i64 x.e) := (H1.out.f (List.Mem.tail _ (List.Mem.head _))).cell 2
  have bxl : w.heap.size + 1 < w1.heap.size := (H1.out.f (List.Mem.tail _ (List.Mem.head _))).lt
  have r0 : w1.cell? ⟨w.heap.size + 1 + 1, 0, none⟩ = some (.bool false) := (H1.out.f (List.Mem.head _)).cell 0
  have rz0 : w1.frozen? ⟨w.heap.size + 1 + 1, 0, none⟩ = false := (H1.out.f (List.Mem.head _)).frozen 0
  have r1 : w1.cell? ⟨w.heap.size + 1 + 1, 1, none⟩ = some (.string ⟨#[]⟩) := (H1.out.f (List.Mem.head _)).cell 1
  have rz1 : w1.frozen? ⟨w.heap.size + 1 + 1, 1, none⟩ = false := (H1.out.f (List.Mem.head _)).frozen 1
  have r2 : w1.cell? ⟨w.heap.size + 1 + 1, 2, none⟩ = some (.int .i64 0) := (H1.out.f (List.Mem.head _)).cell 2
  have rz2 : w1.frozen? ⟨w.heap.size + 1 + 1, 2, none⟩ = false := (H1.out.f (List.Mem.head _)).frozen 2
  have rl : w.heap.size + 1 + 1 < w1.heap.size := (H1.out.f (List.Mem.head _)).lt
  go_wp2_with fail
  with_reducible refine (sig_T x p.mx p.mode g _ xl HG.out (HT.out.below H1.out.bel)).mono ?_
  rintro x w2 ⟨rfl, hb⟩
  clear bp0 bp1 bp2 bp3 bp4 bp5 bp6 bp7 bpl bx0 bx1 bx2 bxl r0 rz0 r1 rz1 r2 rz2 rl
  have H2 : Hid (HeldL w [(w.heap.size + 1 + 1, #[.bool false, .string ⟨#[]⟩, .int .i64 0]), (w.heap.size + 1, #[.bool x.neg, S x.l, .int .i64 x.e]), (w.heap.size, #[.int .i64 p.kind, .int .i64 p.mn, .int .i64 p.mx, .bool p.inc.neg, S p.inc.l, .int .i64 p.inc.e, .int .i64 p.mode, .int .i64 p.mi])] w2) := Lib.hid (HeldL.keep H1.out hb)
  clear H1
  clear hb
  have r0 : w2.cell? ⟨w.heap.size + 1 + 1, 0, none⟩ = some (.bool false) := (H2.out.f (List.Mem.head _)).cell 0
  have rz0 : w2.frozen? ⟨w.heap.size + 1 + 1, 0, none⟩ = false := (H2.out.f (List.Mem.head _)).frozen 0
  have r1 : w2.cell? ⟨w.heap.size + 1 + 1, 1, none⟩ = some (.string ⟨#[]⟩) := (H2.out.f (List.Mem.head _)).cell 1
  have rz1 : w2.frozen? ⟨w.heap.size + 1 + 1, 1, none⟩ = false := (H2.out.f (List.Mem.head _)).frozen 1
  have r2 : w2.cell? ⟨w.heap.size + 1 + 1, 2, none⟩ = some (.int .i64 0) := (H2.out.f (List.Mem.head _)).cell 2
  have rz2 : w2.frozen? ⟨w.heap.size + 1 + 1, 2, none⟩ = false := (H2.out.f (List.Mem.head _)).frozen 2
  have rl : w.heap.size + 1 + 1 < w2.heap.size := (H2.out.f (List.Mem.head _)).lt
  go_wp2
  exact bodyPost_ret (v := V g) (by simp [results, Tryd.results15, go_sem, r0, r1, r2]) rfl ⟨rfl, (HeldL.store3 [] [(w.heap.size + 1, #[.bool x.neg, S x.l, .int .i64 x.e]), (w.heap.size, #[.int .i64 p.kind, .int .i64 p.mn, .int .i64 p.mx, .bool p.inc.neg, S p.inc.l, .int .i64 p.inc.e, .int .i64 p.mode, .int .i64 p.mi])] H2.out (.bool g.neg) (S g.l) (.int .i64 g.e)).bel⟩

set_option maxRecDepth 100000 in
set_option maxHeartbeats 3200000 in
theorem roundP_t (p : Prc) (x : Tri) (w : World) (pl : p.inc.l.length ≤ 100000) (xl : x.l.length ≤ 100000) (hv : validP p = true) (hk : ¬ p.kind = 0) (hk1 : ¬ p.kind = 1) (hvi : vinc (made p.inc.neg p.inc.l p.inc.e) = true) (htab : Tab w) (g : Tri) (hg : mulT (made x.neg x.l x.e) (val (made p.inc.neg p.inc.l p.inc.e).l) (made p.inc.neg p.inc.l p.inc.e).e p.mode = g) :
    Calls Tryd.prog 15 #[PV p, V x] w fun z w' => z = .returned (V g) ∧ Below w.heap.size w w' := by
  have HV := Lib.hid hv
  have HG := Lib.hid hg
  have HT := Lib.hid htab
  have HVI := Lib.hid hvi
  clear hv hg htab hvi
  go_enter Tryd.func15, Tryd.ntmps15
  go_wp2_with fail
  with_reducible refine (valid_as p _ pl true HV.out).mono ?_
  rintro x w1 ⟨rfl, hb⟩
  have H1 : Hid (HeldL w [(w.heap.size + 1 + 1, #[.bool false, .string ⟨#[]⟩, .int .i64 0]), (w.heap.size + 1, #[.bool x.neg, S x.l, .int .i64 x.e]), (w.heap.size, #[.int .i64 p.kind, .int .i64 p.mn, .int .i64 p.mx, .bool p.inc.neg, S p.inc.l, .int .i64 p.inc.e, .int .i64 p.mode, .int .i64 p.mi])] w1) := Lib.hid (HeldL.keep (HeldL.alloc (HeldL.alloc (HeldL.alloc (HeldL.refl w) (w.heap.size) #[.int .i64 p.kind, .int .i64 p.mn, .int .i64 p.mx, .bool p.inc.neg, S p.inc.l, .int .i64 p.inc.e, .int .i64 p.mode, .int .i64 p.mi] 34 (by simp)) (w.heap.size + 1) #[.bool x.neg, S x.l, .int .i64 x.e] 31 (by simp)) (w.heap.size + 1 + 1) #[.bool false, .string ⟨#[]⟩, .int .i64 0] 31 (by simp)) hb)
  clear hb
  have bp0 : w1.cell? ⟨w.heap.size, 0, none⟩ = some (.int .i64 p.kind) := (H1.out.f (List.Mem.tail _ (List.Mem.tail _ (List.Mem.head _)))).cell 0
  have bp1 : w1.cell? ⟨w.heap.size, 1, none⟩ = some (.int .i64 p.mn) := (H1.out.f (List.Mem.tail _ (List.Mem.tail _ (List.Mem.head _)))).cell 1
  have bp2 : w1.cell? ⟨w.heap.size, 2, none⟩ = some (.int .i64 p.mx) := (H1.out.f (List.Mem.tail _ (List.Mem.tail _ (List.Mem.head _)))).cell 2
  have bp3 : w1.cell? ⟨w.heap.size, 3, none⟩ = some (.bool p.inc.neg) := (H1.out.f (List.Mem.tail _ (List.Mem.tail _ (List.Mem.head _)))).cell 3
  have bp4 : w1.cell? ⟨w.heap.size, 4, none⟩ = some (S p.inc.l) := (H1.out.f (List.Mem.tail _ (List.Mem.tail _ (List.Mem.head _)))).cell 4
  have bp5 : w1.cell? ⟨w.heap.size, 5, none⟩ = some (.int .i64 p.inc.e) := (H1.out.f (List.Mem.tail _ (List.Mem.tail _ (List.Mem.head _)))).cell 5
  have bp6 : w1.cell? ⟨w.heap.size, 6, none⟩ = some (.int .i64 p.mode) := (H1.out.f (List.Mem.tail _ (List.Mem.tail _ (List.Mem.head _)))).cell 6
  have bp7 : w1.cell? ⟨w.heap.size, 7, none⟩ = some (.int .i64 p.mi) := (H1.out.f (List.Mem.tail _ (List.Mem.tail _ (List.Mem.head _)))).cell 7
  have bpl : w.heap.size < w1.heap.size := (H1.out.f (List.Mem.tail _ (List.Mem.tail _ (List.Mem.head _)))).lt
  have bx0 : w1.cell? ⟨w.heap.size + 1, 0, none⟩ = some (.bool x.neg) := (H1.out.f (List.Mem.tail _ (List.Mem.head _))).cell 0
  have bx1 : w1.cell? ⟨w.heap.size + 1, 1, none⟩ = some (S x.l) := (H1.out.f (List.Mem.tail _ (List.Mem.head _))).cell 1
  have bx2 : w1.cell? ⟨w.heap.size + 1, 2, none⟩ = some (.int .i64 x.e) := (H1.out.f (List.Mem.tail _ (List.Mem.head _))).cell 2
  have bxl : w.heap.size + 1 < w1.heap.size := (H1.out.f (List.Mem.tail _ (List.Mem.head _))).lt
  have r0 : w1.cell? ⟨w.heap.size + 1 + 1, 0, none⟩ = some (.bool false) := (H1.out.f (List.Mem.head _)).cell 0
  have rz0 : w1.frozen? ⟨w.heap.size + 1 + 1, 0, none⟩ = false := (H1.out.f (List.Mem.head _)).frozen 0
  have r1 : w1.cell? ⟨w.heap.size + 1 + 1, 1, none⟩ = some (.string ⟨#[]⟩) := (H1.out.f (List.Mem.head _)).cell 1
  have rz1 : w1.frozen? ⟨w.heap.size + 1 + 1, 1, none⟩ = false := (H1.out.f (List.Mem.head _)).frozen 1
  have r2 : w1.cell? ⟨w.heap.size + 1 + 1, 2, none⟩ = some (.int .i64 0) := (H1.out.f (List.Mem.head _)).cell 2
  have rz2 : w1.frozen? ⟨w.heap.size + 1 + 1, 2, none⟩ = false := (H1.out.f (List.Mem.head _)).frozen 2
  have rl : w.heap.size + 1 + 1 < w1.heap.size := (H1.out.f (List.Mem.head _)).lt
  go_wp2_with fail
  with_reducible refine (stepT_any x p.inc p.mode g _ xl pl HVI.out HG.out (HT.out.below H1.out.bel)).mono ?_
  rintro x w2 ⟨rfl, hb⟩
  clear bp0 bp1 bp2 bp3 bp4 bp5 bp6 bp7 bpl bx0 bx1 bx2 bxl r0 rz0 r1 rz1 r2 rz2 rl
  have H2 : Hid (HeldL w [(w.heap.size + 1 + 1, #[.bool false, .string ⟨#[]⟩, .int .i64 0]), (w.heap.size + 1, #[.bool x.neg, S x.l, .int .i64 x.e]), (w.heap.size, #[.int .i64 p.kind, .int .i64 p.mn, .int .i64 p.mx, .bool p.inc.neg, S p.inc.l, .int .i64 p.inc.e, .int .i64 p.mode, .int .i64 p.mi])] w2) := Lib.hid (HeldL.keep H1.out hb)
  clear H1
  clear hb
  have r0 : w2.cell? ⟨w.heap.size + 1 + 1, 0, none⟩ = some (.bool false) := (H2.out.f (List.Mem.head _)).cell 0
  have rz0 : w2.frozen? ⟨w.heap.size + 1 + 1, 0, none⟩ = false := (H2.out.f (List.Mem.head _)).frozen 0
  have r1 : w2.cell? ⟨w.heap.size + 1 + 1, 1, none⟩ = some (.string ⟨#[]⟩) := (H2.out.f (List.Mem.head _)).cell 1
  have rz1 : w2.frozen? ⟨w.heap.size + 1 + 1, 1, none⟩ = false := (H2.out.f (List.Mem.head _)).frozen 1
  have r2 : w2.cell? ⟨w.heap.size + 1 + 1, 2, none⟩ = some (.int .i64 0) := (H2.out.f (List.Mem.head _)).cell 2
  have rz2 : w2.frozen? ⟨w.heap.size + 1 + 1, 2, none⟩ = false := (H2.out.f (List.Mem.head _)).frozen 2
  have rl : w.heap.size + 1 + 1 < w2.heap.size := (H2.out.f (List.Mem.head _)).lt
  go_wp2
  exact bodyPost_ret (v := V g) (by simp [results, Tryd.results15, go_sem, r0, r1, r2]) rfl ⟨rfl, (HeldL.store3 [] [(w.heap.size + 1, #[.bool x.neg, S x.l, .int .i64 x.e]), (w.heap.size, #[.int .i64 p.kind, .int .i64 p.mn, .int .i64 p.mx, .bool p.inc.neg, S p.inc.l, .int .i64 p.inc.e, .int .i64 p.mode, .int .i64 p.mi])] H2.out (.bool g.neg) (S g.l) (.int .i64 g.e)).bel⟩

theorem validP_parts {p : Prc} (h : validP p = true) : (0 ≤ p.mode ∧ p.mode ≤ 6) ∧ (0 ≤ p.mi ∧ p.mi ≤ 100) ∧ (0 ≤ p.mn ∧ p.mn ≤ 100) ∧ ((p.kind = 0 ∧ p.mn ≤ p.mx ∧ p.mx ≤ 100) ∨ (p.kind = 1 ∧ 1 ≤ p.mn ∧ p.mn ≤ p.mx ∧ p.mx ≤ 100) ∨ (p.kind = 2 ∧ vinc (made p.inc.neg p.inc.l p.inc.e) = true)) := by
  unfold validP vm wi at h
  simp only [Bool.and_eq_true, decide_eq_true_eq] at h
  obtain ⟨h1, h2, h3, h4⟩ := h
  refine ⟨h1, h2, h3, ?_⟩
  by_cases k0 : p.kind = 0
  · rw [if_pos k0] at h4; simp only [Bool.and_eq_true, decide_eq_true_eq] at h4; exact .inl ⟨k0, h4⟩
  · rw [if_neg k0] at h4
    by_cases k1 : p.kind = 1
    · rw [if_pos k1] at h4; simp only [Bool.and_eq_true, decide_eq_true_eq] at h4; exact .inr (.inl ⟨k1, h4⟩)
    · rw [if_neg k1] at h4
      by_cases k2 : p.kind = 2
      · rw [if_pos k2] at h4; exact .inr (.inr ⟨k2, h4⟩)
      · rw [if_neg k2] at h4; cases h4
theorem roundP_as (p : Prc) (x : Tri) (w : World) (pl : p.inc.l.length ≤ 100000) (xl : x.l.length ≤ 100000) (hv : validP p = true) (htab : Tab w) (g : Tri) (hg : roundP p (made x.neg x.l x.e) = g) :
    Calls Tryd.prog 15 #[PV p, V x] w fun z w' => z = .returned (V g) ∧ Below w.heap.size w w' := by
  obtain ⟨_, _, h3, h4⟩ := validP_parts hv
  unfold roundP at hg
  rcases h4 with ⟨k, b1, b2⟩ | ⟨k, b0, b1, b2⟩ | ⟨k, b⟩
  · rw [if_pos k] at hg; exact roundP_f p x w pl xl hv (by simp [k]) (by omega) b2 htab g hg
  · rw [if_neg (by omega), if_pos k] at hg; exact roundP_s p x w pl xl hv (by simp [k]) (by simp [k]) htab g hg
  · rw [if_neg (by omega), if_neg (by omega)] at hg; exact roundP_t p x w pl xl hv (by omega) (by omega) b htab g hg
theorem mulT_len (d : Tri) (F : Nat) (p m : Int) (hd : d.l.length ≤ 1000) (hF : F ≤ 1000000000) (hF1 : 1 ≤ F) (hdg : isDig d.l = true) (h1 : -30000 ≤ d.e) (h2 : d.e ≤ 30000) (p1 : -30000 ≤ p) (p2 : p ≤ 30000) : (mulT d F p m).l.length ≤ 100000 := by
  unfold mulT
  split
  · split
    · omega
    · refine Nat.le_trans (made_length _ _ _) ?_
      obtain ⟨E, hE⟩ : ∃ E : Nat, d.l.length + (d.e - p).toNat = E := ⟨_, rfl⟩
      have hn : nN d p < 10 ^ E := by
        unfold nN
        have a1 := val_lt d.l hdg
        rw [← hE, Nat.pow_add]
        exact Nat.mul_lt_mul_of_lt_of_le a1 (Nat.le_refl _) (pow_pos' _)
      have hc : cnt m d.neg (uU d F p) (nN d p) ≤ nN d p + 1 := by
        unfold cnt
        have := Nat.div_le_self (nN d p) (uU d F p)
        split <;> omega
      refine Nat.le_trans ((dig_length_le _ (E + 11)).2 ?_) (by omega)
      have a5 : cnt m d.neg (uU d F p) (nN d p) * F ≤ 10 ^ E * 10 ^ 10 := Nat.mul_le_mul (Nat.le_trans hc hn) (Nat.le_trans hF (by decide))
      rw [← Nat.pow_add] at a5
      exact Nat.lt_of_le_of_lt a5 ((Nat.pow_lt_pow_iff_right (by decide)).2 (by omega))
  · omega

/-- How many digits behind the point are asked for. -/
def mfrac (p : Prc) (g : Tri) : Int := if p.kind = 1 then (if g.l = [] then p.mn - 1 else p.mn - 1 - (g.e + (g.l.length : Int) - 1)) else p.mn
set_option maxRecDepth 100000 in
set_option maxHeartbeats 3200000 in
theorem mfrac_o (p : Prc) (g : Tri) (w : World) (gl : g.l.length ≤ 100000) (n1 : 0 ≤ p.mn) (n2 : p.mn ≤ 100) (hk : ¬ p.kind = 1) :
    Calls Tryd.prog 43 #[PV p, V g] w fun z w' => z = .returned (.int .i64 p.mn) ∧ Below w.heap.size w w' := by
  go_enter Tryd.func43, Tryd.ntmps43
  go_wp2
  go_ret
  exact ⟨rfl, (HeldL.alloc (HeldL.alloc (HeldL.refl w) (w.heap.size) #[.int .i64 p.kind, .int .i64 p.mn, .int .i64 p.mx, .bool p.inc.neg, S p.inc.l, .int .i64 p.inc.e, .int .i64 p.mode, .int .i64 p.mi] 34 (by simp)) (w.heap.size + 1) #[.bool g.neg, S g.l, .int .i64 g.e] 31 (by simp)).bel⟩

set_option maxRecDepth 100000 in
set_option maxHeartbeats 3200000 in
theorem mfrac_z (p : Prc) (g : Tri) (w : World) (gl : g.l.length ≤ 100000) (n1 : 0 ≤ p.mn) (n2 : p.mn ≤ 100) (kb : (p.kind != 1) = false) (hg : made g.neg g.l g.e = zero) :
    Calls Tryd.prog 43 #[PV p, V g] w fun z w' => z = .returned (.int .i64 (p.mn - 1)) ∧ Below w.heap.size w w' := by
  have HG := Lib.hid hg
  clear hg
  have HZ : Hid (made g.neg g.l g.e = zero) := HG
  go_enter Tryd.func43, Tryd.ntmps43
  go_wp2_with fail
  with_reducible refine (mag_zero g.neg ⟨g.l.toArray⟩ g.e _ (by rw [arr_size]; omega) (by rw [arr_list]; exact HZ.out)).mono ?_
  rintro x w1 ⟨rfl, hb⟩
  have H1 : Hid (HeldL w [(w.heap.size + 1, #[.bool g.neg, S g.l, .int .i64 g.e]), (w.heap.size, #[.int .i64 p.kind, .int .i64 p.mn, .int .i64 p.mx, .bool p.inc.neg, S p.inc.l, .int .i64 p.inc.e, .int .i64 p.mode, .int .i64 p.mi])] w1) := Lib.hid (HeldL.keep (HeldL.alloc (HeldL.alloc (HeldL.refl w) (w.heap.size) #[.int .i64 p.kind, .int .i64 p.mn, .int .i64 p.mx, .bool p.inc.neg, S p.inc.l, .int .i64 p.inc.e, .int .i64 p.mode, .int .i64 p.mi] 34 (by simp)) (w.heap.size + 1) #[.bool g.neg, S g.l, .int .i64 g.e] 31 (by simp)) hb)
  clear hb
  have bp0 : w1.cell? ⟨w.heap.size, 0, none⟩ = some (.int .i64 p.kind) := (H1.out.f (List.Mem.tail _ (List.Mem.head _))).cell 0
  have bp1 : w1.cell? ⟨w.heap.size, 1, none⟩ = some (.int .i64 p.mn) := (H1.out.f (List.Mem.tail _ (List.Mem.head _))).cell 1
  have bp2 : w1.cell? ⟨w.heap.size, 2, none⟩ = some (.int .i64 p.mx) := (H1.out.f (List.Mem.tail _ (List.Mem.head _))).cell 2
  have bp3 : w1.cell? ⟨w.heap.size, 3, none⟩ = some (.bool p.inc.neg) := (H1.out.f (List.Mem.tail _ (List.Mem.head _))).cell 3
  have bp4 : w1.cell? ⟨w.heap.size, 4, none⟩ = some (S p.inc.l) := (H1.out.f (List.Mem.tail _ (List.Mem.head _))).cell 4
  have bp5 : w1.cell? ⟨w.heap.size, 5, none⟩ = some (.int .i64 p.inc.e) := (H1.out.f (List.Mem.tail _ (List.Mem.head _))).cell 5
  have bp6 : w1.cell? ⟨w.heap.size, 6, none⟩ = some (.int .i64 p.mode) := (H1.out.f (List.Mem.tail _ (List.Mem.head _))).cell 6
  have bp7 : w1.cell? ⟨w.heap.size, 7, none⟩ = some (.int .i64 p.mi) := (H1.out.f (List.Mem.tail _ (List.Mem.head _))).cell 7
  have bpl : w.heap.size < w1.heap.size := (H1.out.f (List.Mem.tail _ (List.Mem.head _))).lt
  go_wp2
  go_ret
  exact ⟨rfl, H1.out.bel⟩

set_option maxRecDepth 100000 in
set_option maxHeartbeats 3200000 in
theorem mfrac_s (p : Prc) (g : Tri) (w : World) (gl : g.l.length ≤ 100000) (n1 : 0 ≤ p.mn) (n2 : p.mn ≤ 100) (kb : (p.kind != 1) = false) (hg : made g.neg g.l g.e = g) (hne : g.l ≠ []) (e1 : -30000 ≤ g.e) (e2 : g.e ≤ 30000) :
    Calls Tryd.prog 43 #[PV p, V g] w fun z w' => z = .returned (.int .i64 (p.mn - 1 - (g.e + (g.l.length : Int) - 1))) ∧ Below w.heap.size w w' := by
  have HG := Lib.hid hg
  clear hg
  go_enter Tryd.func43, Tryd.ntmps43
  have HNE := Lib.hid hne
  obtain ⟨M, hM⟩ : ∃ M : Int, g.e + (g.l.length : Int) - 1 = M := ⟨_, rfl⟩
  have HM := Lib.hid hM
  have m1 : -30000 ≤ M := by have := List.length_pos_iff.2 hne; omega
  have m2 : M ≤ 140000 := by omega
  have HR : Hid (p.mn - 1 - (g.e + (g.l.length : Int) - 1) = p.mn - 1 - M) := Lib.hid (by rw [hM])
  clear hne hM
  go_wp2_with fail
  with_reducible refine (mag_some g.neg ⟨g.l.toArray⟩ g.e _ (by rw [arr_size]; omega) g (by rw [arr_list]; exact HG.out) HNE.out HG.out).mono ?_
  rintro x w1 ⟨rfl, hb⟩
  have H1 : Hid (HeldL w [(w.heap.size + 1, #[.bool g.neg, S g.l, .int .i64 g.e]), (w.heap.size, #[.int .i64 p.kind, .int .i64 p.mn, .int .i64 p.mx, .bool p.inc.neg, S p.inc.l, .int .i64 p.inc.e, .int .i64 p.mode, .int .i64 p.mi])] w1) := Lib.hid (HeldL.keep (HeldL.alloc (HeldL.alloc (HeldL.refl w) (w.heap.size) #[.int .i64 p.kind, .int .i64 p.mn, .int .i64 p.mx, .bool p.inc.neg, S p.inc.l, .int .i64 p.inc.e, .int .i64 p.mode, .int .i64 p.mi] 34 (by simp)) (w.heap.size + 1) #[.bool g.neg, S g.l, .int .i64 g.e] 31 (by simp)) hb)
  clear hb
  have bp0 : w1.cell? ⟨w.heap.size, 0, none⟩ = some (.int .i64 p.kind) := (H1.out.f (List.Mem.tail _ (List.Mem.head _))).cell 0
  have bp1 : w1.cell? ⟨w.heap.size, 1, none⟩ = some (.int .i64 p.mn) := (H1.out.f (List.Mem.tail _ (List.Mem.head _))).cell 1
  have bp2 : w1.cell? ⟨w.heap.size, 2, none⟩ = some (.int .i64 p.mx) := (H1.out.f (List.Mem.tail _ (List.Mem.head _))).cell 2
  have bp3 : w1.cell? ⟨w.heap.size, 3, none⟩ = some (.bool p.inc.neg) := (H1.out.f (List.Mem.tail _ (List.Mem.head _))).cell 3
  have bp4 : w1.cell? ⟨w.heap.size, 4, none⟩ = some (S p.inc.l) := (H1.out.f (List.Mem.tail _ (List.Mem.head _))).cell 4
  have bp5 : w1.cell? ⟨w.heap.size, 5, none⟩ = some (.int .i64 p.inc.e) := (H1.out.f (List.Mem.tail _ (List.Mem.head _))).cell 5
  have bp6 : w1.cell? ⟨w.heap.size, 6, none⟩ = some (.int .i64 p.mode) := (H1.out.f (List.Mem.tail _ (List.Mem.head _))).cell 6
  have bp7 : w1.cell? ⟨w.heap.size, 7, none⟩ = some (.int .i64 p.mi) := (H1.out.f (List.Mem.tail _ (List.Mem.head _))).cell 7
  have bpl : w.heap.size < w1.heap.size := (H1.out.f (List.Mem.tail _ (List.Mem.head _))).lt
  rw [HM.out]
  go_wp2
  go_ret
  exact ⟨by rw [HR.out]; rfl, H1.out.bel⟩

theorem mfrac_as (p : Prc) (g : Tri) (w : World) (gl : g.l.length ≤ 100000) (n1 : 0 ≤ p.mn) (n2 : p.mn ≤ 100) (hg : made g.neg g.l g.e = g) (F : Int) (hF : mfrac p g = F) :
    Calls Tryd.prog 43 #[PV p, V g] w fun z w' => z = .returned (.int .i64 F) ∧ Below w.heap.size w w' := by
  unfold mfrac at hF
  by_cases hk : p.kind = 1
  · rw [if_pos hk] at hF
    by_cases hz : g.l = []
    · rw [if_pos hz] at hF
      subst hF
      have h0 : made g.neg g.l g.e = zero := by
        rcases made_nrm g.neg g.l g.e with h | h
        · exact h
        · rw [hg] at h; exact absurd hz h.ne
      exact mfrac_z p g w gl n1 n2 (by simp [hk]) h0
    · rw [if_neg hz] at hF
      subst hF
      have he := made_exp g.neg g.l g.e
      rw [hg] at he
      exact mfrac_s p g w gl n1 n2 (by simp [hk]) hg hz he.1 he.2
  · rw [if_neg hk] at hF; subst hF; exact mfrac_o p g w gl n1 n2 hk

/-- What is shown. -/
structure Vs where
  neg : Bool
  i : List UInt8
  f : List UInt8
deriving DecidableEq
abbrev VV (v : Vs) : Value := .agg #[.bool v.neg, S v.i, S v.f]
/-- The digits that are shown of a decimal that is rounded. -/
def visP (p : Prc) (g : Tri) : Vs :=
  let a := zs (p.mi - ((partsT g).1.length : Int)).toNat ++ (partsT g).1
  let b := (partsT g).2 ++ zs (mfrac p g - ((partsT g).2.length : Int)).toNat
  ⟨g.neg, if a = [] ∧ b = [] then [48] else a, b⟩
theorem parts_T (d : Tri) (a b : List UInt8) (w : World) (h1 : d.l.length ≤ 100000) (h : partsT (made d.neg d.l d.e) = (a, b)) :
    Calls Tryd.prog 41 #[V d] w fun z w' => z = .returned (.tuple #[S a, S b]) ∧ Below w.heap.size w w' :=
  parts_as d.neg ⟨d.l.toArray⟩ d.e w (by rw [arr_size]; omega) _ (by rw [arr_list]) a b h

set_option maxRecDepth 100000 in
set_option maxHeartbeats 3200000 in
theorem apply_b (p : Prc) (x : Tri) (w : World) (pl : p.inc.l.length ≤ 100000) (hv : validP p = false) :
    Calls Tryd.prog 13 #[PV p, V x] w fun z w' => z = .returned (.tuple #[VV ⟨false, [], []⟩, .int .i64 3]) ∧ Below w.heap.size w w' := by
  have HV := Lib.hid hv
  clear hv
  go_enter Tryd.func13, Tryd.ntmps13
  go_wp2_with fail
  with_reducible refine (valid_as p _ pl false HV.out).mono ?_
  rintro x w1 ⟨rfl, hb⟩
  have H1 : Hid (HeldL w [(w.heap.size + 1 + 1, #[.bool false, .string ⟨#[]⟩, .string ⟨#[]⟩]), (w.heap.size + 1, #[.bool x.neg, S x.l, .int .i64 x.e]), (w.heap.size, #[.int .i64 p.kind, .int .i64 p.mn, .int .i64 p.mx, .bool p.inc.neg, S p.inc.l, .int .i64 p.inc.e, .int .i64 p.mode, .int .i64 p.mi])] w1) := Lib.hid (HeldL.keep (HeldL.alloc (HeldL.alloc (HeldL.alloc (HeldL.refl w) (w.heap.size) #[.int .i64 p.kind, .int .i64 p.mn, .int .i64 p.mx, .bool p.inc.neg, S p.inc.l, .int .i64 p.inc.e, .int .i64 p.mode, .int .i64 p.mi] 34 (by simp)) (w.heap.size + 1) #[.bool x.neg, S x.l, .int .i64 x.e] 31 (by simp)) (w.heap.size + 1 + 1) #[.bool false, .string ⟨#[]⟩, .string ⟨#[]⟩] 37 (by simp)) hb)
  clear hb
  have bp0 : w1.cell? ⟨w.heap.size, 0, none⟩ = some (.int .i64 p.kind) := (H1.out.f (List.Mem.tail _ (List.Mem.tail _ (List.Mem.head _)))).cell 0
  have bp1 : w1.cell? ⟨w.heap.size, 1, none⟩ = some (.int .i64 p.mn) := (H1.out.f (List.Mem.tail _ (List.Mem.tail _ (List.Mem.head _)))).cell 1
  have bp2 : w1.cell? ⟨w.heap.size, 2, none⟩ = some (.int .i64 p.mx) := (H1.out.f (List.Mem.tail _ (List.Mem.tail _ (List.Mem.head _)))).cell 2
  have bp3 : w1.cell? ⟨w.heap.size, 3, none⟩ = some (.bool p.inc.neg) := (H1.out.f (List.Mem.tail _ (List.Mem.tail _ (List.Mem.head _)))).cell 3
  have bp4 : w1.cell? ⟨w.heap.size, 4, none⟩ = some (S p.inc.l) := (H1.out.f (List.Mem.tail _ (List.Mem.tail _ (List.Mem.head _)))).cell 4
  have bp5 : w1.cell? ⟨w.heap.size, 5, none⟩ = some (.int .i64 p.inc.e) := (H1.out.f (List.Mem.tail _ (List.Mem.tail _ (List.Mem.head _)))).cell 5
  have bp6 : w1.cell? ⟨w.heap.size, 6, none⟩ = some (.int .i64 p.mode) := (H1.out.f (List.Mem.tail _ (List.Mem.tail _ (List.Mem.head _)))).cell 6
  have bp7 : w1.cell? ⟨w.heap.size, 7, none⟩ = some (.int .i64 p.mi) := (H1.out.f (List.Mem.tail _ (List.Mem.tail _ (List.Mem.head _)))).cell 7
  have bpl : w.heap.size < w1.heap.size := (H1.out.f (List.Mem.tail _ (List.Mem.tail _ (List.Mem.head _)))).lt
  have bx0 : w1.cell? ⟨w.heap.size + 1, 0, none⟩ = some (.bool x.neg) := (H1.out.f (List.Mem.tail _ (List.Mem.head _))).cell 0
  have bx1 : w1.cell? ⟨w.heap.size + 1, 1, none⟩ = some (S x.l) := (H1.out.f (List.Mem.tail _ (List.Mem.head _))).cell 1
  have bx2 : w1.cell? ⟨w.heap.size + 1, 2, none⟩ = some (.int .i64 x.e) := (H1.out.f (List.Mem.tail _ (List.Mem.head _))).cell 2
  have bxl : w.heap.size + 1 < w1.heap.size := (H1.out.f (List.Mem.tail _ (List.Mem.head _))).lt
  have r0 : w1.cell? ⟨w.heap.size + 1 + 1, 0, none⟩ = some (.bool false) := (H1.out.f (List.Mem.head _)).cell 0
  have rz0 : w1.frozen? ⟨w.heap.size + 1 + 1, 0, none⟩ = false := (H1.out.f (List.Mem.head _)).frozen 0
  have r1 : w1.cell? ⟨w.heap.size + 1 + 1, 1, none⟩ = some (.string ⟨#[]⟩) := (H1.out.f (List.Mem.head _)).cell 1
  have rz1 : w1.frozen? ⟨w.heap.size + 1 + 1, 1, none⟩ = false := (H1.out.f (List.Mem.head _)).frozen 1
  have r2 : w1.cell? ⟨w.heap.size + 1 + 1, 2, none⟩ = some (.string ⟨#[]⟩) := (H1.out.f (List.Mem.head _)).cell 2
  have rz2 : w1.frozen? ⟨w.heap.size + 1 + 1, 2, none⟩ = false := (H1.out.f (List.Mem.head _)).frozen 2
  have rl : w.heap.size + 1 + 1 < w1.heap.size := (H1.out.f (List.Mem.head _)).lt
  go_wp2
  exact bodyPost_ret (v := .tuple #[.agg #[.bool false, .string ⟨#[]⟩, .string ⟨#[]⟩], .int .i64 3]) (by simp [results, Tryd.results13, go_sem, r0, r1, r2]) rfl ⟨rfl, (HeldL.store3 [] [(w.heap.size + 1, #[.bool x.neg, S x.l, .int .i64 x.e]), (w.heap.size, #[.int .i64 p.kind, .int .i64 p.mn, .int .i64 p.mx, .bool p.inc.neg, S p.inc.l, .int .i64 p.inc.e, .int .i64 p.mode, .int .i64 p.mi])] H1.out _ _ _).bel⟩

set_option maxRecDepth 100000 in
set_option maxHeartbeats 3200000 in
theorem apply_a (p : Prc) (x : Tri) (w : World) (pl : p.inc.l.length ≤ 100000) (xl : x.l.length ≤ 100000) (hv : validP p = true) (htab : Tab w) (g : Tri) (hg : roundP p (made x.neg x.l x.e) = g) (gl : g.l.length ≤ 100000) (hi : made g.neg g.l g.e = g) (n1 : 0 ≤ p.mn) (n2 : p.mn ≤ 100) (i1 : 0 ≤ p.mi) (i2 : p.mi ≤ 100) (a b : List UInt8) (hp : partsT (made g.neg g.l g.e) = (a, b)) (al : a.length ≤ 1030000) (bl : b.length ≤ 1030000) (F : Int) (hF : mfrac p g = F) (F1 : -150000 ≤ F) (F2 : F ≤ 40000) (A B : List UInt8) (ha : zs (p.mi - (a.length : Int)).toNat ++ a = A) (hb : b ++ zs (F - (b.length : Int)).toNat = B) (hA : ¬ A = []) :
    Calls Tryd.prog 13 #[PV p, V x] w fun z w' => z = .returned (.tuple #[VV ⟨g.neg, A, B⟩, .int .i64 0]) ∧ Below w.heap.size w w' := by
  have sa : (⟨(zs (p.mi - (a.length : Int)).toNat).toArray⟩ : ByteArray) ++ (⟨a.toArray⟩ : ByteArray) = ⟨A.toArray⟩ := by rw [arr_append, ha]
  have sb : (⟨b.toArray⟩ : ByteArray) ++ (⟨(zs (F - (b.length : Int)).toNat).toArray⟩ : ByteArray) = ⟨B.toArray⟩ := by rw [arr_append, hb]
  have SA := Lib.hid sa
  have SB := Lib.hid sb
  have za : (zs (p.mi - (a.length : Int)).toNat).length ≤ 60000 := by rw [zs_length]; omega
  have zb : (zs (F - (b.length : Int)).toNat).length ≤ 60000 := by rw [zs_length]; omega
  obtain ⟨M, hM⟩ : ∃ M : Int, p.mi - (a.length : Int) = M := ⟨_, rfl⟩
  obtain ⟨K, hK⟩ : ∃ K : Int, F - (b.length : Int) = K := ⟨_, rfl⟩
  rw [hM] at SA za
  rw [hK] at SB zb
  have HM := Lib.hid hM
  have HK := Lib.hid hK
  have M6 : M ≤ 60000 := by omega
  have K6 : K ≤ 60000 := by omega
  have cat1 : ¬ 9223372036854775807 < (zs M.toNat).length + a.length := by omega
  have cat2 : ¬ 9223372036854775807 < b.length + (zs K.toNat).length := by omega
  have HV := Lib.hid hv
  have HG := Lib.hid hg
  have HT := Lib.hid htab
  have HI := Lib.hid hi
  have HP := Lib.hid hp
  have HF := Lib.hid hF
  have HA := Lib.hid ha
  have HB := Lib.hid hb
  clear sa sb hM hK hv hg htab hi hp hF ha hb
  go_enter Tryd.func13, Tryd.ntmps13
  go_wp2_with fail
  with_reducible refine (valid_as p _ pl true HV.out).mono ?_
  rintro x w1 ⟨rfl, hb⟩
  have H1 : Hid (HeldL w [(w.heap.size + 1 + 1, #[.bool false, .string ⟨#[]⟩, .string ⟨#[]⟩]), (w.heap.size + 1, #[.bool x.neg, S x.l, .int .i64 x.e]), (w.heap.size, #[.int .i64 p.kind, .int .i64 p.mn, .int .i64 p.mx, .bool p.inc.neg, S p.inc.l, .int .i64 p.inc.e, .int .i64 p.mode, .int .i64 p.mi])] w1) := Lib.hid (HeldL.keep (HeldL.alloc (HeldL.alloc (HeldL.alloc (HeldL.refl w) (w.heap.size) #[.int .i64 p.kind, .int .i64 p.mn, .int .i64 p.mx, .bool p.inc.neg, S p.inc.l, .int .i64 p.inc.e, .int .i64 p.mode, .int .i64 p.mi] 34 (by simp)) (w.heap.size + 1) #[.bool x.neg, S x.l, .int .i64 x.e] 31 (by simp)) (w.heap.size + 1 + 1) #[.bool false, .string ⟨#[]⟩, .string ⟨#[]⟩] 37 (by simp)) hb)
  clear hb
  have bp0 : w1.cell? ⟨w.heap.size, 0, none⟩ = some (.int .i64 p.kind) := (H1.out.f (List.Mem.tail _ (List.Mem.tail _ (List.Mem.head _)))).cell 0
  have bp1 : w1.cell? ⟨w.heap.size, 1, none⟩ = some (.int .i64 p.mn) := (H1.out.f (List.Mem.tail _ (List.Mem.tail _ (List.Mem.head _)))).cell 1
  have bp2 : w1.cell? ⟨w.heap.size, 2, none⟩ = some (.int .i64 p.mx) := (H1.out.f (List.Mem.tail _ (List.Mem.tail _ (List.Mem.head _)))).cell 2
  have bp3 : w1.cell? ⟨w.heap.size, 3, none⟩ = some (.bool p.inc.neg) := (H1.out.f (List.Mem.tail _ (List.Mem.tail _ (List.Mem.head _)))).cell 3
  have bp4 : w1.cell? ⟨w.heap.size, 4, none⟩ = some (S p.inc.l) := (H1.out.f (List.Mem.tail _ (List.Mem.tail _ (List.Mem.head _)))).cell 4
  have bp5 : w1.cell? ⟨w.heap.size, 5, none⟩ = some (.int .i64 p.inc.e) := (H1.out.f (List.Mem.tail _ (List.Mem.tail _ (List.Mem.head _)))).cell 5
  have bp6 : w1.cell? ⟨w.heap.size, 6, none⟩ = some (.int .i64 p.mode) := (H1.out.f (List.Mem.tail _ (List.Mem.tail _ (List.Mem.head _)))).cell 6
  have bp7 : w1.cell? ⟨w.heap.size, 7, none⟩ = some (.int .i64 p.mi) := (H1.out.f (List.Mem.tail _ (List.Mem.tail _ (List.Mem.head _)))).cell 7
  have bpl : w.heap.size < w1.heap.size := (H1.out.f (List.Mem.tail _ (List.Mem.tail _ (List.Mem.head _)))).lt
  have bx0 : w1.cell? ⟨w.heap.size + 1, 0, none⟩ = some (.bool x.neg) := (H1.out.f (List.Mem.tail _ (List.Mem.head _))).cell 0
  have bx1 : w1.cell? ⟨w.heap.size + 1, 1, none⟩ = some (S x.l) := (H1.out.f (List.Mem.tail _ (List.Mem.head _))).cell 1
  have bx2 : w1.cell? ⟨w.heap.size + 1, 2, none⟩ = some (.int .i64 x.e) := (H1.out.f (List.Mem.tail _ (List.Mem.head _))).cell 2
  have bxl : w.heap.size + 1 < w1.heap.size := (H1.out.f (List.Mem.tail _ (List.Mem.head _))).lt
  have r0 : w1.cell? ⟨w.heap.size + 1 + 1, 0, none⟩ = some (.bool false) := (H1.out.f (List.Mem.head _)).cell 0
  have rz0 : w1.frozen? ⟨w.heap.size + 1 + 1, 0, none⟩ = false := (H1.out.f (List.Mem.head _)).frozen 0
  have r1 : w1.cell? ⟨w.heap.size + 1 + 1, 1, none⟩ = some (.string ⟨#[]⟩) := (H1.out.f (List.Mem.head _)).cell 1
  have rz1 : w1.frozen? ⟨w.heap.size + 1 + 1, 1, none⟩ = false := (H1.out.f (List.Mem.head _)).frozen 1
  have r2 : w1.cell? ⟨w.heap.size + 1 + 1, 2, none⟩ = some (.string ⟨#[]⟩) := (H1.out.f (List.Mem.head _)).cell 2
  have rz2 : w1.frozen? ⟨w.heap.size + 1 + 1, 2, none⟩ = false := (H1.out.f (List.Mem.head _)).frozen 2
  have rl : w.heap.size + 1 + 1 < w1.heap.size := (H1.out.f (List.Mem.head _)).lt
  go_wp2_with fail
  with_reducible refine (roundP_as p x _ pl xl HV.out (HT.out.below H1.out.bel) g HG.out).mono ?_
  rintro x w2 ⟨rfl, hb⟩
  clear bp0 bp1 bp2 bp3 bp4 bp5 bp6 bp7 bpl bx0 bx1 bx2 bxl r0 rz0 r1 rz1 r2 rz2 rl
  have H2 : Hid (HeldL w [(w.heap.size + 1 + 1, #[.bool false, .string ⟨#[]⟩, .string ⟨#[]⟩]), (w.heap.size + 1, #[.bool x.neg, S x.l, .int .i64 x.e]), (w.heap.size, #[.int .i64 p.kind, .int .i64 p.mn, .int .i64 p.mx, .bool p.inc.neg, S p.inc.l, .int .i64 p.inc.e, .int .i64 p.mode, .int .i64 p.mi])] w2) := Lib.hid (HeldL.keep H1.out hb)
  clear H1
  clear hb
  have bp0 : w2.cell? ⟨w.heap.size, 0, none⟩ = some (.int .i64 p.kind) := (H2.out.f (List.Mem.tail _ (List.Mem.tail _ (List.Mem.head _)))).cell 0
  have bp1 : w2.cell? ⟨w.heap.size, 1, none⟩ = some (.int .i64 p.mn) := (H2.out.f (List.Mem.tail _ (List.Mem.tail _ (List.Mem.head _)))).cell 1
  have bp2 : w2.cell? ⟨w.heap.size, 2, none⟩ = some (.int .i64 p.mx) := (H2.out.f (List.Mem.tail _ (List.Mem.tail _ (List.Mem.head _)))).cell 2
  have bp3 : w2.cell? ⟨w.heap.size, 3, none⟩ = some (.bool p.inc.neg) := (H2.out.f (List.Mem.tail _ (List.Mem.tail _ (List.Mem.head _)))).cell 3
  have bp4 : w2.cell? ⟨w.heap.size, 4, none⟩ = some (S p.inc.l) := (H2.out.f (List.Mem.tail _ (List.Mem.tail _ (List.Mem.head _)))).cell 4
  have bp5 : w2.cell? ⟨w.heap.size, 5, none⟩ = some (.int .i64 p.inc.e) := (H2.out.f (List.Mem.tail _ (List.Mem.tail _ (List.Mem.head _)))).cell 5
  have bp6 : w2.cell? ⟨w.heap.size, 6, none⟩ = some (.int .i64 p.mode) := (H2.out.f (List.Mem.tail _ (List.Mem.tail _ (List.Mem.head _)))).cell 6
  have bp7 : w2.cell? ⟨w.heap.size, 7, none⟩ = some (.int .i64 p.mi) := (H2.out.f (List.Mem.tail _ (List.Mem.tail _ (List.Mem.head _)))).cell 7
  have bpl : w.heap.size < w2.heap.size := (H2.out.f (List.Mem.tail _ (List.Mem.tail _ (List.Mem.head _)))).lt
  have bx0 : w2.cell? ⟨w.heap.size + 1, 0, none⟩ = some (.bool x.neg) := (H2.out.f (List.Mem.tail _ (List.Mem.head _))).cell 0
  have bxz0 : w2.frozen? ⟨w.heap.size + 1, 0, none⟩ = false := (H2.out.f (List.Mem.tail _ (List.Mem.head _))).frozen 0
  have bx1 : w2.cell? ⟨w.heap.size + 1, 1, none⟩ = some (S x.l) := (H2.out.f (List.Mem.tail _ (List.Mem.head _))).cell 1
  have bxz1 : w2.frozen? ⟨w.heap.size + 1, 1, none⟩ = false := (H2.out.f (List.Mem.tail _ (List.Mem.head _))).frozen 1
  have bx2 : w2.cell? ⟨w.heap.size + 1, 2, none⟩ = some (.int .i64 x.e) := (H2.out.f (List.Mem.tail _ (List.Mem.head _))).cell 2
  have bxz2 : w2.frozen? ⟨w.heap.size + 1, 2, none⟩ = false := (H2.out.f (List.Mem.tail _ (List.Mem.head _))).frozen 2
  have bxl : w.heap.size + 1 < w2.heap.size := (H2.out.f (List.Mem.tail _ (List.Mem.head _))).lt
  have r0 : w2.cell? ⟨w.heap.size + 1 + 1, 0, none⟩ = some (.bool false) := (H2.out.f (List.Mem.head _)).cell 0
  have rz0 : w2.frozen? ⟨w.heap.size + 1 + 1, 0, none⟩ = false := (H2.out.f (List.Mem.head _)).frozen 0
  have r1 : w2.cell? ⟨w.heap.size + 1 + 1, 1, none⟩ = some (.string ⟨#[]⟩) := (H2.out.f (List.Mem.head _)).cell 1
  have rz1 : w2.frozen? ⟨w.heap.size + 1 + 1, 1, none⟩ = false := (H2.out.f (List.Mem.head _)).frozen 1
  have r2 : w2.cell? ⟨w.heap.size + 1 + 1, 2, none⟩ = some (.string ⟨#[]⟩) := (H2.out.f (List.Mem.head _)).cell 2
  have rz2 : w2.frozen? ⟨w.heap.size + 1 + 1, 2, none⟩ = false := (H2.out.f (List.Mem.head _)).frozen 2
  have rl : w.heap.size + 1 + 1 < w2.heap.size := (H2.out.f (List.Mem.head _)).lt
  go_wp2_with fail
  clear bp0 bp1 bp2 bp3 bp4 bp5 bp6 bp7 bpl bx0 bxz0 bx1 bxz1 bx2 bxz2 bxl r0 rz0 r1 rz1 r2 rz2 rl
  have H3 : Hid (HeldL w [(w.heap.size + 1 + 1, #[.bool false, .string ⟨#[]⟩, .string ⟨#[]⟩]), (w.heap.size + 1, #[.bool g.neg, S g.l, .int .i64 g.e]), (w.heap.size, #[.int .i64 p.kind, .int .i64 p.mn, .int .i64 p.mx, .bool p.inc.neg, S p.inc.l, .int .i64 p.inc.e, .int .i64 p.mode, .int .i64 p.mi])] (((w2.setCell ⟨w.heap.size + 1, 0, none⟩ (.bool g.neg)).setCell ⟨w.heap.size + 1, 1, none⟩ (S g.l)).setCell ⟨w.heap.size + 1, 2, none⟩ (.int .i64 g.e))) := Lib.hid (HeldL.store3 [(w.heap.size + 1 + 1, #[.bool false, .string ⟨#[]⟩, .string ⟨#[]⟩])] [(w.heap.size, #[.int .i64 p.kind, .int .i64 p.mn, .int .i64 p.mx, .bool p.inc.neg, S p.inc.l, .int .i64 p.inc.e, .int .i64 p.mode, .int .i64 p.mi])] (H2.out) (.bool g.neg) (S g.l) (.int .i64 g.e))
  generalize (((w2.setCell ⟨w.heap.size + 1, 0, none⟩ (.bool g.neg)).setCell ⟨w.heap.size + 1, 1, none⟩ (S g.l)).setCell ⟨w.heap.size + 1, 2, none⟩ (.int .i64 g.e)) = w3 at *
  clear H2
  have bp0 : w3.cell? ⟨w.heap.size, 0, none⟩ = some (.int .i64 p.kind) := (H3.out.f (List.Mem.tail _ (List.Mem.tail _ (List.Mem.head _)))).cell 0
  have bp1 : w3.cell? ⟨w.heap.size, 1, none⟩ = some (.int .i64 p.mn) := (H3.out.f (List.Mem.tail _ (List.Mem.tail _ (List.Mem.head _)))).cell 1
  have bp2 : w3.cell? ⟨w.heap.size, 2, none⟩ = some (.int .i64 p.mx) := (H3.out.f (List.Mem.tail _ (List.Mem.tail _ (List.Mem.head _)))).cell 2
  have bp3 : w3.cell? ⟨w.heap.size, 3, none⟩ = some (.bool p.inc.neg) := (H3.out.f (List.Mem.tail _ (List.Mem.tail _ (List.Mem.head _)))).cell 3
  have bp4 : w3.cell? ⟨w.heap.size, 4, none⟩ = some (S p.inc.l) := (H3.out.f (List.Mem.tail _ (List.Mem.tail _ (List.Mem.head _)))).cell 4
  have bp5 : w3.cell? ⟨w.heap.size, 5, none⟩ = some (.int .i64 p.inc.e) := (H3.out.f (List.Mem.tail _ (List.Mem.tail _ (List.Mem.head _)))).cell 5
  have bp6 : w3.cell? ⟨w.heap.size, 6, none⟩ = some (.int .i64 p.mode) := (H3.out.f (List.Mem.tail _ (List.Mem.tail _ (List.Mem.head _)))).cell 6
  have bp7 : w3.cell? ⟨w.heap.size, 7, none⟩ = some (.int .i64 p.mi) := (H3.out.f (List.Mem.tail _ (List.Mem.tail _ (List.Mem.head _)))).cell 7
  have bpl : w.heap.size < w3.heap.size := (H3.out.f (List.Mem.tail _ (List.Mem.tail _ (List.Mem.head _)))).lt
  have bx0 : w3.cell? ⟨w.heap.size + 1, 0, none⟩ = some (.bool g.neg) := (H3.out.f (List.Mem.tail _ (List.Mem.head _))).cell 0
  have bx1 : w3.cell? ⟨w.heap.size + 1, 1, none⟩ = some (S g.l) := (H3.out.f (List.Mem.tail _ (List.Mem.head _))).cell 1
  have bx2 : w3.cell? ⟨w.heap.size + 1, 2, none⟩ = some (.int .i64 g.e) := (H3.out.f (List.Mem.tail _ (List.Mem.head _))).cell 2
  have bxl : w.heap.size + 1 < w3.heap.size := (H3.out.f (List.Mem.tail _ (List.Mem.head _))).lt
  have r0 : w3.cell? ⟨w.heap.size + 1 + 1, 0, none⟩ = some (.bool false) := (H3.out.f (List.Mem.head _)).cell 0
  have rz0 : w3.frozen? ⟨w.heap.size + 1 + 1, 0, none⟩ = false := (H3.out.f (List.Mem.head _)).frozen 0
  have r1 : w3.cell? ⟨w.heap.size + 1 + 1, 1, none⟩ = some (.string ⟨#[]⟩) := (H3.out.f (List.Mem.head _)).cell 1
  have rz1 : w3.frozen? ⟨w.heap.size + 1 + 1, 1, none⟩ = false := (H3.out.f (List.Mem.head _)).frozen 1
  have r2 : w3.cell? ⟨w.heap.size + 1 + 1, 2, none⟩ = some (.string ⟨#[]⟩) := (H3.out.f (List.Mem.head _)).cell 2
  have rz2 : w3.frozen? ⟨w.heap.size + 1 + 1, 2, none⟩ = false := (H3.out.f (List.Mem.head _)).frozen 2
  have rl : w.heap.size + 1 + 1 < w3.heap.size := (H3.out.f (List.Mem.head _)).lt
  with_reducible refine (parts_T g a b _ gl HP.out).mono ?_
  rintro x w4 ⟨rfl, hb⟩
  clear bp0 bp1 bp2 bp3 bp4 bp5 bp6 bp7 bpl bx0 bx1 bx2 bxl r0 rz0 r1 rz1 r2 rz2 rl
  have H4 : Hid (HeldL w [(w.heap.size + 1 + 1, #[.bool false, .string ⟨#[]⟩, .string ⟨#[]⟩]), (w.heap.size + 1, #[.bool g.neg, S g.l, .int .i64 g.e]), (w.heap.size, #[.int .i64 p.kind, .int .i64 p.mn, .int .i64 p.mx, .bool p.inc.neg, S p.inc.l, .int .i64 p.inc.e, .int .i64 p.mode, .int .i64 p.mi])] w4) := Lib.hid (HeldL.keep H3.out hb)
  clear H3
  clear hb
  have bp0 : w4.cell? ⟨w.heap.size, 0, none⟩ = some (.int .i64 p.kind) := (H4.out.f (List.Mem.tail _ (List.Mem.tail _ (List.Mem.head _)))).cell 0
  have bp1 : w4.cell? ⟨w.heap.size, 1, none⟩ = some (.int .i64 p.mn) := (H4.out.f (List.Mem.tail _ (List.Mem.tail _ (List.Mem.head _)))).cell 1
  have bp2 : w4.cell? ⟨w.heap.size, 2, none⟩ = some (.int .i64 p.mx) := (H4.out.f (List.Mem.tail _ (List.Mem.tail _ (List.Mem.head _)))).cell 2
  have bp3 : w4.cell? ⟨w.heap.size, 3, none⟩ = some (.bool p.inc.neg) := (H4.out.f (List.Mem.tail _ (List.Mem.tail _ (List.Mem.head _)))).cell 3
  have bp4 : w4.cell? ⟨w.heap.size, 4, none⟩ = some (S p.inc.l) := (H4.out.f (List.Mem.tail _ (List.Mem.tail _ (List.Mem.head _)))).cell 4
  have bp5 : w4.cell? ⟨w.heap.size, 5, none⟩ = some (.int .i64 p.inc.e) := (H4.out.f (List.Mem.tail _ (List.Mem.tail _ (List.Mem.head _)))).cell 5
  have bp6 : w4.cell? ⟨w.heap.size, 6, none⟩ = some (.int .i64 p.mode) := (H4.out.f (List.Mem.tail _ (List.Mem.tail _ (List.Mem.head _)))).cell 6
  have bp7 : w4.cell? ⟨w.heap.size, 7, none⟩ = some (.int .i64 p.mi) := (H4.out.f (List.Mem.tail _ (List.Mem.tail _ (List.Mem.head _)))).cell 7
  have bpl : w.heap.size < w4.heap.size := (H4.out.f (List.Mem.tail _ (List.Mem.tail _ (List.Mem.head _)))).lt
  have bx0 : w4.cell? ⟨w.heap.size + 1, 0, none⟩ = some (.bool g.neg) := (H4.out.f (List.Mem.tail _ (List.Mem.head _))).cell 0
  have bx1 : w4.cell? ⟨w.heap.size + 1, 1, none⟩ = some (S g.l) := (H4.out.f (List.Mem.tail _ (List.Mem.head _))).cell 1
  have bx2 : w4.cell? ⟨w.heap.size + 1, 2, none⟩ = some (.int .i64 g.e) := (H4.out.f (List.Mem.tail _ (List.Mem.head _))).cell 2
  have bxl : w.heap.size + 1 < w4.heap.size := (H4.out.f (List.Mem.tail _ (List.Mem.head _))).lt
  have r0 : w4.cell? ⟨w.heap.size + 1 + 1, 0, none⟩ = some (.bool false) := (H4.out.f (List.Mem.head _)).cell 0
  have rz0 : w4.frozen? ⟨w.heap.size + 1 + 1, 0, none⟩ = false := (H4.out.f (List.Mem.head _)).frozen 0
  have r1 : w4.cell? ⟨w.heap.size + 1 + 1, 1, none⟩ = some (.string ⟨#[]⟩) := (H4.out.f (List.Mem.head _)).cell 1
  have rz1 : w4.frozen? ⟨w.heap.size + 1 + 1, 1, none⟩ = false := (H4.out.f (List.Mem.head _)).frozen 1
  have r2 : w4.cell? ⟨w.heap.size + 1 + 1, 2, none⟩ = some (.string ⟨#[]⟩) := (H4.out.f (List.Mem.head _)).cell 2
  have rz2 : w4.frozen? ⟨w.heap.size + 1 + 1, 2, none⟩ = false := (H4.out.f (List.Mem.head _)).frozen 2
  have rl : w.heap.size + 1 + 1 < w4.heap.size := (H4.out.f (List.Mem.head _)).lt
  go_wp2_with fail
  rw [HM.out]
  with_reducible refine (zeros_as M _ M6).mono ?_
  rintro x w5 ⟨rfl, hb⟩
  clear bp0 bp1 bp2 bp3 bp4 bp5 bp6 bp7 bpl bx0 bx1 bx2 bxl r0 rz0 r1 rz1 r2 rz2 rl
  have H5 : Hid (HeldL w [(w.heap.size + 1 + 1, #[.bool false, .string ⟨#[]⟩, .string ⟨#[]⟩]), (w.heap.size + 1, #[.bool g.neg, S g.l, .int .i64 g.e]), (w.heap.size, #[.int .i64 p.kind, .int .i64 p.mn, .int .i64 p.mx, .bool p.inc.neg, S p.inc.l, .int .i64 p.inc.e, .int .i64 p.mode, .int .i64 p.mi])] w5) := Lib.hid (HeldL.keep H4.out hb)
  clear H4
  clear hb
  have bp0 : w5.cell? ⟨w.heap.size, 0, none⟩ = some (.int .i64 p.kind) := (H5.out.f (List.Mem.tail _ (List.Mem.tail _ (List.Mem.head _)))).cell 0
  have bp1 : w5.cell? ⟨w.heap.size, 1, none⟩ = some (.int .i64 p.mn) := (H5.out.f (List.Mem.tail _ (List.Mem.tail _ (List.Mem.head _)))).cell 1
  have bp2 : w5.cell? ⟨w.heap.size, 2, none⟩ = some (.int .i64 p.mx) := (H5.out.f (List.Mem.tail _ (List.Mem.tail _ (List.Mem.head _)))).cell 2
  have bp3 : w5.cell? ⟨w.heap.size, 3, none⟩ = some (.bool p.inc.neg) := (H5.out.f (List.Mem.tail _ (List.Mem.tail _ (List.Mem.head _)))).cell 3
  have bp4 : w5.cell? ⟨w.heap.size, 4, none⟩ = some (S p.inc.l) := (H5.out.f (List.Mem.tail _ (List.Mem.tail _ (List.Mem.head _)))).cell 4
  have bp5 : w5.cell? ⟨w.heap.size, 5, none⟩ = some (.int .i64 p.inc.e) := (H5.out.f (List.Mem.tail _ (List.Mem.tail _ (List.Mem.head _)))).cell 5
  have bp6 : w5.cell? ⟨w.heap.size, 6, none⟩ = some (.int .i64 p.mode) := (H5.out.f (List.Mem.tail _ (List.Mem.tail _ (List.Mem.head _)))).cell 6
  have bp7 : w5.cell? ⟨w.heap.size, 7, none⟩ = some (.int .i64 p.mi) := (H5.out.f (List.Mem.tail _ (List.Mem.tail _ (List.Mem.head _)))).cell 7
  have bpl : w.heap.size < w5.heap.size := (H5.out.f (List.Mem.tail _ (List.Mem.tail _ (List.Mem.head _)))).lt
  have bx0 : w5.cell? ⟨w.heap.size + 1, 0, none⟩ = some (.bool g.neg) := (H5.out.f (List.Mem.tail _ (List.Mem.head _))).cell 0
  have bx1 : w5.cell? ⟨w.heap.size + 1, 1, none⟩ = some (S g.l) := (H5.out.f (List.Mem.tail _ (List.Mem.head _))).cell 1
  have bx2 : w5.cell? ⟨w.heap.size + 1, 2, none⟩ = some (.int .i64 g.e) := (H5.out.f (List.Mem.tail _ (List.Mem.head _))).cell 2
  have bxl : w.heap.size + 1 < w5.heap.size := (H5.out.f (List.Mem.tail _ (List.Mem.head _))).lt
  have r0 : w5.cell? ⟨w.heap.size + 1 + 1, 0, none⟩ = some (.bool false) := (H5.out.f (List.Mem.head _)).cell 0
  have rz0 : w5.frozen? ⟨w.heap.size + 1 + 1, 0, none⟩ = false := (H5.out.f (List.Mem.head _)).frozen 0
  have r1 : w5.cell? ⟨w.heap.size + 1 + 1, 1, none⟩ = some (.string ⟨#[]⟩) := (H5.out.f (List.Mem.head _)).cell 1
  have rz1 : w5.frozen? ⟨w.heap.size + 1 + 1, 1, none⟩ = false := (H5.out.f (List.Mem.head _)).frozen 1
  have r2 : w5.cell? ⟨w.heap.size + 1 + 1, 2, none⟩ = some (.string ⟨#[]⟩) := (H5.out.f (List.Mem.head _)).cell 2
  have rz2 : w5.frozen? ⟨w.heap.size + 1 + 1, 2, none⟩ = false := (H5.out.f (List.Mem.head _)).frozen 2
  have rl : w.heap.size + 1 + 1 < w5.heap.size := (H5.out.f (List.Mem.head _)).lt
  go_wp2_with fail
  rw [SA.out]
  with_reducible refine (mfrac_as p g _ gl n1 n2 HI.out F HF.out).mono ?_
  rintro x w6 ⟨rfl, hb⟩
  clear bp0 bp1 bp2 bp3 bp4 bp5 bp6 bp7 bpl bx0 bx1 bx2 bxl r0 rz0 r1 rz1 r2 rz2 rl
  have H6 : Hid (HeldL w [(w.heap.size + 1 + 1, #[.bool false, .string ⟨#[]⟩, .string ⟨#[]⟩]), (w.heap.size + 1, #[.bool g.neg, S g.l, .int .i64 g.e]), (w.heap.size, #[.int .i64 p.kind, .int .i64 p.mn, .int .i64 p.mx, .bool p.inc.neg, S p.inc.l, .int .i64 p.inc.e, .int .i64 p.mode, .int .i64 p.mi])] w6) := Lib.hid (HeldL.keep H5.out hb)
  clear H5
  clear hb
  have bp0 : w6.cell? ⟨w.heap.size, 0, none⟩ = some (.int .i64 p.kind) := (H6.out.f (List.Mem.tail _ (List.Mem.tail _ (List.Mem.head _)))).cell 0
  have bp1 : w6.cell? ⟨w.heap.size, 1, none⟩ = some (.int .i64 p.mn) := (H6.out.f (List.Mem.tail _ (List.Mem.tail _ (List.Mem.head _)))).cell 1
  have bp2 : w6.cell? ⟨w.heap.size, 2, none⟩ = some (.int .i64 p.mx) := (H6.out.f (List.Mem.tail _ (List.Mem.tail _ (List.Mem.head _)))).cell 2
  have bp3 : w6.cell? ⟨w.heap.size, 3, none⟩ = some (.bool p.inc.neg) := (H6.out.f (List.Mem.tail _ (List.Mem.tail _ (List.Mem.head _)))).cell 3
  have bp4 : w6.cell? ⟨w.heap.size, 4, none⟩ = some (S p.inc.l) := (H6.out.f (List.Mem.tail _ (List.Mem.tail _ (List.Mem.head _)))).cell 4
  have bp5 : w6.cell? ⟨w.heap.size, 5, none⟩ = some (.int .i64 p.inc.e) := (H6.out.f (List.Mem.tail _ (List.Mem.tail _ (List.Mem.head _)))).cell 5
  have bp6 : w6.cell? ⟨w.heap.size, 6, none⟩ = some (.int .i64 p.mode) := (H6.out.f (List.Mem.tail _ (List.Mem.tail _ (List.Mem.head _)))).cell 6
  have bp7 : w6.cell? ⟨w.heap.size, 7, none⟩ = some (.int .i64 p.mi) := (H6.out.f (List.Mem.tail _ (List.Mem.tail _ (List.Mem.head _)))).cell 7
  have bpl : w.heap.size < w6.heap.size := (H6.out.f (List.Mem.tail _ (List.Mem.tail _ (List.Mem.head _)))).lt
  have bx0 : w6.cell? ⟨w.heap.size + 1, 0, none⟩ = some (.bool g.neg) := (H6.out.f (List.Mem.tail _ (List.Mem.head _))).cell 0
  have bx1 : w6.cell? ⟨w.heap.size + 1, 1, none⟩ = some (S g.l) := (H6.out.f (List.Mem.tail _ (List.Mem.head _))).cell 1
  have bx2 : w6.cell? ⟨w.heap.size + 1, 2, none⟩ = some (.int .i64 g.e) := (H6.out.f (List.Mem.tail _ (List.Mem.head _))).cell 2
  have bxl : w.heap.size + 1 < w6.heap.size := (H6.out.f (List.Mem.tail _ (List.Mem.head _))).lt
  have r0 : w6.cell? ⟨w.heap.size + 1 + 1, 0, none⟩ = some (.bool false) := (H6.out.f (List.Mem.head _)).cell 0
  have rz0 : w6.frozen? ⟨w.heap.size + 1 + 1, 0, none⟩ = false := (H6.out.f (List.Mem.head _)).frozen 0
  have r1 : w6.cell? ⟨w.heap.size + 1 + 1, 1, none⟩ = some (.string ⟨#[]⟩) := (H6.out.f (List.Mem.head _)).cell 1
  have rz1 : w6.frozen? ⟨w.heap.size + 1 + 1, 1, none⟩ = false := (H6.out.f (List.Mem.head _)).frozen 1
  have r2 : w6.cell? ⟨w.heap.size + 1 + 1, 2, none⟩ = some (.string ⟨#[]⟩) := (H6.out.f (List.Mem.head _)).cell 2
  have rz2 : w6.frozen? ⟨w.heap.size + 1 + 1, 2, none⟩ = false := (H6.out.f (List.Mem.head _)).frozen 2
  have rl : w.heap.size + 1 + 1 < w6.heap.size := (H6.out.f (List.Mem.head _)).lt
  go_wp2_with fail
  rw [HK.out]
  with_reducible refine (zeros_as K _ K6).mono ?_
  rintro x w7 ⟨rfl, hb⟩
  clear bp0 bp1 bp2 bp3 bp4 bp5 bp6 bp7 bpl bx0 bx1 bx2 bxl r0 rz0 r1 rz1 r2 rz2 rl
  have H7 : Hid (HeldL w [(w.heap.size + 1 + 1, #[.bool false, .string ⟨#[]⟩, .string ⟨#[]⟩]), (w.heap.size + 1, #[.bool g.neg, S g.l, .int .i64 g.e]), (w.heap.size, #[.int .i64 p.kind, .int .i64 p.mn, .int .i64 p.mx, .bool p.inc.neg, S p.inc.l, .int .i64 p.inc.e, .int .i64 p.mode, .int .i64 p.mi])] w7) := Lib.hid (HeldL.keep H6.out hb)
  clear H6
  clear hb
  have bp0 : w7.cell? ⟨w.heap.size, 0, none⟩ = some (.int .i64 p.kind) := (H7.out.f (List.Mem.tail _ (List.Mem.tail _ (List.Mem.head _)))).cell 0
  have bp1 : w7.cell? ⟨w.heap.size, 1, none⟩ = some (.int .i64 p.mn) := (H7.out.f (List.Mem.tail _ (List.Mem.tail _ (List.Mem.head _)))).cell 1
  have bp2 : w7.cell? ⟨w.heap.size, 2, none⟩ = some (.int .i64 p.mx) := (H7.out.f (List.Mem.tail _ (List.Mem.tail _ (List.Mem.head _)))).cell 2
  have bp3 : w7.cell? ⟨w.heap.size, 3, none⟩ = some (.bool p.inc.neg) := (H7.out.f (List.Mem.tail _ (List.Mem.tail _ (List.Mem.head _)))).cell 3
  have bp4 : w7.cell? ⟨w.heap.size, 4, none⟩ = some (S p.inc.l) := (H7.out.f (List.Mem.tail _ (List.Mem.tail _ (List.Mem.head _)))).cell 4
  have bp5 : w7.cell? ⟨w.heap.size, 5, none⟩ = some (.int .i64 p.inc.e) := (H7.out.f (List.Mem.tail _ (List.Mem.tail _ (List.Mem.head _)))).cell 5
  have bp6 : w7.cell? ⟨w.heap.size, 6, none⟩ = some (.int .i64 p.mode) := (H7.out.f (List.Mem.tail _ (List.Mem.tail _ (List.Mem.head _)))).cell 6
  have bp7 : w7.cell? ⟨w.heap.size, 7, none⟩ = some (.int .i64 p.mi) := (H7.out.f (List.Mem.tail _ (List.Mem.tail _ (List.Mem.head _)))).cell 7
  have bpl : w.heap.size < w7.heap.size := (H7.out.f (List.Mem.tail _ (List.Mem.tail _ (List.Mem.head _)))).lt
  have bx0 : w7.cell? ⟨w.heap.size + 1, 0, none⟩ = some (.bool g.neg) := (H7.out.f (List.Mem.tail _ (List.Mem.head _))).cell 0
  have bx1 : w7.cell? ⟨w.heap.size + 1, 1, none⟩ = some (S g.l) := (H7.out.f (List.Mem.tail _ (List.Mem.head _))).cell 1
  have bx2 : w7.cell? ⟨w.heap.size + 1, 2, none⟩ = some (.int .i64 g.e) := (H7.out.f (List.Mem.tail _ (List.Mem.head _))).cell 2
  have bxl : w.heap.size + 1 < w7.heap.size := (H7.out.f (List.Mem.tail _ (List.Mem.head _))).lt
  have r0 : w7.cell? ⟨w.heap.size + 1 + 1, 0, none⟩ = some (.bool false) := (H7.out.f (List.Mem.head _)).cell 0
  have rz0 : w7.frozen? ⟨w.heap.size + 1 + 1, 0, none⟩ = false := (H7.out.f (List.Mem.head _)).frozen 0
  have r1 : w7.cell? ⟨w.heap.size + 1 + 1, 1, none⟩ = some (.string ⟨#[]⟩) := (H7.out.f (List.Mem.head _)).cell 1
  have rz1 : w7.frozen? ⟨w.heap.size + 1 + 1, 1, none⟩ = false := (H7.out.f (List.Mem.head _)).frozen 1
  have r2 : w7.cell? ⟨w.heap.size + 1 + 1, 2, none⟩ = some (.string ⟨#[]⟩) := (H7.out.f (List.Mem.head _)).cell 2
  have rz2 : w7.frozen? ⟨w.heap.size + 1 + 1, 2, none⟩ = false := (H7.out.f (List.Mem.head _)).frozen 2
  have rl : w.heap.size + 1 + 1 < w7.heap.size := (H7.out.f (List.Mem.head _)).lt
  try rw [SB.out]
  go_wp2
  exact bodyPost_ret (v := .tuple #[.agg #[.bool g.neg, .string ⟨A.toArray⟩, .string ⟨B.toArray⟩], .int .i64 0]) (by simp [results, Tryd.results13, go_sem, r0, r1, r2, SB.out]) rfl ⟨rfl, (HeldL.store3 [] [(w.heap.size + 1, #[.bool g.neg, S g.l, .int .i64 g.e]), (w.heap.size, #[.int .i64 p.kind, .int .i64 p.mn, .int .i64 p.mx, .bool p.inc.neg, S p.inc.l, .int .i64 p.inc.e, .int .i64 p.mode, .int .i64 p.mi])] H7.out _ _ _).bel⟩

set_option maxRecDepth 100000 in
set_option maxHeartbeats 3200000 in
theorem apply_n (p : Prc) (x : Tri) (w : World) (pl : p.inc.l.length ≤ 100000) (xl : x.l.length ≤ 100000) (hv : validP p = true) (htab : Tab w) (g : Tri) (hg : roundP p (made x.neg x.l x.e) = g) (gl : g.l.length ≤ 100000) (hi : made g.neg g.l g.e = g) (n1 : 0 ≤ p.mn) (n2 : p.mn ≤ 100) (i1 : 0 ≤ p.mi) (i2 : p.mi ≤ 100) (a b : List UInt8) (hp : partsT (made g.neg g.l g.e) = (a, b)) (al : a.length ≤ 1030000) (bl : b.length ≤ 1030000) (F : Int) (hF : mfrac p g = F) (F1 : -150000 ≤ F) (F2 : F ≤ 40000) (B : List UInt8) (ha : zs (p.mi - (a.length : Int)).toNat ++ a = []) (hb : b ++ zs (F - (b.length : Int)).toNat = B) (hB : B ≠ []) :
    Calls Tryd.prog 13 #[PV p, V x] w fun z w' => z = .returned (.tuple #[VV ⟨g.neg, [], B⟩, .int .i64 0]) ∧ Below w.heap.size w w' := by
  have sa : (⟨(zs (p.mi - (a.length : Int)).toNat).toArray⟩ : ByteArray) ++ (⟨a.toArray⟩ : ByteArray) = ⟨[].toArray⟩ := by rw [arr_append, ha]
  have sb : (⟨b.toArray⟩ : ByteArray) ++ (⟨(zs (F - (b.length : Int)).toNat).toArray⟩ : ByteArray) = ⟨B.toArray⟩ := by rw [arr_append, hb]
  have SA := Lib.hid sa
  have SB := Lib.hid sb
  have za : (zs (p.mi - (a.length : Int)).toNat).length ≤ 60000 := by rw [zs_length]; omega
  have zb : (zs (F - (b.length : Int)).toNat).length ≤ 60000 := by rw [zs_length]; omega
  obtain ⟨M, hM⟩ : ∃ M : Int, p.mi - (a.length : Int) = M := ⟨_, rfl⟩
  obtain ⟨K, hK⟩ : ∃ K : Int, F - (b.length : Int) = K := ⟨_, rfl⟩
  rw [hM] at SA za
  rw [hK] at SB zb
  have HM := Lib.hid hM
  have HK := Lib.hid hK
  have M6 : M ≤ 60000 := by omega
  have K6 : K ≤ 60000 := by omega
  have cat1 : ¬ 9223372036854775807 < (zs M.toNat).length + a.length := by omega
  have cat2 : ¬ 9223372036854775807 < b.length + (zs K.toNat).length := by omega
  have HV := Lib.hid hv
  have HG := Lib.hid hg
  have HT := Lib.hid htab
  have HI := Lib.hid hi
  have HP := Lib.hid hp
  have HF := Lib.hid hF
  have HA := Lib.hid ha
  have HB := Lib.hid hb
  have eB : ((⟨b.toArray⟩ : ByteArray) ++ (⟨(zs K.toNat).toArray⟩ : ByteArray)).toList.isEmpty = false := by rw [SB.out]; exact empty_of (ne_empty hB)
  clear hB
  clear sa sb hM hK hv hg htab hi hp hF ha hb
  go_enter Tryd.func13, Tryd.ntmps13
  go_wp2_with fail
  with_reducible refine (valid_as p _ pl true HV.out).mono ?_
  rintro x w1 ⟨rfl, hb⟩
  have H1 : Hid (HeldL w [(w.heap.size + 1 + 1, #[.bool false, .string ⟨#[]⟩, .string ⟨#[]⟩]), (w.heap.size + 1, #[.bool x.neg, S x.l, .int .i64 x.e]), (w.heap.size, #[.int .i64 p.kind, .int .i64 p.mn, .int .i64 p.mx, .bool p.inc.neg, S p.inc.l, .int .i64 p.inc.e, .int .i64 p.mode, .int .i64 p.mi])] w1) := Lib.hid (HeldL.keep (HeldL.alloc (HeldL.alloc (HeldL.alloc (HeldL.refl w) (w.heap.size) #[.int .i64 p.kind, .int .i64 p.mn, .int .i64 p.mx, .bool p.inc.neg, S p.inc.l, .int .i64 p.inc.e, .int .i64 p.mode, .int .i64 p.mi] 34 (by simp)) (w.heap.size + 1) #[.bool x.neg, S x.l, .int .i64 x.e] 31 (by simp)) (w.heap.size + 1 + 1) #[.bool false, .string ⟨#[]⟩, .string ⟨#[]⟩] 37 (by simp)) hb)
  clear hb
  have bp0 : w1.cell? ⟨w.heap.size, 0, none⟩ = some (.int .i64 p.kind) := (H1.out.f (List.Mem.tail _ (List.Mem.tail _ (List.Mem.head _)))).cell 0
  have bp1 : w1.cell? ⟨w.heap.size, 1, none⟩ = some (.int .i64 p.mn) := (H1.out.f (List.Mem.tail _ (List.Mem.tail _ (List.Mem.head _)))).cell 1
  have bp2 : w1.cell? ⟨w.heap.size, 2, none⟩ = some (.int .i64 p.mx) := (H1.out.f (List.Mem.tail _ (List.Mem.tail _ (List.Mem.head _)))).cell 2
  have bp3 : w1.cell? ⟨w.heap.size, 3, none⟩ = some (.bool p.inc.neg) := (H1.out.f (List.Mem.tail _ (List.Mem.tail _ (List.Mem.head _)))).cell 3
  have bp4 : w1.cell? ⟨w.heap.size, 4, none⟩ = some (S p.inc.l) := (H1.out.f (List.Mem.tail _ (List.Mem.tail _ (List.Mem.head _)))).cell 4
  have bp5 : w1.cell? ⟨w.heap.size, 5, none⟩ = some (.int .i64 p.inc.e) := (H1.out.f (List.Mem.tail _ (List.Mem.tail _ (List.Mem.head _)))).cell 5
  have bp6 : w1.cell? ⟨w.heap.size, 6, none⟩ = some (.int .i64 p.mode) := (H1.out.f (List.Mem.tail _ (List.Mem.tail _ (List.Mem.head _)))).cell 6
  have bp7 : w1.cell? ⟨w.heap.size, 7, none⟩ = some (.int .i64 p.mi) := (H1.out.f (List.Mem.tail _ (List.Mem.tail _ (List.Mem.head _)))).cell 7
  have bpl : w.heap.size < w1.heap.size := (H1.out.f (List.Mem.tail _ (List.Mem.tail _ (List.Mem.head _)))).lt
  have bx0 : w1.cell? ⟨w.heap.size + 1, 0, none⟩ = some (.bool x.neg) := (H1.out.f (List.Mem.tail _ (List.Mem.head _))).cell 0
  have bx1 : w1.cell? ⟨w.heap.size + 1, 1, none⟩ = some (S x.l) := (H1.out.f (List.Mem.tail _ (List.Mem.head _))).cell 1
  have bx2 : w1.cell? ⟨w.heap.size + 1, 2, none⟩ = some (.int .i64 x.e) := (H1.out.f (List.Mem.tail _ (List.Mem.head _))).cell 2
  have bxl : w.heap.size + 1 < w1.heap.size := (H1.out.f (List.Mem.tail _ (List.Mem.head _))).lt
  have r0 : w1.cell? ⟨w.heap.size + 1 + 1, 0, none⟩ = some (.bool false) := (H1.out.f (List.Mem.head _)).cell 0
  have rz0 : w1.frozen? ⟨w.heap.size + 1 + 1, 0, none⟩ = false := (H1.out.f (List.Mem.head _)).frozen 0
  have r1 : w1.cell? ⟨w.heap.size + 1 + 1, 1, none⟩ = some (.string ⟨#[]⟩) := (H1.out.f (List.Mem.head _)).cell 1
  have rz1 : w1.frozen? ⟨w.heap.size + 1 + 1, 1, none⟩ = false := (H1.out.f (List.Mem.head _)).frozen 1
  have r2 : w1.cell? ⟨w.heap.size + 1 + 1, 2, none⟩ = some (.string ⟨#[]⟩) := (H1.out.f (List.Mem.head _)).cell 2
  have rz2 : w1.frozen? ⟨w.heap.size + 1 + 1, 2, none⟩ = false := (H1.out.f (List.Mem.head _)).frozen 2
  have rl : w.heap.size + 1 + 1 < w1.heap.size := (H1.out.f (List.Mem.head _)).lt
  go_wp2_with fail
  with_reducible refine (roundP_as p x _ pl xl HV.out (HT.out.below H1.out.bel) g HG.out).mono ?_
  rintro x w2 ⟨rfl, hb⟩
  clear bp0 bp1 bp2 bp3 bp4 bp5 bp6 bp7 bpl bx0 bx1 bx2 bxl r0 rz0 r1 rz1 r2 rz2 rl
  have H2 : Hid (HeldL w [(w.heap.size + 1 + 1, #[.bool false, .string ⟨#[]⟩, .string ⟨#[]⟩]), (w.heap.size + 1, #[.bool x.neg, S x.l, .int .i64 x.e]), (w.heap.size, #[.int .i64 p.kind, .int .i64 p.mn, .int .i64 p.mx, .bool p.inc.neg, S p.inc.l, .int .i64 p.inc.e, .int .i64 p.mode, .int .i64 p.mi])] w2) := Lib.hid (HeldL.keep H1.out hb)
  clear H1
  clear hb
  have bp0 : w2.cell? ⟨w.heap.size, 0, none⟩ = some (.int .i64 p.kind) := (H2.out.f (List.Mem.tail _ (List.Mem.tail _ (List.Mem.head _)))).cell 0
  have bp1 : w2.cell? ⟨w.heap.size, 1, none⟩ = some (.int .i64 p.mn) := (H2.out.f (List.Mem.tail _ (List.Mem.tail _ (List.Mem.head _)))).cell 1
  have bp2 : w2.cell? ⟨w.heap.size, 2, none⟩ = some (.int .i64 p.mx) := (H2.out.f (List.Mem.tail _ (List.Mem.tail _ (List.Mem.head _)))).cell 2
  have bp3 : w2.cell? ⟨w.heap.size, 3, none⟩ = some (.bool p.inc.neg) := (H2.out.f (List.Mem.tail _ (List.Mem.tail _ (List.Mem.head _)))).cell 3
  have bp4 : w2.cell? ⟨w.heap.size, 4, none⟩ = some (S p.inc.l) := (H2.out.f (List.Mem.tail _ (List.Mem.tail _ (List.Mem.head _)))).cell 4
  have bp5 : w2.cell? ⟨w.heap.size, 5, none⟩ = some (.int .i64 p.inc.e) := (H2.out.f (List.Mem.tail _ (List.Mem.tail _ (List.Mem.head _)))).cell 5
  have bp6 : w2.cell? ⟨w.heap.size, 6, none⟩ = some (.int .i64 p.mode) := (H2.out.f (List.Mem.tail _ (List.Mem.tail _ (List.Mem.head _)))).cell 6
  have bp7 : w2.cell? ⟨w.heap.size, 7, none⟩ = some (.int .i64 p.mi) := (H2.out.f (List.Mem.tail _ (List.Mem.tail _ (List.Mem.head _)))).cell 7
  have bpl : w.heap.size < w2.heap.size := (H2.out.f (List.Mem.tail _ (List.Mem.tail _ (List.Mem.head _)))).lt
  have bx0 : w2.cell? ⟨w.heap.size + 1, 0, none⟩ = some (.bool x.neg) := (H2.out.f (List.Mem.tail _ (List.Mem.head _))).cell 0
  have bxz0 : w2.frozen? ⟨w.heap.size + 1, 0, none⟩ = false := (H2.out.f (List.Mem.tail _ (List.Mem.head _))).frozen 0
  have bx1 : w2.cell? ⟨w.heap.size + 1, 1, none⟩ = some (S x.l) := (H2.out.f (List.Mem.tail _ (List.Mem.head _))).cell 1
  have bxz1 : w2.frozen? ⟨w.heap.size + 1, 1, none⟩ = false := (H2.out.f (List.Mem.tail _ (List.Mem.head _))).frozen 1
  have bx2 : w2.cell? ⟨w.heap.size + 1, 2, none⟩ = some (.int .i64 x.e) := (H2.out.f (List.Mem.tail _ (List.Mem.head _))).cell 2
  have bxz2 : w2.frozen? ⟨w.heap.size + 1, 2, none⟩ = false := (H2.out.f (List.Mem.tail _ (List.Mem.head _))).frozen 2
  have bxl : w.heap.size + 1 < w2.heap.size := (H2.out.f (List.Mem.tail _ (List.Mem.head _))).lt
  have r0 : w2.cell? ⟨w.heap.size + 1 + 1, 0, none⟩ = some (.bool false) := (H2.out.f (List.Mem.head _)).cell 0
  have rz0 : w2.frozen? ⟨w.heap.size + 1 + 1, 0, none⟩ = false := (H2.out.f (List.Mem.head _)).frozen 0
  have r1 : w2.cell? ⟨w.heap.size + 1 + 1, 1, none⟩ = some (.string ⟨#[]⟩) := (H2.out.f (List.Mem.head _)).cell 1
  have rz1 : w2.frozen? ⟨w.heap.size + 1 + 1, 1, none⟩ = false := (H2.out.f (List.Mem.head _)).frozen 1
  have r2 : w2.cell? ⟨w.heap.size + 1 + 1, 2, none⟩ = some (.string ⟨#[]⟩) := (H2.out.f (List.Mem.head _)).cell 2
  have rz2 : w2.frozen? ⟨w.heap.size + 1 + 1, 2, none⟩ = false := (H2.out.f (List.Mem.head _)).frozen 2
  have rl : w.heap.size + 1 + 1 < w2.heap.size := (H2.out.f (List.Mem.head _)).lt
  go_wp2_with fail
  clear bp0 bp1 bp2 bp3 bp4 bp5 bp6 bp7 bpl bx0 bxz0 bx1 bxz1 bx2 bxz2 bxl r0 rz0 r1 rz1 r2 rz2 rl
  have H3 : Hid (HeldL w [(w.heap.size + 1 + 1, #[.bool false, .string ⟨#[]⟩, .string ⟨#[]⟩]), (w.heap.size + 1, #[.bool g.neg, S g.l, .int .i64 g.e]), (w.heap.size, #[.int .i64 p.kind, .int .i64 p.mn, .int .i64 p.mx, .bool p.inc.neg, S p.inc.l, .int .i64 p.inc.e, .int .i64 p.mode, .int .i64 p.mi])] (((w2.setCell ⟨w.heap.size + 1, 0, none⟩ (.bool g.neg)).setCell ⟨w.heap.size + 1, 1, none⟩ (S g.l)).setCell ⟨w.heap.size + 1, 2, none⟩ (.int .i64 g.e))) := Lib.hid (HeldL.store3 [(w.heap.size + 1 + 1, #[.bool false, .string ⟨#[]⟩, .string ⟨#[]⟩])] [(w.heap.size, #[.int .i64 p.kind, .int .i64 p.mn, .int .i64 p.mx, .bool p.inc.neg, S p.inc.l, .int .i64 p.inc.e, .int .i64 p.mode, .int .i64 p.mi])] (H2.out) (.bool g.neg) (S g.l) (.int .i64 g.e))
  generalize (((w2.setCell ⟨w.heap.size + 1, 0, none⟩ (.bool g.neg)).setCell ⟨w.heap.size + 1, 1, none⟩ (S g.l)).setCell ⟨w.heap.size + 1, 2, none⟩ (.int .i64 g.e)) = w3 at *
  clear H2
  have bp0 : w3.cell? ⟨w.heap.size, 0, none⟩ = some (.int .i64 p.kind) := (H3.out.f (List.Mem.tail _ (List.Mem.tail _ (List.Mem.head _)))).cell 0
  have bp1 : w3.cell? ⟨w.heap.size, 1, none⟩ = some (.int .i64 p.mn) := (H3.out.f (List.Mem.tail _ (List.Mem.tail _ (List.Mem.head _)))).cell 1
  have bp2 : w3.cell? ⟨w.heap.size, 2, none⟩ = some (.int .i64 p.mx) := (H3.out.f (List.Mem.tail _ (List.Mem.tail _ (List.Mem.head _)))).cell 2
  have bp3 : w3.cell? ⟨w.heap.size, 3, none⟩ = some (.bool p.inc.neg) := (H3.out.f (List.Mem.tail _ (List.Mem.tail _ (List.Mem.head _)))).cell 3
  have bp4 : w3.cell? ⟨w.heap.size, 4, none⟩ = some (S p.inc.l) := (H3.out.f (List.Mem.tail _ (List.Mem.tail _ (List.Mem.head _)))).cell 4
  have bp5 : w3.cell? ⟨w.heap.size, 5, none⟩ = some (.int .i64 p.inc.e) := (H3.out.f (List.Mem.tail _ (List.Mem.tail _ (List.Mem.head _)))).cell 5
  have bp6 : w3.cell? ⟨w.heap.size, 6, none⟩ = some (.int .i64 p.mode) := (H3.out.f (List.Mem.tail _ (List.Mem.tail _ (List.Mem.head _)))).cell 6
  have bp7 : w3.cell? ⟨w.heap.size, 7, none⟩ = some (.int .i64 p.mi) := (H3.out.f (List.Mem.tail _ (List.Mem.tail _ (List.Mem.head _)))).cell 7
  have bpl : w.heap.size < w3.heap.size := (H3.out.f (List.Mem.tail _ (List.Mem.tail _ (List.Mem.head _)))).lt
  have bx0 : w3.cell? ⟨w.heap.size + 1, 0, none⟩ = some (.bool g.neg) := (H3.out.f (List.Mem.tail _ (List.Mem.head _))).cell 0
  have bx1 : w3.cell? ⟨w.heap.size + 1, 1, none⟩ = some (S g.l) := (H3.out.f (List.Mem.tail _ (List.Mem.head _))).cell 1
  have bx2 : w3.cell? ⟨w.heap.size + 1, 2, none⟩ = some (.int .i64 g.e) := (H3.out.f (List.Mem.tail _ (List.Mem.head _))).cell 2
  have bxl : w.heap.size + 1 < w3.heap.size := (H3.out.f (List.Mem.tail _ (List.Mem.head _))).lt
  have r0 : w3.cell? ⟨w.heap.size + 1 + 1, 0, none⟩ = some (.bool false) := (H3.out.f (List.Mem.head _)).cell 0
  have rz0 : w3.frozen? ⟨w.heap.size + 1 + 1, 0, none⟩ = false := (H3.out.f (List.Mem.head _)).frozen 0
  have r1 : w3.cell? ⟨w.heap.size + 1 + 1, 1, none⟩ = some (.string ⟨#[]⟩) := (H3.out.f (List.Mem.head _)).cell 1
  have rz1 : w3.frozen? ⟨w.heap.size + 1 + 1, 1, none⟩ = false := (H3.out.f (List.Mem.head _)).frozen 1
  have r2 : w3.cell? ⟨w.heap.size + 1 + 1, 2, none⟩ = some (.string ⟨#[]⟩) := (H3.out.f (List.Mem.head _)).cell 2
  have rz2 : w3.frozen? ⟨w.heap.size + 1 + 1, 2, none⟩ = false := (H3.out.f (List.Mem.head _)).frozen 2
  have rl : w.heap.size + 1 + 1 < w3.heap.size := (H3.out.f (List.Mem.head _)).lt
  with_reducible refine (parts_T g a b _ gl HP.out).mono ?_
  rintro x w4 ⟨rfl, hb⟩
  clear bp0 bp1 bp2 bp3 bp4 bp5 bp6 bp7 bpl bx0 bx1 bx2 bxl r0 rz0 r1 rz1 r2 rz2 rl
  have H4 : Hid (HeldL w [(w.heap.size + 1 + 1, #[.bool false, .string ⟨#[]⟩, .string ⟨#[]⟩]), (w.heap.size + 1, #[.bool g.neg, S g.l, .int .i64 g.e]), (w.heap.size, #[.int .i64 p.kind, .int .i64 p.mn, .int .i64 p.mx, .bool p.inc.neg, S p.inc.l, .int .i64 p.inc.e, .int .i64 p.mode, .int .i64 p.mi])] w4) := Lib.hid (HeldL.keep H3.out hb)
  clear H3
  clear hb
  have bp0 : w4.cell? ⟨w.heap.size, 0, none⟩ = some (.int .i64 p.kind) := (H4.out.f (List.Mem.tail _ (List.Mem.tail _ (List.Mem.head _)))).cell 0
  have bp1 : w4.cell? ⟨w.heap.size, 1, none⟩ = some (.int .i64 p.mn) := (H4.out.f (List.Mem.tail _ (List.Mem.tail _ (List.Mem.head _)))).cell 1
  have bp2 : w4.cell? ⟨w.heap.size, 2, none⟩ = some (.int .i64 p.mx) := (H4.out.f (List.Mem.tail _ (List.Mem.tail _ (List.Mem.head _)))).cell 2
  have bp3 : w4.cell? ⟨w.heap.size, 3, none⟩ = some (.bool p.inc.neg) := (H4.out.f (List.Mem.tail _ (List.Mem.tail _ (List.Mem.head _)))).cell 3
  have bp4 : w4.cell? ⟨w.heap.size, 4, none⟩ = some (S p.inc.l) := (H4.out.f (List.Mem.tail _ (List.Mem.tail _ (List.Mem.head _)))).cell 4
  have bp5 : w4.cell? ⟨w.heap.size, 5, none⟩ = some (.int .i64 p.inc.e) := (H4.out.f (List.Mem.tail _ (List.Mem.tail _ (List.Mem.head _)))).cell 5
  have bp6 : w4.cell? ⟨w.heap.size, 6, none⟩ = some (.int .i64 p.mode) := (H4.out.f (List.Mem.tail _ (List.Mem.tail _ (List.Mem.head _)))).cell 6
  have bp7 : w4.cell? ⟨w.heap.size, 7, none⟩ = some (.int .i64 p.mi) := (H4.out.f (List.Mem.tail _ (List.Mem.tail _ (List.Mem.head _)))).cell 7
  have bpl : w.heap.size < w4.heap.size := (H4.out.f (List.Mem.tail _ (List.Mem.tail _ (List.Mem.head _)))).lt
  have bx0 : w4.cell? ⟨w.heap.size + 1, 0, none⟩ = some (.bool g.neg) := (H4.out.f (List.Mem.tail _ (List.Mem.head _))).cell 0
  have bx1 : w4.cell? ⟨w.heap.size + 1, 1, none⟩ = some (S g.l) := (H4.out.f (List.Mem.tail _ (List.Mem.head _))).cell 1
  have bx2 : w4.cell? ⟨w.heap.size + 1, 2, none⟩ = some (.int .i64 g.e) := (H4.out.f (List.Mem.tail _ (List.Mem.head _))).cell 2
  have bxl : w.heap.size + 1 < w4.heap.size := (H4.out.f (List.Mem.tail _ (List.Mem.head _))).lt
  have r0 : w4.cell? ⟨w.heap.size + 1 + 1, 0, none⟩ = some (.bool false) := (H4.out.f (List.Mem.head _)).cell 0
  have rz0 : w4.frozen? ⟨w.heap.size + 1 + 1, 0, none⟩ = false := (H4.out.f (List.Mem.head _)).frozen 0
  have r1 : w4.cell? ⟨w.heap.size + 1 + 1, 1, none⟩ = some (.string ⟨#[]⟩) := (H4.out.f (List.Mem.head _)).cell 1
  have rz1 : w4.frozen? ⟨w.heap.size + 1 + 1, 1, none⟩ = false := (H4.out.f (List.Mem.head _)).frozen 1
  have r2 : w4.cell? ⟨w.heap.size + 1 + 1, 2, none⟩ = some (.string ⟨#[]⟩) := (H4.out.f (List.Mem.head _)).cell 2
  have rz2 : w4.frozen? ⟨w.heap.size + 1 + 1, 2, none⟩ = false := (H4.out.f (List.Mem.head _)).frozen 2
  have rl : w.heap.size + 1 + 1 < w4.heap.size := (H4.out.f (List.Mem.head _)).lt
  go_wp2_with fail
  rw [HM.out]
  with_reducible refine (zeros_as M _ M6).mono ?_
  rintro x w5 ⟨rfl, hb⟩
  clear bp0 bp1 bp2 bp3 bp4 bp5 bp6 bp7 bpl bx0 bx1 bx2 bxl r0 rz0 r1 rz1 r2 rz2 rl
  have H5 : Hid (HeldL w [(w.heap.size + 1 + 1, #[.bool false, .string ⟨#[]⟩, .string ⟨#[]⟩]), (w.heap.size + 1, #[.bool g.neg, S g.l, .int .i64 g.e]), (w.heap.size, #[.int .i64 p.kind, .int .i64 p.mn, .int .i64 p.mx, .bool p.inc.neg, S p.inc.l, .int .i64 p.inc.e, .int .i64 p.mode, .int .i64 p.mi])] w5) := Lib.hid (HeldL.keep H4.out hb)
  clear H4
  clear hb
  have bp0 : w5.cell? ⟨w.heap.size, 0, none⟩ = some (.int .i64 p.kind) := (H5.out.f (List.Mem.tail _ (List.Mem.tail _ (List.Mem.head _)))).cell 0
  have bp1 : w5.cell? ⟨w.heap.size, 1, none⟩ = some (.int .i64 p.mn) := (H5.out.f (List.Mem.tail _ (List.Mem.tail _ (List.Mem.head _)))).cell 1
  have bp2 : w5.cell? ⟨w.heap.size, 2, none⟩ = some (.int .i64 p.mx) := (H5.out.f (List.Mem.tail _ (List.Mem.tail _ (List.Mem.head _)))).cell 2
  have bp3 : w5.cell? ⟨w.heap.size, 3, none⟩ = some (.bool p.inc.neg) := (H5.out.f (List.Mem.tail _ (List.Mem.tail _ (List.Mem.head _)))).cell 3
  have bp4 : w5.cell? ⟨w.heap.size, 4, none⟩ = some (S p.inc.l) := (H5.out.f (List.Mem.tail _ (List.Mem.tail _ (List.Mem.head _)))).cell 4
  have bp5 : w5.cell? ⟨w.heap.size, 5, none⟩ = some (.int .i64 p.inc.e) := (H5.out.f (List.Mem.tail _ (List.Mem.tail _ (List.Mem.head _)))).cell 5
  have bp6 : w5.cell? ⟨w.heap.size, 6, none⟩ = some (.int .i64 p.mode) := (H5.out.f (List.Mem.tail _ (List.Mem.tail _ (List.Mem.head _)))).cell 6
  have bp7 : w5.cell? ⟨w.heap.size, 7, none⟩ = some (.int .i64 p.mi) := (H5.out.f (List.Mem.tail _ (List.Mem.tail _ (List.Mem.head _)))).cell 7
  have bpl : w.heap.size < w5.heap.size := (H5.out.f (List.Mem.tail _ (List.Mem.tail _ (List.Mem.head _)))).lt
  have bx0 : w5.cell? ⟨w.heap.size + 1, 0, none⟩ = some (.bool g.neg) := (H5.out.f (List.Mem.tail _ (List.Mem.head _))).cell 0
  have bx1 : w5.cell? ⟨w.heap.size + 1, 1, none⟩ = some (S g.l) := (H5.out.f (List.Mem.tail _ (List.Mem.head _))).cell 1
  have bx2 : w5.cell? ⟨w.heap.size + 1, 2, none⟩ = some (.int .i64 g.e) := (H5.out.f (List.Mem.tail _ (List.Mem.head _))).cell 2
  have bxl : w.heap.size + 1 < w5.heap.size := (H5.out.f (List.Mem.tail _ (List.Mem.head _))).lt
  have r0 : w5.cell? ⟨w.heap.size + 1 + 1, 0, none⟩ = some (.bool false) := (H5.out.f (List.Mem.head _)).cell 0
  have rz0 : w5.frozen? ⟨w.heap.size + 1 + 1, 0, none⟩ = false := (H5.out.f (List.Mem.head _)).frozen 0
  have r1 : w5.cell? ⟨w.heap.size + 1 + 1, 1, none⟩ = some (.string ⟨#[]⟩) := (H5.out.f (List.Mem.head _)).cell 1
  have rz1 : w5.frozen? ⟨w.heap.size + 1 + 1, 1, none⟩ = false := (H5.out.f (List.Mem.head _)).frozen 1
  have r2 : w5.cell? ⟨w.heap.size + 1 + 1, 2, none⟩ = some (.string ⟨#[]⟩) := (H5.out.f (List.Mem.head _)).cell 2
  have rz2 : w5.frozen? ⟨w.heap.size + 1 + 1, 2, none⟩ = false := (H5.out.f (List.Mem.head _)).frozen 2
  have rl : w.heap.size + 1 + 1 < w5.heap.size := (H5.out.f (List.Mem.head _)).lt
  go_wp2_with fail
  rw [SA.out]
  with_reducible refine (mfrac_as p g _ gl n1 n2 HI.out F HF.out).mono ?_
  rintro x w6 ⟨rfl, hb⟩
  clear bp0 bp1 bp2 bp3 bp4 bp5 bp6 bp7 bpl bx0 bx1 bx2 bxl r0 rz0 r1 rz1 r2 rz2 rl
  have H6 : Hid (HeldL w [(w.heap.size + 1 + 1, #[.bool false, .string ⟨#[]⟩, .string ⟨#[]⟩]), (w.heap.size + 1, #[.bool g.neg, S g.l, .int .i64 g.e]), (w.heap.size, #[.int .i64 p.kind, .int .i64 p.mn, .int .i64 p.mx, .bool p.inc.neg, S p.inc.l, .int .i64 p.inc.e, .int .i64 p.mode, .int .i64 p.mi])] w6) := Lib.hid (HeldL.keep H5.out hb)
  clear H5
  clear hb
  have bp0 : w6.cell? ⟨w.heap.size, 0, none⟩ = some (.int .i64 p.kind) := (H6.out.f (List.Mem.tail _ (List.Mem.tail _ (List.Mem.head _)))).cell 0
  have bp1 : w6.cell? ⟨w.heap.size, 1, none⟩ = some (.int .i64 p.mn) := (H6.out.f (List.Mem.tail _ (List.Mem.tail _ (List.Mem.head _)))).cell 1
  have bp2 : w6.cell? ⟨w.heap.size, 2, none⟩ = some (.int .i64 p.mx) := (H6.out.f (List.Mem.tail _ (List.Mem.tail _ (List.Mem.head _)))).cell 2
  have bp3 : w6.cell? ⟨w.heap.size, 3, none⟩ = some (.bool p.inc.neg) := (H6.out.f (List.Mem.tail _ (List.Mem.tail _ (List.Mem.head _)))).cell 3
  have bp4 : w6.cell? ⟨w.heap.size, 4, none⟩ = some (S p.inc.l) := (H6.out.f (List.Mem.tail _ (List.Mem.tail _ (List.Mem.head _)))).cell 4
  have bp5 : w6.cell? ⟨w.heap.size, 5, none⟩ = some (.int .i64 p.inc.e) := (H6.out.f (List.Mem.tail _ (List.Mem.tail _ (List.Mem.head _)))).cell 5
  have bp6 : w6.cell? ⟨w.heap.size, 6, none⟩ = some (.int .i64 p.mode) := (H6.out.f (List.Mem.tail _ (List.Mem.tail _ (List.Mem.head _)))).cell 6
  have bp7 : w6.cell? ⟨w.heap.size, 7, none⟩ = some (.int .i64 p.mi) := (H6.out.f (List.Mem.tail _ (List.Mem.tail _ (List.Mem.head _)))).cell 7
  have bpl : w.heap.size < w6.heap.size := (H6.out.f (List.Mem.tail _ (List.Mem.tail _ (List.Mem.head _)))).lt
  have bx0 : w6.cell? ⟨w.heap.size + 1, 0, none⟩ = some (.bool g.neg) := (H6.out.f (List.Mem.tail _ (List.Mem.head _))).cell 0
  have bx1 : w6.cell? ⟨w.heap.size + 1, 1, none⟩ = some (S g.l) := (H6.out.f (List.Mem.tail _ (List.Mem.head _))).cell 1
  have bx2 : w6.cell? ⟨w.heap.size + 1, 2, none⟩ = some (.int .i64 g.e) := (H6.out.f (List.Mem.tail _ (List.Mem.head _))).cell 2
  have bxl : w.heap.size + 1 < w6.heap.size := (H6.out.f (List.Mem.tail _ (List.Mem.head _))).lt
  have r0 : w6.cell? ⟨w.heap.size + 1 + 1, 0, none⟩ = some (.bool false) := (H6.out.f (List.Mem.head _)).cell 0
  have rz0 : w6.frozen? ⟨w.heap.size + 1 + 1, 0, none⟩ = false := (H6.out.f (List.Mem.head _)).frozen 0
  have r1 : w6.cell? ⟨w.heap.size + 1 + 1, 1, none⟩ = some (.string ⟨#[]⟩) := (H6.out.f (List.Mem.head _)).cell 1
  have rz1 : w6.frozen? ⟨w.heap.size + 1 + 1, 1, none⟩ = false := (H6.out.f (List.Mem.head _)).frozen 1
  have r2 : w6.cell? ⟨w.heap.size + 1 + 1, 2, none⟩ = some (.string ⟨#[]⟩) := (H6.out.f (List.Mem.head _)).cell 2
  have rz2 : w6.frozen? ⟨w.heap.size + 1 + 1, 2, none⟩ = false := (H6.out.f (List.Mem.head _)).frozen 2
  have rl : w.heap.size + 1 + 1 < w6.heap.size := (H6.out.f (List.Mem.head _)).lt
  go_wp2_with fail
  rw [HK.out]
  with_reducible refine (zeros_as K _ K6).mono ?_
  rintro x w7 ⟨rfl, hb⟩
  clear bp0 bp1 bp2 bp3 bp4 bp5 bp6 bp7 bpl bx0 bx1 bx2 bxl r0 rz0 r1 rz1 r2 rz2 rl
  have H7 : Hid (HeldL w [(w.heap.size + 1 + 1, #[.bool false, .string ⟨#[]⟩, .string ⟨#[]⟩]), (w.heap.size + 1, #[.bool g.neg, S g.l, .int .i64 g.e]), (w.heap.size, #[.int .i64 p.kind, .int .i64 p.mn, .int .i64 p.mx, .bool p.inc.neg, S p.inc.l, .int .i64 p.inc.e, .int .i64 p.mode, .int .i64 p.mi])] w7) := Lib.hid (HeldL.keep H6.out hb)
  clear H6
  clear hb
  have bp0 : w7.cell? ⟨w.heap.size, 0, none⟩ = some (.int .i64 p.kind) := (H7.out.f (List.Mem.tail _ (List.Mem.tail _ (List.Mem.head _)))).cell 0
  have bp1 : w7.cell? ⟨w.heap.size, 1, none⟩ = some (.int .i64 p.mn) := (H7.out.f (List.Mem.tail _ (List.Mem.tail _ (List.Mem.head _)))).cell 1
  have bp2 : w7.cell? ⟨w.heap.size, 2, none⟩ = some (.int .i64 p.mx) := (H7.out.f (List.Mem.tail _ (List.Mem.tail _ (List.Mem.head _)))).cell 2
  have bp3 : w7.cell? ⟨w.heap.size, 3, none⟩ = some (.bool p.inc.neg) := (H7.out.f (List.Mem.tail _ (List.Mem.tail _ (List.Mem.head _)))).cell 3
  have bp4 : w7.cell? ⟨w.heap.size, 4, none⟩ = some (S p.inc.l) := (H7.out.f (List.Mem.tail _ (List.Mem.tail _ (List.Mem.head _)))).cell 4
  have bp5 : w7.cell? ⟨w.heap.size, 5, none⟩ = some (.int .i64 p.inc.e) := (H7.out.f (List.Mem.tail _ (List.Mem.tail _ (List.Mem.head _)))).cell 5
  have bp6 : w7.cell? ⟨w.heap.size, 6, none⟩ = some (.int .i64 p.mode) := (H7.out.f (List.Mem.tail _ (List.Mem.tail _ (List.Mem.head _)))).cell 6
  have bp7 : w7.cell? ⟨w.heap.size, 7, none⟩ = some (.int .i64 p.mi) := (H7.out.f (List.Mem.tail _ (List.Mem.tail _ (List.Mem.head _)))).cell 7
  have bpl : w.heap.size < w7.heap.size := (H7.out.f (List.Mem.tail _ (List.Mem.tail _ (List.Mem.head _)))).lt
  have bx0 : w7.cell? ⟨w.heap.size + 1, 0, none⟩ = some (.bool g.neg) := (H7.out.f (List.Mem.tail _ (List.Mem.head _))).cell 0
  have bx1 : w7.cell? ⟨w.heap.size + 1, 1, none⟩ = some (S g.l) := (H7.out.f (List.Mem.tail _ (List.Mem.head _))).cell 1
  have bx2 : w7.cell? ⟨w.heap.size + 1, 2, none⟩ = some (.int .i64 g.e) := (H7.out.f (List.Mem.tail _ (List.Mem.head _))).cell 2
  have bxl : w.heap.size + 1 < w7.heap.size := (H7.out.f (List.Mem.tail _ (List.Mem.head _))).lt
  have r0 : w7.cell? ⟨w.heap.size + 1 + 1, 0, none⟩ = some (.bool false) := (H7.out.f (List.Mem.head _)).cell 0
  have rz0 : w7.frozen? ⟨w.heap.size + 1 + 1, 0, none⟩ = false := (H7.out.f (List.Mem.head _)).frozen 0
  have r1 : w7.cell? ⟨w.heap.size + 1 + 1, 1, none⟩ = some (.string ⟨#[]⟩) := (H7.out.f (List.Mem.head _)).cell 1
  have rz1 : w7.frozen? ⟨w.heap.size + 1 + 1, 1, none⟩ = false := (H7.out.f (List.Mem.head _)).frozen 1
  have r2 : w7.cell? ⟨w.heap.size + 1 + 1, 2, none⟩ = some (.string ⟨#[]⟩) := (H7.out.f (List.Mem.head _)).cell 2
  have rz2 : w7.frozen? ⟨w.heap.size + 1 + 1, 2, none⟩ = false := (H7.out.f (List.Mem.head _)).frozen 2
  have rl : w.heap.size + 1 + 1 < w7.heap.size := (H7.out.f (List.Mem.head _)).lt
  try rw [SB.out]
  go_wp2
  exact bodyPost_ret (v := .tuple #[.agg #[.bool g.neg, .string ⟨[].toArray⟩, .string ⟨B.toArray⟩], .int .i64 0]) (by simp [results, Tryd.results13, go_sem, r0, r1, r2, SB.out]) rfl ⟨rfl, (HeldL.store3 [] [(w.heap.size + 1, #[.bool g.neg, S g.l, .int .i64 g.e]), (w.heap.size, #[.int .i64 p.kind, .int .i64 p.mn, .int .i64 p.mx, .bool p.inc.neg, S p.inc.l, .int .i64 p.inc.e, .int .i64 p.mode, .int .i64 p.mi])] H7.out _ _ _).bel⟩

set_option maxRecDepth 100000 in
set_option maxHeartbeats 3200000 in
theorem apply_z (p : Prc) (x : Tri) (w : World) (pl : p.inc.l.length ≤ 100000) (xl : x.l.length ≤ 100000) (hv : validP p = true) (htab : Tab w) (g : Tri) (hg : roundP p (made x.neg x.l x.e) = g) (gl : g.l.length ≤ 100000) (hi : made g.neg g.l g.e = g) (n1 : 0 ≤ p.mn) (n2 : p.mn ≤ 100) (i1 : 0 ≤ p.mi) (i2 : p.mi ≤ 100) (a b : List UInt8) (hp : partsT (made g.neg g.l g.e) = (a, b)) (al : a.length ≤ 1030000) (bl : b.length ≤ 1030000) (F : Int) (hF : mfrac p g = F) (F1 : -150000 ≤ F) (F2 : F ≤ 40000) (ha : zs (p.mi - (a.length : Int)).toNat ++ a = []) (hb : b ++ zs (F - (b.length : Int)).toNat = []) :
    Calls Tryd.prog 13 #[PV p, V x] w fun z w' => z = .returned (.tuple #[VV ⟨g.neg, [48], []⟩, .int .i64 0]) ∧ Below w.heap.size w w' := by
  have sa : (⟨(zs (p.mi - (a.length : Int)).toNat).toArray⟩ : ByteArray) ++ (⟨a.toArray⟩ : ByteArray) = ⟨[].toArray⟩ := by rw [arr_append, ha]
  have sb : (⟨b.toArray⟩ : ByteArray) ++ (⟨(zs (F - (b.length : Int)).toNat).toArray⟩ : ByteArray) = ⟨[].toArray⟩ := by rw [arr_append, hb]
  have SA := Lib.hid sa
  have SB := Lib.hid sb
  have za : (zs (p.mi - (a.length : Int)).toNat).length ≤ 60000 := by rw [zs_length]; omega
  have zb : (zs (F - (b.length : Int)).toNat).length ≤ 60000 := by rw [zs_length]; omega
  obtain ⟨M, hM⟩ : ∃ M : Int, p.mi - (a.length : Int) = M := ⟨_, rfl⟩
  obtain ⟨K, hK⟩ : ∃ K : Int, F - (b.length : Int) = K := ⟨_, rfl⟩
  rw [hM] at SA za
  rw [hK] at SB zb
  have HM := Lib.hid hM
  have HK := Lib.hid hK
  have M6 : M ≤ 60000 := by omega
  have K6 : K ≤ 60000 := by omega
  have cat1 : ¬ 9223372036854775807 < (zs M.toNat).length + a.length := by omega
  have cat2 : ¬ 9223372036854775807 < b.length + (zs K.toNat).length := by omega
  have HV := Lib.hid hv
  have HG := Lib.hid hg
  have HT := Lib.hid htab
  have HI := Lib.hid hi
  have HP := Lib.hid hp
  have HF := Lib.hid hF
  have HA := Lib.hid ha
  have HB := Lib.hid hb
  have eB : ((⟨b.toArray⟩ : ByteArray) ++ (⟨(zs K.toNat).toArray⟩ : ByteArray)).toList.isEmpty = true := by rw [SB.out]; exact empty_of (l := []) rfl
  clear sa sb hM hK hv hg htab hi hp hF ha hb
  go_enter Tryd.func13, Tryd.ntmps13
  go_wp2_with fail
  with_reducible refine (valid_as p _ pl true HV.out).mono ?_
  rintro x w1 ⟨rfl, hb⟩
  have H1 : Hid (HeldL w [(w.heap.size + 1 + 1, #[.bool false, .string ⟨#[]⟩, .string ⟨#[]⟩]), (w.heap.size + 1, #[.bool x.neg, S x.l, .int .i64 x.e]), (w.heap.size, #[.int .i64 p.kind, .int .i64 p.mn, .int .i64 p.mx, .bool p.inc.neg, S p.inc.l, .int .i64 p.inc.e, .int .i64 p.mode, .int .i64 p.mi])] w1) := Lib.hid (HeldL.keep (HeldL.alloc (HeldL.alloc (HeldL.alloc (HeldL.refl w) (w.heap.size) #[.int .i64 p.kind, .int .i64 p.mn, .int .i64 p.mx, .bool p.inc.neg, S p.inc.l, .int .i64 p.inc.e, .int .i64 p.mode, .int .i64 p.mi] 34 (by simp)) (w.heap.size + 1) #[.bool x.neg, S x.l, .int .i64 x.e] 31 (by simp)) (w.heap.size + 1 + 1) #[.bool false, .string ⟨#[]⟩, .string ⟨#[]⟩] 37 (by simp)) hb)
  clear hb
  have bp0 : w1.cell? ⟨w.heap.size, 0, none⟩ = some (.int .i64 p.kind) := (H1.out.f (List.Mem.tail _ (List.Mem.tail _ (List.Mem.head _)))).cell 0
  have bp1 : w1.cell? ⟨w.heap.size, 1, none⟩ = some (.int .i64 p.mn) := (H1.out.f (List.Mem.tail _ (List.Mem.tail _ (List.Mem.head _)))).cell 1
  have bp2 : w1.cell? ⟨w.heap.size, 2, none⟩ = some (.int .i64 p.mx) := (H1.out.f (List.Mem.tail _ (List.Mem.tail _ (List.Mem.head _)))).cell 2
  have bp3 : w1.cell? ⟨w.heap.size, 3, none⟩ = some (.bool p.inc.neg) := (H1.out.f (List.Mem.tail _ (List.Mem.tail _ (List.Mem.head _)))).cell 3
  have bp4 : w1.cell? ⟨w.heap.size, 4, none⟩ = some (S p.inc.l) := (H1.out.f (List.Mem.tail _ (List.Mem.tail _ (List.Mem.head _)))).cell 4
  have bp5 : w1.cell? ⟨w.heap.size, 5, none⟩ = some (.int .i64 p.inc.e) := (H1.out.f (List.Mem.tail _ (List.Mem.tail _ (List.Mem.head _)))).cell 5
  have bp6 : w1.cell? ⟨w.heap.size, 6, none⟩ = some (.int .i64 p.mode) := (H1.out.f (List.Mem.tail _ (List.Mem.tail _ (List.Mem.head _)))).cell 6
  have bp7 : w1.cell? ⟨w.heap.size, 7, none⟩ = some (.int .i64 p.mi) := (H1.out.f (List.Mem.tail _ (List.Mem.tail _ (List.Mem.head _)))).cell 7
  have bpl : w.heap.size < w1.heap.size := (H1.out.f (List.Mem.tail _ (List.Mem.tail _ (List.Mem.head _)))).lt
  have bx0 : w1.cell? ⟨w.heap.size + 1, 0, none⟩ = some (.bool x.neg) := (H1.out.f (List.Mem.tail _ (List.Mem.head _))).cell 0
  have bx1 : w1.cell? ⟨w.heap.size + 1, 1, none⟩ = some (S x.l) := (H1.out.f (List.Mem.tail _ (List.Mem.head _))).cell 1
  have bx2 : w1.cell? ⟨w.heap.size + 1, 2, none⟩ = some (.int .i64 x.e) := (H1.out.f (List.Mem.tail _ (List.Mem.head _))).cell 2
  have bxl : w.heap.size + 1 < w1.heap.size := (H1.out.f (List.Mem.tail _ (List.Mem.head _))).lt
  have r0 : w1.cell? ⟨w.heap.size + 1 + 1, 0, none⟩ = some (.bool false) := (H1.out.f (List.Mem.head _)).cell 0
  have rz0 : w1.frozen? ⟨w.heap.size + 1 + 1, 0, none⟩ = false := (H1.out.f (List.Mem.head _)).frozen 0
  have r1 : w1.cell? ⟨w.heap.size + 1 + 1, 1, none⟩ = some (.string ⟨#[]⟩) := (H1.out.f (List.Mem.head _)).cell 1
  have rz1 : w1.frozen? ⟨w.heap.size + 1 + 1, 1, none⟩ = false := (H1.out.f (List.Mem.head _)).frozen 1
  have r2 : w1.cell? ⟨w.heap.size + 1 + 1, 2, none⟩ = some (.string ⟨#[]⟩) := (H1.out.f (List.Mem.head _)).cell 2
  have rz2 : w1.frozen? ⟨w.heap.size + 1 + 1, 2, none⟩ = false := (H1.out.f (List.Mem.head _)).frozen 2
  have rl : w.heap.size + 1 + 1 < w1.heap.size := (H1.out.f (List.Mem.head _)).lt
  go_wp2_with fail
  with_reducible refine (roundP_as p x _ pl xl HV.out (HT.out.below H1.out.bel) g HG.out).mono ?_
  rintro x w2 ⟨rfl, hb⟩
  clear bp0 bp1 bp2 bp3 bp4 bp5 bp6 bp7 bpl bx0 bx1 bx2 bxl r0 rz0 r1 rz1 r2 rz2 rl
  have H2 : Hid (HeldL w [(w.heap.size + 1 + 1, #[.bool false, .string ⟨#[]⟩, .string ⟨#[]⟩]), (w.heap.size + 1, #[.bool x.neg, S x.l, .int .i64 x.e]), (w.heap.size, #[.int .i64 p.kind, .int .i64 p.mn, .int .i64 p.mx, .bool p.inc.neg, S p.inc.l, .int .i64 p.inc.e, .int .i64 p.mode, .int .i64 p.mi])] w2) := Lib.hid (HeldL.keep H1.out hb)
  clear H1
  clear hb
  have bp0 : w2.cell? ⟨w.heap.size, 0, none⟩ = some (.int .i64 p.kind) := (H2.out.f (List.Mem.tail _ (List.Mem.tail _ (List.Mem.head _)))).cell 0
  have bp1 : w2.cell? ⟨w.heap.size, 1, none⟩ = some (.int .i64 p.mn) := (H2.out.f (List.Mem.tail _ (List.Mem.tail _ (List.Mem.head _)))).cell 1
  have bp2 : w2.cell? ⟨w.heap.size, 2, none⟩ = some (.int .i64 p.mx) := (H2.out.f (List.Mem.tail _ (List.Mem.tail _ (List.Mem.head _)))).cell 2
  have bp3 : w2.cell? ⟨w.heap.size, 3, none⟩ = some (.bool p.inc.neg) := (H2.out.f (List.Mem.tail _ (List.Mem.tail _ (List.Mem.head _)))).cell 3
  have bp4 : w2.cell? ⟨w.heap.size, 4, none⟩ = some (S p.inc.l) := (H2.out.f (List.Mem.tail _ (List.Mem.tail _ (List.Mem.head _)))).cell 4
  have bp5 : w2.cell? ⟨w.heap.size, 5, none⟩ = some (.int .i64 p.inc.e) := (H2.out.f (List.Mem.tail _ (List.Mem.tail _ (List.Mem.head _)))).cell 5
  have bp6 : w2.cell? ⟨w.heap.size, 6, none⟩ = some (.int .i64 p.mode) := (H2.out.f (List.Mem.tail _ (List.Mem.tail _ (List.Mem.head _)))).cell 6
  have bp7 : w2.cell? ⟨w.heap.size, 7, none⟩ = some (.int .i64 p.mi) := (H2.out.f (List.Mem.tail _ (List.Mem.tail _ (List.Mem.head _)))).cell 7
  have bpl : w.heap.size < w2.heap.size := (H2.out.f (List.Mem.tail _ (List.Mem.tail _ (List.Mem.head _)))).lt
  have bx0 : w2.cell? ⟨w.heap.size + 1, 0, none⟩ = some (.bool x.neg) := (H2.out.f (List.Mem.tail _ (List.Mem.head _))).cell 0
  have bxz0 : w2.frozen? ⟨w.heap.size + 1, 0, none⟩ = false := (H2.out.f (List.Mem.tail _ (List.Mem.head _))).frozen 0
  have bx1 : w2.cell? ⟨w.heap.size + 1, 1, none⟩ = some (S x.l) := (H2.out.f (List.Mem.tail _ (List.Mem.head _))).cell 1
  have bxz1 : w2.frozen? ⟨w.heap.size + 1, 1, none⟩ = false := (H2.out.f (List.Mem.tail _ (List.Mem.head _))).frozen 1
  have bx2 : w2.cell? ⟨w.heap.size + 1, 2, none⟩ = some (.int .i64 x.e) := (H2.out.f (List.Mem.tail _ (List.Mem.head _))).cell 2
  have bxz2 : w2.frozen? ⟨w.heap.size + 1, 2, none⟩ = false := (H2.out.f (List.Mem.tail _ (List.Mem.head _))).frozen 2
  have bxl : w.heap.size + 1 < w2.heap.size := (H2.out.f (List.Mem.tail _ (List.Mem.head _))).lt
  have r0 : w2.cell? ⟨w.heap.size + 1 + 1, 0, none⟩ = some (.bool false) := (H2.out.f (List.Mem.head _)).cell 0
  have rz0 : w2.frozen? ⟨w.heap.size + 1 + 1, 0, none⟩ = false := (H2.out.f (List.Mem.head _)).frozen 0
  have r1 : w2.cell? ⟨w.heap.size + 1 + 1, 1, none⟩ = some (.string ⟨#[]⟩) := (H2.out.f (List.Mem.head _)).cell 1
  have rz1 : w2.frozen? ⟨w.heap.size + 1 + 1, 1, none⟩ = false := (H2.out.f (List.Mem.head _)).frozen 1
  have r2 : w2.cell? ⟨w.heap.size + 1 + 1, 2, none⟩ = some (.string ⟨#[]⟩) := (H2.out.f (List.Mem.head _)).cell 2
  have rz2 : w2.frozen? ⟨w.heap.size + 1 + 1, 2, none⟩ = false := (H2.out.f (List.Mem.head _)).frozen 2
  have rl : w.heap.size + 1 + 1 < w2.heap.size := (H2.out.f (List.Mem.head _)).lt
  go_wp2_with fail
  clear bp0 bp1 bp2 bp3 bp4 bp5 bp6 bp7 bpl bx0 bxz0 bx1 bxz1 bx2 bxz2 bxl r0 rz0 r1 rz1 r2 rz2 rl
  have H3 : Hid (HeldL w [(w.heap.size + 1 + 1, #[.bool false, .string ⟨#[]⟩, .string ⟨#[]⟩]), (w.heap.size + 1, #[.bool g.neg, S g.l, .int .i64 g.e]), (w.heap.size, #[.int .i64 p.kind, .int .i64 p.mn, .int .i64 p.mx, .bool p.inc.neg, S p.inc.l, .int .i64 p.inc.e, .int .i64 p.mode, .int .i64 p.mi])] (((w2.setCell ⟨w.heap.size + 1, 0, none⟩ (.bool g.neg)).setCell ⟨w.heap.size + 1, 1, none⟩ (S g.l)).setCell ⟨w.heap.size + 1, 2, none⟩ (.int .i64 g.e))) := Lib.hid (HeldL.store3 [(w.heap.size + 1 + 1, #[.bool false, .string ⟨#[]⟩, .string ⟨#[]⟩])] [(w.heap.size, #[.int .i64 p.kind, .int .i64 p.mn, .int .i64 p.mx, .bool p.inc.neg, S p.inc.l, .int .i64 p.inc.e, .int .i64 p.mode, .int .i64 p.mi])] (H2.out) (.bool g.neg) (S g.l) (.int .i64 g.e))
  generalize (((w2.setCell ⟨w.heap.size + 1, 0, none⟩ (.bool g.neg)).setCell ⟨w.heap.size + 1, 1, none⟩ (S g.l)).setCell ⟨w.heap.size + 1, 2, none⟩ (.int .i64 g.e)) = w3 at *
  clear H2
  have bp0 : w3.cell? ⟨w.heap.size, 0, none⟩ = some (.int .i64 p.kind) := (H3.out.f (List.Mem.tail _ (List.Mem.tail _ (List.Mem.head _)))).cell 0
  have bp1 : w3.cell? ⟨w.heap.size, 1, none⟩ = some (.int .i64 p.mn) := (H3.out.f (List.Mem.tail _ (List.Mem.tail _ (List.Mem.head _)))).cell 1
  have bp2 : w3.cell? ⟨w.heap.size, 2, none⟩ = some (.int .i64 p.mx) := (H3.out.f (List.Mem.tail _ (List.Mem.tail _ (List.Mem.head _)))).cell 2
  have bp3 : w3.cell? ⟨w.heap.size, 3, none⟩ = some (.bool p.inc.neg) := (H3.out.f (List.Mem.tail _ (List.Mem.tail _ (List.Mem.head _)))).cell 3
  have bp4 : w3.cell? ⟨w.heap.size, 4, none⟩ = some (S p.inc.l) := (H3.out.f (List.Mem.tail _ (List.Mem.tail _ (List.Mem.head _)))).cell 4
  have bp5 : w3.cell? ⟨w.heap.size, 5, none⟩ = some (.int .i64 p.inc.e) := (H3.out.f (List.Mem.tail _ (List.Mem.tail _ (List.Mem.head _)))).cell 5
  have bp6 : w3.cell? ⟨w.heap.size, 6, none⟩ = some (.int .i64 p.mode) := (H3.out.f (List.Mem.tail _ (List.Mem.tail _ (List.Mem.head _)))).cell 6
  have bp7 : w3.cell? ⟨w.heap.size, 7, none⟩ = some (.int .i64 p.mi) := (H3.out.f (List.Mem.tail _ (List.Mem.tail _ (List.Mem.head _)))).cell 7
  have bpl : w.heap.size < w3.heap.size := (H3.out.f (List.Mem.tail _ (List.Mem.tail _ (List.Mem.head _)))).lt
  have bx0 : w3.cell? ⟨w.heap.size + 1, 0, none⟩ = some (.bool g.neg) := (H3.out.f (List.Mem.tail _ (List.Mem.head _))).cell 0
  have bx1 : w3.cell? ⟨w.heap.size + 1, 1, none⟩ = some (S g.l) := (H3.out.f (List.Mem.tail _ (List.Mem.head _))).cell 1
  have bx2 : w3.cell? ⟨w.heap.size + 1, 2, none⟩ = some (.int .i64 g.e) := (H3.out.f (List.Mem.tail _ (List.Mem.head _))).cell 2
  have bxl : w.heap.size + 1 < w3.heap.size := (H3.out.f (List.Mem.tail _ (List.Mem.head _))).lt
  have r0 : w3.cell? ⟨w.heap.size + 1 + 1, 0, none⟩ = some (.bool false) := (H3.out.f (List.Mem.head _)).cell 0
  have rz0 : w3.frozen? ⟨w.heap.size + 1 + 1, 0, none⟩ = false := (H3.out.f (List.Mem.head _)).frozen 0
  have r1 : w3.cell? ⟨w.heap.size + 1 + 1, 1, none⟩ = some (.string ⟨#[]⟩) := (H3.out.f (List.Mem.head _)).cell 1
  have rz1 : w3.frozen? ⟨w.heap.size + 1 + 1, 1, none⟩ = false := (H3.out.f (List.Mem.head _)).frozen 1
  have r2 : w3.cell? ⟨w.heap.size + 1 + 1, 2, none⟩ = some (.string ⟨#[]⟩) := (H3.out.f (List.Mem.head _)).cell 2
  have rz2 : w3.frozen? ⟨w.heap.size + 1 + 1, 2, none⟩ = false := (H3.out.f (List.Mem.head _)).frozen 2
  have rl : w.heap.size + 1 + 1 < w3.heap.size := (H3.out.f (List.Mem.head _)).lt
  with_reducible refine (parts_T g a b _ gl HP.out).mono ?_
  rintro x w4 ⟨rfl, hb⟩
  clear bp0 bp1 bp2 bp3 bp4 bp5 bp6 bp7 bpl bx0 bx1 bx2 bxl r0 rz0 r1 rz1 r2 rz2 rl
  have H4 : Hid (HeldL w [(w.heap.size + 1 + 1, #[.bool false, .string ⟨#[]⟩, .string ⟨#[]⟩]), (w.heap.size + 1, #[.bool g.neg, S g.l, .int .i64 g.e]), (w.heap.size, #[.int .i64 p.kind, .int .i64 p.mn, .int .i64 p.mx, .bool p.inc.neg, S p.inc.l, .int .i64 p.inc.e, .int .i64 p.mode, .int .i64 p.mi])] w4) := Lib.hid (HeldL.keep H3.out hb)
  clear H3
  clear hb
  have bp0 : w4.cell? ⟨w.heap.size, 0, none⟩ = some (.int .i64 p.kind) := (H4.out.f (List.Mem.tail _ (List.Mem.tail _ (List.Mem.head _)))).cell 0
  have bp1 : w4.cell? ⟨w.heap.size, 1, none⟩ = some (.int .i64 p.mn) := (H4.out.f (List.Mem.tail _ (List.Mem.tail _ (List.Mem.head _)))).cell 1
  have bp2 : w4.cell? ⟨w.heap.size, 2, none⟩ = some (.int .i64 p.mx) := (H4.out.f (List.Mem.tail _ (List.Mem.tail _ (List.Mem.head _)))).cell 2
  have bp3 : w4.cell? ⟨w.heap.size, 3, none⟩ = some (.bool p.inc.neg) := (H4.out.f (List.Mem.tail _ (List.Mem.tail _ (List.Mem.head _)))).cell 3
  have bp4 : w4.cell? ⟨w.heap.size, 4, none⟩ = some (S p.inc.l) := (H4.out.f (List.Mem.tail _ (List.Mem.tail _ (List.Mem.head _)))).cell 4
  have bp5 : w4.cell? ⟨w.heap.size, 5, none⟩ = some (.int .i64 p.inc.e) := (H4.out.f (List.Mem.tail _ (List.Mem.tail _ (List.Mem.head _)))).cell 5
  have bp6 : w4.cell? ⟨w.heap.size, 6, none⟩ = some (.int .i64 p.mode) := (H4.out.f (List.Mem.tail _ (List.Mem.tail _ (List.Mem.head _)))).cell 6
  have bp7 : w4.cell? ⟨w.heap.size, 7, none⟩ = some (.int .i64 p.mi) := (H4.out.f (List.Mem.tail _ (List.Mem.tail _ (List.Mem.head _)))).cell 7
  have bpl : w.heap.size < w4.heap.size := (H4.out.f (List.Mem.tail _ (List.Mem.tail _ (List.Mem.head _)))).lt
  have bx0 : w4.cell? ⟨w.heap.size + 1, 0, none⟩ = some (.bool g.neg) := (H4.out.f (List.Mem.tail _ (List.Mem.head _))).cell 0
  have bx1 : w4.cell? ⟨w.heap.size + 1, 1, none⟩ = some (S g.l) := (H4.out.f (List.Mem.tail _ (List.Mem.head _))).cell 1
  have bx2 : w4.cell? ⟨w.heap.size + 1, 2, none⟩ = some (.int .i64 g.e) := (H4.out.f (List.Mem.tail _ (List.Mem.head _))).cell 2
  have bxl : w.heap.size + 1 < w4.heap.size := (H4.out.f (List.Mem.tail _ (List.Mem.head _))).lt
  have r0 : w4.cell? ⟨w.heap.size + 1 + 1, 0, none⟩ = some (.bool false) := (H4.out.f (List.Mem.head _)).cell 0
  have rz0 : w4.frozen? ⟨w.heap.size + 1 + 1, 0, none⟩ = false := (H4.out.f (List.Mem.head _)).frozen 0
  have r1 : w4.cell? ⟨w.heap.size + 1 + 1, 1, none⟩ = some (.string ⟨#[]⟩) := (H4.out.f (List.Mem.head _)).cell 1
  have rz1 : w4.frozen? ⟨w.heap.size + 1 + 1, 1, none⟩ = false := (H4.out.f (List.Mem.head _)).frozen 1
  have r2 : w4.cell? ⟨w.heap.size + 1 + 1, 2, none⟩ = some (.string ⟨#[]⟩) := (H4.out.f (List.Mem.head _)).cell 2
  have rz2 : w4.frozen? ⟨w.heap.size + 1 + 1, 2, none⟩ = false := (H4.out.f (List.Mem.head _)).frozen 2
  have rl : w.heap.size + 1 + 1 < w4.heap.size := (H4.out.f (List.Mem.head _)).lt
  go_wp2_with fail
  rw [HM.out]
  with_reducible refine (zeros_as M _ M6).mono ?_
  rintro x w5 ⟨rfl, hb⟩
  clear bp0 bp1 bp2 bp3 bp4 bp5 bp6 bp7 bpl bx0 bx1 bx2 bxl r0 rz0 r1 rz1 r2 rz2 rl
  have H5 : Hid (HeldL w [(w.heap.size + 1 + 1, #[.bool false, .string ⟨#[]⟩, .string ⟨#[]⟩]), (w.heap.size + 1, #[.bool g.neg, S g.l, .int .i64 g.e]), (w.heap.size, #[.int .i64 p.kind, .int .i64 p.mn, .int .i64 p.mx, .bool p.inc.neg, S p.inc.l, .int .i64 p.inc.e, .int .i64 p.mode, .int .i64 p.mi])] w5) := Lib.hid (HeldL.keep H4.out hb)
  clear H4
  clear hb
  have bp0 : w5.cell? ⟨w.heap.size, 0, none⟩ = some (.int .i64 p.kind) := (H5.out.f (List.Mem.tail _ (List.Mem.tail _ (List.Mem.head _)))).cell 0
  have bp1 : w5.cell? ⟨w.heap.size, 1, none⟩ = some (.int .i64 p.mn) := (H5.out.f (List.Mem.tail _ (List.Mem.tail _ (List.Mem.head _)))).cell 1
  have bp2 : w5.cell? ⟨w.heap.size, 2, none⟩ = some (.int .i64 p.mx) := (H5.out.f (List.Mem.tail _ (List.Mem.tail _ (List.Mem.head _)))).cell 2
  have bp3 : w5.cell? ⟨w.heap.size, 3, none⟩ = some (.bool p.inc.neg) := (H5.out.f (List.Mem.tail _ (List.Mem.tail _ (List.Mem.head _)))).cell 3
  have bp4 : w5.cell? ⟨w.heap.size, 4, none⟩ = some (S p.inc.l) := (H5.out.f (List.Mem.tail _ (List.Mem.tail _ (List.Mem.head _)))).cell 4
  have bp5 : w5.cell? ⟨w.heap.size, 5, none⟩ = some (.int .i64 p.inc.e) := (H5.out.f (List.Mem.tail _ (List.Mem.tail _ (List.Mem.head _)))).cell 5
  have bp6 : w5.cell? ⟨w.heap.size, 6, none⟩ = some (.int .i64 p.mode) := (H5.out.f (List.Mem.tail _ (List.Mem.tail _ (List.Mem.head _)))).cell 6
  have bp7 : w5.cell? ⟨w.heap.size, 7, none⟩ = some (.int .i64 p.mi) := (H5.out.f (List.Mem.tail _ (List.Mem.tail _ (List.Mem.head _)))).cell 7
  have bpl : w.heap.size < w5.heap.size := (H5.out.f (List.Mem.tail _ (List.Mem.tail _ (List.Mem.head _)))).lt
  have bx0 : w5.cell? ⟨w.heap.size + 1, 0, none⟩ = some (.bool g.neg) := (H5.out.f (List.Mem.tail _ (List.Mem.head _))).cell 0
  have bx1 : w5.cell? ⟨w.heap.size + 1, 1, none⟩ = some (S g.l) := (H5.out.f (List.Mem.tail _ (List.Mem.head _))).cell 1
  have bx2 : w5.cell? ⟨w.heap.size + 1, 2, none⟩ = some (.int .i64 g.e) := (H5.out.f (List.Mem.tail _ (List.Mem.head _))).cell 2
  have bxl : w.heap.size + 1 < w5.heap.size := (H5.out.f (List.Mem.tail _ (List.Mem.head _))).lt
  have r0 : w5.cell? ⟨w.heap.size + 1 + 1, 0, none⟩ = some (.bool false) := (H5.out.f (List.Mem.head _)).cell 0
  have rz0 : w5.frozen? ⟨w.heap.size + 1 + 1, 0, none⟩ = false := (H5.out.f (List.Mem.head _)).frozen 0
  have r1 : w5.cell? ⟨w.heap.size + 1 + 1, 1, none⟩ = some (.string ⟨#[]⟩) := (H5.out.f (List.Mem.head _)).cell 1
  have rz1 : w5.frozen? ⟨w.heap.size + 1 + 1, 1, none⟩ = false := (H5.out.f (List.Mem.head _)).frozen 1
  have r2 : w5.cell? ⟨w.heap.size + 1 + 1, 2, none⟩ = some (.string ⟨#[]⟩) := (H5.out.f (List.Mem.head _)).cell 2
  have rz2 : w5.frozen? ⟨w.heap.size + 1 + 1, 2, none⟩ = false := (H5.out.f (List.Mem.head _)).frozen 2
  have rl : w.heap.size + 1 + 1 < w5.heap.size := (H5.out.f (List.Mem.head _)).lt
  go_wp2_with fail
  rw [SA.out]
  with_reducible refine (mfrac_as p g _ gl n1 n2 HI.out F HF.out).mono ?_
  rintro x w6 ⟨rfl, hb⟩
  clear bp0 bp1 bp2 bp3 bp4 bp5 bp6 bp7 bpl bx0 bx1 bx2 bxl r0 rz0 r1 rz1 r2 rz2 rl
  have H6 : Hid (HeldL w [(w.heap.size + 1 + 1, #[.bool false, .string ⟨#[]⟩, .string ⟨#[]⟩]), (w.heap.size + 1, #[.bool g.neg, S g.l, .int .i64 g.e]), (w.heap.size, #[.int .i64 p.kind, .int .i64 p.mn, .int .i64 p.mx, .bool p.inc.neg, S p.inc.l, .int .i64 p.inc.e, .int .i64 p.mode, .int .i64 p.mi])] w6) := Lib.hid (HeldL.keep H5.out hb)
  clear H5
  clear hb
  have bp0 : w6.cell? ⟨w.heap.size, 0, none⟩ = some (.int .i64 p.kind) := (H6.out.f (List.Mem.tail _ (List.Mem.tail _ (List.Mem.head _)))).cell 0
  have bp1 : w6.cell? ⟨w.heap.size, 1, none⟩ = some (.int .i64 p.mn) := (H6.out.f (List.Mem.tail _ (List.Mem.tail _ (List.Mem.head _)))).cell 1
  have bp2 : w6.cell? ⟨w.heap.size, 2, none⟩ = some (.int .i64 p.mx) := (H6.out.f (List.Mem.tail _ (List.Mem.tail _ (List.Mem.head _)))).cell 2
  have bp3 : w6.cell? ⟨w.heap.size, 3, none⟩ = some (.bool p.inc.neg) := (H6.out.f (List.Mem.tail _ (List.Mem.tail _ (List.Mem.head _)))).cell 3
  have bp4 : w6.cell? ⟨w.heap.size, 4, none⟩ = some (S p.inc.l) := (H6.out.f (List.Mem.tail _ (List.Mem.tail _ (List.Mem.head _)))).cell 4
  have bp5 : w6.cell? ⟨w.heap.size, 5, none⟩ = some (.int .i64 p.inc.e) := (H6.out.f (List.Mem.tail _ (List.Mem.tail _ (List.Mem.head _)))).cell 5
  have bp6 : w6.cell? ⟨w.heap.size, 6, none⟩ = some (.int .i64 p.mode) := (H6.out.f (List.Mem.tail _ (List.Mem.tail _ (List.Mem.head _)))).cell 6
  have bp7 : w6.cell? ⟨w.heap.size, 7, none⟩ = some (.int .i64 p.mi) := (H6.out.f (List.Mem.tail _ (List.Mem.tail _ (List.Mem.head _)))).cell 7
  have bpl : w.heap.size < w6.heap.size := (H6.out.f (List.Mem.tail _ (List.Mem.tail _ (List.Mem.head _)))).lt
  have bx0 : w6.cell? ⟨w.heap.size + 1, 0, none⟩ = some (.bool g.neg) := (H6.out.f (List.Mem.tail _ (List.Mem.head _))).cell 0
  have bx1 : w6.cell? ⟨w.heap.size + 1, 1, none⟩ = some (S g.l) := (H6.out.f (List.Mem.tail _ (List.Mem.head _))).cell 1
  have bx2 : w6.cell? ⟨w.heap.size + 1, 2, none⟩ = some (.int .i64 g.e) := (H6.out.f (List.Mem.tail _ (List.Mem.head _))).cell 2
  have bxl : w.heap.size + 1 < w6.heap.size := (H6.out.f (List.Mem.tail _ (List.Mem.head _))).lt
  have r0 : w6.cell? ⟨w.heap.size + 1 + 1, 0, none⟩ = some (.bool false) := (H6.out.f (List.Mem.head _)).cell 0
  have rz0 : w6.frozen? ⟨w.heap.size + 1 + 1, 0, none⟩ = false := (H6.out.f (List.Mem.head _)).frozen 0
  have r1 : w6.cell? ⟨w.heap.size + 1 + 1, 1, none⟩ = some (.string ⟨#[]⟩) := (H6.out.f (List.Mem.head _)).cell 1
  have rz1 : w6.frozen? ⟨w.heap.size + 1 + 1, 1, none⟩ = false := (H6.out.f (List.Mem.head _)).frozen 1
  have r2 : w6.cell? ⟨w.heap.size + 1 + 1, 2, none⟩ = some (.string ⟨#[]⟩) := (H6.out.f (List.Mem.head _)).cell 2
  have rz2 : w6.frozen? ⟨w.heap.size + 1 + 1, 2, none⟩ = false := (H6.out.f (List.Mem.head _)).frozen 2
  have rl : w.heap.size + 1 + 1 < w6.heap.size := (H6.out.f (List.Mem.head _)).lt
  go_wp2_with fail
  rw [HK.out]
  with_reducible refine (zeros_as K _ K6).mono ?_
  rintro x w7 ⟨rfl, hb⟩
  clear bp0 bp1 bp2 bp3 bp4 bp5 bp6 bp7 bpl bx0 bx1 bx2 bxl r0 rz0 r1 rz1 r2 rz2 rl
  have H7 : Hid (HeldL w [(w.heap.size + 1 + 1, #[.bool false, .string ⟨#[]⟩, .string ⟨#[]⟩]), (w.heap.size + 1, #[.bool g.neg, S g.l, .int .i64 g.e]), (w.heap.size, #[.int .i64 p.kind, .int .i64 p.mn, .int .i64 p.mx, .bool p.inc.neg, S p.inc.l, .int .i64 p.inc.e, .int .i64 p.mode, .int .i64 p.mi])] w7) := Lib.hid (HeldL.keep H6.out hb)
  clear H6
  clear hb
  have bp0 : w7.cell? ⟨w.heap.size, 0, none⟩ = some (.int .i64 p.kind) := (H7.out.f (List.Mem.tail _ (List.Mem.tail _ (List.Mem.head _)))).cell 0
  have bp1 : w7.cell? ⟨w.heap.size, 1, none⟩ = some (.int .i64 p.mn) := (H7.out.f (List.Mem.tail _ (List.Mem.tail _ (List.Mem.head _)))).cell 1
  have bp2 : w7.cell? ⟨w.heap.size, 2, none⟩ = some (.int .i64 p.mx) := (H7.out.f (List.Mem.tail _ (List.Mem.tail _ (List.Mem.head _)))).cell 2
  have bp3 : w7.cell? ⟨w.heap.size, 3, none⟩ = some (.bool p.inc.neg) := (H7.out.f (List.Mem.tail _ (List.Mem.tail _ (List.Mem.head _)))).cell 3
  have bp4 : w7.cell? ⟨w.heap.size, 4, none⟩ = some (S p.inc.l) := (H7.out.f (List.Mem.tail _ (List.Mem.tail _ (List.Mem.head _)))).cell 4
  have bp5 : w7.cell? ⟨w.heap.size, 5, none⟩ = some (.int .i64 p.inc.e) := (H7.out.f (List.Mem.tail _ (List.Mem.tail _ (List.Mem.head _)))).cell 5
  have bp6 : w7.cell? ⟨w.heap.size, 6, none⟩ = some (.int .i64 p.mode) := (H7.out.f (List.Mem.tail _ (List.Mem.tail _ (List.Mem.head _)))).cell 6
  have bp7 : w7.cell? ⟨w.heap.size, 7, none⟩ = some (.int .i64 p.mi) := (H7.out.f (List.Mem.tail _ (List.Mem.tail _ (List.Mem.head _)))).cell 7
  have bpl : w.heap.size < w7.heap.size := (H7.out.f (List.Mem.tail _ (List.Mem.tail _ (List.Mem.head _)))).lt
  have bx0 : w7.cell? ⟨w.heap.size + 1, 0, none⟩ = some (.bool g.neg) := (H7.out.f (List.Mem.tail _ (List.Mem.head _))).cell 0
  have bx1 : w7.cell? ⟨w.heap.size + 1, 1, none⟩ = some (S g.l) := (H7.out.f (List.Mem.tail _ (List.Mem.head _))).cell 1
  have bx2 : w7.cell? ⟨w.heap.size + 1, 2, none⟩ = some (.int .i64 g.e) := (H7.out.f (List.Mem.tail _ (List.Mem.head _))).cell 2
  have bxl : w.heap.size + 1 < w7.heap.size := (H7.out.f (List.Mem.tail _ (List.Mem.head _))).lt
  have r0 : w7.cell? ⟨w.heap.size + 1 + 1, 0, none⟩ = some (.bool false) := (H7.out.f (List.Mem.head _)).cell 0
  have rz0 : w7.frozen? ⟨w.heap.size + 1 + 1, 0, none⟩ = false := (H7.out.f (List.Mem.head _)).frozen 0
  have r1 : w7.cell? ⟨w.heap.size + 1 + 1, 1, none⟩ = some (.string ⟨#[]⟩) := (H7.out.f (List.Mem.head _)).cell 1
  have rz1 : w7.frozen? ⟨w.heap.size + 1 + 1, 1, none⟩ = false := (H7.out.f (List.Mem.head _)).frozen 1
  have r2 : w7.cell? ⟨w.heap.size + 1 + 1, 2, none⟩ = some (.string ⟨#[]⟩) := (H7.out.f (List.Mem.head _)).cell 2
  have rz2 : w7.frozen? ⟨w.heap.size + 1 + 1, 2, none⟩ = false := (H7.out.f (List.Mem.head _)).frozen 2
  have rl : w.heap.size + 1 + 1 < w7.heap.size := (H7.out.f (List.Mem.head _)).lt
  try rw [SB.out]
  go_wp2
  exact bodyPost_ret (v := .tuple #[.agg #[.bool g.neg, .string ⟨#[48]⟩, .string ⟨[].toArray⟩], .int .i64 0]) (by simp [results, Tryd.results13, go_sem, r0, r1, r2, SB.out]) rfl ⟨rfl, (HeldL.store3 [] [(w.heap.size + 1, #[.bool g.neg, S g.l, .int .i64 g.e]), (w.heap.size, #[.int .i64 p.kind, .int .i64 p.mn, .int .i64 p.mx, .bool p.inc.neg, S p.inc.l, .int .i64 p.inc.e, .int .i64 p.mode, .int .i64 p.mi])] H7.out _ _ _).bel⟩

theorem apply_as (p : Prc) (x : Tri) (w : World) (pl : p.inc.l.length ≤ 100000) (xl : x.l.length ≤ 100000) (hv : validP p = true) (htab : Tab w) (g : Tri) (hg : roundP p (made x.neg x.l x.e) = g) (gl : g.l.length ≤ 100000) (hi : made g.neg g.l g.e = g) (v : Vs) (hV : visP p g = v) :
    Calls Tryd.prog 13 #[PV p, V x] w fun z w' => z = .returned (.tuple #[VV v, .int .i64 0]) ∧ Below w.heap.size w w' := by
  obtain ⟨_, i12, n12, _⟩ := validP_parts hv
  have he := made_exp g.neg g.l g.e
  rw [hi] at he
  have hl := partsT_len g (by omega) he.1 he.2
  have hF : -150000 ≤ mfrac p g ∧ mfrac p g ≤ 40000 := by
    unfold mfrac
    split
    · split
      · omega
      · rename_i hne
        have := List.length_pos_iff.2 hne
        omega
    · omega
  unfold visP at hV
  simp only at hV
  cases hp : partsT g with
  | mk a b =>
  rw [hp] at hV hl
  simp only at hV hl
  have hp' : partsT (made g.neg g.l g.e) = (a, b) := by rw [hi]; exact hp
  subst hV
  by_cases hA : zs (p.mi - (a.length : Int)).toNat ++ a = []
  · by_cases hB : b ++ zs (mfrac p g - (b.length : Int)).toNat = []
    · rw [if_pos ⟨hA, hB⟩, hB]
      exact apply_z p x w pl xl hv htab g hg gl hi n12.1 n12.2 i12.1 i12.2 a b hp' hl.1 hl.2 _ rfl hF.1 hF.2 hA hB
    · rw [if_neg (fun h => hB h.2), hA]
      exact apply_n p x w pl xl hv htab g hg gl hi n12.1 n12.2 i12.1 i12.2 a b hp' hl.1 hl.2 _ rfl hF.1 hF.2 _ hA rfl hB
  · rw [if_neg (fun h => hA h.1)]
    exact apply_a p x w pl xl hv htab g hg gl hi n12.1 n12.2 i12.1 i12.2 a b hp' hl.1 hl.2 _ rfl hF.1 hF.2 _ _ rfl rfl hA
end Go.Proofs.YtegekkifgdakgaaDoor

namespace Go.Proofs.YtegekkifgdakgaaDoor
open Go.RowKit Florin
set_option linter.unusedVariables false
set_option linter.unusedSimpArgs false
attribute [local go_sem ↓] Go.wp_at_zero Go.wp_at_succ

/-- The text of what is shown. -/
def textV (v : Vs) : List UInt8 := signL v.neg ++ v.i ++ (if v.f = [] then [] else 46 :: v.f)
theorem cat45 (i : List UInt8) : (⟨#[45]⟩ : ByteArray) ++ (⟨i.toArray⟩ : ByteArray) = ⟨(45 :: i).toArray⟩ := arr_append [45] i
theorem cat46 (i f : List UInt8) : (⟨i.toArray⟩ : ByteArray) ++ ((⟨#[46]⟩ : ByteArray) ++ (⟨f.toArray⟩ : ByteArray)) = ⟨(i ++ 46 :: f).toArray⟩ := by
  rw [show (⟨#[46]⟩ : ByteArray) ++ (⟨f.toArray⟩ : ByteArray) = ⟨(46 :: f).toArray⟩ from arr_append [46] f, arr_append]
set_option maxHeartbeats 1600000 in
theorem text_te (i : List UInt8) (w : World) (il : i.length ≤ 2000000) :
    Calls Tryd.prog 38 #[.agg #[.bool true, S i, .string ⟨#[]⟩]] w fun z w' => z = .returned (S (45 :: i)) ∧ Below w.heap.size w w' := by
  have hcat : ¬ 9223372036854775807 < 1 + i.length := by omega
  skip
  go_enter Tryd.func38, Tryd.ntmps38
  go_wp2
  go_ret
  exact ⟨by show Ending.returned (.string _) = _; rw [cat45], (HeldL.alloc (HeldL.refl w) (w.heap.size) #[.bool true, S i, .string ⟨#[]⟩] 37 (by simp)).bel⟩

set_option maxHeartbeats 1600000 in
theorem text_tf (i f : List UInt8) (w : World) (il : i.length ≤ 2000000) (fl : f.length ≤ 2000000) (hf : ¬ f = []) :
    Calls Tryd.prog 38 #[.agg #[.bool true, S i, S f]] w fun z w' => z = .returned (S ((45 :: i) ++ 46 :: f)) ∧ Below w.heap.size w w' := by
  have hcat : ¬ 9223372036854775807 < 1 + i.length := by omega
  have hcat2 : ¬ 9223372036854775807 < 1 + f.length := by omega
  have hcat3 : ¬ 9223372036854775807 < i.length + (1 + f.length) := by omega
  have hcat4 : ¬ 9223372036854775807 < (1 + i.length) + (1 + f.length) := by omega
  have hcat5 : ¬ 9223372036854775807 < 1 + i.length + (1 + f.length) := by omega
  have eF := empty_of (ne_empty hf)
  have eF2 := ne_empty hf
  go_enter Tryd.func38, Tryd.ntmps38
  go_wp2
  go_ret
  exact ⟨by show Ending.returned (.string _) = _; rw [cat45, cat46]; rfl, (HeldL.alloc (HeldL.refl w) (w.heap.size) #[.bool true, S i, S f] 37 (by simp)).bel⟩

set_option maxHeartbeats 1600000 in
theorem text_fe (i : List UInt8) (w : World) (il : i.length ≤ 2000000) :
    Calls Tryd.prog 38 #[.agg #[.bool false, S i, .string ⟨#[]⟩]] w fun z w' => z = .returned (S (i)) ∧ Below w.heap.size w w' := by
  have hcat : ¬ 9223372036854775807 < 1 + i.length := by omega
  skip
  go_enter Tryd.func38, Tryd.ntmps38
  go_wp2
  go_ret
  exact ⟨rfl, (HeldL.alloc (HeldL.refl w) (w.heap.size) #[.bool false, S i, .string ⟨#[]⟩] 37 (by simp)).bel⟩

set_option maxHeartbeats 1600000 in
theorem text_ff (i f : List UInt8) (w : World) (il : i.length ≤ 2000000) (fl : f.length ≤ 2000000) (hf : ¬ f = []) :
    Calls Tryd.prog 38 #[.agg #[.bool false, S i, S f]] w fun z w' => z = .returned (S (i ++ 46 :: f)) ∧ Below w.heap.size w w' := by
  have hcat : ¬ 9223372036854775807 < 1 + i.length := by omega
  have hcat2 : ¬ 9223372036854775807 < 1 + f.length := by omega
  have hcat3 : ¬ 9223372036854775807 < i.length + (1 + f.length) := by omega
  have hcat4 : ¬ 9223372036854775807 < (1 + i.length) + (1 + f.length) := by omega
  have hcat5 : ¬ 9223372036854775807 < 1 + i.length + (1 + f.length) := by omega
  have eF := empty_of (ne_empty hf)
  have eF2 := ne_empty hf
  go_enter Tryd.func38, Tryd.ntmps38
  go_wp2
  go_ret
  exact ⟨by show Ending.returned (.string _) = _; rw [cat46], (HeldL.alloc (HeldL.refl w) (w.heap.size) #[.bool false, S i, S f] 37 (by simp)).bel⟩

theorem text_as (v : Vs) (w : World) (il : v.i.length ≤ 2000000) (fl : v.f.length ≤ 2000000) (t : List UInt8) (ht : textV v = t) :
    Calls Tryd.prog 38 #[VV v] w fun z w' => z = .returned (S t) ∧ Below w.heap.size w w' := by
  subst ht
  obtain ⟨b, i, f⟩ := v
  simp only at il fl
  unfold textV
  by_cases hf : f = []
  · subst hf
    cases b with
    | true => simpa [signL] using text_te i w il
    | false => simpa [signL] using text_fe i w il
  · cases b with
    | true => simpa [signL, hf] using text_tf i f w il fl hf
    | false => simpa [signL, hf] using text_ff i f w il fl hf
theorem dig12 : dig 12 = [49, 50] := dig_val (l := [49, 50]) rfl
theorem ex_r1 : roundP ⟨0, 2, 2, ⟨false, [], 0⟩, 0, 0⟩ (made false [49, 50, 51, 52, 53] (-1)) = ⟨false, [49, 50, 51, 52, 53], -1⟩ := by
  rw [show made false [49, 50, 51, 52, 53] (-1) = ⟨false, [49, 50, 51, 52, 53], -1⟩ by decide]
  unfold roundP
  rw [if_pos rfl]
  unfold mulT
  rw [if_pos ⟨by decide, by decide⟩, if_pos]
  show nN _ _ % uU _ 1 _ = 0
  unfold uU
  simp only [hld]
  exact Nat.mod_one _
theorem ex_r2 : roundP ⟨1, 1, 2, ⟨false, [], 0⟩, 0, 0⟩ (made false [49, 50, 51, 52, 53] (-1)) = ⟨false, [49, 50], 2⟩ := by
  rw [show made false [49, 50, 51, 52, 53] (-1) = ⟨false, [49, 50, 51, 52, 53], -1⟩ by decide]
  unfold roundP
  rw [if_neg (by decide), if_pos rfl]
  unfold sigT
  rw [if_neg (by decide)]
  unfold mulT
  rw [if_pos ⟨by decide, by decide⟩, if_neg (by decide)]
  rw [show cnt _ _ _ _ * 1 = 12 by decide, dig12]
  decide
theorem ex_v1 : visP ⟨0, 2, 2, ⟨false, [], 0⟩, 0, 0⟩ ⟨false, [49, 50, 51, 52, 53], -1⟩ = ⟨false, [49, 50, 51, 52], [53, 48]⟩ := by decide
theorem ex_v2 : visP ⟨1, 1, 2, ⟨false, [], 0⟩, 0, 0⟩ ⟨false, [49, 50], 2⟩ = ⟨false, [49, 50, 48, 48], []⟩ := by decide
theorem apply1 (w : World) (ht : Tab w) : Calls Tryd.prog 13 #[.agg #[.int .i64 0, .int .i64 2, .int .i64 2, .bool false, .string ⟨#[]⟩, .int .i64 0, .int .i64 0, .int .i64 0], .agg #[.bool false, .string ⟨#[49, 50, 51, 52, 53]⟩, .int .i64 (-1)]] w
    fun z w' => z = .returned (.tuple #[.agg #[.bool false, .string ⟨#[49, 50, 51, 52]⟩, .string ⟨#[53, 48]⟩], .int .i64 0]) ∧ Below w.heap.size w w' :=
  apply_as ⟨0, 2, 2, ⟨false, [], 0⟩, 0, 0⟩ ⟨false, [49, 50, 51, 52, 53], -1⟩ w (by decide) (by decide) (by decide) ht ⟨false, [49, 50, 51, 52, 53], -1⟩ ex_r1 (by decide) (by decide) _ ex_v1
theorem apply2 (w : World) (ht : Tab w) : Calls Tryd.prog 13 #[.agg #[.int .i64 1, .int .i64 1, .int .i64 2, .bool false, .string ⟨#[]⟩, .int .i64 0, .int .i64 0, .int .i64 0], .agg #[.bool false, .string ⟨#[49, 50, 51, 52, 53]⟩, .int .i64 (-1)]] w
    fun z w' => z = .returned (.tuple #[.agg #[.bool false, .string ⟨#[49, 50, 48, 48]⟩, .string ⟨#[]⟩], .int .i64 0]) ∧ Below w.heap.size w w' :=
  apply_as ⟨1, 1, 2, ⟨false, [], 0⟩, 0, 0⟩ ⟨false, [49, 50, 51, 52, 53], -1⟩ w (by decide) (by decide) (by decide) ht ⟨false, [49, 50], 2⟩ ex_r2 (by decide) (by decide) _ ex_v2
theorem text1 (w : World) : Calls Tryd.prog 38 #[.agg #[.bool false, .string ⟨#[49, 50, 51, 52]⟩, .string ⟨#[53, 48]⟩]] w fun z w' => z = .returned (.string ⟨#[49, 50, 51, 52, 46, 53, 48]⟩) ∧ Below w.heap.size w w' :=
  text_as ⟨false, [49, 50, 51, 52], [53, 48]⟩ w (by decide) (by decide) _ rfl
theorem text2 (w : World) : Calls Tryd.prog 38 #[.agg #[.bool false, .string ⟨#[49, 50, 48, 48]⟩, .string ⟨#[]⟩]] w fun z w' => z = .returned (.string ⟨#[49, 50, 48, 48]⟩) ∧ Below w.heap.size w w' :=
  text_as ⟨false, [49, 50, 48, 48], []⟩ w (by decide) (by decide) _ rfl

set_option maxRecDepth 100000 in
set_option maxHeartbeats 3200000 in
theorem head4 (w : World) (htab : Tab w) : Calls Tryd.prog 10 #[] w fun x w' => x = .returned (.bool true) ∧ Below w.heap.size w w' := by
  have HT := Lib.hid htab
  clear htab
  go_enter Tryd.func10, Tryd.ntmps10
  go_wp2_with fail
  with_reducible refine (made_as false ⟨#[49, 50, 51, 52, 53]⟩ (-1) _ (by decide) ⟨false, [49, 50, 51, 52, 53], -1⟩ (by decide)).mono ?_
  rintro x w1 ⟨rfl, hb⟩
  have H1 : Hid (HeldL w [] w1) := Lib.hid (HeldL.keep (HeldL.refl w) hb)
  clear hb
  go_wp2_with fail
  with_reducible refine (apply1 _ (HT.out.below (HeldL.alloc H1.out (w1.heap.size) #[.bool false, .string ⟨#[49, 50, 51, 52, 53]⟩, .int .i64 (-1)] 31 (by simp)).bel)).mono ?_
  rintro x w2 ⟨rfl, hb⟩
  have H2 : Hid (HeldL w [(w1.heap.size, #[.bool false, .string ⟨#[49, 50, 51, 52, 53]⟩, .int .i64 (-1)])] w2) := Lib.hid (HeldL.keep (HeldL.alloc H1.out (w1.heap.size) #[.bool false, .string ⟨#[49, 50, 51, 52, 53]⟩, .int .i64 (-1)] 31 (by simp)) hb)
  clear H1
  clear hb
  have x0 : w2.cell? ⟨w1.heap.size, 0, none⟩ = some (.bool false) := (H2.out.f (List.Mem.head _)).cell 0
  have x1 : w2.cell? ⟨w1.heap.size, 1, none⟩ = some (.string ⟨#[49, 50, 51, 52, 53]⟩) := (H2.out.f (List.Mem.head _)).cell 1
  have x2 : w2.cell? ⟨w1.heap.size, 2, none⟩ = some (.int .i64 (-1)) := (H2.out.f (List.Mem.head _)).cell 2
  have xl : w1.heap.size < w2.heap.size := (H2.out.f (List.Mem.head _)).lt
  go_wp2_with fail
  with_reducible refine (apply2 _ (HT.out.below (HeldL.alloc H2.out (w2.heap.size) #[.bool false, .string ⟨#[49, 50, 51, 52]⟩, .string ⟨#[53, 48]⟩] 37 (by simp)).bel)).mono ?_
  rintro x w3 ⟨rfl, hb⟩
  clear x0 x1 x2 xl
  have H3 : Hid (HeldL w [(w2.heap.size, #[.bool false, .string ⟨#[49, 50, 51, 52]⟩, .string ⟨#[53, 48]⟩]), (w1.heap.size, #[.bool false, .string ⟨#[49, 50, 51, 52, 53]⟩, .int .i64 (-1)])] w3) := Lib.hid (HeldL.keep (HeldL.alloc H2.out (w2.heap.size) #[.bool false, .string ⟨#[49, 50, 51, 52]⟩, .string ⟨#[53, 48]⟩] 37 (by simp)) hb)
  clear H2
  clear hb
  have a0 : w3.cell? ⟨w2.heap.size, 0, none⟩ = some (.bool false) := (H3.out.f (List.Mem.head _)).cell 0
  have a1 : w3.cell? ⟨w2.heap.size, 1, none⟩ = some (.string ⟨#[49, 50, 51, 52]⟩) := (H3.out.f (List.Mem.head _)).cell 1
  have a2 : w3.cell? ⟨w2.heap.size, 2, none⟩ = some (.string ⟨#[53, 48]⟩) := (H3.out.f (List.Mem.head _)).cell 2
  have al : w2.heap.size < w3.heap.size := (H3.out.f (List.Mem.head _)).lt
  go_wp2_with fail
  with_reducible refine (text1 _).mono ?_
  rintro x w4 ⟨rfl, hb⟩
  clear a0 a1 a2 al
  have H4 : Hid (HeldL w [(w3.heap.size, #[.bool false, .string ⟨#[49, 50, 48, 48]⟩, .string ⟨#[]⟩]), (w2.heap.size, #[.bool false, .string ⟨#[49, 50, 51, 52]⟩, .string ⟨#[53, 48]⟩]), (w1.heap.size, #[.bool false, .string ⟨#[49, 50, 51, 52, 53]⟩, .int .i64 (-1)])] w4) := Lib.hid (HeldL.keep (HeldL.alloc H3.out (w3.heap.size) #[.bool false, .string ⟨#[49, 50, 48, 48]⟩, .string ⟨#[]⟩] 37 (by simp)) hb)
  clear H3
  clear hb
  have b0 : w4.cell? ⟨w3.heap.size, 0, none⟩ = some (.bool false) := (H4.out.f (List.Mem.head _)).cell 0
  have b1 : w4.cell? ⟨w3.heap.size, 1, none⟩ = some (.string ⟨#[49, 50, 48, 48]⟩) := (H4.out.f (List.Mem.head _)).cell 1
  have b2 : w4.cell? ⟨w3.heap.size, 2, none⟩ = some (.string ⟨#[]⟩) := (H4.out.f (List.Mem.head _)).cell 2
  have bl : w3.heap.size < w4.heap.size := (H4.out.f (List.Mem.head _)).lt
  go_wp2_with fail
  with_reducible refine (text2 _).mono ?_
  rintro x w5 ⟨rfl, hb⟩
  clear b0 b1 b2 bl
  have H5 : Hid (HeldL w [(w3.heap.size, #[.bool false, .string ⟨#[49, 50, 48, 48]⟩, .string ⟨#[]⟩]), (w2.heap.size, #[.bool false, .string ⟨#[49, 50, 51, 52]⟩, .string ⟨#[53, 48]⟩]), (w1.heap.size, #[.bool false, .string ⟨#[49, 50, 51, 52, 53]⟩, .int .i64 (-1)])] w5) := Lib.hid (HeldL.keep H4.out hb)
  clear H4
  clear hb
  go_wp2
  go_ret
  exact ⟨rfl, H5.out.bel⟩
end Go.Proofs.YtegekkifgdakgaaDoor

namespace Go.Proofs.YtegekkifgdakgaaDoor
open Go.RowKit Florin
set_option linter.unusedVariables false

theorem run_VV (a b : Vs) (w : World) : (Op.equalIn 10000 37 (VV a) (VV b)).run Tryd.prog w = .ok (decide (a = b)) w := by
  rw [show (10000 : Nat) = 9999 + 1 from rfl, run_equalIn_struct w 9999 37 _ _ (by kernel_rfl) (by kernel_rfl)]
  obtain ⟨an, al, ae⟩ := a
  obtain ⟨bn, bl, be⟩ := b
  simp [go_sem, Tryd.underlying37, Tryd.underlying4, Tryd.underlying9]
  by_cases h1 : an = bn
  · by_cases h2 : al = bl
    · by_cases h3 : ae = be
      · simp [h1, h2, h3]
      · simp [h1, h2, h3]
    · simp [h1, h2]
  · simp [h1]
theorem eq_VV (a b : Vs) (w : World) : (binOp .eql 37 (VV a) (VV b)).run Tryd.prog w = .ok (.bool (decide (a = b))) w := by
  rw [run_eql_struct, run_VV]; rfl
theorem mulT_idem {d : Tri} (h : made d.neg d.l d.e = d) (F : Nat) (p m : Int) : made (mulT d F p m).neg (mulT d F p m).l (mulT d F p m).e = mulT d F p m := by
  unfold mulT
  split
  · split
    · exact h
    · exact made_idem _ _ _
  · exact h
theorem roundP_idem {p : Prc} {d : Tri} (h : made d.neg d.l d.e = d) : made (roundP p d).neg (roundP p d).l (roundP p d).e = roundP p d := by
  unfold roundP
  split
  · exact mulT_idem h _ _ _
  · split
    · unfold sigT
      split
      · rfl
      · exact mulT_idem h _ _ _
    · exact mulT_idem h _ _ _
/-- An increment's digits. -/
theorem vinc_val {i : Tri} (hi : vinc (made i.neg i.l i.e) = true) : 1 ≤ val (made i.neg i.l i.e).l ∧ val (made i.neg i.l i.e).l ≤ 1000000000 ∧ (made i.neg i.l i.e).neg = false ∧ -100 ≤ (made i.neg i.l i.e).e ∧ (made i.neg i.l i.e).e ≤ 100 := by
  have hdg := made_isDig i.neg i.l i.e
  have hnr := made_nrm i.neg i.l i.e
  generalize made i.neg i.l i.e = d at *
  unfold vinc wi at hi
  simp only [Bool.and_eq_true, Bool.not_eq_true', decide_eq_true_eq] at hi
  obtain ⟨i1, i2, i3, i4⟩ := hi
  have hlt := val_lt d.l hdg
  have h9 : 10 ^ d.l.length ≤ 10 ^ 9 := Nat.pow_le_pow_right (by decide) (by omega)
  refine ⟨?_, by omega, i2, i4.1, i4.2⟩
  rcases hnr with h0 | h0
  · rw [h0] at i1; simp [zero] at i1
  · rcases Nat.eq_zero_or_pos (val d.l) with hv | hv
    · exfalso
      have hm := h0.made
      rw [made_zero _ _ (by rw [bare_dig hdg, hv, dig_zero])] at hm
      exact h0.ne (by rw [← hm]; rfl)
    · exact hv
theorem roundP_len {p : Prc} {d : Tri} (hv : validP p = true) (hl : d.l.length ≤ 1000) (hdg : isDig d.l = true) (h1 : -30000 ≤ d.e) (h2 : d.e ≤ 30000) : (roundP p d).l.length ≤ 100000 := by
  obtain ⟨_, _, h3, h4⟩ := validP_parts hv
  unfold roundP
  split
  · exact mulT_len d 1 _ _ hl (by decide) (by decide) hdg h1 h2 (le_hld _) (hld_le _)
  · split
    · unfold sigT
      split
      · simp [zero]
      · exact mulT_len d 1 _ _ hl (by decide) (by decide) hdg h1 h2 (le_hld _) (hld_le _)
    · rename_i k0 k1
      rcases h4 with ⟨k, _⟩ | ⟨k, _⟩ | ⟨k, b⟩
      · exact absurd k k0
      · exact absurd k k1
      · obtain ⟨b1, b2, b3, b4, b5⟩ := vinc_val b
        exact mulT_len d _ _ _ hl b2 b1 hdg h1 h2 (by omega) (by omega)
end Go.Proofs.YtegekkifgdakgaaDoor
