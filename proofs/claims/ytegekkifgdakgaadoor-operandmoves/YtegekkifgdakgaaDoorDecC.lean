/- What Zero, Abs, Minus, Scale and Mag of dec return, at any world. -/
import Derived.Test.YtegekkifgdakgaaDoorDecB
namespace Go.Proofs.YtegekkifgdakgaaDoor
open Go.RowKit Florin

/-- Cells of an empty decimal. -/
abbrev zc : Array Value := #[.bool false, .string ⟨#[]⟩, .int .i64 0]
theorem below_alloc (w : World) (o : Obj) : Below w.heap.size w (w.alloc o) := (Below.refl _ w).alloc (Nat.le_refl _) _
theorem below_alloc2 (w : World) (o p : Obj) : Below w.heap.size w ((w.alloc o).alloc p) := (below_alloc w o).alloc (by simp) _
theorem below_alloc3 (w : World) (o p q : Obj) : Below w.heap.size w (((w.alloc o).alloc p).alloc q) := (below_alloc2 w o p).alloc (by simp; omega) _
theorem ne_empty {l : List UInt8} (h : l ≠ []) : l.isEmpty = false := by cases l <;> simp_all
theorem empty_of {l : List UInt8} {z : Bool} (h : l.isEmpty = z) : (⟨l.toArray⟩ : ByteArray).toList.isEmpty = z := by
  rw [Lib.toList_data]; simpa using h

theorem fieldL (b : Bool) (s : ByteArray) (e : Int) (w : World) : (Instr.field 31 (.agg #[.bool b, .string s, .int .i64 e]) 1).run Tryd.prog w = .ok (.string s) w := by kernel_rfl

set_option maxRecDepth 100000 in
set_option maxHeartbeats 800000 in
theorem zero_as (neg : Bool) (s : ByteArray) (e : Int) (w : World) (hs : s.size ≤ 1000000) (d : Tri) (hd : made neg s.data.toList e = d) (z : Bool) (hz : d.l.isEmpty = z) :
    Calls Tryd.prog 18 #[.agg #[.bool neg, .string s, .int .i64 e]] w fun x w' => x = .returned (.bool z) ∧ Below w.heap.size w w' := by
  have HD := Lib.hid hd
  have hfl := fieldL
  clear hd
  go_enter Tryd.func18, Tryd.ntmps18
  go_wp2_with fail
  with_reducible refine (norm_as neg s e _ hs d HD.out).mono ?_
  rintro x w1 ⟨rfl, hb⟩
  have HB := Lib.hid (Below.trans (below_alloc w _) (hb.mono (B' := w.heap.size) (by simp)))
  clear hb
  go_wp2
  go_ret
  exact ⟨rfl, HB.out⟩

set_option maxRecDepth 100000 in
set_option maxHeartbeats 800000 in
theorem abs_as (neg : Bool) (s : ByteArray) (e : Int) (w : World) (hs : s.size ≤ 1000000) (d : Tri) (hd : made false s.data.toList e = d) :
    Calls Tryd.prog 27 #[.agg #[.bool neg, .string s, .int .i64 e]] w fun x w' => x = .returned (V d) ∧ Below w.heap.size w w' := by
  have HD := Lib.hid hd
  clear hd
  go_enter Tryd.func27, Tryd.ntmps27
  go_wp2_with fail
  with_reducible refine (made_as false s e _ hs d HD.out).mono ?_
  rintro x w1 ⟨rfl, hb⟩
  have B1 := Lib.hid (((Box.new (w.alloc (.cells #[.bool neg, .string s, .int .i64 e] 31)) zc 31).at (b' := w.heap.size + 1) (by simp)).below hb (by simp))
  have HB := Lib.hid (Below.trans (below_alloc2 w _ _) (hb.mono (B' := w.heap.size) (by simp; omega)))
  obtain ⟨q0, q1, q2, f0, f1, f2, lt⟩ := B1.out.three
  clear hb
  go_wp2
  refine bodyPost_ret (v := V d) (by simp [results, Tryd.results27, go_sem, q0, q1, q2]) rfl ⟨rfl, below_store3 HB.out (Nat.le_succ _) _ _ _⟩

def clampS (k : Int) : Int := min (max k (-60000)) 60000
set_option maxRecDepth 100000 in
set_option maxHeartbeats 800000 in
theorem scale_as (neg : Bool) (s : ByteArray) (e k : Int) (w : World) (hs : s.size ≤ 1000000) (d g : Tri) (hd : made neg s.data.toList e = d) (hg : made d.neg d.l (d.e + clampS k) = g) :
    Calls Tryd.prog 28 #[.agg #[.bool neg, .string s, .int .i64 e], .int .i64 k] w fun x w' => x = .returned (V g) ∧ Below w.heap.size w w' := by
  have b1 : -30000 ≤ d.e := by rw [← hd]; exact (made_exp _ _ _).1
  have b2 : d.e ≤ 30000 := by rw [← hd]; exact (made_exp _ _ _).2
  have b3 : d.l.length ≤ 1000000 := by rw [← hd]; have := made_length neg s.data.toList e; rw [size_list] at this; omega
  have HD := Lib.hid hd
  have HG := Lib.hid hg
  clear hd hg
  go_enter Tryd.func28, Tryd.ntmps28
  go_wp2_with fail
  with_reducible refine (norm_as neg s e _ hs d HD.out).mono ?_
  rintro x w1 ⟨rfl, hb⟩
  have B1 := Lib.hid (((Box.new (w.alloc (.cells #[.bool neg, .string s, .int .i64 e] 31)) zc 31).at (b' := w.heap.size + 1) (by simp)).below hb (by simp))
  have HB := Lib.hid (Below.trans (below_alloc2 w _ _) (hb.mono (B' := w.heap.size) (by simp; omega)))
  clear hb
  go_wp2_with fail
  rw [show min (max k (-60000)) 60000 = clampS k from rfl]
  with_reducible refine (made_as d.neg ⟨d.l.toArray⟩ (d.e + clampS k) _ (by rw [arr_size]; exact b3) g (by rw [arr_list]; exact HG.out)).mono ?_
  rintro x w2 ⟨rfl, hb⟩
  have B2 := Lib.hid ((B1.out.alloc _).below hb (by have := B1.out.lt; simp; omega))
  have HB2 := Lib.hid ((HB.out.alloc HB.out.size _).trans (hb.mono (B' := w.heap.size) (by have := HB.out.size; simp; omega)))
  obtain ⟨q0, q1, q2, f0, f1, f2, lt⟩ := B2.out.three
  clear hb B1 HB
  go_wp2
  refine bodyPost_ret (v := V g) (by simp [results, Tryd.results28, go_sem, q0, q1, q2]) rfl ⟨rfl, below_store3 HB2.out (Nat.le_succ _) _ _ _⟩

set_option maxRecDepth 100000 in
set_option maxHeartbeats 800000 in
theorem mag_zero (neg : Bool) (s : ByteArray) (e : Int) (w : World) (hs : s.size ≤ 1000000) (hd : made neg s.data.toList e = zero) :
    Calls Tryd.prog 62 #[.agg #[.bool neg, .string s, .int .i64 e]] w fun x w' => x = .returned (.tuple #[.int .i64 0, .bool false]) ∧ Below w.heap.size w w' := by
  have HD := Lib.hid hd
  clear hd
  go_enter Tryd.func62, Tryd.ntmps62
  go_wp2_with fail
  with_reducible refine (norm_as neg s e _ hs zero HD.out).mono ?_
  rintro x w1 ⟨rfl, hb⟩
  have HB := Lib.hid ((below_alloc w _).trans (hb.mono (B' := w.heap.size) (by simp)))
  clear hb
  go_wp2_with fail
  with_reducible refine (zero_as zero.neg ⟨zero.l.toArray⟩ zero.e _ (by decide) zero rfl true rfl).mono ?_
  rintro x w2 ⟨rfl, hb⟩
  have HB2 := Lib.hid ((HB.out.alloc HB.out.size _).trans (hb.mono (B' := w.heap.size) (by have := HB.out.size; simp; omega)))
  clear hb
  go_wp2
  go_ret2
  exact ⟨rfl, HB2.out⟩
set_option maxRecDepth 100000 in
set_option maxHeartbeats 800000 in
theorem mag_some (neg : Bool) (s : ByteArray) (e : Int) (w : World) (hs : s.size ≤ 1000000) (d : Tri) (hd : made neg s.data.toList e = d) (hn : d.l ≠ []) (hid : made d.neg d.l d.e = d) :
    Calls Tryd.prog 62 #[.agg #[.bool neg, .string s, .int .i64 e]] w fun x w' => x = .returned (.tuple #[.int .i64 (d.e + (d.l.length : Int) - 1), .bool true]) ∧ Below w.heap.size w w' := by
  have b1 : -30000 ≤ d.e := by rw [← hd]; exact (made_exp _ _ _).1
  have b2 : d.e ≤ 30000 := by rw [← hd]; exact (made_exp _ _ _).2
  have b3 : d.l.length ≤ 1000000 := by rw [← hd]; have := made_length neg s.data.toList e; rw [size_list] at this; omega
  have hl : ((⟨d.l.toArray⟩ : ByteArray).size : Int) = (d.l.length : Int) := by rw [arr_size]
  have HD := Lib.hid hd
  have HN := Lib.hid hn
  have HI := Lib.hid hid
  clear hd hn hid
  go_enter Tryd.func62, Tryd.ntmps62
  go_wp2_with fail
  with_reducible refine (norm_as neg s e _ hs d HD.out).mono ?_
  rintro x w1 ⟨rfl, hb⟩
  have HB := Lib.hid ((below_alloc w _).trans (hb.mono (B' := w.heap.size) (by simp)))
  clear hb
  go_wp2_with fail
  with_reducible refine (zero_as d.neg ⟨d.l.toArray⟩ d.e _ (by rw [arr_size]; exact b3) d (by rw [arr_list]; exact HI.out) false (ne_empty HN.out)).mono ?_
  rintro x w2 ⟨rfl, hb⟩
  have B1 := Lib.hid ((Box.new w1 #[.bool d.neg, S d.l, .int .i64 d.e] 31).below hb (by simp))
  have HB2 := Lib.hid ((HB.out.alloc HB.out.size _).trans (hb.mono (B' := w.heap.size) (by have := HB.out.size; simp; omega)))
  obtain ⟨q0, q1, q2, f0, f1, f2, lt⟩ := B1.out.three
  clear hb HB
  go_wp2
  go_ret2
  exact ⟨rfl, HB2.out⟩
end Go.Proofs.YtegekkifgdakgaaDoor
