/- What Zero, Abs, Minus, Scale and Mag of dec return, at any world. -/
import Derived.Test.YtkjhdehpcanciaaGreatDoorDecB
namespace Go.Proofs.YtkjhdehpcanciaaGreatDoor
open Go.RowKit Florin

/-- Cells of an empty decimal. -/
abbrev zc : Array Value := #[.bool false, .string ⟨#[]⟩, .int .i64 0]
theorem below_alloc (w : World) (o : Obj) : Below w.heap.size w (w.alloc o) := (Below.refl _ w).alloc (Nat.le_refl _) _
theorem below_alloc2 (w : World) (o p : Obj) : Below w.heap.size w ((w.alloc o).alloc p) := (below_alloc w o).alloc (by simp) _
theorem below_alloc3 (w : World) (o p q : Obj) : Below w.heap.size w (((w.alloc o).alloc p).alloc q) := (below_alloc2 w o p).alloc (by simp; omega) _
theorem ne_empty {l : List UInt8} (h : l ≠ []) : l.isEmpty = false := by cases l <;> simp_all
theorem empty_of {l : List UInt8} {z : Bool} (h : l.isEmpty = z) : (⟨l.toArray⟩ : ByteArray).toList.isEmpty = z := by
  rw [Lib.toList_data]; simpa using h

theorem fieldL (b : Bool) (s : ByteArray) (e : Int) (w : World) : (Instr.field 90 (.agg #[.bool b, .string s, .int .i64 e]) 1).run Tryz.prog w = .ok (.string s) w := by kernel_rfl

set_option maxRecDepth 100000 in
set_option maxHeartbeats 800000 in
theorem zero_as (neg : Bool) (s : ByteArray) (e : Int) (w : World) (hs : s.size ≤ 1000000) (d : Tri) (hd : made neg s.data.toList e = d) (z : Bool) (hz : d.l.isEmpty = z) :
    Calls Tryz.prog 198 #[.agg #[.bool neg, .string s, .int .i64 e]] w fun x w' => x = .returned (.bool z) ∧ Below w.heap.size w w' := by
  have HD := Lib.hid hd
  have hfl := fieldL
  clear hd
  go_enter Tryz.func198, Tryz.ntmps198
  go_wp2_with fail
  with_reducible refine (norm_as neg s e _ hs d HD.out).mono ?_
  rintro x w1 ⟨rfl, hb⟩
  have HB := Lib.hid (Below.trans (below_alloc w _) (hb.mono (B' := w.heap.size) (by simp)))
  clear hb
  go_wp2
  go_ret
  exact ⟨rfl, HB.out⟩

def clampS (k : Int) : Int := min (max k (-60000)) 60000
end Go.Proofs.YtkjhdehpcanciaaGreatDoor
