/- What Zero, Abs, Minus, Scale and Mag of dec return, at any world. -/
import Derived.Test.YtjhppbnelfandaaGreatDoorDecB
namespace Go.Proofs.YtjhppbnelfandaaGreatDoor
open Go.RowKit Florin

/-- Cells of an empty decimal. -/
abbrev zc : Array Value := #[.bool false, .string ⟨#[]⟩, .int .i64 0]
theorem below_alloc (w : World) (o : Obj) : Below w.heap.size w (w.alloc o) := (Below.refl _ w).alloc (Nat.le_refl _) _
theorem below_alloc2 (w : World) (o p : Obj) : Below w.heap.size w ((w.alloc o).alloc p) := (below_alloc w o).alloc (by simp) _
theorem below_alloc3 (w : World) (o p q : Obj) : Below w.heap.size w (((w.alloc o).alloc p).alloc q) := (below_alloc2 w o p).alloc (by simp; omega) _
theorem ne_empty {l : List UInt8} (h : l ≠ []) : l.isEmpty = false := by cases l <;> simp_all
theorem empty_of {l : List UInt8} {z : Bool} (h : l.isEmpty = z) : (⟨l.toArray⟩ : ByteArray).toList.isEmpty = z := by
  rw [Lib.toList_data]; simpa using h

def clampS (k : Int) : Int := min (max k (-60000)) 60000
end Go.Proofs.YtjhppbnelfandaaGreatDoor
