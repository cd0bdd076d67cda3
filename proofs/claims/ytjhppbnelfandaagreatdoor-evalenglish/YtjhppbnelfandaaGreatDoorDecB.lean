/- What dec.Made and Norm return, at any world. -/
import Derived.Test.YtjhppbnelfandaaGreatDoorDecA
import Derived.Lib.SmallJoins
namespace Go.Proofs.YtjhppbnelfandaaGreatDoor
open Go.RowKit Florin

/-- A decimal as a value. -/
abbrev V (d : Tri) : Value := .agg #[.bool d.neg, S d.l, .int .i64 d.e]

theorem trim_bare (s : ByteArray) (w : World) (hs : s.size ≤ maxLen) :
    Calls Tryz.prog 12 #[.string s] w fun e w' => e = .returned (S (bare s.data.toList)) ∧ w = w' := by
  by_cases h : isDig s.data.toList = true
  · exact (trim_yes s w hs h).mono fun e w' ⟨he, hw⟩ => ⟨by rw [he]; unfold bare; rw [if_pos h], hw⟩
  · exact (trim_no s w hs (by simpa using h)).mono fun e w' ⟨he, hw⟩ => ⟨by rw [he]; unfold bare; rw [if_neg h], hw⟩

theorem trim_bare_nil (s : ByteArray) (w : World) (hs : s.size ≤ maxLen) (h : bare s.data.toList = []) :
    Calls Tryz.prog 12 #[.string s] w fun e w' => e = .returned (S []) ∧ w = w' :=
  (trim_bare s w hs).mono fun e w' ⟨he, hw⟩ => ⟨by rw [he, h], hw⟩
/-- A text that is not empty. -/
theorem trim_bare_some (s : ByteArray) (w : World) (hs : s.size ≤ maxLen) (t : ByteArray) (ht : t.data.toList = bare s.data.toList) :
    Calls Tryz.prog 12 #[.string s] w fun e w' => e = .returned (.string t) ∧ w = w' :=
  (trim_bare s w hs).mono fun e w' ⟨he, hw⟩ => ⟨by rw [he]; show Ending.returned (.string ⟨(bare s.data.toList).toArray⟩) = _; rw [← ht, back_data], hw⟩
theorem trimRight_some (s : ByteArray) (w : World) (hs : s.size ≤ maxLen) (t : ByteArray) (ht : t.data.toList = rt s.data.toList) :
    Calls Tryz.prog 67 #[.string s, .string ⟨#[48]⟩] w fun e w' => e = .returned (.string t) ∧ w = w' :=
  (Tryz.strings_TrimRight_one s 48 (by decide) w (by unfold maxLen at hs; omega)).mono fun e w' ⟨he, hw⟩ => ⟨by rw [he, show Lib.trimRightB s.data.toList 48 = rt s.data.toList from rfl, ← ht, back_data], hw.symm⟩
theorem bytes_of (l : List UInt8) : ∃ t : ByteArray, t.data.toList = l := ⟨⟨l.toArray⟩, by simp⟩
theorem isEmpty_of {t : ByteArray} (h : t.data.toList ≠ []) : t.toList.isEmpty = false := by
  rw [Lib.toList_data]; cases h2 : t.data.toList with
  | nil => exact absurd h2 h
  | cons _ _ => rfl

/-! A struct in memory of the call's own. -/
def Box (w : World) (b : Nat) (cs : Array Value) : Prop := ∃ t, w.heap[b]? = some (.cells cs t)
theorem Box.cell {w : World} {b : Nat} {cs : Array Value} (h : Box w b cs) (i : Nat) : w.cell? ⟨b, i, none⟩ = cs[i]? := by
  obtain ⟨t, h⟩ := h; simp [World.cell?, h]
theorem Box.frozen {w : World} {b : Nat} {cs : Array Value} (h : Box w b cs) (i : Nat) : w.frozen? ⟨b, i, none⟩ = false := by
  obtain ⟨t, h⟩ := h; simp [World.frozen?, h]
theorem Box.lt {w : World} {b : Nat} {cs : Array Value} (h : Box w b cs) : b < w.heap.size := by
  obtain ⟨t, h⟩ := h
  rcases Nat.lt_or_ge b w.heap.size with h' | h'
  · exact h'
  · rw [Array.getElem?_eq_none h'] at h; cases h
theorem Box.below {W w : World} {b B : Nat} {cs : Array Value} (h : Box W b cs) (hb : Below B W w) (hl : b < B) : Box w b cs := by
  obtain ⟨t, h⟩ := h; exact ⟨t, (hb.block b hl).trans h⟩
theorem Box.new (w : World) (cs : Array Value) (t : TypeId) : Box (w.alloc (.cells cs t)) w.heap.size cs := ⟨t, by show (w.heap.push _)[w.heap.size]? = _; simp⟩
theorem Box.alloc {w : World} {b : Nat} {cs : Array Value} (h : Box w b cs) (o : Obj) : Box (w.alloc o) b cs := by
  have hl := h.lt
  obtain ⟨t, h⟩ := h; exact ⟨t, (Below.heap_alloc w o b hl).trans h⟩
theorem Box.at {w : World} {b b' : Nat} {cs : Array Value} (h : Box w b cs) (e : b' = b) : Box w b' cs := by rw [e]; exact h
theorem Box.set {w : World} {b : Nat} {cs : Array Value} (h : Box w b cs) (i : Nat) (v : Value) : Box (w.setCell ⟨b, i, none⟩ v) b (cs.setIfInBounds i v) := by
  obtain ⟨t, h⟩ := h; exact ⟨t, Joins.block_setCell h v⟩
theorem Box.other {w : World} {b : Nat} {cs : Array Value} (h : Box w b cs) {a : Addr} (hn : b ≠ a.block) (v : Value) : Box (w.setCell a v) b cs := by
  obtain ⟨t, h⟩ := h; exact ⟨t, (Below.heap_setCell w a v b hn).trans h⟩
theorem Box.three {w : World} {b : Nat} {v0 v1 v2 : Value} (h : Box w b #[v0, v1, v2]) : w.cell? ⟨b, 0, none⟩ = some v0 ∧ w.cell? ⟨b, 1, none⟩ = some v1 ∧ w.cell? ⟨b, 2, none⟩ = some v2 ∧
    w.frozen? ⟨b, 0, none⟩ = false ∧ w.frozen? ⟨b, 1, none⟩ = false ∧ w.frozen? ⟨b, 2, none⟩ = false ∧ b < w.heap.size :=
  ⟨h.cell 0, h.cell 1, h.cell 2, h.frozen 0, h.frozen 1, h.frozen 2, h.lt⟩
theorem Box.store3 {w : World} {b : Nat} {v0 v1 v2 : Value} (h : Box w b #[v0, v1, v2]) (x0 x1 x2 : Value) : Box (((w.setCell ⟨b, 0, none⟩ x0).setCell ⟨b, 1, none⟩ x1).setCell ⟨b, 2, none⟩ x2) b #[x0, x1, x2] :=
  ((h.set 0 x0).set 1 x1).set 2 x2
theorem below_store3 {B : Nat} {W w : World} {b : Nat} (h : Below B W w) (hb : B ≤ b) (x0 x1 x2 : Value) : Below B W (((w.setCell ⟨b, 0, none⟩ x0).setCell ⟨b, 1, none⟩ x1).setCell ⟨b, 2, none⟩ x2) :=
  ((h.setCell hb x0).setCell hb x1).setCell hb x2

end Go.Proofs.YtjhppbnelfandaaGreatDoor
