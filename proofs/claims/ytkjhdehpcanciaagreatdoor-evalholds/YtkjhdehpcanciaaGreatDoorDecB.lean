/- What dec.Made and Norm return, at any world. -/
import Derived.Test.YtkjhdehpcanciaaGreatDoorDecA
import Derived.Lib.SmallJoins
namespace Go.Proofs.YtkjhdehpcanciaaGreatDoor
open Go.RowKit Florin

/-- A decimal as a value. -/
abbrev V (d : Tri) : Value := .agg #[.bool d.neg, S d.l, .int .i64 d.e]

theorem trim_bare (s : ByteArray) (w : World) (hs : s.size ≤ maxLen) :
    Calls Tryz.prog 41 #[.string s] w fun e w' => e = .returned (S (bare s.data.toList)) ∧ w = w' := by
  by_cases h : isDig s.data.toList = true
  · exact (trim_yes s w hs h).mono fun e w' ⟨he, hw⟩ => ⟨by rw [he]; unfold bare; rw [if_pos h], hw⟩
  · exact (trim_no s w hs (by simpa using h)).mono fun e w' ⟨he, hw⟩ => ⟨by rw [he]; unfold bare; rw [if_neg h], hw⟩

theorem trim_bare_nil (s : ByteArray) (w : World) (hs : s.size ≤ maxLen) (h : bare s.data.toList = []) :
    Calls Tryz.prog 41 #[.string s] w fun e w' => e = .returned (S []) ∧ w = w' :=
  (trim_bare s w hs).mono fun e w' ⟨he, hw⟩ => ⟨by rw [he, h], hw⟩
/-- A text that is not empty. -/
theorem trim_bare_some (s : ByteArray) (w : World) (hs : s.size ≤ maxLen) (t : ByteArray) (ht : t.data.toList = bare s.data.toList) :
    Calls Tryz.prog 41 #[.string s] w fun e w' => e = .returned (.string t) ∧ w = w' :=
  (trim_bare s w hs).mono fun e w' ⟨he, hw⟩ => ⟨by rw [he]; show Ending.returned (.string ⟨(bare s.data.toList).toArray⟩) = _; rw [← ht, back_data], hw⟩
theorem trimRight_some (s : ByteArray) (w : World) (hs : s.size ≤ maxLen) (t : ByteArray) (ht : t.data.toList = rt s.data.toList) :
    Calls Tryz.prog 70 #[.string s, .string ⟨#[48]⟩] w fun e w' => e = .returned (.string t) ∧ w = w' :=
  (Tryz.strings_TrimRight_one s 48 (by decide) w (by unfold maxLen at hs; omega)).mono fun e w' ⟨he, hw⟩ => ⟨by rw [he, show Lib.trimRightB s.data.toList 48 = rt s.data.toList from rfl, ← ht, back_data], hw.symm⟩
theorem bytes_of (l : List UInt8) : ∃ t : ByteArray, t.data.toList = l := ⟨⟨l.toArray⟩, by simp⟩
theorem isEmpty_of {t : ByteArray} (h : t.data.toList ≠ []) : t.toList.isEmpty = false := by
  rw [Lib.toList_data]; cases h2 : t.data.toList with
  | nil => exact absurd h2 h
  | cons _ _ => rfl

set_option maxRecDepth 100000 in
set_option maxHeartbeats 800000 in
theorem made_nil (neg : Bool) (s : ByteArray) (e : Int) (w : World) (hs : s.size ≤ maxLen) (h : bare s.data.toList = []) :
    Calls Tryz.prog 47 #[.bool neg, .string s, .int .i64 e] w fun x w' => x = .returned (V zero) ∧ Below w.heap.size w w' := by
  have H := Lib.hid h
  clear h
  go_enter Tryz.func47, Tryz.ntmps47
  go_wp2_with fail
  refine (trim_bare_nil _ _ hs H.out).mono ?_
  rintro x w' ⟨rfl, rfl⟩
  go_wp2
  refine bodyPost_ret (v := V zero) (by simp [results, Tryz.results47, go_sem, zero]) rfl ⟨rfl, (Below.refl _ _).alloc (Nat.le_refl _) _⟩

set_option maxRecDepth 100000 in
set_option maxHeartbeats 800000 in
theorem made_some (neg : Bool) (s : ByteArray) (e : Int) (w : World) (hs : s.size ≤ 1000000) (h : bare s.data.toList ≠ []) :
    Calls Tryz.prog 47 #[.bool neg, .string s, .int .i64 e] w fun x w' => x = .returned (V (made neg s.data.toList e)) ∧ Below w.heap.size w w' := by
  obtain ⟨t, ht⟩ := bytes_of (bare s.data.toList)
  obtain ⟨u, hu⟩ := bytes_of (rt t.data.toList)
  have hm : s.size ≤ maxLen := by unfold maxLen; omega
  have ts : t.size ≤ 1000000 := by rw [← size_list, ht]; have := bare_length_le s.data.toList; rw [size_list] at this; omega
  have us : u.size ≤ t.size := by rw [← size_list, ← size_list, hu]; exact rt_length_le _
  have hte : t.toList.isEmpty = false := isEmpty_of (by rw [ht]; exact h)
  have hl := hld_le e
  have hg := le_hld e
  have HM : Hid (made neg s.data.toList e = ⟨neg, u.data.toList, hld (hld e + (t.size : Int) - (u.size : Int))⟩) := Lib.hid (by
    rw [made_pos _ _ h, ← ht, ← hu, size_list, size_list, Int.add_sub_assoc])
  have HT := Lib.hid ht
  have HU := Lib.hid hu
  have tm : t.size ≤ maxLen := by unfold maxLen; omega
  clear ht hu h
  go_enter Tryz.func47, Tryz.ntmps47
  go_wp2_with fail
  refine (trim_bare_some _ _ hm t HT.out).mono ?_
  rintro x w' ⟨rfl, rfl⟩
  go_wp2_with fail
  refine (trimRight_some _ _ tm u HU.out).mono ?_
  rintro x w' ⟨rfl, rfl⟩
  go_wp2_with fail
  refine (held_any _ _).mono ?_
  rintro x w' ⟨rfl, rfl⟩
  go_wp2_with fail
  refine (held_any _ _).mono ?_
  rintro x w' ⟨rfl, rfl⟩
  go_wp2
  refine bodyPost_ret (v := .agg #[.bool neg, .string u, .int .i64 (hld (hld e + (t.size : Int) - (u.size : Int)))]) (by simp [results, Tryz.results47, go_sem]) rfl ⟨?_, (Below.refl _ _).alloc (Nat.le_refl _) _⟩
  rw [HM.out]
theorem made_any (neg : Bool) (s : ByteArray) (e : Int) (w : World) (hs : s.size ≤ 1000000) :
    Calls Tryz.prog 47 #[.bool neg, .string s, .int .i64 e] w fun x w' => x = .returned (V (made neg s.data.toList e)) ∧ Below w.heap.size w w' := by
  by_cases h : bare s.data.toList = []
  · exact (made_nil neg s e w (by unfold maxLen; omega) h).mono fun x w' ⟨hx, hb⟩ => ⟨by rw [hx, made_zero _ _ h], hb⟩
  · exact made_some neg s e w hs h

/-! A struct in memory of the call's own. -/
def Box (w : World) (b : Nat) (cs : Array Value) : Prop := ∃ t, w.heap[b]? = some (.cells cs t)
theorem Box.cell {w : World} {b : Nat} {cs : Array Value} (h : Box w b cs) (i : Nat) : w.cell? ⟨b, i, none⟩ = cs[i]? := by
  obtain ⟨t, h⟩ := h; simp [World.cell?, h]
theorem Box.frozen {w : World} {b : Nat} {cs : Array Value} (h : Box w b cs) (i : Nat) : w.frozen? ⟨b, i, none⟩ = false := by
  obtain ⟨t, h⟩ := h; simp [World.frozen?, h]
theorem Box.lt {w : World} {b : Nat} {cs : Array Value} (h : Box w b cs) : b < w.heap.size := by
  obtain ⟨t, h⟩ := h
  rcases Nat.lt_or_ge b w.heap.size with h' | h'
  · exact h'
  · rw [Array.getElem?_eq_none h'] at h; cases h
theorem Box.below {W w : World} {b B : Nat} {cs : Array Value} (h : Box W b cs) (hb : Below B W w) (hl : b < B) : Box w b cs := by
  obtain ⟨t, h⟩ := h; exact ⟨t, (hb.block b hl).trans h⟩
theorem Box.new (w : World) (cs : Array Value) (t : TypeId) : Box (w.alloc (.cells cs t)) w.heap.size cs := ⟨t, by show (w.heap.push _)[w.heap.size]? = _; simp⟩
theorem Box.alloc {w : World} {b : Nat} {cs : Array Value} (h : Box w b cs) (o : Obj) : Box (w.alloc o) b cs := by
  have hl := h.lt
  obtain ⟨t, h⟩ := h; exact ⟨t, (Below.heap_alloc w o b hl).trans h⟩
theorem Box.at {w : World} {b b' : Nat} {cs : Array Value} (h : Box w b cs) (e : b' = b) : Box w b' cs := by rw [e]; exact h
theorem Box.set {w : World} {b : Nat} {cs : Array Value} (h : Box w b cs) (i : Nat) (v : Value) : Box (w.setCell ⟨b, i, none⟩ v) b (cs.setIfInBounds i v) := by
  obtain ⟨t, h⟩ := h; exact ⟨t, Joins.block_setCell h v⟩
theorem Box.other {w : World} {b : Nat} {cs : Array Value} (h : Box w b cs) {a : Addr} (hn : b ≠ a.block) (v : Value) : Box (w.setCell a v) b cs := by
  obtain ⟨t, h⟩ := h; exact ⟨t, (Below.heap_setCell w a v b hn).trans h⟩
theorem Box.three {w : World} {b : Nat} {v0 v1 v2 : Value} (h : Box w b #[v0, v1, v2]) : w.cell? ⟨b, 0, none⟩ = some v0 ∧ w.cell? ⟨b, 1, none⟩ = some v1 ∧ w.cell? ⟨b, 2, none⟩ = some v2 ∧
    w.frozen? ⟨b, 0, none⟩ = false ∧ w.frozen? ⟨b, 1, none⟩ = false ∧ w.frozen? ⟨b, 2, none⟩ = false ∧ b < w.heap.size :=
  ⟨h.cell 0, h.cell 1, h.cell 2, h.frozen 0, h.frozen 1, h.frozen 2, h.lt⟩
theorem Box.store3 {w : World} {b : Nat} {v0 v1 v2 : Value} (h : Box w b #[v0, v1, v2]) (x0 x1 x2 : Value) : Box (((w.setCell ⟨b, 0, none⟩ x0).setCell ⟨b, 1, none⟩ x1).setCell ⟨b, 2, none⟩ x2) b #[x0, x1, x2] :=
  ((h.set 0 x0).set 1 x1).set 2 x2
theorem below_store3 {B : Nat} {W w : World} {b : Nat} (h : Below B W w) (hb : B ≤ b) (x0 x1 x2 : Value) : Below B W (((w.setCell ⟨b, 0, none⟩ x0).setCell ⟨b, 1, none⟩ x1).setCell ⟨b, 2, none⟩ x2) :=
  ((h.setCell hb x0).setCell hb x1).setCell hb x2

theorem made_as (neg : Bool) (s : ByteArray) (e : Int) (w : World) (hs : s.size ≤ 1000000) (d : Tri) (hd : made neg s.data.toList e = d) :
    Calls Tryz.prog 47 #[.bool neg, .string s, .int .i64 e] w fun x w' => x = .returned (V d) ∧ Below w.heap.size w w' := by
  subst hd; exact made_any neg s e w hs

set_option maxRecDepth 100000 in
set_option maxHeartbeats 800000 in
theorem norm_as (neg : Bool) (s : ByteArray) (e : Int) (w : World) (hs : s.size ≤ 1000000) (d : Tri) (hd : made neg s.data.toList e = d) :
    Calls Tryz.prog 69 #[.agg #[.bool neg, .string s, .int .i64 e]] w fun x w' => x = .returned (V d) ∧ Below w.heap.size w w' := by
  have HD := Lib.hid hd
  clear hd
  go_enter Tryz.func69, Tryz.ntmps69
  go_wp2_with fail
  with_reducible refine (made_as neg s e _ hs d HD.out).mono ?_
  rintro x w1 ⟨rfl, hb⟩
  have B1 := Lib.hid (((Box.new (w.alloc (.cells #[.bool neg, .string s, .int .i64 e] 90)) #[.bool false, .string ⟨#[]⟩, .int .i64 0] 90).at (b' := w.heap.size + 1) (by simp)).below hb (by simp))
  have HB := Lib.hid (Below.trans (((Below.refl _ w).alloc (Nat.le_refl _) _).alloc (by simp) _) (hb.mono (B' := w.heap.size) (by simp; omega)))
  obtain ⟨q0, q1, q2, f0, f1, f2, lt⟩ := B1.out.three
  clear hb
  go_wp2
  refine bodyPost_ret (v := V d) (by simp [results, Tryz.results69, go_sem, q0, q1, q2]) rfl ⟨rfl, below_store3 HB.out (Nat.le_succ _) _ _ _⟩
end Go.Proofs.YtkjhdehpcanciaaGreatDoor
