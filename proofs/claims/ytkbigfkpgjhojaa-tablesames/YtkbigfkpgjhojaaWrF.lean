/- The reader of numbers and texts in memory: what its methods return. -/
import Derived.Test.YtkbigfkpgjhojaaWrD
namespace Go.Proofs.Ytkbigfkpgjhojaa
open Go.RowKit Florin
set_option linter.unusedVariables false
set_option linter.unusedSimpArgs false
attribute [local go_sem ↓] Go.wp_at_zero Go.wp_at_succ
/-- A reader's block: what is left, and whether there was an error. -/
def Rdr (w : World) (b : Nat) (st : RS) : Prop := BoxT w b #[S st.1, .bool st.2] TRd
theorem Rdr.lt {w : World} {b : Nat} {st : RS} (h : Rdr w b st) : b < w.heap.size := BoxT.lt h
theorem Rdr.drew {w : World} {b : Nat} {st : RS} (h : Rdr w b st) : Rdr w.drew b st := h
theorem Rdr.below {w w' : World} {b : Nat} {st : RS} (h : Rdr w b st) (hb : Below w.heap.size w w') : Rdr w' b st := BoxT.below h hb
theorem Rdr.c0 {w : World} {b : Nat} {l : List UInt8} {f : Bool} (h : Rdr w b (l, f)) : w.cell? ⟨b, 0, none⟩ = some (S l) := BoxT.cell h 0
theorem Rdr.c1 {w : World} {b : Nat} {l : List UInt8} {f : Bool} (h : Rdr w b (l, f)) : w.cell? ⟨b, 1, none⟩ = some (.bool f) := BoxT.cell h 1
theorem Rdr.z {w : World} {b : Nat} {st : RS} (h : Rdr w b st) (i : Nat) : w.frozen? ⟨b, i, none⟩ = false := BoxT.frozen h i
set_option maxRecDepth 100000 in
set_option maxHeartbeats 800000 in
theorem new_as (l : List UInt8) (w : World) :
    Calls Try.prog 25 #[S l] w fun e w' => e = .returned (ptr w.heap.size) ∧ Rdr w' w.heap.size (l, false) ∧ Below w.heap.size w w' := by
  go_enter Try.func25, Try.ntmps25
  go_wp2
  go_ret
  exact ⟨rfl, BoxT.new w _ _, (Below.refl _ _).alloc (Nat.le_refl _) _⟩
set_option maxRecDepth 100000 in
set_option maxHeartbeats 800000 in
theorem ok_as (b : Nat) (l : List UInt8) (f : Bool) (w : World) (h : Rdr w b (l, f)) :
    Calls Try.prog 48 #[ptr b] w fun e w' => e = .returned (.bool (!f)) ∧ w = w' := by
  have c1 := h.c1
  go_enter Try.func48, Try.ntmps48
  go_wp2
  go_ret
  exact ⟨rfl, rfl⟩
set_option maxRecDepth 100000 in
set_option maxHeartbeats 800000 in
theorem done_as (b : Nat) (l : List UInt8) (f : Bool) (w : World) (h : Rdr w b (l, f)) :
    Calls Try.prog 27 #[ptr b] w fun e w' => e = .returned (.bool (!f && l.isEmpty)) ∧ w = w' := by
  have c0 := h.c0
  cases f with
  | true =>
    go_enter Try.func27, Try.ntmps27
    go_wp2_with fail
    with_reducible refine (ok_as b l _ _ h).mono ?_
    rintro e w1 ⟨rfl, rfl⟩
    go_wp2
    go_ret
    exact ⟨rfl, rfl⟩
  | false =>
    go_enter Try.func27, Try.ntmps27
    go_wp2_with fail
    with_reducible refine (ok_as b l _ _ h).mono ?_
    rintro e w1 ⟨rfl, rfl⟩
    go_wp2
    go_ret
    exact ⟨by simp, rfl⟩
set_option maxRecDepth 100000 in
set_option maxHeartbeats 800000 in
theorem fail_as (b : Nat) (st : RS) (w : World) (h : Rdr w b st) :
    Calls Try.prog 54 #[ptr b] w fun e w' => e = .returned (.tuple #[]) ∧ Rdr w' b badR ∧ w.grownBy w' (some b) := by
  obtain ⟨l, f⟩ := st
  have c0 := h.c0
  have c1 := h.c1
  have z0 := h.z 0
  have z1 := h.z 1
  have hlt := h.lt
  have H := Lib.hid h
  clear h
  go_enter Try.func54, Try.ntmps54
  go_wp2
  go_end0
  refine ⟨rfl, ?_, grown_set (grown_set (World.grownBy.refl w _) 0 _) 1 _⟩
  exact (BoxT.set0 H.out _).set1 _
end Go.Proofs.Ytkbigfkpgjhojaa
