/- The reader of patterns: its block, what is left, its steps. -/
import Derived.Test.YtmmllhdphlnpjaaDoorBrC
import Derived.Deep.LoopGhost
import Derived.Deep.Cut
import Derived.Deep.RegionWith
namespace Go.Proofs.YtmmllhdphlnpjaaDoor
open Go.RowKit Florin
set_option linter.unusedVariables false
set_option linter.unusedSimpArgs false
attribute [local go_sem ↓] Go.wp_at_zero Go.wp_at_succ
theorem grown_trans {a b c : World} {r : Option Nat} (h : a.grownBy b r) (k : b.grownBy c r) : a.grownBy c r :=
  ⟨k.os.trans h.os, k.tape.trans h.tape, k.output.trans h.output, Nat.le_trans h.size k.size, fun i hi hn => (k.block i (Nat.lt_of_lt_of_le hi h.size) hn).trans (h.block i hi hn)⟩
theorem grown_of_below {a b : World} (h : Below a.heap.size a b) (r : Option Nat) : a.grownBy b r :=
  ⟨h.os, h.tape, h.output, h.size, fun i hi _ => h.block i hi⟩
theorem grown_drew {a b : World} {r : Option Nat} (h : a.grownBy b r) : a.grownBy b.drew r := ⟨h.os, h.tape, h.output, h.size, h.block⟩
theorem grown_alloc {a b : World} {r : Option Nat} (h : a.grownBy b r) (o : Obj) : a.grownBy (b.alloc o) r := grown_trans h (World.grownBy_alloc b o r)
theorem grown_set {a b : World} {r : Nat} (h : a.grownBy b (some r)) (i : Nat) (v : Value) : a.grownBy (b.setCell ⟨r, i, none⟩ v) (some r) :=
  grown_trans h ⟨rfl, rfl, rfl, by simp [World.setCell], fun k _ hk => Below.heap_setCell _ _ _ _ (fun e => hk (by rw [e]))⟩
/-- The reader's block: the text, and how far it is read. -/
def Rd (w : World) (b : Nat) (T : ByteArray) (p : Nat) : Prop := BoxT w b #[.string T, .int .i64 (p : Int), .bool true] 50
theorem Rd.c0 {w : World} {b : Nat} {T : ByteArray} {p : Nat} (h : Rd w b T p) : w.cell? ⟨b, 0, none⟩ = some (.string T) := BoxT.cell h 0
theorem Rd.c1 {w : World} {b : Nat} {T : ByteArray} {p : Nat} (h : Rd w b T p) : w.cell? ⟨b, 1, none⟩ = some (.int .i64 (p : Int)) := BoxT.cell h 1
theorem Rd.c2 {w : World} {b : Nat} {T : ByteArray} {p : Nat} (h : Rd w b T p) : w.cell? ⟨b, 2, none⟩ = some (.bool true) := BoxT.cell h 2
theorem Rd.z {w : World} {b : Nat} {T : ByteArray} {p : Nat} (h : Rd w b T p) (i : Nat) : w.frozen? ⟨b, i, none⟩ = false := BoxT.frozen h i
theorem Rd.lt {w : World} {b : Nat} {T : ByteArray} {p : Nat} (h : Rd w b T p) : b < w.heap.size := BoxT.lt h
theorem Rd.drew {w : World} {b : Nat} {T : ByteArray} {p : Nat} (h : Rd w b T p) : Rd w.drew b T p := h
theorem Rd.to {w : World} {b : Nat} {T : ByteArray} {p : Nat} (h : Rd w b T p) (q : Nat) : Rd (w.setCell ⟨b, 1, none⟩ (.int .i64 (q : Int))) b T q := BoxT.set h 1 _
theorem Rd.below {w' : World} {w : World} {b : Nat} {T : ByteArray} {p : Nat} (h : Rd w b T p) (hb : Below w.heap.size w w') : Rd w' b T p := BoxT.below h hb
theorem Rd.alloc {w : World} {b : Nat} {T : ByteArray} {p : Nat} (h : Rd w b T p) (o : Obj) : Rd (w.alloc o) b T p := BoxT.alloc h o
/-- At a place of the text this is left. -/
structure At (T : ByteArray) (p : Nat) (l : List UInt8) : Prop where
  le : p ≤ T.size
  eq : T.data.toList.drop p = l
theorem At.len {T : ByteArray} {p : Nat} {l : List UInt8} (h : At T p l) : l.length = T.size - p := by rw [← h.eq, List.length_drop, size_list]
theorem At.nil {T : ByteArray} {p : Nat} {l : List UInt8} (h : At T p l) (hl : ¬ p < T.size) : l = [] := by
  rw [← h.eq, List.drop_eq_nil_iff, size_list]; omega
theorem At.cons {T : ByteArray} {p : Nat} {l : List UInt8} (h : At T p l) (hl : p < T.size) : ∃ t, l = T[p] :: t ∧ At T (p + 1) t := by
  have hq : p < T.data.toList.length := by rw [size_list]; exact hl
  refine ⟨T.data.toList.drop (p + 1), ?_, ⟨by omega, rfl⟩⟩
  rw [← h.eq, List.drop_eq_getElem_cons hq]
  rfl
theorem At.drop {T : ByteArray} {p : Nat} {l : List UInt8} (h : At T p l) (k : Nat) (hk : k ≤ l.length) : At T (p + k) (l.drop k) :=
  ⟨by have := h.len; have := h.le; omega, by rw [← h.eq, List.drop_drop]⟩
theorem At.rest {T : ByteArray} {p : Nat} {l : List UInt8} (h : At T p l) : T.extract p T.size = ⟨l.toArray⟩ := by
  apply ByteArray.ext
  apply Array.toList_inj.1
  rw [ext_list, h.eq, arr_list]
theorem pre_len {g l : List UInt8} (h : g.isPrefixOf l = true) : g.length ≤ l.length := by
  obtain ⟨t, rfl⟩ := List.isPrefixOf_iff_prefix.1 h
  simp
set_option maxRecDepth 100000 in
set_option maxHeartbeats 1600000 in
theorem skip_as (b : Nat) (T : ByteArray) (p : Nat) (w : World) (h : Rd w b T p) :
    Calls Tryd.prog 32 #[.pointer (some ⟨b, 0, none⟩)] w fun e w' => e = .returned (.tuple #[]) ∧ Rd w' b T p ∧ w.grownBy w' (some b) := by
  have c0 := h.c0
  have c1 := h.c1
  have c2 := h.c2
  have bl := h.lt
  have HR := Lib.hid h
  clear h
  go_enter Tryd.func32, Tryd.ntmps32
  go_wp2_with fail
  refine wp_loop_rounds 1 ?_
  rw [rounds_succ]
  go_wp2_with fail
  go_region
  all_goals (try go_wp2)
  all_goals go_end0
  exact ⟨rfl, HR.out.drew, grown_drew (World.grownBy.refl _ _)⟩
set_option maxRecDepth 100000 in
set_option maxHeartbeats 1600000 in
theorem ended_as (b : Nat) (T : ByteArray) (p : Nat) (l : List UInt8) (w : World) (h : Rd w b T p) (ha : At T p l) (z : Bool) (hz : l.isEmpty = z) :
    Calls Tryd.prog 23 #[.pointer (some ⟨b, 0, none⟩)] w fun e w' => e = .returned (.bool z) ∧ Rd w' b T p ∧ w.grownBy w' (some b) := by
  have HR := Lib.hid h
  have HE : Hid (z = ((p : Int) == (T.size : Int))) := Lib.hid (by
    have h1 := ha.len
    have h2 := ha.le
    rw [← hz]
    cases l with
    | nil => simp at h1; simp; omega
    | cons c t => simp at h1; simp; omega)
  clear h ha hz
  go_enter Tryd.func23, Tryd.ntmps23
  go_wp2_with fail
  with_reducible refine (skip_as b T p _ HR.out).mono ?_
  rintro x w1 ⟨rfl, hr, hg⟩
  have HR2 := Lib.hid hr
  have HG := Lib.hid hg
  have c0 := hr.c0
  have c1 := hr.c1
  have bl := hr.lt
  clear hr hg
  go_wp2_with fail
  go_region
  all_goals (try go_wp2)
  all_goals go_ret
  exact ⟨by rw [HE.out]; rfl, HR2.out.drew, grown_drew HG.out⟩
set_option maxRecDepth 100000 in
set_option maxHeartbeats 1600000 in
theorem rest_as (b : Nat) (T : ByteArray) (p : Nat) (l : List UInt8) (w : World) (h : Rd w b T p) (ha : At T p l) (hT : T.size ≤ 1000000) :
    Calls Tryd.prog 34 #[.pointer (some ⟨b, 0, none⟩)] w fun e w' => e = .returned (.tuple #[S l, .int .i64 (p : Int)]) ∧ Rd w' b T p ∧ w.grownBy w' (some b) := by
  have HR := Lib.hid h
  have hq := ha.le
  have hqi : (p : Int) ≤ (T.size : Int) := by omega
  have HX := Lib.hid ha.rest
  clear h ha
  go_enter Tryd.func34, Tryd.ntmps34
  go_wp2_with fail
  with_reducible refine (skip_as b T p _ HR.out).mono ?_
  rintro x w1 ⟨rfl, hr, hg⟩
  have HR2 := Lib.hid hr
  have HG := Lib.hid hg
  have c0 := hr.c0
  have c1 := hr.c1
  have bl := hr.lt
  clear hr hg
  go_wp2_with fail
  go_region
  all_goals (try go_wp2)
  all_goals go_ret2
  exact ⟨by rw [HX.out]; rfl, HR2.out.drew, grown_drew HG.out⟩
set_option maxRecDepth 100000 in
set_option maxHeartbeats 1600000 in
theorem takes_true (g : List UInt8) (b : Nat) (T : ByteArray) (p : Nat) (l : List UInt8) (w : World) (h : Rd w b T p) (ha : At T p l) (hT : T.size ≤ 1000000) (hr : g.isPrefixOf l = true) :
    Calls Tryd.prog 22 #[.pointer (some ⟨b, 0, none⟩), S g] w fun e w' => e = .returned (.bool true) ∧ Rd w' b T (p + g.length) ∧ w.grownBy w' (some b) := by
  have HR := Lib.hid h
  have hq := ha.le
  have hqi : (p : Int) ≤ (T.size : Int) := by omega
  have HP : Hid (g.isPrefixOf (T.extract p T.size).data.toList = true) := Lib.hid (by rw [ha.rest, arr_list]; exact hr)
  have gl : g.length ≤ T.size - p := by have h1 := pre_len hr; have h2 := ha.len; omega
  clear h ha hr
  go_enter Tryd.func22, Tryd.ntmps22
  go_wp2_with fail
  with_reducible refine (skip_as b T p _ HR.out).mono ?_
  rintro x w1 ⟨rfl, hr, hg⟩
  have HR2 := Lib.hid hr
  have HG := Lib.hid hg
  have c0 := hr.c0
  have c1 := hr.c1
  have z1 := hr.z 1
  have bl := hr.lt
  clear hr hg HR
  go_wp2_with fail
  go_region_with (go_at_call 33; (with_reducible refine (hasP (T.extract p T.size) g true _ HP.out).mono ?_); rintro x wz ⟨rfl, rfl⟩)
  all_goals go_wp2
  all_goals go_ret
  all_goals exact ⟨rfl, (HR2.out.drew).to (p + g.length), grown_set (grown_drew HG.out) 1 _⟩
set_option maxRecDepth 100000 in
set_option maxHeartbeats 1600000 in
theorem takes_false (g : List UInt8) (b : Nat) (T : ByteArray) (p : Nat) (l : List UInt8) (w : World) (h : Rd w b T p) (ha : At T p l) (hT : T.size ≤ 1000000) (hr : g.isPrefixOf l = false) :
    Calls Tryd.prog 22 #[.pointer (some ⟨b, 0, none⟩), S g] w fun e w' => e = .returned (.bool false) ∧ Rd w' b T p ∧ w.grownBy w' (some b) := by
  have HR := Lib.hid h
  have hq := ha.le
  have hqi : (p : Int) ≤ (T.size : Int) := by omega
  have HP : Hid (g.isPrefixOf (T.extract p T.size).data.toList = false) := Lib.hid (by rw [ha.rest, arr_list]; exact hr)
  clear h ha hr
  go_enter Tryd.func22, Tryd.ntmps22
  go_wp2_with fail
  with_reducible refine (skip_as b T p _ HR.out).mono ?_
  rintro x w1 ⟨rfl, hr, hg⟩
  have HR2 := Lib.hid hr
  have HG := Lib.hid hg
  have c0 := hr.c0
  have c1 := hr.c1
  have z1 := hr.z 1
  have bl := hr.lt
  clear hr hg HR
  go_wp2_with fail
  go_region_with (go_at_call 33; (with_reducible refine (hasP (T.extract p T.size) g false _ HP.out).mono ?_); rintro x wz ⟨rfl, rfl⟩)
  all_goals go_wp2
  all_goals go_ret
  all_goals exact ⟨rfl, HR2.out.drew, grown_drew HG.out⟩
end Go.Proofs.YtmmllhdphlnpjaaDoor
