/- The reader of classes in memory; what a call leaves of other memory; what is left of a text. -/
import Derived.Test.YtbfhkcljkblnmaaDoorClC
import Derived.Test.YtbfhkcljkblnmaaDoorCText
import Derived.Test.YtbfhkcljkblnmaaDoorShelf
import Derived.Deep.LoopGhost
import Derived.Deep.Cut
import Derived.Deep.RegionWith
import Derived.OwnWalk
import Derived.Lib.Builder
import Derived.Lib.SmallJoins
namespace Go.Proofs.YtbfhkcljkblnmaaDoor
open Go.RowKit Florin
set_option linter.unusedVariables false
set_option linter.unusedSimpArgs false
abbrev S (l : List UInt8) : Value := .string ⟨l.toArray⟩
abbrev bv (c : UInt8) : Value := .int .u8 (c.toNat : Int)
theorem size_list (t : ByteArray) : t.data.toList.length = t.size := by simp
theorem arr_list (l : List UInt8) : (⟨l.toArray⟩ : ByteArray).data.toList = l := by simp
theorem arr_size (l : List UInt8) : (⟨l.toArray⟩ : ByteArray).size = l.length := by rw [← size_list, arr_list]
theorem arr_append (x y : List UInt8) : ((⟨x.toArray⟩ : ByteArray) ++ (⟨y.toArray⟩ : ByteArray)) = ⟨(x ++ y).toArray⟩ := by
  apply ByteArray.ext
  simp [ByteArray.data_append]
theorem list_arr (t : ByteArray) : (⟨t.data.toList.toArray⟩ : ByteArray) = t := by apply ByteArray.ext; simp
theorem ret_S {a b : List UInt8} (h : a = b) : Ending.returned (S a) = .returned (S b) := by rw [h]
theorem ext_list (t : ByteArray) (k : Nat) : (t.extract k t.size).data.toList = t.data.toList.drop k := by
  rw [ByteArray.data_extract]
  simp
  exact List.take_of_length_le (by simp)
theorem ext_size (t : ByteArray) (k : Nat) : (t.extract k t.size).size = t.size - k := by
  rw [← size_list, ext_list, List.length_drop, size_list]
theorem grown_trans {a b c : World} {r : Option Nat} (h : a.grownBy b r) (k : b.grownBy c r) : a.grownBy c r :=
  ⟨k.os.trans h.os, k.tape.trans h.tape, k.output.trans h.output, Nat.le_trans h.size k.size, fun i hi hn => (k.block i (Nat.lt_of_lt_of_le hi h.size) hn).trans (h.block i hi hn)⟩
theorem grown_of_below {a b : World} (h : Below a.heap.size a b) (r : Option Nat) : a.grownBy b r :=
  ⟨h.os, h.tape, h.output, h.size, fun i hi _ => h.block i hi⟩
theorem grown_drew {a b : World} {r : Option Nat} (h : a.grownBy b r) : a.grownBy b.drew r := ⟨h.os, h.tape, h.output, h.size, h.block⟩
theorem grown_alloc {a b : World} {r : Option Nat} (h : a.grownBy b r) (o : Obj) : a.grownBy (b.alloc o) r := grown_trans h (World.grownBy_alloc b o r)
theorem grown_set {a b : World} {r : Nat} (h : a.grownBy b (some r)) (i : Nat) (v : Value) : a.grownBy (b.setCell ⟨r, i, none⟩ v) (some r) :=
  grown_trans h ⟨rfl, rfl, rfl, by simp [World.setCell], fun k _ hk => Below.heap_setCell _ _ _ _ (fun e => hk (by rw [e]))⟩
/-- A block of a type, with these cells. -/
def BoxT (w : World) (b : Nat) (cs : Array Value) (t : TypeId) : Prop := w.heap[b]? = some (.cells cs t)
theorem BoxT.lt {w : World} {b : Nat} {cs : Array Value} {t : TypeId} (h : BoxT w b cs t) : b < w.heap.size := by
  rcases Nat.lt_or_ge b w.heap.size with h' | h'
  · exact h'
  · have h2 : w.heap[b]? = some (.cells cs t) := h
    simp [Array.getElem?_eq_none h'] at h2
theorem BoxT.cell {w : World} {b : Nat} {cs : Array Value} {t : TypeId} (h : BoxT w b cs t) (i : Nat) : w.cell? ⟨b, i, none⟩ = cs[i]? := Lib.cell_of_heap h i
theorem BoxT.frozen {w : World} {b : Nat} {cs : Array Value} {t : TypeId} (h : BoxT w b cs t) (i : Nat) : w.frozen? ⟨b, i, none⟩ = false := Lib.frozen_of_heap h i
theorem BoxT.set {w : World} {b : Nat} {cs : Array Value} {t : TypeId} (h : BoxT w b cs t) (i : Nat) (v : Value) : BoxT (w.setCell ⟨b, i, none⟩ v) b (cs.setIfInBounds i v) t := Joins.block_setCell h v
theorem BoxT.new (w : World) (cs : Array Value) (t : TypeId) : BoxT (w.alloc (.cells cs t)) w.heap.size cs t := by show (w.heap.push _)[w.heap.size]? = _; simp
theorem BoxT.alloc {w : World} {b : Nat} {cs : Array Value} {t : TypeId} (h : BoxT w b cs t) (o : Obj) : BoxT (w.alloc o) b cs t := (Below.heap_alloc w o b h.lt).trans h
theorem BoxT.below {w w' : World} {b : Nat} {cs : Array Value} {t : TypeId} (h : BoxT w b cs t) (hb : Below w.heap.size w w') : BoxT w' b cs t := (hb.block b h.lt).trans h
/-- The reader's block: the text, and how far it is read. -/
def Rd (w : World) (b : Nat) (T : ByteArray) (p : Nat) : Prop := BoxT w b #[.string T, .int .i64 (p : Int), .bool false] 75
theorem Rd.c0 {w : World} {b : Nat} {T : ByteArray} {p : Nat} (h : Rd w b T p) : w.cell? ⟨b, 0, none⟩ = some (.string T) := BoxT.cell h 0
theorem Rd.c1 {w : World} {b : Nat} {T : ByteArray} {p : Nat} (h : Rd w b T p) : w.cell? ⟨b, 1, none⟩ = some (.int .i64 (p : Int)) := BoxT.cell h 1
theorem Rd.c2 {w : World} {b : Nat} {T : ByteArray} {p : Nat} (h : Rd w b T p) : w.cell? ⟨b, 2, none⟩ = some (.bool false) := BoxT.cell h 2
theorem Rd.z {w : World} {b : Nat} {T : ByteArray} {p : Nat} (h : Rd w b T p) (i : Nat) : w.frozen? ⟨b, i, none⟩ = false := BoxT.frozen h i
theorem Rd.lt {w : World} {b : Nat} {T : ByteArray} {p : Nat} (h : Rd w b T p) : b < w.heap.size := BoxT.lt h
theorem Rd.drew {w : World} {b : Nat} {T : ByteArray} {p : Nat} (h : Rd w b T p) : Rd w.drew b T p := h
theorem Rd.to {w : World} {b : Nat} {T : ByteArray} {p : Nat} (h : Rd w b T p) (q : Nat) : Rd (w.setCell ⟨b, 1, none⟩ (.int .i64 (q : Int))) b T q := BoxT.set h 1 _
theorem Rd.below {w' : World} {w : World} {b : Nat} {T : ByteArray} {p : Nat} (h : Rd w b T p) (hb : Below w.heap.size w w') : Rd w' b T p := BoxT.below h hb
theorem Rd.alloc {w : World} {b : Nat} {T : ByteArray} {p : Nat} (h : Rd w b T p) (o : Obj) : Rd (w.alloc o) b T p := BoxT.alloc h o
/-- At a place of the text this is left. -/
structure At (T : ByteArray) (p : Nat) (l : List UInt8) : Prop where
  le : p ≤ T.size
  eq : T.data.toList.drop p = l
theorem At.len {T : ByteArray} {p : Nat} {l : List UInt8} (h : At T p l) : l.length = T.size - p := by rw [← h.eq, List.length_drop, size_list]
theorem At.nil {T : ByteArray} {p : Nat} {l : List UInt8} (h : At T p l) (hl : ¬ p < T.size) : l = [] := by
  rw [← h.eq, List.drop_eq_nil_iff, size_list]; omega
theorem At.cons {T : ByteArray} {p : Nat} {l : List UInt8} (h : At T p l) (hl : p < T.size) : ∃ t, l = T[p] :: t ∧ At T (p + 1) t := by
  have hq : p < T.data.toList.length := by rw [size_list]; exact hl
  refine ⟨T.data.toList.drop (p + 1), ?_, ⟨by omega, rfl⟩⟩
  rw [← h.eq, List.drop_eq_getElem_cons hq]
  rfl
theorem At.drop {T : ByteArray} {p : Nat} {l : List UInt8} (h : At T p l) (k : Nat) (hk : k ≤ l.length) : At T (p + k) (l.drop k) :=
  ⟨by have := h.len; have := h.le; omega, by rw [← h.eq, List.drop_drop]⟩
theorem At.rest {T : ByteArray} {p : Nat} {l : List UInt8} (h : At T p l) : T.extract p T.size = ⟨l.toArray⟩ := by
  apply ByteArray.ext
  apply Array.toList_inj.1
  rw [ext_list, h.eq, arr_list]
theorem bl_blank (t : List UInt8) : bl (32 :: t) = bl t := rfl
set_option maxRecDepth 100000 in
set_option maxHeartbeats 1600000 in
theorem skip_as (b : Nat) (T : ByteArray) (p : Nat) (l : List UInt8) (w : World) (h : Rd w b T p) (ha : At T p l) (hT : T.size ≤ 1000000) :
    Calls Tryd.prog 55 #[.pointer (some ⟨b, 0, none⟩)] w fun e w' => ∃ q, e = .returned (.tuple #[]) ∧ At T q (bl l) ∧ Rd w' b T q ∧ w.grownBy w' (some b) := by
  have HR := Lib.hid h
  have HA := Lib.hid ha
  clear h ha
  go_enter Tryd.func55, Tryd.ntmps55
  go_wp2_with fail
  go_loopg [] (T.size - p) (fun k wr => ∃ q m, q ≤ T.size ∧ k = T.size - q ∧ At T q m ∧ bl m = bl l ∧ Rd wr b T q ∧ w.grownBy wr (some b))
  case atStart => exact ⟨p, l, HA.out.le, rfl, HA.out, rfl, HR.out, World.grownBy.refl w _⟩
  case round =>
    obtain ⟨q, m, hq, hk, hm, hs, hr, hg⟩ := hrel
    have HM := Lib.hid hm
    have HS := Lib.hid hs
    have HR2 := Lib.hid hr
    have HG := Lib.hid hg
    have c0 := hr.c0
    have c1 := hr.c1
    have c2 := hr.c2
    have z1 := hr.z 1
    have bl := hr.lt
    have HK := Lib.hid hk
    clear hm hs hr hg HA HR hk
    by_cases hlt : q < T.size
    · have hlti : (q : Int) < (T.size : Int) := by omega
      by_cases h32 : T[q] = 32
      · have b32 : (T[q].toNat : Int) = 32 := by rw [h32]; rfl
        have H32 := Lib.hid h32
        clear h32
        go_wp2_with fail
        go_region
        all_goals (try go_wp2)
        all_goals (go_roundg (T.size - (q + 1)))
        case measure => rw [HK.out]; omega
        case rel =>
          obtain ⟨t, ht, hat⟩ := HM.out.cons hlt
          exact ⟨q + 1, t, by omega, rfl, hat, by rw [← HS.out, ht, H32.out, bl_blank], (HR2.out.drew).to (q + 1), grown_set (grown_drew HG.out) 1 _⟩
      · have b32 : ¬ (T[q].toNat : Int) = 32 := fun h => h32 (UInt8.toNat_inj.1 (by show _ = 32; omega))
        have H32 := Lib.hid h32
        clear h32
        go_wp2_with fail
        go_region
        all_goals (try go_wp2)
        all_goals go_end0
        obtain ⟨t, ht, hat⟩ := HM.out.cons hlt
        exact ⟨q, rfl, by rw [← HS.out, ht, bl_no H32.out, ← ht]; exact HM.out, HR2.out.drew, grown_drew HG.out⟩
    · have hlti : ¬ (q : Int) < (T.size : Int) := by omega
      go_wp2_with fail
      go_region
      all_goals (try go_wp2)
      all_goals go_end0
      exact ⟨q, rfl, by rw [← HS.out, HM.out.nil hlt]; have := HM.out; rw [this.nil hlt] at this; exact this, HR2.out.drew, grown_drew HG.out⟩
end Go.Proofs.YtbfhkcljkblnmaaDoor
