/- Texts with places: words for what stands in memory; a place as it is written, and as a text begins with it. -/
import Derived.Test.YtmmllhdphlnpjaaDoorGlB
import Derived.Test.YtmmllhdphlnpjaaDoorGlV
import Derived.Test.YtmmllhdphlnpjaaDoorBPlain
import Derived.Test.YtmmllhdphlnpjaaDoorShelf
import Derived.Lib.Builder
import Derived.Lib.AppendStr
import Derived.Laws.OwnMore
import Derived.Lib.SmallJoins
import Derived.OwnWalk
import Derived.Shelf.Strings.Builder1
namespace Go.Proofs.YtmmllhdphlnpjaaDoor
open Go.RowKit Florin
set_option linter.unusedVariables false
set_option linter.unusedSimpArgs false
abbrev pv (d : Nat) : Value := .int .i64 (d : Int)
theorem list_arr (t : ByteArray) : (⟨t.data.toList.toArray⟩ : ByteArray) = t := by apply ByteArray.ext; simp
theorem own_below {w w' : World} {B : Nat} {e : TypeId} {size : Nat} {v : Value} {n : Nat} {xs : List Value} (h : w.ownsRow B e size v n xs) (hb : Below w.heap.size w w') : w'.ownsRow B e size v n xs := by
  refine ⟨h.1, ?_⟩
  rcases h.2 with hn | ⟨g, cap, cur, rfl, hB, hg, rest⟩
  · exact .inl hn
  · have hlt : g < w.heap.size := by
      rcases Nat.lt_or_ge g w.heap.size with h' | h'
      · exact h'
      · simp [Array.getElem?_eq_none h'] at hg
    exact .inr ⟨g, cap, cur, rfl, hB, (hb.block g hlt).trans hg, rest⟩
theorem own_slice {w : World} {base : Nat} {e : TypeId} {size : Nat} {v : Value} {n : Nat} {xs : List Value} (h : w.ownsRow base e size v n xs) : ∃ a c, v = .slice a n c := by
  rcases h.2 with ⟨rfl, h0⟩ | ⟨g, cap, cur, rfl, _⟩
  · subst h0; exact ⟨_, _, rfl⟩
  · exact ⟨_, _, rfl⟩
/-- A block of a type, with these cells. -/
def BoxT (w : World) (b : Nat) (cs : Array Value) (t : TypeId) : Prop := w.heap[b]? = some (.cells cs t)
theorem BoxT.lt {w : World} {b : Nat} {cs : Array Value} {t : TypeId} (h : BoxT w b cs t) : b < w.heap.size := by
  rcases Nat.lt_or_ge b w.heap.size with h' | h'
  · exact h'
  · have h2 : w.heap[b]? = some (.cells cs t) := h
    simp [Array.getElem?_eq_none h'] at h2
theorem BoxT.cell {w : World} {b : Nat} {cs : Array Value} {t : TypeId} (h : BoxT w b cs t) (i : Nat) : w.cell? ⟨b, i, none⟩ = cs[i]? := Lib.cell_of_heap h i
theorem BoxT.frozen {w : World} {b : Nat} {cs : Array Value} {t : TypeId} (h : BoxT w b cs t) (i : Nat) : w.frozen? ⟨b, i, none⟩ = false := Lib.frozen_of_heap h i
theorem BoxT.set {w : World} {b : Nat} {cs : Array Value} {t : TypeId} (h : BoxT w b cs t) (i : Nat) (v : Value) : BoxT (w.setCell ⟨b, i, none⟩ v) b (cs.setIfInBounds i v) t := Joins.block_setCell h v
theorem BoxT.new (w : World) (cs : Array Value) (t : TypeId) : BoxT (w.alloc (.cells cs t)) w.heap.size cs t := by show (w.heap.push _)[w.heap.size]? = _; simp
theorem BoxT.alloc {w : World} {b : Nat} {cs : Array Value} {t : TypeId} (h : BoxT w b cs t) (o : Obj) : BoxT (w.alloc o) b cs t := (Below.heap_alloc w o b h.lt).trans h
theorem BoxT.below {w w' : World} {b : Nat} {cs : Array Value} {t : TypeId} (h : BoxT w b cs t) (hb : Below w.heap.size w w') : BoxT w' b cs t := (hb.block b h.lt).trans h
theorem BoxT.grown {w w' : World} {b : Nat} {cs : Array Value} {t : TypeId} {r : Option Nat} (h : BoxT w b cs t) (hg : w.grownBy w' r) (hn : some b ≠ r) : BoxT w' b cs t := (hg.block b h.lt hn).trans h
theorem BoxT.other {w : World} {b : Nat} {cs : Array Value} {t : TypeId} (h : BoxT w b cs t) {a : Addr} (hn : b ≠ a.block) (v : Value) : BoxT (w.setCell a v) b cs t := (Below.heap_setCell w a v b hn).trans h
theorem BoxT.drew {w : World} {b : Nat} {cs : Array Value} {t : TypeId} (h : BoxT w b cs t) : BoxT w.drew b cs t := h
/-- A row of one's own stays where another block is written. -/
theorem own_other {w : World} {B : Nat} {e : TypeId} {size : Nat} {v : Value} {n : Nat} {xs : List Value} (h : w.ownsRow B e size v n xs) {b : Nat} {cs : Array Value} {t : TypeId} (hb : BoxT w b cs t) (hne : t ≠ e) (i : Nat) (u : Value) : (w.setCell ⟨b, i, none⟩ u).ownsRow B e size v n xs := by
  refine ⟨h.1, ?_⟩
  rcases h.2 with hn | ⟨g, cap, cur, rfl, hB, hg, rest⟩
  · exact .inl hn
  · refine .inr ⟨g, cap, cur, rfl, hB, ?_, rest⟩
    rw [Below.heap_setCell w ⟨b, i, none⟩ u g ?_]
    · exact hg
    · intro e; subst e
      have h2 : w.heap[g]? = some (.cells cs t) := hb
      rw [hg] at h2
      simp at h2
      exact hne h2.2.symm
/-- Rows of different kinds are different blocks. -/
theorem own_two {w : World} {B B' : Nat} {e e' : TypeId} {size size' : Nat} {v v' : Value} {n n' : Nat} {xs xs' : List Value} (h : w.ownsRow B e size v n xs) (h' : w.ownsRow B' e' size' v' n' xs') (hne : e ≠ e') : v.ownBlock = none ∨ v.ownBlock ≠ v'.ownBlock := by
  rcases h.2 with ⟨rfl, _⟩ | ⟨g, cap, cur, rfl, hB, hg, _⟩
  · exact .inl rfl
  · rcases h'.2 with ⟨rfl, _⟩ | ⟨g', cap', cur', rfl, hB', hg', _⟩
    · exact .inr (by intro e; cases e)
    · refine .inr (fun e => ?_)
      have e2 : g = g' := by simpa [Value.ownBlock] using e
      subst e2
      rw [hg] at hg'
      simp at hg'
      exact hne hg'.2
theorem own_not {w : World} {B : Nat} {e : TypeId} {size : Nat} {v : Value} {n : Nat} {xs : List Value} (h : w.ownsRow B e size v n xs) {b : Nat} (hb : b < B) : some b ≠ v.ownBlock := by
  intro e
  have := (h.lt b e.symm).1
  omega
theorem enc_dg {d : Nat} (h : d < 10) : Utf8.encode (48 + (d : Int)) = ⟨#[dg d]⟩ := by
  match d, h with
  | 0, _ => rfl
  | 1, _ => rfl
  | 2, _ => rfl
  | 3, _ => rfl
  | 4, _ => rfl
  | 5, _ => rfl
  | 6, _ => rfl
  | 7, _ => rfl
  | 8, _ => rfl
  | 9, _ => rfl
theorem sg_arr (d : Nat) : (⟨#[123]⟩ : ByteArray) ++ (⟨#[dg d]⟩ : ByteArray) ++ (⟨#[125]⟩ : ByteArray) = ⟨(sgB d).toArray⟩ := by
  apply ByteArray.ext
  simp [ByteArray.data_append, sgB]
/-- What placeOf tells. -/
def plI : Option Nat → Int
  | some d => d
  | none => -1
theorem hasP (s : ByteArray) (g : List UInt8) (r : Bool) (w : World) (h : g.isPrefixOf s.data.toList = r) :
    Calls Tryd.prog 33 #[.string s, S g] w fun e w' => e = .returned (.bool r) ∧ w = w' :=
  (Tryd.strings_HasPrefix s ⟨g.toArray⟩ w).mono fun e w' ⟨he, hw⟩ => ⟨by rw [he, arr_list, ← h]; rfl, hw.symm⟩
theorem hasB (s : ByteArray) (d : Nat) (r : Bool) (w : World) (h : hitB s.data.toList d = r) :
    Calls Tryd.prog 33 #[.string s, S (sgB d)] w fun e w' => e = .returned (.bool r) ∧ w = w' := hasP s (sgB d) r w h
/-- Numbers of places, a row of one's own. -/
abbrev OwnP (w : World) (B : Nat) (v : Value) (P : List Nat) : Prop := w.ownsRow B 3 1 v P.length (P.map pv)
abbrev OwnT (w : World) (B : Nat) (v : Value) (T : List (List UInt8)) : Prop := w.ownsRow B 9 1 v T.length (T.map S)
theorem contains_nat (P : List Nat) (d : Nat) : ((P.map fun x : Nat => (x : Int)).take P.length).contains (d : Int) = decide (d ∈ P) := by
  rw [List.take_of_length_le (by simp), Bool.eq_iff_iff]
  simp only [List.contains_eq_mem, List.mem_map, decide_eq_true_eq]
  constructor
  · rintro ⟨a, ha, e⟩
    obtain rfl : a = d := by omega
    exact ha
  · exact fun h => ⟨d, h, rfl⟩
end Go.Proofs.YtmmllhdphlnpjaaDoor
