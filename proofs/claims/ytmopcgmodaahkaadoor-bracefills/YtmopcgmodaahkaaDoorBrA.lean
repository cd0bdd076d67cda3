/- Texts with places: words for what stands in memory; a place as it is written, and as a text begins with it. -/
import Derived.Test.YtmopcgmodaahkaaDoorGlB
import Derived.Test.YtmopcgmodaahkaaDoorGlV
import Derived.Test.YtmopcgmodaahkaaDoorBPlain
import Derived.Test.YtmopcgmodaahkaaDoorShelf
import Derived.Lib.Builder
import Derived.Lib.AppendStr
import Derived.Laws.OwnMore
import Derived.Lib.SmallJoins
import Derived.OwnWalk
import Derived.Shelf.Strings.Builder1
namespace Go.Proofs.YtmopcgmodaahkaaDoor
open Go.RowKit Florin
set_option linter.unusedVariables false
set_option linter.unusedSimpArgs false
abbrev pv (d : Nat) : Value := .int .i64 (d : Int)
theorem list_arr (t : ByteArray) : (⟨t.data.toList.toArray⟩ : ByteArray) = t := by apply ByteArray.ext; simp
theorem own_below {w w' : World} {B : Nat} {e : TypeId} {size : Nat} {v : Value} {n : Nat} {xs : List Value} (h : w.ownsRow B e size v n xs) (hb : Below w.heap.size w w') : w'.ownsRow B e size v n xs := by
  refine ⟨h.1, ?_⟩
  rcases h.2 with hn | ⟨g, cap, cur, rfl, hB, hg, rest⟩
  · exact .inl hn
  · have hlt : g < w.heap.size := by
      rcases Nat.lt_or_ge g w.heap.size with h' | h'
      · exact h'
      · simp [Array.getElem?_eq_none h'] at hg
    exact .inr ⟨g, cap, cur, rfl, hB, (hb.block g hlt).trans hg, rest⟩
theorem own_slice {w : World} {base : Nat} {e : TypeId} {size : Nat} {v : Value} {n : Nat} {xs : List Value} (h : w.ownsRow base e size v n xs) : ∃ a c, v = .slice a n c := by
  rcases h.2 with ⟨rfl, h0⟩ | ⟨g, cap, cur, rfl, _⟩
  · subst h0; exact ⟨_, _, rfl⟩
  · exact ⟨_, _, rfl⟩
/-- A block of a type, with these cells. -/
def BoxT (w : World) (b : Nat) (cs : Array Value) (t : TypeId) : Prop := w.heap[b]? = some (.cells cs t)
theorem BoxT.lt {w : World} {b : Nat} {cs : Array Value} {t : TypeId} (h : BoxT w b cs t) : b < w.heap.size := by
  rcases Nat.lt_or_ge b w.heap.size with h' | h'
  · exact h'
  · have h2 : w.heap[b]? = some (.cells cs t) := h
    simp [Array.getElem?_eq_none h'] at h2
theorem BoxT.cell {w : World} {b : Nat} {cs : Array Value} {t : TypeId} (h : BoxT w b cs t) (i : Nat) : w.cell? ⟨b, i, none⟩ = cs[i]? := Lib.cell_of_heap h i
theorem BoxT.frozen {w : World} {b : Nat} {cs : Array Value} {t : TypeId} (h : BoxT w b cs t) (i : Nat) : w.frozen? ⟨b, i, none⟩ = false := Lib.frozen_of_heap h i
theorem BoxT.set {w : World} {b : Nat} {cs : Array Value} {t : TypeId} (h : BoxT w b cs t) (i : Nat) (v : Value) : BoxT (w.setCell ⟨b, i, none⟩ v) b (cs.setIfInBounds i v) t := Joins.block_setCell h v
theorem BoxT.new (w : World) (cs : Array Value) (t : TypeId) : BoxT (w.alloc (.cells cs t)) w.heap.size cs t := by show (w.heap.push _)[w.heap.size]? = _; simp
theorem BoxT.alloc {w : World} {b : Nat} {cs : Array Value} {t : TypeId} (h : BoxT w b cs t) (o : Obj) : BoxT (w.alloc o) b cs t := (Below.heap_alloc w o b h.lt).trans h
theorem BoxT.below {w w' : World} {b : Nat} {cs : Array Value} {t : TypeId} (h : BoxT w b cs t) (hb : Below w.heap.size w w') : BoxT w' b cs t := (hb.block b h.lt).trans h
theorem BoxT.grown {w w' : World} {b : Nat} {cs : Array Value} {t : TypeId} {r : Option Nat} (h : BoxT w b cs t) (hg : w.grownBy w' r) (hn : some b ≠ r) : BoxT w' b cs t := (hg.block b h.lt hn).trans h
theorem BoxT.other {w : World} {b : Nat} {cs : Array Value} {t : TypeId} (h : BoxT w b cs t) {a : Addr} (hn : b ≠ a.block) (v : Value) : BoxT (w.setCell a v) b cs t := (Below.heap_setCell w a v b hn).trans h
theorem BoxT.drew {w : World} {b : Nat} {cs : Array Value} {t : TypeId} (h : BoxT w b cs t) : BoxT w.drew b cs t := h
/-- A row of one's own stays where another block is written. -/
theorem own_other {w : World} {B : Nat} {e : TypeId} {size : Nat} {v : Value} {n : Nat} {xs : List Value} (h : w.ownsRow B e size v n xs) {b : Nat} {cs : Array Value} {t : TypeId} (hb : BoxT w b cs t) (hne : t ≠ e) (i : Nat) (u : Value) : (w.setCell ⟨b, i, none⟩ u).ownsRow B e size v n xs := by
  refine ⟨h.1, ?_⟩
  rcases h.2 with hn | ⟨g, cap, cur, rfl, hB, hg, rest⟩
  · exact .inl hn
  · refine .inr ⟨g, cap, cur, rfl, hB, ?_, rest⟩
    rw [Below.heap_setCell w ⟨b, i, none⟩ u g ?_]
    · exact hg
    · intro e; subst e
      have h2 : w.heap[g]? = some (.cells cs t) := hb
      rw [hg] at h2
      simp at h2
      exact hne h2.2.symm
/-- Rows of different kinds are different blocks. -/
theorem own_two {w : World} {B B' : Nat} {e e' : TypeId} {size size' : Nat} {v v' : Value} {n n' : Nat} {xs xs' : List Value} (h : w.ownsRow B e size v n xs) (h' : w.ownsRow B' e' size' v' n' xs') (hne : e ≠ e') : v.ownBlock = none ∨ v.ownBlock ≠ v'.ownBlock := by
  rcases h.2 with ⟨rfl, _⟩ | ⟨g, cap, cur, rfl, hB, hg, _⟩
  · exact .inl rfl
  · rcases h'.2 with ⟨rfl, _⟩ | ⟨g', cap', cur', rfl, hB', hg', _⟩
    · exact .inr (by intro e; cases e)
    · refine .inr (fun e => ?_)
      have e2 : g = g' := by simpa [Value.ownBlock] using e
      subst e2
      rw [hg] at hg'
      simp at hg'
      exact hne hg'.2
theorem own_not {w : World} {B : Nat} {e : TypeId} {size : Nat} {v : Value} {n : Nat} {xs : List Value} (h : w.ownsRow B e size v n xs) {b : Nat} (hb : b < B) : some b ≠ v.ownBlock := by
  intro e
  have := (h.lt b e.symm).1
  omega
theorem enc_dg {d : Nat} (h : d < 10) : Utf8.encode (48 + (d : Int)) = ⟨#[dg d]⟩ := by
  match d, h with
  | 0, _ => rfl
  | 1, _ => rfl
  | 2, _ => rfl
  | 3, _ => rfl
  | 4, _ => rfl
  | 5, _ => rfl
  | 6, _ => rfl
  | 7, _ => rfl
  | 8, _ => rfl
  | 9, _ => rfl
theorem sg_arr (d : Nat) : (⟨#[123]⟩ : ByteArray) ++ (⟨#[dg d]⟩ : ByteArray) ++ (⟨#[125]⟩ : ByteArray) = ⟨(sgB d).toArray⟩ := by
  apply ByteArray.ext
  simp [ByteArray.data_append, sgB]
set_option maxRecDepth 100000 in
theorem bsign_as (d : Nat) (hd : d < 10) (w : World) :
    Calls Tryd.prog 32 #[.int .i64 (d : Int)] w fun e w' => e = .returned (S (sgB d)) ∧ w = w' := by
  have hE := enc_dg hd
  have hA := sg_arr d
  have h32 : IntKind.i32.wrap (48 + (d : Int)) = 48 + (d : Int) := by rw [IntKind.wrap_i32]; omega
  go_enter Tryd.func32, Tryd.ntmps32
  go_wp2
  go_ret
  exact ⟨by simp_all, rfl⟩
theorem right_as (s : ByteArray) (w : World) (hT : Tabs w) (hs : s.size ≤ 1000000) (r : Bool) (hr : rightL s.data.toList = r) :
    Calls Tryd.prog 20 #[.string s] w fun e w' => e = .returned (.bool r) ∧ Below w.heap.size w w' := by
  go_enter Tryd.func20, Tryd.ntmps20
  go_wp2_with fail
  with_reducible refine (valid_as s _ hT hs r hr).mono ?_
  rintro e w1 ⟨rfl, hb⟩
  go_wp2
  go_ret
  exact ⟨rfl, hb⟩
/-- What placeOf tells. -/
def plI : Option Nat → Int
  | some d => d
  | none => -1
theorem hasP (s : ByteArray) (g : List UInt8) (r : Bool) (w : World) (h : g.isPrefixOf s.data.toList = r) :
    Calls Tryd.prog 49 #[.string s, S g] w fun e w' => e = .returned (.bool r) ∧ w = w' :=
  (Tryd.strings_HasPrefix s ⟨g.toArray⟩ w).mono fun e w' ⟨he, hw⟩ => ⟨by rw [he, arr_list, ← h]; rfl, hw.symm⟩
theorem hasB (s : ByteArray) (d : Nat) (r : Bool) (w : World) (h : hitB s.data.toList d = r) :
    Calls Tryd.prog 49 #[.string s, S (sgB d)] w fun e w' => e = .returned (.bool r) ∧ w = w' := hasP s (sgB d) r w h
set_option maxHeartbeats 1600000 in
set_option maxRecDepth 100000 in
theorem place_as (s : ByteArray) (w : World) (o : Option Nat) (ho : plcB s.data.toList = o) :
    Calls Tryd.prog 30 #[.string s] w fun e w' => e = .returned (.int .i64 (plI o)) ∧ Below w.heap.size w w' := by
  have HO := Lib.hid ho
  clear ho
  go_enter Tryd.func30, Tryd.ntmps30
  go_wp2_with fail
  go_loopw [4] (fun i wr => ∃ k : Nat, k ≤ 10 ∧ i = .int .i64 k ∧ (∀ j, j < k → hitB s.data.toList j = false) ∧ Below w.heap.size w wr) (fun i _ => 10 - (intOf i).toNat)
  case atStart => exact ⟨0, Nat.zero_le _, rfl, fun j hj => absurd hj (by omega), Below.refl _ _⟩
  case round =>
    obtain ⟨k, hk, rfl, hj, hb⟩ := hrel
    have HJ := Lib.hid hj
    have HB := Lib.hid hb
    clear hj hb
    by_cases hlt : (k : Int) < 10
    · go_wp2_with fail
      with_reducible refine (bsign_as k (by omega) _).mono ?_
      rintro e w1 ⟨rfl, rfl⟩
      cases hp : hitB s.data.toList k with
      | true =>
        have HP := Lib.hid hp
        clear hp
        go_wp2_with fail
        with_reducible refine (hasB s k true _ HP.out).mono ?_
        rintro e w1 ⟨rfl, rfl⟩
        go_wp2
        go_ret
        exact ⟨by rw [← HO.out, plcB_at (by omega) HJ.out HP.out]; rfl, HB.out⟩
      | false =>
        have HP := Lib.hid hp
        clear hp
        go_wp2_with fail
        with_reducible refine (hasB s k false _ HP.out).mono ?_
        rintro e w1 ⟨rfl, rfl⟩
        go_wp2
        go_roundw
        case rel => exact ⟨k + 1, by omega, by go_num, fun j hj => by
          rcases Nat.lt_or_ge j k with h | h
          · exact HJ.out j h
          · obtain rfl : j = k := by omega
            exact HP.out, HB.out⟩
        case measure => simp [intOf]; omega
    · go_wp2
      go_ret
      exact ⟨by rw [← HO.out, plcB_no (fun j hj2 => HJ.out j (by omega))]; rfl, HB.out⟩
/-- Numbers of places, a row of one's own. -/
abbrev OwnP (w : World) (B : Nat) (v : Value) (P : List Nat) : Prop := w.ownsRow B 3 1 v P.length (P.map pv)
abbrev OwnT (w : World) (B : Nat) (v : Value) (T : List (List UInt8)) : Prop := w.ownsRow B 9 1 v T.length (T.map S)
theorem contains_nat (P : List Nat) (d : Nat) : ((P.map fun x : Nat => (x : Int)).take P.length).contains (d : Int) = decide (d ∈ P) := by
  rw [List.take_of_length_le (by simp), Bool.eq_iff_iff]
  simp only [List.contains_eq_mem, List.mem_map, decide_eq_true_eq]
  constructor
  · rintro ⟨a, ha, e⟩
    obtain rfl : a = d := by omega
    exact ha
  · exact fun h => ⟨d, h, rfl⟩
theorem cont_as (B : Nat) (v : Value) (P : List Nat) (d : Nat) (w : World) (h : OwnP w B v P) (hl : P.length ≤ 1000000) (r : Bool) (hr : decide (d ∈ P) = r) :
    Calls Tryd.prog 31 #[v, .int .i64 (d : Int)] w fun e w' => e = .returned (.bool r) ∧ w = w' := by
  have h0 := h
  rcases h.2 with ⟨rfl, hn⟩ | ⟨g, cap, cur, rfl, hB, hg, _⟩
  · obtain rfl := List.length_eq_zero_iff.1 hn
    refine (Tryd.slices_Contains_int_empty none 0 (d : Int) w).mono ?_
    rintro e w' ⟨rfl, rfl⟩
    exact ⟨by rw [← hr]; simp, rfl⟩
  · refine (Tryd.slices_Contains_int g 0 P.length cap (P.map fun x : Nat => (x : Int)) (d : Int) w (by simp) (by omega) (fun j hj => ?_)).mono ?_
    · have hj2 : j < P.length := by simpa using hj
      rw [Nat.zero_add, World.ownsRow.cellAt h0 j (by omega)]
      simp [pv, hj2]
    · rintro e w' ⟨rfl, rfl⟩
      exact ⟨by rw [contains_nat, hr], rfl⟩
end Go.Proofs.YtmopcgmodaahkaaDoor
