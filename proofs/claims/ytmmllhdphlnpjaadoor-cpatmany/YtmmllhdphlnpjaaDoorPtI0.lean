/- Lists in memory that are read alone; whole structs loaded and stored. -/
import Derived.Test.YtmmllhdphlnpjaaDoorPtH
import Derived.Deep.MidRow
import Derived.Laws.Tables
import Derived.Laws.Rows
import Derived.Deep.AppendLies
import Derived.Deep.RegionHeld3
namespace Go.Proofs.YtmmllhdphlnpjaaDoor
open Go.RowKit Florin
set_option linter.unusedVariables false
set_option linter.unusedSimpArgs false
attribute [local go_sem ↓] Go.wp_at_zero Go.wp_at_succ
theorem BoxT.apart {w : World} {b k : Nat} {cs ds : Array Value} {t u : TypeId} (h : BoxT w b cs t) (h2 : BoxT w k ds u) (hn : t ≠ u) : b ≠ k := fun e => by
  subst e
  have h3 : w.heap[b]? = some (.cells ds u) := h2
  rw [show w.heap[b]? = some (.cells cs t) from h] at h3
  injection h3 with h3
  injection h3 with _ h4
  exact hn h4
/-- Blocks of this type stay as they are. -/
def KeepB (T : TypeId) (w w' : World) : Prop := ∀ b cs, BoxT w b cs T → BoxT w' b cs T
theorem KeepB.refl (T : TypeId) (w : World) : KeepB T w w := fun _ _ h => h
theorem KeepB.trans {T : TypeId} {w w' w'' : World} (h : KeepB T w w') (k : KeepB T w' w'') : KeepB T w w'' := fun b cs g => k b cs (h b cs g)
theorem KeepB.below {T : TypeId} {w w' : World} (h : Below w.heap.size w w') : KeepB T w w' := fun b cs g => g.below h
theorem KeepB.of {T U : TypeId} {w w' : World} {r : Nat} {ds : Array Value} (hr : BoxT w r ds U) (hn : T ≠ U) (hg : w.grownBy w' (some r)) : KeepB T w w' := fun b cs g => g.grown hg (fun e => g.apart hr hn (Option.some.inj e))
theorem KeepB.own {T U : TypeId} {w w' : World} {base sz n : Nat} {v : Value} {xs : List Value} (ho : w.ownsRow base U sz v n xs) (hn : T ≠ U) (hg : w.grownBy w' v.ownBlock) : KeepB T w w' := fun b cs g => by
  rcases ho.2 with ⟨rfl, _⟩ | ⟨q, cap, cur, rfl, _, hq, _⟩
  · exact g.grown hg (by intro e; cases e)
  · exact g.grown hg (fun e => g.apart (show BoxT w q cur U from hq) hn (by exact Option.some.inj e))
theorem own_keep {w w' : World} {base : Nat} {e : TypeId} {sz : Nat} {v : Value} {n : Nat} {xs : List Value} (h : w.ownsRow base e sz v n xs) (hk : KeepB e w w') : w'.ownsRow base e sz v n xs := by
  refine ⟨h.1, ?_⟩
  rcases h.2 with hn | ⟨g, cap, cur, rfl, hB, hg, rest⟩
  · exact .inl hn
  · exact .inr ⟨g, cap, cur, rfl, hB, hk g cur hg, rest⟩
/-- The elements of a row, one behind the other. -/
def Elts {α : Type} (sz : Nat) (A : α → List Value → Prop) (l : List α) (xs : List Value) : Prop := ∀ k (h : k < l.length), ∃ c, A l[k] c ∧ c.length = sz ∧ ∀ j, j < sz → xs[k * sz + j]? = c[j]?
theorem Elts.nil {α : Type} (sz : Nat) (A : α → List Value → Prop) (xs : List Value) : Elts sz A [] xs := fun k h => absurd h (Nat.not_lt_zero _)
theorem Elts.mono {α : Type} {sz : Nat} {A A' : α → List Value → Prop} {l : List α} {xs : List Value} (h : Elts sz A l xs) (hA : ∀ x c, A x c → A' x c) : Elts sz A' l xs := fun k hk => by
  obtain ⟨c, a, b, d⟩ := h k hk
  exact ⟨c, hA _ _ a, b, d⟩
theorem Elts.snoc {α : Type} {sz : Nat} {A : α → List Value → Prop} {l : List α} {xs : List Value} {x : α} {c : List Value} (h : Elts sz A l xs) (hx : A x c) (hc : c.length = sz) (hl : xs.length = l.length * sz) : Elts sz A (l ++ [x]) (xs ++ c) := fun k hk => by
  by_cases hlt : k < l.length
  · obtain ⟨d, a, b, e⟩ := h k hlt
    refine ⟨d, by rw [List.getElem_append_left hlt]; exact a, b, fun j hj => ?_⟩
    have h1 : k * sz + j < xs.length := by rw [hl]; exact Nat.lt_of_lt_of_le (by rw [Nat.add_mul]; omega : k * sz + j < (k + 1) * sz) (Nat.mul_le_mul_right _ hlt)
    rw [List.getElem?_append_left h1]
    exact e j hj
  · have hke : k = l.length := by rw [List.length_append] at hk; simp at hk; omega
    subst hke
    refine ⟨c, by simpa using hx, hc, fun j hj => ?_⟩
    rw [List.getElem?_append_right (by omega), hl]
    congr 1
    omega
/-- A row of the call's own with these elements. -/
def OwnA {α : Type} (w : World) (base : Nat) (T : TypeId) (sz : Nat) (A : α → List Value → Prop) (v : Value) (l : List α) : Prop := ∃ xs, w.ownsRow base T sz v l.length xs ∧ Elts sz A l xs
theorem OwnA.nil {α : Type} (w : World) (base : Nat) (T : TypeId) (sz : Nat) (A : α → List Value → Prop) : OwnA w base T sz A (.slice none 0 0) [] := ⟨[], ⟨by simp, .inl ⟨rfl, rfl⟩⟩, Elts.nil _ _ _⟩
theorem OwnA.keep {α : Type} {w w' : World} {base : Nat} {T : TypeId} {sz : Nat} {A A' : α → List Value → Prop} {v : Value} {l : List α} (h : OwnA w base T sz A v l) (hk : KeepB T w w') (hA : ∀ x c, A x c → A' x c) : OwnA w' base T sz A' v l := by
  obtain ⟨xs, h1, h2⟩ := h
  exact ⟨xs, own_keep h1 hk, h2.mono hA⟩
/-- A row that lies somewhere in memory, in a block of this type. -/
def LisT {α : Type} (w : World) (T : TypeId) (sz : Nat) (A : α → List Value → Prop) (v : Value) (l : List α) : Prop :=
  ∃ a cap, v = .slice a l.length cap ∧ l.length ≤ cap ∧ cap ≤ maxLen ∧ (0 < l.length → ∃ b cs, a = some ⟨b, 0, none⟩ ∧ BoxT w b cs T ∧ Elts sz A l cs.toList)
theorem LisT.keep {α : Type} {w w' : World} {T : TypeId} {sz : Nat} {A A' : α → List Value → Prop} {v : Value} {l : List α} (h : LisT w T sz A v l) (hk : KeepB T w w') (hA : ∀ x c, A x c → A' x c) : LisT w' T sz A' v l := by
  obtain ⟨a, cap, h1, h2, h3, h4⟩ := h
  refine ⟨a, cap, h1, h2, h3, fun h0 => ?_⟩
  obtain ⟨b, cs, e, g1, g2⟩ := h4 h0
  exact ⟨b, cs, e, hk b cs g1, g2.mono hA⟩
theorem LisT.nil {α : Type} (w : World) (T : TypeId) (sz : Nat) (A : α → List Value → Prop) : LisT w T sz A (.slice none 0 0) [] := ⟨none, 0, rfl, Nat.le_refl _, Nat.zero_le _, fun h => absurd h (Nat.lt_irrefl _)⟩
theorem OwnA.lisT {α : Type} {w : World} {base : Nat} {T : TypeId} {sz : Nat} {A : α → List Value → Prop} {v : Value} {l : List α} (h : OwnA w base T sz A v l) : LisT w T sz A v l := by
  obtain ⟨xs, h1, h2⟩ := h
  rcases h1.2 with ⟨rfl, h0⟩ | ⟨g, cap, cur, rfl, hB, hg, hc, hm, hs, ht⟩
  · obtain rfl : l = [] := List.eq_nil_of_length_eq_zero h0
    exact LisT.nil _ _ _ _
  · refine ⟨_, cap, rfl, hc, hm, fun h0 => ⟨g, cur, rfl, hg, fun k hk => ?_⟩⟩
    obtain ⟨c, a, b, d⟩ := h2 k hk
    refine ⟨c, a, b, fun j hj => ?_⟩
    rw [← d j hj, ← ht, List.getElem?_take, if_pos]
    exact Nat.lt_of_lt_of_le (by rw [Nat.add_mul]; omega : k * sz + j < (k + 1) * sz) (Nat.mul_le_mul_right _ hk)
section
variable {P : Program}
theorem run_loadVar_box {w : World} {b : Nat} {X : Array Value} {T ty : TypeId} {d : TypeDesc} (h : BoxT w b X T) (hu : P.underlying ty = some d) (hd : (match d with | .struct _ | .array _ _ => true | _ => false) = true) (hi : (P.info? ty).map (·.size) = some X.size) :
    (loadVar ty ⟨b, 0, none⟩).run P w = .ok (.agg X) w := run_loadVar_row w b T ty X (0, 0) d h hu hd hi
theorem wpList_load_box {ops : Array Oper} {rest : List Oper} {op : Oper} {a : Act} {w : World} {Q : Exit → Act → World → Prop} (hgd : op.guard = none) (ty : TypeId) (x : Operand) (ho : op.op = .load ty x)
    (b : Nat) (hx : a.eval x = .pointer (some ⟨b, 0, none⟩)) (X : Array Value) (T : TypeId) (d : TypeDesc) (hb : BoxT w b X T)
    (hu : P.underlying ty = some d) (hd : (match d with | .struct _ | .array _ _ => true | _ => false) = true) (hi : (P.info? ty).map (·.size) = some X.size)
    (h : wpList P ops Q rest (a.put op.dst (.agg X)) w) : wpList P ops Q (op :: rest) a w :=
  wpList_plain hgd fun K hK => by
    unfold Oper.wp execOp
    simp only [ho, hx, Instr.loadAt, Instr.sureAddr, Sem.run_bind, Sem.run_pure, Result.andThen_ok, run_loadVar_box hb hu hd hi]
    exact hK _ _ h
theorem grown_row (w : World) (b : Nat) (X : Array Value) : w.grownBy (w.setRow b X) (some b) :=
  ⟨rfl, rfl, rfl, by simp, fun k _ hn => setRow_other w b k X (fun e => hn (by rw [e]))⟩
theorem wpList_store_box {ops : Array Oper} {rest : List Oper} {op : Oper} {a : Act} {w : World} {Q : Exit → Act → World → Prop} (hgd : op.guard = none) (ty : TypeId) (x y : Operand) (ho : op.op = .store ty x y)
    (b : Nat) (old X : Array Value) (T : TypeId) (hx : a.eval x = .pointer (some ⟨b, 0, none⟩)) (hy : a.eval y = .agg X) (hb : BoxT w b old T)
    (hi : (P.info? ty).map (·.size) = some X.size) (hs : old.size = X.size) (h1 : X.all (·.oneCell') = true)
    (h : ∀ w', BoxT w' b X T → w.grownBy w' (some b) → wpList P ops Q rest (a.put op.dst undef) w') : wpList P ops Q (op :: rest) a w :=
  wpList_plain hgd fun K hK => by
    unfold Oper.wp execOp
    simp only [ho, hx, hy, Instr.storeAt, Instr.sureAddr, Sem.run_bind, Sem.run_pure, Result.andThen_ok, run_storeVar_row w b T ty old X hb hi hs h1]
    exact hK _ _ (h _ (setRow_heap w b old X T (0, 0) hb) (grown_row w b X))
end
theorem yieldsIf_load_box {P : Program} {ops : Array Oper} {S : World → Prop} {op : Oper} {a : Act} (hw : Region.wanted op (yielded ops a.tmps) = true) (ty : TypeId) (x : Operand) (ho : op.op = .load ty x)
    (b : Nat) (hx : a.eval x = .pointer (some ⟨b, 0, none⟩)) (X : Array Value) (T : TypeId) (d : TypeDesc) (hS : ∀ w, S w → BoxT w b X T)
    (hu : P.underlying ty = some d) (hd : (match d with | .struct _ | .array _ _ => true | _ => false) = true) (hi : (P.info? ty).map (·.size) = some X.size) : YieldsIf P ops S op (.agg X) a :=
  .inl ⟨hw, fun w hw' => by
    unfold execOp
    simp only [ho, hx, Instr.loadAt, Instr.sureAddr, Sem.run_bind, Sem.run_pure, Result.andThen_ok, run_loadVar_box (hS w hw') hu hd hi]⟩
theorem wpList_load_boxG {P : Program} {ops : Array Oper} {rest : List Oper} {op : Oper} {a : Act} {w : World} {Q : Exit → Act → World → Prop} (hw : Region.wanted op (yielded ops a.tmps) = true) (ty : TypeId) (x : Operand) (ho : op.op = .load ty x)
    (b : Nat) (hx : a.eval x = .pointer (some ⟨b, 0, none⟩)) (X : Array Value) (T : TypeId) (d : TypeDesc) (hb : BoxT w b X T)
    (hu : P.underlying ty = some d) (hd : (match d with | .struct _ | .array _ _ => true | _ => false) = true) (hi : (P.info? ty).map (·.size) = some X.size)
    (h : wpList P ops Q rest (a.put op.dst (.agg X)) w) : wpList P ops Q (op :: rest) a w :=
  wpList_step fun K hK => by
    rw [if_pos hw]
    unfold Oper.wp execOp
    simp only [ho, hx, Instr.loadAt, Instr.sureAddr, Sem.run_bind, Sem.run_pure, Result.andThen_ok, run_loadVar_box hb hu hd hi]
    exact hK _ _ h
theorem BoxT.drew3 {w : World} {b : Nat} {cs : Array Value} {t : TypeId} (h : BoxT w b cs t) : BoxT w.drew b cs t := h.below (Below.refl _ w).drew
end Go.Proofs.YtmmllhdphlnpjaaDoor
