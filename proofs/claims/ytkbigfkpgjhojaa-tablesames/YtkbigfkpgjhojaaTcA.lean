/- Tables out of bytes: lists in memory that were read. -/
import Derived.Test.YtkbigfkpgjhojaaTbD
import Derived.Test.YtkbigfkpgjhojaaTPlain2
import Derived.Test.YtkbigfkpgjhojaaWrG
import Derived.Test.YtkbigfkpgjhojaaWrG
namespace Go.Proofs.Ytkbigfkpgjhojaa
open Go.RowKit Florin
set_option linter.unusedVariables false
set_option linter.unusedSimpArgs false
attribute [local go_sem ↓] Go.wp_at_zero Go.wp_at_succ
abbrev TTx : TypeId := 56
abbrev TRw : TypeId := 37
abbrev TCu : TypeId := 35
abbrev TUn : TypeId := 50
abbrev TPr : TypeId := 75
/-- Blocks of this type stay as they are. -/
def KeepB (T : TypeId) (w w' : World) : Prop := ∀ b cs, BoxT w b cs T → BoxT w' b cs T
theorem KeepB.refl (T : TypeId) (w : World) : KeepB T w w := fun _ _ h => h
theorem KeepB.trans {T : TypeId} {w w' w'' : World} (h : KeepB T w w') (k : KeepB T w' w'') : KeepB T w w'' := fun b cs g => k b cs (h b cs g)
theorem KeepB.below {T : TypeId} {w w' : World} (h : Below w.heap.size w w') : KeepB T w w' := fun b cs g => g.below h
theorem KeepB.of {T U : TypeId} {w w' : World} {r : Nat} {ds : Array Value} (hr : BoxT w r ds U) (hn : T ≠ U) (hg : w.grownBy w' (some r)) : KeepB T w w' := fun b cs g => g.grown hg (fun e => g.apart hr hn (Option.some.inj e))
theorem KeepB.own {T U : TypeId} {w w' : World} {base sz n : Nat} {v : Value} {xs : List Value} (ho : w.ownsRow base U sz v n xs) (hn : T ≠ U) (hg : w.grownBy w' v.ownBlock) : KeepB T w w' := fun b cs g => by
  rcases ho.2 with ⟨rfl, _⟩ | ⟨q, cap, cur, rfl, _, hq, _⟩
  · exact g.grown hg (by intro e; cases e)
  · exact g.grown hg (fun e => g.apart (show BoxT w q cur U from hq) hn (by exact Option.some.inj e))
theorem own_keep {w w' : World} {base : Nat} {e : TypeId} {sz : Nat} {v : Value} {n : Nat} {xs : List Value} (h : w.ownsRow base e sz v n xs) (hk : KeepB e w w') : w'.ownsRow base e sz v n xs := by
  refine ⟨h.1, ?_⟩
  rcases h.2 with hn | ⟨g, cap, cur, rfl, hB, hg, rest⟩
  · exact .inl hn
  · exact .inr ⟨g, cap, cur, rfl, hB, hk g cur hg, rest⟩
/-- The elements of a row, one behind the other. -/
def Elts {α : Type} (sz : Nat) (A : α → List Value → Prop) (l : List α) (xs : List Value) : Prop := ∀ k (h : k < l.length), ∃ c, A l[k] c ∧ c.length = sz ∧ ∀ j, j < sz → xs[k * sz + j]? = c[j]?
theorem Elts.nil {α : Type} (sz : Nat) (A : α → List Value → Prop) (xs : List Value) : Elts sz A [] xs := fun k h => absurd h (Nat.not_lt_zero _)
theorem Elts.mono {α : Type} {sz : Nat} {A A' : α → List Value → Prop} {l : List α} {xs : List Value} (h : Elts sz A l xs) (hA : ∀ x c, A x c → A' x c) : Elts sz A' l xs := fun k hk => by
  obtain ⟨c, a, b, d⟩ := h k hk
  exact ⟨c, hA _ _ a, b, d⟩
theorem Elts.snoc {α : Type} {sz : Nat} {A : α → List Value → Prop} {l : List α} {xs : List Value} {x : α} {c : List Value} (h : Elts sz A l xs) (hx : A x c) (hc : c.length = sz) (hl : xs.length = l.length * sz) : Elts sz A (l ++ [x]) (xs ++ c) := fun k hk => by
  by_cases hlt : k < l.length
  · obtain ⟨d, a, b, e⟩ := h k hlt
    refine ⟨d, by rw [List.getElem_append_left hlt]; exact a, b, fun j hj => ?_⟩
    have h1 : k * sz + j < xs.length := by rw [hl]; exact Nat.lt_of_lt_of_le (by rw [Nat.add_mul]; omega : k * sz + j < (k + 1) * sz) (Nat.mul_le_mul_right _ hlt)
    rw [List.getElem?_append_left h1]
    exact e j hj
  · have hke : k = l.length := by rw [List.length_append] at hk; simp at hk; omega
    subst hke
    refine ⟨c, by simpa using hx, hc, fun j hj => ?_⟩
    rw [List.getElem?_append_right (by omega), hl]
    congr 1
    omega
/-- A row of the call's own with these elements. -/
def OwnA {α : Type} (w : World) (base : Nat) (T : TypeId) (sz : Nat) (A : α → List Value → Prop) (v : Value) (l : List α) : Prop := ∃ xs, w.ownsRow base T sz v l.length xs ∧ Elts sz A l xs
theorem OwnA.nil {α : Type} (w : World) (base : Nat) (T : TypeId) (sz : Nat) (A : α → List Value → Prop) : OwnA w base T sz A (.slice none 0 0) [] := ⟨[], ⟨by simp, .inl ⟨rfl, rfl⟩⟩, Elts.nil _ _ _⟩
theorem OwnA.keep {α : Type} {w w' : World} {base : Nat} {T : TypeId} {sz : Nat} {A A' : α → List Value → Prop} {v : Value} {l : List α} (h : OwnA w base T sz A v l) (hk : KeepB T w w') (hA : ∀ x c, A x c → A' x c) : OwnA w' base T sz A' v l := by
  obtain ⟨xs, h1, h2⟩ := h
  exact ⟨xs, own_keep h1 hk, h2.mono hA⟩
/-- A row that lies somewhere in memory, in a block of this type. -/
def InT {α : Type} (w : World) (T : TypeId) (sz : Nat) (A : α → List Value → Prop) (v : Value) (l : List α) : Prop :=
  ∃ a cap, v = .slice a l.length cap ∧ l.length ≤ cap ∧ cap ≤ maxLen ∧ (0 < l.length → ∃ b cs, a = some ⟨b, 0, none⟩ ∧ BoxT w b cs T ∧ Elts sz A l cs.toList)
theorem InT.keep {α : Type} {w w' : World} {T : TypeId} {sz : Nat} {A A' : α → List Value → Prop} {v : Value} {l : List α} (h : InT w T sz A v l) (hk : KeepB T w w') (hA : ∀ x c, A x c → A' x c) : InT w' T sz A' v l := by
  obtain ⟨a, cap, h1, h2, h3, h4⟩ := h
  refine ⟨a, cap, h1, h2, h3, fun h0 => ?_⟩
  obtain ⟨b, cs, e, g1, g2⟩ := h4 h0
  exact ⟨b, cs, e, hk b cs g1, g2.mono hA⟩
theorem InT.nil {α : Type} (w : World) (T : TypeId) (sz : Nat) (A : α → List Value → Prop) : InT w T sz A (.slice none 0 0) [] := ⟨none, 0, rfl, Nat.le_refl _, Nat.zero_le _, fun h => absurd h (Nat.lt_irrefl _)⟩
theorem OwnA.inT {α : Type} {w : World} {base : Nat} {T : TypeId} {sz : Nat} {A : α → List Value → Prop} {v : Value} {l : List α} (h : OwnA w base T sz A v l) : InT w T sz A v l := by
  obtain ⟨xs, h1, h2⟩ := h
  rcases h1.2 with ⟨rfl, h0⟩ | ⟨g, cap, cur, rfl, hB, hg, hc, hm, hs, ht⟩
  · obtain rfl : l = [] := List.eq_nil_of_length_eq_zero h0
    exact InT.nil _ _ _ _
  · refine ⟨_, cap, rfl, hc, hm, fun h0 => ⟨g, cur, rfl, hg, fun k hk => ?_⟩⟩
    obtain ⟨c, a, b, d⟩ := h2 k hk
    refine ⟨c, a, b, fun j hj => ?_⟩
    rw [← d j hj, ← ht, List.getElem?_take, if_pos]
    exact Nat.lt_of_lt_of_le (by rw [Nat.add_mul]; omega : k * sz + j < (k + 1) * sz) (Nat.mul_le_mul_right _ hk)
theorem InT.inL {α : Type} {w : World} {T : TypeId} {sz : Nat} {A A' : α → List Value → Prop} {v : Value} {l : List α} (h : InT w T sz A v l) (hA : ∀ x c, A x c → A' x c) : InL w w.heap.size sz A' v l := by
  obtain ⟨a, cap, h1, h2, h3, h4⟩ := h
  refine ⟨a, cap, h1, h2, h3, fun h0 => ?_⟩
  obtain ⟨b, cs, rfl, g1, g2⟩ := h4 h0
  refine ⟨b, 0, rfl, g1.lt, g1.lt, fun k hk => ?_⟩
  obtain ⟨c, p1, p2, p3⟩ := g2 k hk
  refine ⟨c, hA _ _ p1, p2, fun j hj => ?_⟩
  rw [Nat.zero_add, g1.cell, ← p3 j hj, Array.getElem?_toList]
abbrev TxT (w : World) (v : Value) (l : List TxM) : Prop := InT w TTx 2 txA v l
theorem TxT.keep {w w' : World} {v : Value} {l : List TxM} (h : TxT w v l) (hk : KeepB TTx w w') : TxT w' v l := InT.keep h hk (fun _ _ h => h)
def rowB (w : World) (r : RowM) (c : List Value) : Prop := ∃ u, c = [.int .i64 r.1, u] ∧ TxT w u r.2
def untB (w : World) (r : UntM) (c : List Value) : Prop := ∃ u, c = [S r.1, u] ∧ TxT w u r.2
def curB (w : World) (x : CurM) (c : List Value) : Prop := ∃ u, c = [S x.code, S x.sym, S x.nar, u, .int .i64 x.d, .int .i64 x.i, .int .i64 x.cd, .int .i64 x.ci] ∧ TxT w u x.names
theorem rowB.keep {w w' : World} (hk : KeepB TTx w w') (r : RowM) (c : List Value) (h : rowB w r c) : rowB w' r c := by obtain ⟨u, e, g⟩ := h; exact ⟨u, e, g.keep hk⟩
theorem untB.keep {w w' : World} (hk : KeepB TTx w w') (r : UntM) (c : List Value) (h : untB w r c) : untB w' r c := by obtain ⟨u, e, g⟩ := h; exact ⟨u, e, g.keep hk⟩
theorem curB.keep {w w' : World} (hk : KeepB TTx w w') (r : CurM) (c : List Value) (h : curB w r c) : curB w' r c := by obtain ⟨u, e, g⟩ := h; exact ⟨u, e, g.keep hk⟩
theorem Rdr.box {w : World} {b : Nat} {st : RS} (h : Rdr w b st) : BoxT w b #[S st.1, .bool st.2] TRd := h
theorem Rdr.alloc {w : World} {b : Nat} {st : RS} (h : Rdr w b st) (o : Obj) : Rdr (w.alloc o) b st := BoxT.alloc h o
theorem infoTx : (Try.prog.info? TTx).map (fun i => (i.zero, i.size, i.bytes)) = some (some (.agg #[.int .i64 0, .string ⟨#[]⟩]), 2, 24) := by kernel_rfl
theorem infoRw : (Try.prog.info? TRw).map (fun i => (i.zero, i.size, i.bytes)) = some (some (.agg #[.int .i64 0, .slice none 0 0]), 2, 32) := by kernel_rfl
theorem infoUn : (Try.prog.info? TUn).map (fun i => (i.zero, i.size, i.bytes)) = some (some (.agg #[.string ⟨#[]⟩, .slice none 0 0]), 2, 40) := by kernel_rfl
theorem infoCu : (Try.prog.info? TCu).map (fun i => (i.zero, i.size, i.bytes)) = some (some (.agg #[.string ⟨#[]⟩, .string ⟨#[]⟩, .string ⟨#[]⟩, .slice none 0 0, .int .i64 0, .int .i64 0, .int .i64 0, .int .i64 0]), 8, 104) := by kernel_rfl
end Go.Proofs.Ytkbigfkpgjhojaa
