/- Lists appended to rows of the call's own. -/
import Derived.Test.YtkbigfkpgjhojaaTdE
import Derived.Deep.AppendLies
namespace Go.Proofs.Ytkbigfkpgjhojaa
open Go.RowKit Florin
set_option linter.unusedVariables false
set_option linter.unusedSimpArgs false
theorem addr_add (b o j : Nat) : (⟨b, o, none⟩ : Addr).add j = ⟨b, o + j, none⟩ := by unfold Addr.add; split <;> simp_all
theorem InL.cells {α : Type} {w : World} {lim sz : Nat} {A : α → List Value → Prop} {v : Value} {l : List α} (h : InL w lim sz A v l) (hs : 0 < sz) (hA1 : ∀ x c, A x c → ∀ u ∈ c, u.oneCell' = true) (h0 : 0 < l.length) :
    ∃ ad cap xs, v = .slice (some ad) l.length cap ∧ xs.length = l.length * sz ∧ Elts sz A l xs ∧ (∀ j u, xs[j]? = some u → w.cell? (ad.add j) = some u) ∧ ∀ u ∈ xs, u.oneCell' = true := by
  obtain ⟨a, cap, rfl, _, _, hc⟩ := h
  obtain ⟨b, off, rfl, _, _, hx⟩ := hc h0
  have key : ∀ j, j < l.length * sz → ∃ u, w.cell? ⟨b, off + j, none⟩ = some u ∧ u.oneCell' = true := fun j hj => by
    have hk : j / sz < l.length := Nat.div_lt_of_lt_mul (by rw [Nat.mul_comm]; exact hj)
    obtain ⟨c, g1, g2, g3⟩ := hx (j / sz) hk
    have hm : j % sz < sz := Nat.mod_lt _ hs
    have h3 := g3 (j % sz) hm
    have he : off + j / sz * sz + j % sz = off + j := by have := Nat.div_add_mod j sz; rw [Nat.mul_comm] at this; omega
    rw [he, List.getElem?_eq_getElem (by omega)] at h3
    exact ⟨_, h3, hA1 _ _ g1 _ (List.getElem_mem _)⟩
  refine ⟨⟨b, off, none⟩, cap, (List.range (l.length * sz)).map (fun j => (w.cell? ⟨b, off + j, none⟩).getD undef), rfl, by simp, ?_, ?_, ?_⟩
  · intro k hk
    obtain ⟨c, g1, g2, g3⟩ := hx k hk
    refine ⟨c, g1, g2, fun j hj => ?_⟩
    have hlt : k * sz + j < l.length * sz := Nat.lt_of_lt_of_le (by rw [Nat.add_mul]; omega : k * sz + j < (k + 1) * sz) (Nat.mul_le_mul_right _ hk)
    rw [List.getElem?_map, List.getElem?_range hlt]
    have h3 := g3 j hj
    rw [List.getElem?_eq_getElem (by omega)] at h3
    rw [List.getElem?_eq_getElem (by omega)]
    simp only [Option.map_some]
    rw [← Nat.add_assoc, h3]
    rfl
  · intro j u hu
    have hj : j < l.length * sz := by
      have := (List.getElem?_eq_some_iff.1 hu).1
      simpa using this
    rw [List.getElem?_map, List.getElem?_range hj] at hu
    obtain ⟨u', h1, _⟩ := key j hj
    rw [addr_add, h1]
    simp only [Option.map_some, h1, Option.getD_some] at hu
    exact hu
  · intro u hu
    obtain ⟨j, hj, rfl⟩ := List.mem_map.1 hu
    have hj2 : j < l.length * sz := List.mem_range.1 hj
    obtain ⟨u', h1, h2⟩ := key j hj2
    simp only [h1, Option.getD_some]
    exact h2
theorem Elts.app {α : Type} {sz : Nat} {A : α → List Value → Prop} {l m : List α} {xs ys : List Value} (h : Elts sz A l xs) (k : Elts sz A m ys) (hl : xs.length = l.length * sz) : Elts sz A (l ++ m) (xs ++ ys) := fun i hi => by
  by_cases hlt : i < l.length
  · obtain ⟨d, a, b, e⟩ := h i hlt
    refine ⟨d, by rw [List.getElem_append_left hlt]; exact a, b, fun j hj => ?_⟩
    have h1 : i * sz + j < xs.length := by rw [hl]; exact Nat.lt_of_lt_of_le (by rw [Nat.add_mul]; omega : i * sz + j < (i + 1) * sz) (Nat.mul_le_mul_right _ hlt)
    rw [List.getElem?_append_left h1]
    exact e j hj
  · have hi2 : i - l.length < m.length := by rw [List.length_append] at hi; omega
    obtain ⟨d, a, b, e⟩ := k (i - l.length) hi2
    refine ⟨d, by rw [List.getElem_append_right (by omega)]; exact a, b, fun j hj => ?_⟩
    have h1 : i * sz = l.length * sz + (i - l.length) * sz := by rw [← Nat.add_mul]; congr 1; omega
    rw [List.getElem?_append_right (by omega), hl, ← e j hj]
    congr 1
    omega
section
variable {P : Program}
theorem run_appL (w : World) (t ty e : TypeId) (i : TypeInfo) (z : Value) (size bytes : Nat) (ht : P.underlying t = some (.slice e)) (hi : P.info? e = some i) (hz : i.zero = some z)
    (hsize : i.size = size) (hby : i.bytes = bytes) (hzs : z.cells.size = size) (hsz : 0 < size) (base : Nat) (hbase : base ≤ w.heap.size) {α : Type} (A : α → List Value → Prop) (hA1 : ∀ x c, A x c → ∀ u ∈ c, u.oneCell' = true)
    (v0 : Value) (l0 : List α) (ho : OwnA w base e size A v0 l0) (lim : Nat) (v : Value) (l : List α) (hin : InL w lim size A v l) (h63 : l0.length + l.length ≤ 1000) (hb : bytes ≤ 1000) :
    ∃ v' w', (Builtin.append_ #[t, t] ty #[v0, v]).run P w = .ok v' w' ∧ OwnA w' base e size A v' (l0 ++ l) ∧ w.grownBy w' v0.ownBlock ∧ (v'.ownBlock = v0.ownBlock ∨ v'.ownBlock = some w.heap.size) ∧ ∃ a c, v' = .slice a (l0 ++ l).length c := by
  obtain ⟨xs, h1, h2⟩ := ho
  by_cases h0 : 0 < l.length
  · obtain ⟨ad, cap, ys, rfl, hl, he, hn, h1c⟩ := hin.cells hsz hA1 h0
    have hbb : (l0.length + l.length) * bytes ≤ 140737488355328 := Nat.le_trans (Nat.mul_le_mul h63 hb) (by decide)
    obtain ⟨g, cp, w', hr, g2, g3, g4, g5⟩ := run_append_lies (P := P) w t ty base e i z size bytes ht hi hz hsize hby hzs hsz v0 l0.length xs h1 ad l.length cap ys hl hn h1c h0 (by unfold maxLen; omega) hbb hbase _ rfl
    refine ⟨_, w', hr, ⟨xs ++ ys, by rw [List.length_append]; exact g2, h2.app he h1.1⟩, g3, ?_, _, _, by rw [List.length_append]⟩
    rcases g4 with g | g
    · exact .inl (by rw [g]; rfl)
    · exact .inr (by rw [← g]; rfl)
  · obtain rfl : l = [] := List.eq_nil_of_length_eq_zero (by omega)
    obtain ⟨a, cap, rfl, _, _, _⟩ := hin
    refine ⟨v0, w, ?_, ⟨xs, by rw [List.append_nil]; exact h1, by rw [List.append_nil]; exact h2⟩, World.grownBy.refl _ _, .inl rfl, ?_⟩
    · rcases h1.2 with ⟨rfl, h0⟩ | ⟨g, cp, cur, rfl, hB, hg, hc, hm, hs, htk⟩
      · cases a <;> simp [Builtin.append_, run_underlying ht, sizeOf, typeInfo, hi, Builtin.lenOf, Builtin.firstCells, loadCells, loadCellsFrom]
      · cases a <;> simp [Builtin.append_, run_underlying ht, sizeOf, typeInfo, hi, Builtin.lenOf, Builtin.firstCells, loadCells, loadCellsFrom, storeCells, hc]
    · rcases h1.2 with ⟨rfl, h0⟩ | ⟨g, cp, cur, rfl, hB, hg, hc, hm, hs, htk⟩
      · obtain rfl : l0 = [] := List.eq_nil_of_length_eq_zero h0
        exact ⟨_, _, rfl⟩
      · exact ⟨_, _, by rw [List.append_nil]⟩
theorem wpList_appL {w : World} {ops : Array Oper} {rest : List Oper} {o : Oper} {a : Act} {Q : Exit → Act → World → Prop} (hgd : o.guard = none) (s x : Operand) (t : TypeId)
    (hop : o.op = .call { callee := .builtin .append, args := #[s, x], argTypes := #[t, t] })
    (e : TypeId) (i : TypeInfo) (z : Value) (size bytes : Nat) (ht : P.underlying t = some (.slice e)) (hi : P.info? e = some i) (hz : i.zero = some z)
    (hsize : i.size = size) (hby : i.bytes = bytes) (hzs : z.cells.size = size) (hsz : 0 < size) (base : Nat) (hbase : base ≤ w.heap.size) {α : Type} (A : α → List Value → Prop) (hA1 : ∀ x c, A x c → ∀ u ∈ c, u.oneCell' = true)
    (v0 : Value) (l0 : List α) (hs : a.eval s = v0) (ho : OwnA w base e size A v0 l0) (lim : Nat) (v : Value) (l : List α) (hx : a.eval x = v) (hin : InL w lim size A v l) (h63 : l0.length + l.length ≤ 1000) (hb : bytes ≤ 1000)
    (h : ∀ L b c w', l0 ++ l = L → OwnA w' base e size A (.slice b L.length c) L → w.grownBy w' v0.ownBlock → wpList P ops Q rest (a.put o.dst (.slice b L.length c)) w') : wpList P ops Q (o :: rest) a w := by
  refine wpList_plain hgd fun K hK => ?_
  obtain ⟨v', w', hr, h2, h3, h4, b, c, rfl⟩ := run_appL (P := P) w t o.type e i z size bytes ht hi hz hsize hby hzs hsz base hbase A hA1 v0 l0 ho lim v l hin h63 hb
  unfold Oper.wp execOp
  simp only [hop, resolve, invoke, builtin, Sem.run_bind, Sem.run_pure, Result.andThen_ok, List.map_toArray, List.map_cons, List.map_nil, hs, hx, hr]
  exact hK _ _ (h _ b c w' rfl h2 h3)
end
/-- A literal of one element, just laid. -/
theorem inL_lit {α : Type} {w : World} {b lim sz : Nat} {A : α → List Value → Prop} {x : α} {cs : Array Value} {T : TypeId} (h : BoxT w b cs T) (hl : cs.size = sz) (hb : b < lim) (hA : A x cs.toList) : InL w lim sz A (.slice (some ⟨b, 0, none⟩) 1 1) [x] :=
  ⟨_, 1, rfl, Nat.le_refl _, by unfold maxLen; decide, fun _ => ⟨b, 0, rfl, hb, h.lt, fun k hk => by
    obtain rfl : k = 0 := by simpa using hk
    exact ⟨cs.toList, hA, by simpa using hl, fun j hj => by rw [Nat.zero_mul, Nat.zero_add, h.cell, Array.getElem?_toList]⟩⟩⟩
theorem ownA_lit {α : Type} {w : World} {b base sz : Nat} {A : α → List Value → Prop} {x : α} {cs : Array Value} {T : TypeId} (h : BoxT w b cs T) (hl : cs.size = sz) (hb : base ≤ b) (hA : A x cs.toList) : OwnA w base T sz A (.slice (some ⟨b, 0, none⟩) 1 1) [x] :=
  ⟨cs.toList, ⟨by simpa using hl, .inr ⟨b, 1, cs, rfl, hb, h, Nat.le_refl _, by unfold maxLen; decide, by simpa using hl, by rw [List.take_of_length_le]; simp [hl]⟩⟩, fun k hk => by
    obtain rfl : k = 0 := by simpa using hk
    exact ⟨cs.toList, hA, by simpa using hl, fun j hj => by rw [Nat.zero_mul, Nat.zero_add]⟩⟩
theorem ownA_none {α : Type} {w : World} {b base sz : Nat} {A : α → List Value → Prop} {T : TypeId} (h : BoxT w b #[] T) (hb : base ≤ b) : OwnA w base T sz A (.slice (some ⟨b, 0, none⟩) 0 0) [] :=
  ⟨[], ⟨by simp, .inr ⟨b, 0, #[], rfl, hb, h, Nat.le_refl _, Nat.zero_le _, by simp, by simp⟩⟩, Elts.nil _ _ _⟩
theorem rowA_one {w : World} {lim : Nat} (x : RowM) (c : List Value) (h : rowA w lim x c) : ∀ u ∈ c, u.oneCell' = true := by
  obtain ⟨u, rfl, a, cap, rfl, _⟩ := h
  intro y hy
  simp at hy
  rcases hy with rfl | rfl <;> rfl
theorem untA_one {w : World} {lim : Nat} (x : UntM) (c : List Value) (h : untA w lim x c) : ∀ u ∈ c, u.oneCell' = true := by
  obtain ⟨u, rfl, a, cap, rfl, _⟩ := h
  intro y hy
  simp at hy
  rcases hy with rfl | rfl <;> rfl
theorem curA_one {w : World} {lim : Nat} (x : CurM) (c : List Value) (h : curA w lim x c) : ∀ u ∈ c, u.oneCell' = true := by
  obtain ⟨u, rfl, a, cap, rfl, _⟩ := h
  intro y hy
  simp at hy
  rcases hy with rfl | rfl | rfl | rfl | rfl | rfl | rfl | rfl <;> rfl
theorem txA_one (x : TxM) (c : List Value) (h : txA x c) : ∀ u ∈ c, u.oneCell' = true := by
  obtain rfl := h
  intro y hy
  simp at hy
  rcases hy with rfl | rfl <;> rfl
theorem OwnA.inL {α : Type} {w : World} {base : Nat} {T : TypeId} {sz : Nat} {A A' : α → List Value → Prop} {v : Value} {l : List α} (h : OwnA w base T sz A v l) (hA : ∀ x c, A x c → A' x c) : InL w w.heap.size sz A' v l := h.inT.inL hA
end Go.Proofs.Ytkbigfkpgjhojaa
