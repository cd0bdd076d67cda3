/- Rules in another order: the plain part. -/
import Derived.Test.YtkjhdehpcanciaaGreatDoorLawRA
namespace Florin
set_option linter.unusedVariables false
theorem rules_to0 : ∀ (xs : List RuleT), (∀ x ∈ xs, RuleF x) → rulesW none (xs.map fun x => (toUW x, 0)) = joinV [59] (xs.map ruleV)
  | [], _ => rfl
  | [x], h => by
    simp only [List.map_cons, List.map_nil, rulesW, endW, joinV_one, List.append_nil]
    exact rule_to x (h x (List.Mem.head _))
  | x :: y :: ys, h => by
    have ih := rules_to0 (y :: ys) (fun z hz => h z (List.Mem.tail _ hz))
    have e : joinV [59] ((x :: y :: ys).map ruleV) = ruleV x ++ [59] ++ joinV [59] ((y :: ys).map ruleV) := by rw [List.map_cons, List.map_cons, joinV_cons]
    rw [e, ← ih, List.map_cons, List.map_cons, rulesW]
    simp only
    rw [rule_to x (h x (List.Mem.head _))]
    simp [bl]
theorem rules_back0 {xs : List RuleT} (h : RulesF xs) : rulesP (joinV [59] (xs.map ruleV)) = .ok xs [] := by
  have := rules_of 0 none (xs.map fun x => (toUW x, 0)) (by
    rw [List.map_map]
    have : (xs.map ((fun x => nRel x.1.c) ∘ fun x => (toUW x, 0))) = xs.map fun x => count x.any := List.map_congr_left (fun x _ => count_to x)
    rw [this]; exact h.few) (by
    intro y hy
    obtain ⟨z, hz, rfl⟩ := List.mem_map.1 hy
    exact ruleOK_to (h.all z hz)) (by
    rw [List.map_map]
    exact h.cats)
  rw [rules_to0 xs h.all, List.map_map] at this
  have e : (xs.map ((fun x => x.1.v) ∘ fun x => (toUW x, 0))) = xs := by
    conv => rhs; rw [← List.map_id xs]
    exact List.map_congr_left (fun x _ => rulev_to x)
  rw [e] at this
  exact this
def rotR {α : Type} (rs : List α) (k : Nat) : List α := rs.drop k ++ rs.take k
theorem rot_len {α : Type} (rs : List α) (k : Nat) : (rotR rs k).length = rs.length := by unfold rotR; rw [List.length_append, List.length_drop, List.length_take]; omega
theorem rot_mem {α : Type} {rs : List α} {k : Nat} {x : α} (h : x ∈ rotR rs k) : x ∈ rs := by
  rcases List.mem_append.1 h with h | h
  · exact List.mem_of_mem_drop h
  · exact List.mem_of_mem_take h
theorem rot_perm {α : Type} (rs : List α) (k : Nat) : (rotR rs k).Perm rs := by
  have h := List.perm_append_comm (l₁ := rs.drop k) (l₂ := rs.take k)
  rw [List.take_append_drop] at h
  exact h
theorem rot_F {rs : List RuleT} (h : RulesF rs) (k : Nat) : RulesF (rotR rs k) where
  all := fun x hx => h.all x (rot_mem hx)
  cats := ((rot_perm rs k).map RuleT.cat).nodup_iff.2 h.cats
  few := by
    unfold rotR
    rw [List.map_append, List.sum_append, Nat.add_comm, ← List.sum_append, ← List.map_append, List.take_append_drop]
    exact h.few
theorem rot_at {α : Type} (rs : List α) {k j : Nat} (hk : k < rs.length) (hj : j < rs.length) : (rotR rs k)[j]? = rs[(j + k) % rs.length]? := by
  unfold rotR
  by_cases h : j < rs.length - k
  · rw [List.getElem?_append_left (by rw [List.length_drop]; exact h), List.getElem?_drop, Nat.mod_eq_of_lt (by omega), Nat.add_comm]
  · rw [List.getElem?_append_right (by rw [List.length_drop]; omega), List.length_drop, List.getElem?_take, if_pos (by omega)]
    congr 1
    rw [show j + k = (j - (rs.length - k)) + rs.length by omega, Nat.add_mod_right, Nat.mod_eq_of_lt (by omega)]
end Florin
namespace Go.Proofs.YtkjhdehpcanciaaGreatDoor
open Go.RowKit Florin
set_option linter.unusedVariables false
theorem ruleT_le {ms : List MadeM} (h : fewR ms) {x : RuleT} (hx : x ∈ madesMn ms) : (ruleT x).length ≤ 200000 :=
  Nat.le_trans (join_mem [59, 32] ((madesMn ms).map ruleT) (ruleT x) (List.mem_map_of_mem hx)) (mades_txt h)
theorem rule_cells {w wq : World} {base : Nat} {xs : List RuleT} {v : Value} {k : Nat} {x : RuleT} (h : RulesAt w base xs v) (hq : Below w.heap.size w wq) (hx : xs[k]? = some x) :
    ∃ g cap a c, v = .slice (some ⟨g, 0, none⟩) xs.length cap ∧ xs.length ≤ cap ∧ g < w.heap.size ∧ CondAt w 0 x.any (.slice a x.any.length c) ∧ wq.cell? ⟨g, k * 3, none⟩ = some (.int .i64 ((x.cat : Nat) : Int)) ∧ wq.cell? ⟨g, k * 3 + 1, none⟩ = some (.slice a x.any.length c) ∧ wq.cell? ⟨g, k * 3 + 2, none⟩ = some (S x.smp) := by
  obtain ⟨hj, hxj⟩ := List.getElem?_eq_some_iff.1 hx
  obtain ⟨cs, ho, hl⟩ := h
  obtain ⟨g, cap, rfl, h1, _, _, hg, hc⟩ := own_blk ho (by omega)
  obtain ⟨cj, ⟨vj, hcj, hnj⟩, hgj⟩ := ListAt.get (sz := 3) (fun x c ⟨u, e, _⟩ => by rw [e]; rfl) hl k hj
  rw [hxj] at hcj hnj
  obtain ⟨a, c, e⟩ : ∃ a c, vj = .slice a x.any.length c := by obtain ⟨_, h1, _⟩ := hnj; exact own_cap h1
  subst e
  have CE : ∀ i, i < 3 → wq.cell? ⟨g, k * 3 + i, none⟩ = cj[i]? := fun i hi => (hq.cell (p := ⟨g, k * 3 + i, none⟩) hg).trans ((hc (k * 3 + i) (by omega)).trans (hgj i hi))
  rw [hcj] at CE
  exact ⟨g, cap, a, c, rfl, h1, hg, hnj, CE 0 (by decide), CE 1 (by decide), CE 2 (by decide)⟩
end Go.Proofs.YtkjhdehpcanciaaGreatDoor
