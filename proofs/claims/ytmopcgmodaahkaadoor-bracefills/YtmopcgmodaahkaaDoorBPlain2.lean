/- Right texts side by side; a number put into a row. -/
import Derived.Test.YtmopcgmodaahkaaDoorGPlain
import Derived.Test.YtmopcgmodaahkaaDoorBPlain
namespace Florin
theorem bt_app {l m : List UInt8} {k : Nat} (h : k < l.length) : bt (l ++ m) k = bt l k := by
  unfold bt
  rw [List.getD_eq_getElem?_getD, List.getD_eq_getElem?_getD, List.getElem?_append_left h]
theorem lead_app {l m : List UInt8} (h : lead l ≠ 0) : lead (l ++ m) = lead l := by
  have hl : l ≠ [] := fun e => by subst e; exact h rfl
  have hp := List.length_pos_iff.2 hl
  have e1 : lead l = leadN l.length (bt l 0) (bt l 1) (bt l 2) (bt l 3) := if_neg hl
  have e2 : lead (l ++ m) = leadN (l ++ m).length (bt (l ++ m) 0) (bt (l ++ m) 1) (bt (l ++ m) 2) (bt (l ++ m) 3) := if_neg (by simp [hl])
  rw [e2, bt_app hp]
  rw [e1] at h ⊢
  have hn : (l ++ m).length = l.length + m.length := List.length_append
  have hw := wid_le (bt l 0)
  rcases (show wid (bt l 0) = 0 ∨ wid (bt l 0) = 1 ∨ wid (bt l 0) = 2 ∨ wid (bt l 0) = 3 ∨ wid (bt l 0) = 4 by omega) with w | w | w | w | w
  · rw [lead0 w] at h; exact absurd rfl h
  · rw [lead1 w, lead1 w]
  · rw [lead2 w] at h ⊢
    rw [lead2 w]
    by_cases c : 2 ≤ l.length ∧ sLo (bt l 0) ≤ bt l 1 ∧ bt l 1 ≤ sHi (bt l 0)
    · rw [if_pos c, if_pos (by rw [hn, bt_app (by omega)]; exact ⟨by omega, c.2⟩)]
    · rw [if_neg c] at h; exact absurd rfl h
  · rw [lead3 w] at h ⊢
    rw [lead3 w]
    by_cases c : 3 ≤ l.length ∧ sLo (bt l 0) ≤ bt l 1 ∧ bt l 1 ≤ sHi (bt l 0) ∧ 128 ≤ bt l 2 ∧ bt l 2 ≤ 191
    · rw [if_pos c, if_pos (by rw [hn, bt_app (by omega), bt_app (by omega)]; exact ⟨by omega, c.2⟩)]
    · rw [if_neg c] at h; exact absurd rfl h
  · rw [lead4 w] at h ⊢
    rw [lead4 w]
    by_cases c : 4 ≤ l.length ∧ sLo (bt l 0) ≤ bt l 1 ∧ bt l 1 ≤ sHi (bt l 0) ∧ 128 ≤ bt l 2 ∧ bt l 2 ≤ 191 ∧ 128 ≤ bt l 3 ∧ bt l 3 ≤ 191
    · rw [if_pos c, if_pos (by rw [hn, bt_app (by omega), bt_app (by omega), bt_app (by omega)]; exact ⟨by omega, c.2⟩)]
    · rw [if_neg c] at h; exact absurd rfl h
theorem right_app : ∀ (n : Nat) (l m : List UInt8), l.length ≤ n → rightL l = true → rightL m = true → rightL (l ++ m) = true
  | 0, l, m, h, _, hm => by
    obtain rfl : l = [] := List.length_eq_zero_iff.1 (by omega)
    exact hm
  | n + 1, l, m, h, hl, hm => by
    by_cases h0 : l = []
    · subst h0; exact hm
    · have hd : lead l ≠ 0 := fun e => by rw [right_bad h0 e] at hl; cases hl
      rw [right_step (by simp [h0]) (by rw [lead_app hd]; exact hd), lead_app hd, List.drop_append_of_le_length (lead_le l)]
      rw [right_step h0 hd] at hl
      exact right_app n _ m (by rw [List.length_drop]; omega) hl hm
theorem right_sg {d : Nat} (h : d < 10) : rightL (sgB d) = true := by
  have h1 : (123 : UInt8).toNat < 128 := by decide
  have h2 : (dg d).toNat < 128 := by rw [dg_nat h]; omega
  have h3 : (125 : UInt8).toNat < 128 := by decide
  unfold sgB
  rw [right_ascii _ h1, right_ascii _ h2, right_ascii _ h3]; rfl
theorem right_jn : ∀ (T : List (List UInt8)) (P : List Nat), (∀ t ∈ T, rightL t = true) → (∀ d ∈ P, d < 10) → rightL (jnB T P) = true
  | [], _, _, _ => rfl
  | t :: T, [], h, hd => right_app _ _ _ (Nat.le_refl _) (h t (List.mem_cons_self ..)) (right_jn T [] (fun x hx => h x (List.mem_cons_of_mem _ hx)) hd)
  | t :: T, d :: P, h, hd => right_app _ _ _ (Nat.le_refl _) (right_app _ _ _ (Nat.le_refl _) (h t (List.mem_cons_self ..)) (right_sg (hd d (List.mem_cons_self ..)))) (right_jn T P (fun x hx => h x (List.mem_cons_of_mem _ hx)) (fun x hx => hd x (List.mem_cons_of_mem _ hx)))
/-- A number put into a row at a place. -/
def insL (P : List Nat) (j x : Nat) : List Nat := P.take j ++ x :: P.drop j
theorem insL_len (P : List Nat) (j x : Nat) : (insL P j x).length = P.length + 1 := by
  unfold insL
  rw [List.length_append, List.length_cons, List.length_take, List.length_drop]
  omega
theorem insL_end (P : List Nat) (x : Nat) : insL P P.length x = P ++ [x] := by simp [insL]
theorem insL_get (P : List Nat) (j x : Nat) (h0 : 0 < j) (h : j ≤ P.length) : (insL P j x)[j - 1]? = some (P.getD (j - 1) 0) := by
  unfold insL
  rw [List.getElem?_append_left (by rw [List.length_take]; omega), List.getElem?_take, if_pos (by omega), List.getD_eq_getElem?_getD, List.getElem?_eq_getElem (by omega)]
  rfl
theorem insL_set (P : List Nat) (j x y : Nat) (h : j ≤ P.length) : (insL P j x).set j y = insL P j y := by
  unfold insL
  rw [List.set_append_right _ _ (by rw [List.length_take]; omega), List.length_take, Nat.min_eq_left h, Nat.sub_self, List.set_cons_zero]
theorem insL_move (P : List Nat) (j : Nat) (h0 : 0 < j) (h : j ≤ P.length) : insL P j (P.getD (j - 1) 0) = insL P (j - 1) (P.getD (j - 1) 0) := by
  unfold insL
  obtain ⟨k, rfl⟩ : ∃ k, j = k + 1 := ⟨j - 1, by omega⟩
  have hk : k < P.length := by omega
  have e : P.getD k 0 = P[k] := by rw [List.getD_eq_getElem?_getD, List.getElem?_eq_getElem hk]; rfl
  rw [Nat.add_sub_cancel, e, List.take_succ_eq_append_getElem hk, List.append_assoc, List.drop_eq_getElem_cons hk]
  rfl
theorem insL_mem (P : List Nat) (j x d : Nat) : d ∈ insL P j x ↔ d = x ∨ d ∈ P := by
  unfold insL
  have h : d ∈ P ↔ d ∈ P.take j ∨ d ∈ P.drop j := by rw [← List.mem_append, List.take_append_drop]
  rw [List.mem_append, List.mem_cons, h]
  constructor
  · rintro (h | h | h)
    · exact .inr (.inl h)
    · exact .inl h
    · exact .inr (.inr h)
  · rintro (h | h | h)
    · exact .inr (.inl h)
    · exact .inl h
    · exact .inr (.inr h)
theorem insL_nodup (P : List Nat) (j x : Nat) (h : P.Nodup) (hx : x ∉ P) : (insL P j x).Nodup := by
  have hp : List.Perm (insL P j x) (x :: P) := by
    unfold insL
    have := List.perm_middle (a := x) (l₁ := P.take j) (l₂ := P.drop j)
    rw [List.take_append_drop] at this
    exact this
  exact hp.nodup_iff.2 (List.nodup_cons.2 ⟨hx, h⟩)
end Florin
