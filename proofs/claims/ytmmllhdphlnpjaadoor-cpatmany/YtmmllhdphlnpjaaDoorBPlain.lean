/- Texts with places in them, plainly. -/
import Derived.ProofKit
namespace Florin
abbrev dg (d : Nat) : UInt8 := UInt8.ofNat (48 + d)
/-- A place as it is written. -/
def sgB (d : Nat) : List UInt8 := [123, dg d, 125]
def hitB (l : List UInt8) (d : Nat) : Bool := (sgB d).isPrefixOf l
def plcB (l : List UInt8) : Option Nat := (List.range 10).find? (hitB l)
theorem plcB_at {l : List UInt8} {k : Nat} (hk : k < 10) (h : ∀ j, j < k → hitB l j = false) (hh : hitB l k = true) : plcB l = some k := by
  unfold plcB
  rw [List.find?_range_eq_some]
  exact ⟨hh, by simpa using hk, fun j hj => by simpa using h j hj⟩
theorem plcB_no {l : List UInt8} (h : ∀ j, j < 10 → hitB l j = false) : plcB l = none := by
  unfold plcB
  rw [List.find?_eq_none]
  intro x hx
  rw [h x (List.mem_range.1 hx)]
  decide
theorem plcB_hit {l : List UInt8} {d : Nat} (h : plcB l = some d) : d < 10 ∧ hitB l d = true := by
  unfold plcB at h
  rw [List.find?_range_eq_some] at h
  exact ⟨by simpa using h.2.1, h.1⟩
theorem hitB_iff {l : List UInt8} {d : Nat} : hitB l d = true ↔ ∃ t, l = 123 :: dg d :: 125 :: t := by
  unfold hitB sgB
  rw [List.isPrefixOf_iff_prefix]
  constructor
  · rintro ⟨t, rfl⟩; exact ⟨t, rfl⟩
  · rintro ⟨t, rfl⟩; exact ⟨t, rfl⟩
theorem dg_nat {d : Nat} (h : d < 10) : (dg d).toNat = 48 + d := by
  show (UInt8.ofNat (48 + d)).toNat = _
  rw [UInt8.toNat_ofNat']; omega
theorem dg_of {c : UInt8} (h1 : 48 ≤ c.toNat) (h2 : c.toNat ≤ 57) : c = dg (c.toNat - 48) := by
  apply UInt8.toNat_inj.1
  rw [dg_nat (by omega)]; omega
/-- A place stands here just where a brace, a digit and a brace do. -/
theorem plcB_some {c : UInt8} {t : List UInt8} (h1 : 48 ≤ c.toNat) (h2 : c.toNat ≤ 57) : plcB (123 :: c :: 125 :: t) = some (c.toNat - 48) := by
  refine plcB_at (by omega) (fun j hj => ?_) (hitB_iff.2 ⟨t, by rw [← dg_of h1 h2]⟩)
  rcases hb : hitB (123 :: c :: 125 :: t) j with _ | _
  · rfl
  · obtain ⟨t', ht⟩ := hitB_iff.1 hb
    simp only [List.cons.injEq] at ht
    have := dg_nat (d := j) (by omega)
    rw [← ht.2.1] at this
    omega
theorem plcB_is {l : List UInt8} {d : Nat} (h : plcB l = some d) : d < 10 ∧ ∃ t, l = 123 :: dg d :: 125 :: t :=
  ⟨(plcB_hit h).1, hitB_iff.1 (plcB_hit h).2⟩
/-- What reading tells: the texts and the places, or an error and where it is. -/
inductive BR
  | ok (T : List (List UInt8)) (P : List Nat)
  | bad (e : Nat) (k : Nat)
def isBr (c : UInt8) : Bool := c == 123 || c == 125
/-- The reader, byte by byte: how many bytes are to be left out, where it is, the text since the last place, texts and places so far. -/
def brS (n : Int) : List UInt8 → Nat → Nat → List UInt8 → List (List UInt8) → List Nat → BR
  | [], _, i, cur, T, P => if (P.length : Int) < min n 10 then .bad 3 i else .ok (T ++ [cur]) P
  | _ :: l, k + 1, i, cur, T, P => brS n l k (i + 1) cur T P
  | c :: l, 0, i, cur, T, P =>
    if isBr c then
      match plcB (c :: l) with
      | none => .bad 1 i
      | some d => if n ≤ (d : Int) ∨ d ∈ P then .bad 3 i else brS n l 2 (i + 1) [] (T ++ [cur]) (P ++ [d])
    else brS n l 0 (i + 1) (cur ++ [c]) T P
theorem brS_skip (n : Int) : ∀ (k : Nat) (l : List UInt8) (i : Nat) (cur : List UInt8) (T : List (List UInt8)) (P : List Nat), k ≤ l.length → brS n l k i cur T P = brS n (l.drop k) 0 (i + k) cur T P
  | 0, l, i, cur, T, P, _ => rfl
  | k + 1, [], i, cur, T, P, h => absurd h (by simp)
  | k + 1, c :: l, i, cur, T, P, h => by
    show brS n l k (i + 1) cur T P = brS n (l.drop k) 0 (i + (k + 1)) cur T P
    rw [brS_skip n k l (i + 1) cur T P (by simp at h; omega), Nat.add_right_comm, Nat.add_assoc]
theorem brS_plain (n : Int) {c : UInt8} (h : isBr c = false) (l : List UInt8) (i : Nat) (cur : List UInt8) (T : List (List UInt8)) (P : List Nat) :
    brS n (c :: l) 0 i cur T P = brS n l 0 (i + 1) (cur ++ [c]) T P := by
  show (if isBr c then _ else _) = _
  rw [h]; rfl
theorem brS_none (n : Int) {c : UInt8} {l : List UInt8} (h : isBr c = true) (hp : plcB (c :: l) = none) (i : Nat) (cur : List UInt8) (T : List (List UInt8)) (P : List Nat) :
    brS n (c :: l) 0 i cur T P = .bad 1 i := by
  show (if isBr c then (match plcB (c :: l) with | none => _ | some d => _) else _) = _
  rw [h, hp]; rfl
theorem brS_arg (n : Int) {c : UInt8} {l : List UInt8} {d : Nat} (h : isBr c = true) (hp : plcB (c :: l) = some d) (i : Nat) (cur : List UInt8) (T : List (List UInt8)) (P : List Nat) (hd : n ≤ (d : Int) ∨ d ∈ P) :
    brS n (c :: l) 0 i cur T P = .bad 3 i := by
  show (if isBr c then (match plcB (c :: l) with | none => _ | some d => if n ≤ (d : Int) ∨ d ∈ P then _ else _) else _) = _
  rw [h, hp]
  show (if n ≤ (d : Int) ∨ d ∈ P then _ else _) = _
  rw [if_pos hd]
theorem brS_more (n : Int) {d : Nat} {t : List UInt8} (h : d < 10) (i : Nat) (cur : List UInt8) (T : List (List UInt8)) (P : List Nat) (hd : ¬ (n ≤ (d : Int) ∨ d ∈ P)) :
    brS n (123 :: dg d :: 125 :: t) 0 i cur T P = brS n t 0 (i + 3) [] (T ++ [cur]) (P ++ [d]) := by
  have hp : plcB (123 :: dg d :: 125 :: t) = some d := by
    have := dg_nat h
    rw [plcB_some (by omega) (by omega), this, Nat.add_sub_cancel_left]
  show (if isBr 123 then (match plcB (123 :: dg d :: 125 :: t) with | none => _ | some d => if n ≤ (d : Int) ∨ d ∈ P then _ else brS n (dg d :: 125 :: t) 2 (i + 1) [] (T ++ [cur]) (P ++ [d])) else _) = _
  rw [hp]
  show (if n ≤ (d : Int) ∨ d ∈ P then _ else _) = _
  rw [if_neg hd]
  rfl
/-- Bytes that are no braces, in one step. -/
theorem brS_run (n : Int) : ∀ (m : List UInt8) (l : List UInt8) (i : Nat) (cur : List UInt8) (T : List (List UInt8)) (P : List Nat), (∀ c ∈ m, isBr c = false) →
    brS n (m ++ l) 0 i cur T P = brS n l 0 (i + m.length) (cur ++ m) T P
  | [], l, i, cur, T, P, _ => by simp
  | c :: m, l, i, cur, T, P, h => by
    rw [List.cons_append, brS_plain n (h c (List.mem_cons_self ..)), brS_run n m l (i + 1) (cur ++ [c]) T P (fun d hd => h d (List.mem_cons_of_mem _ hd)), List.append_assoc, List.length_cons]
    congr 1
    omega
/-- The text that texts and places are. -/
def jnB : List (List UInt8) → List Nat → List UInt8
  | [], _ => []
  | t :: T, [] => t ++ jnB T []
  | t :: T, d :: P => t ++ sgB d ++ jnB T P
theorem jnB_snoc : ∀ (T : List (List UInt8)) (P : List Nat) (t : List UInt8), P.length ≤ T.length → jnB (T ++ [t]) P = jnB T P ++ t
  | [], [], t, _ => by simp [jnB]
  | [], d :: P, t, h => by simp at h
  | s :: T, [], t, h => by
    show s ++ jnB (T ++ [t]) [] = s ++ jnB T [] ++ t
    rw [jnB_snoc T [] t (by simp)]; simp
  | s :: T, d :: P, t, h => by
    show s ++ sgB d ++ jnB (T ++ [t]) P = s ++ sgB d ++ jnB T P ++ t
    rw [jnB_snoc T P t (by simpa using h)]; simp
theorem jnB_snoc2 : ∀ (T : List (List UInt8)) (P : List Nat) (t : List UInt8) (d : Nat), T.length = P.length → jnB (T ++ [t]) (P ++ [d]) = jnB T P ++ (t ++ sgB d)
  | [], [], t, d, _ => by simp [jnB]
  | [], e :: P, t, d, h => by simp at h
  | s :: T, [], t, d, h => by simp at h
  | s :: T, e :: P, t, d, h => by
    show s ++ sgB e ++ jnB (T ++ [t]) (P ++ [d]) = s ++ sgB e ++ jnB T P ++ _
    rw [jnB_snoc2 T P t d (by simpa using h)]; simp
/-- What was read: texts and places that make the text again; each place once, below n, all that there must be. -/
theorem brS_ok (n : Int) : ∀ (L : Nat) (l : List UInt8) (i : Nat) (cur : List UInt8) (T : List (List UInt8)) (P : List Nat) (T2 : List (List UInt8)) (P2 : List Nat), l.length ≤ L →
    T.length = P.length → (∀ d ∈ P, d < 10 ∧ (d : Int) < n) → P.Nodup → (∀ c ∈ cur, isBr c = false) → (∀ t ∈ T, ∀ c ∈ t, isBr c = false) → brS n l 0 i cur T P = .ok T2 P2 →
    jnB T2 P2 = jnB T P ++ cur ++ l ∧ T2.length = P2.length + 1 ∧ (∀ d ∈ P2, d < 10 ∧ (d : Int) < n) ∧ P2.Nodup ∧ min n 10 ≤ (P2.length : Int) ∧ (∀ t ∈ T2, ∀ c ∈ t, isBr c = false)
  | L, [], i, cur, T, P, T2, P2, _, hl, hd, hn, hc, hb, h => by
    have h' : (if (P.length : Int) < min n 10 then BR.bad 3 i else .ok (T ++ [cur]) P) = .ok T2 P2 := h
    by_cases hm : (P.length : Int) < min n 10
    · rw [if_pos hm] at h'; cases h'
    · rw [if_neg hm] at h'
      injection h' with h1 h2
      subst h1 h2
      refine ⟨by rw [jnB_snoc _ _ _ (by omega)]; simp, by simp [hl], hd, hn, by omega, fun t ht c hcc => ?_⟩
      rcases List.mem_append.1 ht with h | h
      · exact hb t h c hcc
      · rw [List.mem_singleton.1 h] at hcc; exact hc c hcc
  | 0, c :: l, i, cur, T, P, T2, P2, hL, hl, hd, hn, hc, hb, h => absurd hL (by simp)
  | L + 1, c :: l, i, cur, T, P, T2, P2, hL, hl, hd, hn, hc, hb, h => by
    cases hbr : isBr c with
    | false =>
      rw [brS_plain n hbr] at h
      obtain ⟨h1, h2⟩ := brS_ok n L l (i + 1) (cur ++ [c]) T P T2 P2 (by simp at hL; omega) hl hd hn (fun d hd2 => by
        rcases List.mem_append.1 hd2 with h | h
        · exact hc d h
        · rw [List.mem_singleton.1 h]; exact hbr) hb h
      exact ⟨by rw [h1]; simp, h2⟩
    | true =>
      cases hp : plcB (c :: l) with
      | none => rw [brS_none n hbr hp] at h; cases h
      | some d =>
        by_cases ha : n ≤ (d : Int) ∨ d ∈ P
        · rw [brS_arg n hbr hp _ _ _ _ ha] at h; cases h
        · obtain ⟨hd10, t, ht⟩ := plcB_is hp
          rw [ht, brS_more n hd10 _ _ _ _ ha] at h
          have hLL : t.length ≤ L := by have := congrArg List.length ht; simp at this hL; omega
          obtain ⟨h1, h2⟩ := brS_ok n L t (i + 3) [] (T ++ [cur]) (P ++ [d]) T2 P2 hLL (by simp [hl]) (fun e he => by
              rcases List.mem_append.1 he with h | h
              · exact hd e h
              · rw [List.mem_singleton.1 h]; exact ⟨hd10, by omega⟩) (by
              rw [List.nodup_append]
              refine ⟨hn, by simp, fun a ha2 b hb2 => ?_⟩
              rw [List.mem_singleton.1 hb2]
              intro e; subst e; exact ha (.inr ha2)) (by simp) (fun t ht c hcc => by
              rcases List.mem_append.1 ht with h | h
              · exact hb t h c hcc
              · rw [List.mem_singleton.1 h] at hcc; exact hc c hcc) h
          refine ⟨?_, h2⟩
          rw [h1, jnB_snoc2 _ _ _ _ hl, ht]
          simp [sgB]
/-- What was written by texts and places is read as them. -/
theorem brS_back (n : Int) : ∀ (T : List (List UInt8)) (P : List Nat) (i : Nat) (A : List (List UInt8)) (Q : List Nat), T.length = P.length + 1 → (∀ t ∈ T, ∀ c ∈ t, isBr c = false) →
    (∀ d ∈ P, d < 10 ∧ (d : Int) < n) → (Q ++ P).Nodup → min n 10 ≤ ((Q ++ P).length : Int) → brS n (jnB T P) 0 i [] A Q = .ok (A ++ T) (Q ++ P)
  | [], P, i, A, Q, h, _, _, _, _ => absurd h (by simp)
  | [t], [], i, A, Q, _, hb, _, _, hm => by
    show brS n (t ++ []) 0 i [] A Q = _
    rw [brS_run n t [] i [] A Q (hb t (List.mem_cons_self ..))]
    show (if (Q.length : Int) < min n 10 then BR.bad 3 (i + t.length) else .ok (A ++ [[] ++ t]) Q) = _
    rw [if_neg (by simpa using hm)]; simp
  | _ :: _ :: _, [], i, A, Q, h, _, _, _, _ => absurd h (by simp)
  | t :: T, d :: P, i, A, Q, h, hb, hd, hn, hm => by
    have h1 := hd d (List.mem_cons_self ..)
    have hq : d ∉ Q := fun hq => by
      have := (List.nodup_append.1 hn).2.2 d hq d (List.mem_cons_self ..)
      exact this rfl
    show brS n (t ++ sgB d ++ jnB T P) 0 i [] A Q = _
    rw [List.append_assoc, brS_run n t _ i [] A Q (hb t (List.mem_cons_self ..))]
    show brS n (123 :: dg d :: 125 :: jnB T P) 0 _ ([] ++ t) A Q = _
    rw [brS_more n h1.1 _ _ _ _ (by rintro (h | h); omega; exact hq h), List.nil_append]
    have e : Q ++ d :: P = (Q ++ [d]) ++ P := by simp
    rw [e] at hn hm ⊢
    rw [brS_back n T P _ (A ++ [t]) (Q ++ [d]) (by simpa using h) (fun t ht => hb t (List.mem_cons_of_mem _ ht)) (fun d hd2 => hd d (List.mem_cons_of_mem _ hd2)) hn hm]
    simp
/-! Filling. -/
def upS (st : Nat → Nat) (d v : Nat) : Nat → Nat := fun k => if k = d then v else st k
/-- One round of filling: a text, and what stands at the place behind it. -/
def stB (L : List (List UInt8)) (t : List UInt8) (o : Option Nat) (xs : List UInt8 × (Nat → Nat)) : List UInt8 × (Nat → Nat) :=
  match o with
  | none => (xs.1 ++ t, xs.2)
  | some d => if d < L.length then (xs.1 ++ t ++ L.getD d [], upS xs.2 d (xs.1 ++ t).length) else (xs.1 ++ t, xs.2)
def flK (L T : List (List UInt8)) (P : List Nat) : Nat → List UInt8 × (Nat → Nat)
  | 0 => ([], fun _ => 0)
  | i + 1 => stB L (T.getD i []) P[i]? (flK L T P i)
theorem stB_none (L : List (List UInt8)) (t : List UInt8) (xs : List UInt8 × (Nat → Nat)) : stB L t none xs = (xs.1 ++ t, xs.2) := rfl
theorem stB_yes {L : List (List UInt8)} {d : Nat} (h : d < L.length) (t : List UInt8) (xs : List UInt8 × (Nat → Nat)) : stB L t (some d) xs = (xs.1 ++ t ++ L.getD d [], upS xs.2 d (xs.1 ++ t).length) := if_pos h
theorem stB_no {L : List (List UInt8)} {d : Nat} (h : ¬ d < L.length) (t : List UInt8) (xs : List UInt8 × (Nat → Nat)) : stB L t (some d) xs = (xs.1 ++ t, xs.2) := if_neg h
theorem stB_pre (L : List (List UInt8)) (t : List UInt8) (o : Option Nat) (xs : List UInt8 × (Nat → Nat)) : ∃ z, (stB L t o xs).1 = xs.1 ++ z := by
  cases o with
  | none => exact ⟨_, rfl⟩
  | some d =>
    by_cases h : d < L.length
    · rw [stB_yes h]; exact ⟨t ++ L.getD d [], by simp⟩
    · rw [stB_no h]; exact ⟨_, rfl⟩
theorem stB_le (L : List (List UInt8)) (t : List UInt8) (o : Option Nat) (xs : List UInt8 × (Nat → Nat)) (h : ∀ d, xs.2 d ≤ xs.1.length) (d : Nat) : (stB L t o xs).2 d ≤ (stB L t o xs).1.length := by
  have h0 := h d
  cases o with
  | none => rw [stB_none]; simp only [List.length_append]; omega
  | some e =>
    by_cases h : e < L.length
    · rw [stB_yes h]
      show upS xs.2 e (xs.1 ++ t).length d ≤ _
      simp only [List.length_append]
      unfold upS
      by_cases hd : d = e
      · rw [if_pos hd]; omega
      · rw [if_neg hd]; omega
    · rw [stB_no h]; simp only [List.length_append]; omega
theorem flK_le (L T : List (List UInt8)) (P : List Nat) : ∀ i d, (flK L T P i).2 d ≤ (flK L T P i).1.length
  | 0, _ => Nat.le_refl _
  | i + 1, d => stB_le L _ _ _ (flK_le L T P i) d
theorem nodup_inj {P : List Nat} (hn : P.Nodup) {i j d : Nat} (hi : P[i]? = some d) (hj : P[j]? = some d) : i = j := by
  obtain ⟨hi1, hi2⟩ := List.getElem?_eq_some_iff.1 hi
  obtain ⟨hj1, hj2⟩ := List.getElem?_eq_some_iff.1 hj
  have h := List.pairwise_iff_getElem.1 hn
  rcases Nat.lt_trichotomy i j with h1 | h1 | h1
  · exact absurd (hi2.trans hj2.symm) (h i j hi1 hj1 h1)
  · exact h1
  · exact absurd (hj2.trans hi2.symm) (h j i hj1 hi1 h1)
/-- What stands at a place stands from the byte on that is told. -/
theorem flK_stand (L T : List (List UInt8)) (P : List Nat) (hn : P.Nodup) : ∀ (i j d : Nat), j < i → P[j]? = some d → d < L.length →
    (flK L T P i).2 d + (L.getD d []).length ≤ (flK L T P i).1.length ∧ ((flK L T P i).1.drop ((flK L T P i).2 d)).take (L.getD d []).length = L.getD d []
  | 0, j, d, h, _, _ => absurd h (by omega)
  | i + 1, j, d, h, hj, hd => by
    have e1 : flK L T P (i + 1) = stB L (T.getD i []) P[i]? (flK L T P i) := rfl
    rw [e1]
    by_cases hji : j = i
    · subst hji
      rw [hj, stB_yes hd]
      have e : ∀ st v, upS st d v d = v := fun st v => if_pos rfl
      simp only [e]
      refine ⟨by simp only [List.length_append]; omega, ?_⟩
      rw [List.drop_left]
      exact List.take_length
    · obtain ⟨h1, h2⟩ := flK_stand L T P hn i j d (by omega) hj hd
      obtain ⟨z, hz⟩ := stB_pre L (T.getD i []) P[i]? (flK L T P i)
      have e : (stB L (T.getD i []) P[i]? (flK L T P i)).2 d = (flK L T P i).2 d := by
        cases ho : P[i]? with
        | none => rfl
        | some e =>
          by_cases he : e < L.length
          · rw [stB_yes he]
            have hne : d ≠ e := fun hde => by
              subst hde
              exact hji (nodup_inj hn hj ho)
            exact if_neg hne
          · rw [stB_no he]
      rw [e, hz]
      refine ⟨by rw [List.length_append]; omega, ?_⟩
      rw [List.drop_append_of_le_length (by omega), List.take_append_of_le_length (by rw [List.length_drop]; omega)]
      exact h2
/-- Signs of the first places. -/
def sgs (m : Nat) : List (List UInt8) := (List.range m).map sgB
theorem sgs_len (m : Nat) : (sgs m).length = m := by simp [sgs]
theorem sgs_get {m d : Nat} (h : d < m) : (sgs m).getD d [] = sgB d := by simp [sgs, h]
theorem take_getD {α : Type} (l : List α) (i : Nat) (x : α) (h : i < l.length) : l.take (i + 1) = l.take i ++ [l.getD i x] := by
  rw [List.take_succ_eq_append_getElem h, List.getD_eq_getElem?_getD, List.getElem?_eq_getElem h]; rfl
/-- Filled with the places' own signs it is the text that was read. -/
theorem flK_signs (m : Nat) (T : List (List UInt8)) (P : List Nat) (hP : ∀ d ∈ P, d < m) (hl : P.length ≤ T.length) : ∀ i, i ≤ T.length → (flK (sgs m) T P i).1 = jnB (T.take i) (P.take i)
  | 0, _ => by simp [flK, jnB]
  | i + 1, h => by
    have ih := flK_signs m T P hP hl i (by omega)
    show (stB (sgs m) (T.getD i []) P[i]? (flK (sgs m) T P i)).1 = _
    rw [take_getD T i [] (by omega)]
    cases ho : P[i]? with
    | none =>
      have hi := List.getElem?_eq_none_iff.1 ho
      show (flK (sgs m) T P i).1 ++ T.getD i [] = _
      rw [ih, List.take_of_length_le (show P.length ≤ i + 1 by omega), List.take_of_length_le hi, jnB_snoc _ _ _ (by simp; omega)]
    | some d =>
      obtain ⟨hi1, hi2⟩ := List.getElem?_eq_some_iff.1 ho
      have hd := hP d (by rw [← hi2]; exact List.getElem_mem _)
      rw [stB_yes (by rw [sgs_len]; exact hd), sgs_get hd]
      show (flK (sgs m) T P i).1 ++ T.getD i [] ++ sgB d = _
      rw [ih, List.take_succ_eq_append_getElem hi1, hi2, jnB_snoc2 _ _ _ _ (by simp; omega), List.append_assoc]
theorem flK_all (m : Nat) (T : List (List UInt8)) (P : List Nat) (hP : ∀ d ∈ P, d < m) (hl : P.length ≤ T.length) : (flK (sgs m) T P T.length).1 = jnB T P := by
  rw [flK_signs m T P hP hl _ (Nat.le_refl _), List.take_length, List.take_of_length_le hl]
/-- Numbers below n, no two alike, n of them: each is there. -/
theorem all_there : ∀ (n : Nat) (P : List Nat), P.Nodup → (∀ d ∈ P, d < n) → n ≤ P.length → ∀ i, i < n → i ∈ P
  | 0, _, _, _, _, i, h => absurd h (by omega)
  | n + 1, P, hn, hd, hl, i, hi => by
    by_cases hm : n ∈ P
    · by_cases hin : i = n
      · rw [hin]; exact hm
      · have := all_there n (P.erase n) (hn.erase n) (fun d h => by
          have h1 := hd d (List.mem_of_mem_erase h)
          have h2 : d ≠ n := fun e => by subst e; exact (List.Nodup.not_mem_erase hn) h
          omega) (by rw [List.length_erase_of_mem hm]; omega) i (by omega)
        exact List.mem_of_mem_erase this
    · exfalso
      have hb : ∀ (m : Nat) (Q : List Nat), Q.Nodup → (∀ d ∈ Q, d < m) → Q.length ≤ m := by
        intro m
        induction m with
        | zero =>
          intro Q _ hq
          cases Q with
          | nil => simp
          | cons a t => exact absurd (hq a (List.mem_cons_self ..)) (by omega)
        | succ m ih =>
          intro Q hq hQ
          by_cases hmQ : m ∈ Q
          · have := ih (Q.erase m) (hq.erase m) (fun d h => by
              have h1 := hQ d (List.mem_of_mem_erase h)
              have h2 : d ≠ m := fun e => by subst e; exact (List.Nodup.not_mem_erase hq) h
              omega)
            rw [List.length_erase_of_mem hmQ] at this
            omega
          · have := ih Q hq (fun d h => by
              have h1 := hQ d h
              have h2 : d ≠ m := fun e => by subst e; exact hmQ h
              omega)
            omega
      have := hb n P hn (fun d h => by
        have h1 := hd d h
        have h2 : d ≠ n := fun e => by subst e; exact hm h
        omega)
      omega
end Florin
