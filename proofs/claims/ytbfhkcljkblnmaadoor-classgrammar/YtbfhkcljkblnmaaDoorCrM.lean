/- A class as it is written is read as that class: in plain words. -/
import Derived.Test.YtbfhkcljkblnmaaDoorCrL
namespace Go.Proofs.YtbfhkcljkblnmaaDoor
open Go.RowKit Florin
set_option linter.unusedVariables false
set_option linter.unusedSimpArgs false
set_option maxRecDepth 100000 in
theorem hx_fin : ∀ d : Fin 16, hexD (hx d.val) = some d.val := by decide
theorem hx_d {d : Nat} (h : d < 16) : hexD (hx d) = some d := hx_fin ⟨d, h⟩
theorem hexF_at : ∀ (l : List UInt8) (a : Nat), l.foldl (fun n c => n * 16 + (hexD c).getD 0) a = a * 16 ^ l.length + hexN l
  | [], a => by simp [hexN]
  | c :: t, a => by
    have h1 := hexF_at t (a * 16 + (hexD c).getD 0)
    have h2 := hexF_at t (0 * 16 + (hexD c).getD 0)
    unfold hexN
    rw [List.foldl_cons, List.foldl_cons, h1, h2, List.length_cons, Nat.pow_succ]
    rw [Nat.add_mul, Nat.zero_mul, Nat.zero_add, Nat.mul_assoc, Nat.mul_comm 16 (16 ^ t.length)]
    omega
theorem hexN_cons (c : UInt8) (l : List UInt8) : hexN (c :: l) = (hexD c).getD 0 * 16 ^ l.length + hexN l := by
  have h := hexF_at l ((hexD c).getD 0)
  unfold hexN at *
  rw [List.foldl_cons, Nat.zero_mul, Nat.zero_add, h]
theorem hxF_val : ∀ (f n : Nat) (l : List UInt8), 0 < f → n < 16 ^ f → hexN (hxF f n l) = n * 16 ^ l.length + hexN l
  | 0, _, _, h, _ => absurd h (by omega)
  | f + 1, n, l, _, h => by
    unfold hxF
    split
    · rename_i h16
      rw [hexN_cons, hx_d h16]; rfl
    · rename_i h16
      have hf : 0 < f := by
        cases f with
        | zero => simp at h; omega
        | succ f => omega
      have h2 : n / 16 < 16 ^ f := by rw [Nat.pow_succ] at h; omega
      rw [hxF_val f (n / 16) _ hf h2, hexN_cons, hx_d (Nat.mod_lt _ (by decide)), List.length_cons, Nat.pow_succ]
      have e : n * 16 ^ l.length = n / 16 * (16 ^ l.length * 16) + n % 16 * 16 ^ l.length := by
        rw [Nat.mul_comm (16 ^ l.length) 16, ← Nat.mul_assoc, ← Nat.add_mul]
        congr 1
        omega
      show _ + (n % 16 * 16 ^ l.length + hexN l) = _
      omega
theorem hxF_len6 : ∀ (f n k : Nat) (l : List UInt8), 0 < k → n < 16 ^ k → (hxF f n l).length ≤ l.length + k
  | 0, _, _, _, _, _ => by unfold hxF; omega
  | f + 1, n, k, l, hk, h => by
    unfold hxF
    split
    · rw [List.length_cons]; omega
    · rename_i h16
      obtain ⟨j, rfl⟩ : ∃ j, k = j + 1 := ⟨k - 1, by omega⟩
      have hj : 0 < j := by
        cases j with
        | zero => simp at h; omega
        | succ j => omega
      have h2 : n / 16 < 16 ^ j := by rw [Nat.pow_succ] at h; omega
      have := hxF_len6 f (n / 16) j (hx (n % 16) :: l) hj h2
      rw [List.length_cons] at this
      omega
theorem hxF_all : ∀ (f n : Nat) (l : List UInt8), (∀ c ∈ l, (hexD c).isSome = true) → ∀ c ∈ hxF f n l, (hexD c).isSome = true
  | 0, _, l, h => h
  | f + 1, n, l, h => by
    unfold hxF
    split
    · rename_i h16
      intro c hc
      rcases List.mem_cons.1 hc with rfl | hc
      · rw [hx_d h16]; rfl
      · exact h c hc
    · refine hxF_all f _ _ (fun c hc => ?_)
      rcases List.mem_cons.1 hc with rfl | hc
      · rw [hx_d (Nat.mod_lt _ (by decide))]; rfl
      · exact h c hc
theorem hxF_ne : ∀ (f n : Nat) (l : List UInt8), 0 < f → hxF f n l ≠ []
  | 0, _, _, h => absurd h (by omega)
  | f + 1, n, l, _ => by
    unfold hxF
    split
    · simp
    · cases f with
      | zero => simp [hxF]
      | succ f => exact hxF_ne (f + 1) _ _ (by omega)
theorem hexRun_app : ∀ (f : Nat) (h m : List UInt8), h.length ≤ f → (∀ c ∈ h, (hexD c).isSome = true) → hexRun f (h ++ 125 :: m) = h
  | 0, h, m, hl, _ => by
    obtain rfl : h = [] := List.length_eq_zero_iff.1 (by omega)
    rfl
  | f + 1, [], m, _, _ => by
    show hexRun (f + 1) (125 :: m) = []
    unfold hexRun
    rw [show hexD 125 = none from by decide]
    rfl
  | f + 1, c :: t, m, hl, ha => by
    rw [List.cons_append]
    unfold hexRun
    rw [if_pos (ha c (List.mem_cons_self ..)), hexRun_app f t m (by simpa using hl) (fun x hx => ha x (List.mem_cons_of_mem _ hx))]
theorem coded_hx (n : Nat) (hn : n ≤ 1114111) (m : List UInt8) : codedP (hxS n ++ 125 :: m) = (n, (hxS n).length + 4) := by
  have hl : (hxS n).length ≤ 6 := by
    have := hxF_len6 17 n 6 [] (by decide) (Nat.lt_of_le_of_lt hn (by decide))
    rw [List.length_nil] at this
    unfold hxS
    omega
  have ha := hxF_all 17 n [] (fun c h => by cases h)
  have hr := hexRun_app 6 (hxS n) m hl ha
  have hv : hexN (hxS n) = n := by
    have := hxF_val 17 n [] (by decide) (Nat.lt_of_le_of_lt hn (by decide))
    unfold hxS
    rw [this]
    simp [hexN]
  unfold codedP
  rw [hr, hv, if_neg]
  rintro (h | h | h)
  · exact hxF_ne 17 n [] (by decide) h
  · omega
  · rw [List.drop_left] at h
    cases h
theorem al_cases {n : Nat} (h : isAl n = true) : (48 ≤ n ∧ n ≤ 57) ∨ (65 ≤ n ∧ n ≤ 90) ∨ (97 ≤ n ∧ n ≤ 122) := by
  unfold isAl at h
  simpa [or_assoc] using h
theorem num_wr (n : Nat) (hn : n ≤ 1114111) (m : List UInt8) : numP (wrC n ++ m) = (n, (wrC n).length) ∧ bl (wrC n ++ m) = wrC n ++ m := by
  unfold wrC
  cases ha : isAl n with
  | true =>
    have hc := al_cases ha
    have hu : (UInt8.ofNat n).toNat = n := by rw [UInt8.toNat_ofNat']; omega
    rw [if_pos rfl]
    refine ⟨?_, bl_no (fun e => by rw [e] at hu; simp at hu; omega) m⟩
    show numP (UInt8.ofNat n :: m) = _
    unfold numP
    have hp : ([92] : List UInt8).isPrefixOf (UInt8.ofNat n :: m) = false := by
      have hne : ((92 : UInt8) == UInt8.ofNat n) = false := by
        cases hq : ((92 : UInt8) == UInt8.ofNat n) with
        | false => rfl
        | true =>
          have h3 : (92 : UInt8) = UInt8.ofNat n := by simpa using hq
          rw [← h3] at hu
          simp at hu
          omega
      simp [List.isPrefixOf, hne]
    rw [hp, if_neg (by decide)]
    have hl := lead_ascii (c := UInt8.ofNat n) m (by omega)
    have hcd : code (UInt8.ofNat n :: m) = n := by
      unfold code codeN
      have hb : bt (UInt8.ofNat n :: m) 0 = n := by unfold bt; simpa using hu
      rw [hb]
      have hw : wid n = 1 := by unfold wid; rw [if_pos (by omega)]
      rw [if_pos hw]
    have hm : isMark n = false := by unfold isMark; simp; omega
    rw [hl, hcd, if_neg (by rintro (h | h); cases h; rw [hm] at h; cases h)]
    rfl
  | false =>
    rw [if_neg (by decide)]
    refine ⟨?_, bl_no (by decide) _⟩
    have e : ([92, 117, 123] ++ hxS n ++ [125] ++ m : List UInt8) = 92 :: 117 :: 123 :: (hxS n ++ 125 :: m) := by simp
    rw [e]
    unfold numP
    rw [if_pos (by rfl)]
    show escP (117 :: 123 :: (hxS n ++ 125 :: m)) = _
    unfold escP
    rw [if_pos (by rfl)]
    show codedP (hxS n ++ 125 :: m) = _
    rw [coded_hx n hn m]
    simp
theorem wr_pos (n : Nat) : 0 < (wrC n).length := by
  unfold wrC
  split <;> simp
theorem nf_wr (k : Int) (n : Nat) (hn : n ≤ 1114111) (hk : k ≤ (n : Int)) (m : List UInt8) : nfP k (wrC n ++ m) = ((n : Int), true, m) := by
  obtain ⟨h1, h2⟩ := num_wr n hn m
  unfold nfP
  rw [h2, h1, if_neg (by
    have := wr_pos n
    rintro (h | h)
    · simp only at h; omega
    · simp only at h; omega)]
  rw [List.drop_left]
/-- How a text goes on behind a range as it is written. -/
def goesOn (m : List UInt8) : Prop := bl m = m ∧ ctk [45] m = false
theorem ctk_cons {a c : UInt8} (h : a ≠ c) (hb : c ≠ 32) (t : List UInt8) : ctk [a] (c :: t) = false := by
  unfold ctk
  rw [bl_no hb]
  simp [List.isPrefixOf, h]
theorem wr_head (n : Nat) (hn : n ≤ 1114111) : ∃ c t, wrC n = c :: t ∧ c ≠ 32 ∧ c ≠ 45 ∧ c ≠ 93 ∧ c ≠ 94 := by
  unfold wrC
  cases ha : isAl n with
  | true =>
    have hc := al_cases ha
    have hu : (UInt8.ofNat n).toNat = n := by rw [UInt8.toNat_ofNat']; omega
    refine ⟨UInt8.ofNat n, [], rfl, ?_, ?_, ?_, ?_⟩
    all_goals (intro e; rw [e] at hu; simp at hu; omega)
  | false => exact ⟨92, 117 :: 123 :: (hxS n ++ [125]), by simp, by decide, by decide, by decide, by decide⟩
theorem span_one (x1 x2 : Nat) (h : x1 ≤ x2) (h2 : x2 ≤ 1114111) (m : List UInt8) (hm : goesOn m) : spanP (oneC ((x1 : Int), (x2 : Int)) ++ m) = (((x1 : Int), (x2 : Int)), true, m) := by
  by_cases he : x1 = x2
  · subst he
    have e : oneC ((x1 : Int), (x1 : Int)) = wrC x1 := by unfold oneC; simp
    rw [e]
    unfold spanP
    rw [nf_wr 0 x1 h2 (by omega) m]
    rw [if_neg (by simp), if_neg (by rw [hm.2]; decide), hm.1]
  · have e : oneC ((x1 : Int), (x2 : Int)) = wrC x1 ++ (45 :: wrC x2) := by
      unfold oneC
      rw [if_neg (by omega)]
      simp
    rw [e, List.append_assoc]
    unfold spanP
    rw [nf_wr 0 x1 (by omega) (by omega) _]
    have hc : ctk [45] (45 :: wrC x2 ++ m) = true := by unfold ctk; rw [List.cons_append, bl_no (by decide)]; rfl
    have hr : ctkR [45] (45 :: wrC x2 ++ m) = wrC x2 ++ m := by unfold ctkR; rw [if_pos hc, List.cons_append, bl_no (by decide)]; rfl
    rw [if_neg (by simp), if_pos hc]
    dsimp only
    rw [hr, nf_wr (x1 : Int) x2 h2 (by omega) m]
theorem one_head (x1 x2 : Nat) (h2 : x1 ≤ 1114111) (m : List UInt8) : ∃ c t, oneC ((x1 : Int), (x2 : Int)) ++ m = c :: t ∧ c ≠ 32 ∧ c ≠ 45 ∧ c ≠ 93 ∧ c ≠ 94 := by
  obtain ⟨c, t, h1, h3⟩ := wr_head x1 h2
  unfold oneC
  rw [show (((x1 : Int), (x2 : Int)).1).toNat = x1 by simp, h1]
  exact ⟨c, _, rfl, h3⟩
def okC (c : List (Int × Int)) : Prop := ∀ x ∈ c, 0 ≤ x.1 ∧ x.1 ≤ x.2 ∧ x.2 ≤ 1114111
theorem flat_on : ∀ (c : List (Int × Int)), okC c → goesOn (c.flatMap oneC ++ [93]) ∧ ctk [94] (c.flatMap oneC ++ [93]) = false
  | [], _ => ⟨⟨rfl, rfl⟩, rfl⟩
  | x :: t, h => by
    obtain ⟨y1, y2⟩ := x
    have hx := h _ (List.mem_cons_self ..)
    simp only at hx
    obtain ⟨x1, rfl⟩ : ∃ x : Nat, y1 = (x : Int) := ⟨y1.toNat, by omega⟩
    obtain ⟨x2, rfl⟩ : ∃ x : Nat, y2 = (x : Int) := ⟨y2.toNat, by omega⟩
    obtain ⟨c, u, h1, h3, h4, h5, h6⟩ := one_head x1 x2 (by omega) (t.flatMap oneC ++ [93])
    rw [List.flatMap_cons, List.append_assoc, h1]
    exact ⟨⟨bl_no h3 _, ctk_cons (Ne.symm h4) h3 _⟩, ctk_cons (Ne.symm h6) h3 _⟩
theorem spans_flat : ∀ (c : List (Int × Int)) (f : Nat), okC c → (c.flatMap oneC ++ [93]).length < f → spansP f (c.flatMap oneC ++ [93]) = (c, true, [])
  | _, 0, _, h => absurd h (by omega)
  | [], f + 1, _, _ => rfl
  | x :: t, f + 1, h, hf => by
    obtain ⟨y1, y2⟩ := x
    have hx := h _ (List.mem_cons_self ..)
    have ht : okC t := fun z hz => h z (List.mem_cons_of_mem _ hz)
    simp only at hx
    obtain ⟨x1, rfl⟩ : ∃ x : Nat, y1 = (x : Int) := ⟨y1.toNat, by omega⟩
    obtain ⟨x2, rfl⟩ : ∃ x : Nat, y2 = (x : Int) := ⟨y2.toNat, by omega⟩
    obtain ⟨c, u, h1, h3, h4, h5, h6⟩ := one_head x1 x2 (by omega) (t.flatMap oneC ++ [93])
    have hs := span_one x1 x2 (by omega) (by omega) (t.flatMap oneC ++ [93]) (flat_on t ht).1
    have hbl : bl (oneC ((x1 : Int), (x2 : Int)) ++ (t.flatMap oneC ++ [93])) = oneC ((x1 : Int), (x2 : Int)) ++ (t.flatMap oneC ++ [93]) := by rw [h1]; exact bl_no h3 _
    have hct : ctk [93] (oneC ((x1 : Int), (x2 : Int)) ++ (t.flatMap oneC ++ [93])) = false := by rw [h1]; exact ctk_cons (Ne.symm h5) h3 _
    have hlen : (t.flatMap oneC ++ [93]).length < (oneC ((x1 : Int), (x2 : Int)) ++ (t.flatMap oneC ++ [93])).length := by
      have := (span_le (oneC ((x1 : Int), (x2 : Int)) ++ (t.flatMap oneC ++ [93]))).2 (by rw [hs])
      rw [hs] at this
      exact this.1
    rw [List.flatMap_cons, List.append_assoc] at hf ⊢
    unfold spansP
    rw [if_neg (by rw [hct]; decide), hbl, hs, if_pos rfl]
    dsimp only
    rw [spans_flat t f ht (by omega)]
theorem class_str (c : List (Int × Int)) (h : okC c) : classP (strC c) = (c, false, true, []) := by
  have e : strC c = 91 :: (c.flatMap oneC ++ [93]) := by unfold strC; simp
  obtain ⟨⟨h1, _⟩, h3⟩ := flat_on c h
  have hc : ctk [91] (strC c) = true := by rw [e]; unfold ctk; rw [bl_no (by decide)]; rfl
  have hr : ctkR [91] (strC c) = c.flatMap oneC ++ [93] := by unfold ctkR; rw [if_pos hc, e, bl_no (by decide)]; rfl
  have hin : inP (strC c) = c.flatMap oneC ++ [93] := by unfold inP; rw [hr, ctkR_no h3, h1]
  rw [class_yes hc rfl, hr, h3, hin, spans_flat c _ h (by omega)]
  rfl
theorem ok_settled {c : List (Int × Int)} (h : settledC c) : okC c := fun x hx => by
  obtain ⟨k, hk, rfl⟩ := List.getElem_of_mem hx
  have := settled_at (a := 0) h k hk
  unfold cTop at this
  exact this
/-- What is read of a class as it is written is that class. -/
theorem back_is {c d : List (Int × Int)} (hc : settledC c) (hd : settledC d) (hm : ∀ z, memC d z ↔ 0 ≤ z ∧ z ≤ cTop ∧ (false != hasC c z) = true) : d = c := by
  refine settled_ext (a := 0) (b := 0) hd hc (fun r => ?_)
  rw [hm r, ← hasC_iff]
  constructor
  · rintro ⟨_, _, h⟩
    simpa using h
  · intro h
    have h2 := settled_ge (a := 0) hc r ((hasC_iff c r).1 h)
    exact ⟨h2.1, h2.2, by rw [h]; rfl⟩
end Go.Proofs.YtbfhkcljkblnmaaDoor
