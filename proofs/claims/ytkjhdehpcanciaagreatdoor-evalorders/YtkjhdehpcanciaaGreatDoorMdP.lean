/- Plain: rules as they are made, what they mean, and that their text is read so. No walk here. -/
import Derived.Test.YtkjhdehpcanciaaGreatDoorMdB
import Derived.Test.YtkjhdehpcanciaaGreatDoorMdC
import Derived.Test.YtkjhdehpcanciaaGreatDoorMGr
namespace Go.Proofs.YtkjhdehpcanciaaGreatDoor
open Go.RowKit Florin
set_option linter.unusedVariables false
set_option linter.unusedSimpArgs false

/-- How many blanks a gap has. -/
def gapN (k : Nat) : Nat := if k = 1 then 1 else if k = 2 then 2 else 0
theorem gapB_bl (k : Nat) : gapB k = bl (gapN k) := rfl
noncomputable def rqN (r : RelM) : Nat := gapN (andN r.gp 3)
noncomputable def mRng (x : Int × Int) : (Nat × Nat) × Bool := (numMn x, dotM x)
noncomputable def mRW (r : RelM) : RW := ⟨rqN r, rqN r, opsB.getD (andN r.op 7) 0, andN r.md 65535, r.nt, (numL r.rs).map mRng⟩
theorem mRng_t (k : Nat) (x : Int × Int) : rngW k k (mRng x).2 (mRng x).1 = numTx (bl k) x := by
  unfold rngW numTx mRng
  simp only
  cases dotM x with
  | true => simp only [if_true]; show nuT _ ++ _ = nuT _ ++ _; simp only [List.append_assoc]; rfl
  | false => simp only [Bool.false_eq_true, if_false, List.append_nil]; rfl
theorem mtail_t (k : Nat) : ∀ (x : Int × Int) (xs : List (Int × Int)), numTx (bl k) x ++ tailW k (xs.map mRng) = joinM (bl k ++ [44] ++ bl k) ((x :: xs).map (numTx (bl k)))
  | x, [] => (List.append_nil _).trans (joinM_one _ _).symm
  | x, y :: xs => by
    have e : joinM (bl k ++ [44] ++ bl k) ((x :: y :: xs).map (numTx (bl k))) = numTx (bl k) x ++ (bl k ++ [44] ++ bl k) ++ joinM (bl k ++ [44] ++ bl k) ((y :: xs).map (numTx (bl k))) := joinM_cons _ _ _ _
    rw [e, ← mtail_t k y xs]
    show _ ++ tailW k (mRng y :: xs.map mRng) = _
    rw [tailW, mRng_t]
    simp [List.append_assoc]
theorem mrngs_t (k : Nat) {xs : List (Int × Int)} (h : xs ≠ []) : rngsW k (xs.map mRng) = joinM (bl k ++ [44] ++ bl k) (xs.map (numTx (bl k))) := by
  cases xs with
  | nil => exact absurd rfl h
  | cons x xs => rw [List.map_cons, rngsW, mRng_t, mtail_t]
theorem numL_ne (rs : List (Int × Int)) : numL rs ≠ [] := by unfold numL; split <;> simp_all
theorem mRW_t (r : RelM) : (mRW r).t = relTx r := by
  unfold RW.t relW mRW relTx relPre
  simp only
  rw [mrngs_t _ (numL_ne _), gapB_bl]
  show _ :: (bl (rqN r) ++ ((if andN r.md 65535 = 0 then [] else 37 :: (bl (rqN r) ++ (nuT (andN r.md 65535) ++ bl (rqN r)))) ++ _)) = _
  by_cases h0 : andN r.md 65535 = 0
  · rw [if_pos h0, if_pos h0]
    cases r.nt <;> simp [rqN, List.append_assoc]
  · rw [if_neg h0, if_neg h0]
    cases r.nt <;> simp [rqN, List.append_assoc] <;> rfl
theorem mRW_v (r : RelM) : (mRW r).v = relMn r := by
  unfold RW.v mRW relMn
  simp only [List.map_map]
  rfl
theorem mRW_ok (r : RelM) : (mRW r).OK := by
  refine ⟨?_, ?_, ?_, ?_⟩
  · have h := (andN_is r.op 7 (by decide)).2
    show opsB.contains (opsB.getD (andN r.op 7) 0) = true
    generalize andN r.op 7 = k at h
    have : ∀ k, k ≤ 7 → opsB.contains (opsB.getD k 0) = true := by decide
    exact this k h
  · have h := (andN_is r.md 65535 (by decide)).2
    show andN r.md 65535 < _
    omega
  · show (numL r.rs).map mRng ≠ []
    simp [numL_ne]
  · intro x hx
    obtain ⟨y, _, rfl⟩ := List.mem_map.1 hx
    have h := numMn_le y
    refine ⟨h.1, by show (numMn y).2 < _; omega, fun e => ?_⟩
    have e' : dotM y = false := e
    unfold dotM at e'
    have := (Bool.or_eq_false_iff.1 e').1
    have h3 : (numMn y).1 = (numMn y).2 := by simpa using this
    exact h3
def lstL (xs : List RelM) : List RelM := if xs = [] then [⟨0, 0, 0, false, []⟩] else xs
def anyL (xs : List (List RelM)) : List (List RelM) := if xs = [] then [[]] else xs
theorem lstL_ne (xs : List RelM) : lstL xs ≠ [] := by unfold lstL; split <;> simp_all
theorem anyL_ne (xs : List (List RelM)) : anyL xs ≠ [] := by unfold anyL; split <;> simp_all
noncomputable def allTx (xs : List RelM) : List UInt8 := joinM [32, 97, 110, 100, 32] ((lstL xs).map relTx)
noncomputable def allMn (xs : List RelM) : List RelT := (lstL xs).map relMn
theorem mtailA_t : ∀ (x : RelM) (xs : List RelM), relTx x ++ tailA (xs.map mRW) = joinM [32, 97, 110, 100, 32] ((x :: xs).map relTx)
  | x, [] => (List.append_nil _).trans (joinM_one _ _).symm
  | x, y :: xs => by
    have e : joinM [32, 97, 110, 100, 32] ((x :: y :: xs).map relTx) = relTx x ++ [32, 97, 110, 100, 32] ++ joinM [32, 97, 110, 100, 32] ((y :: xs).map relTx) := joinM_cons _ _ _ _
    rw [e, ← mtailA_t y xs]
    show _ ++ tailA (mRW y :: xs.map mRW) = _
    rw [tailA, mRW_t]
    simp [List.append_assoc]
theorem mallW_t (xs : List RelM) : allW ((lstL xs).map mRW) = allTx xs := by
  unfold allTx
  have h0 := lstL_ne xs
  generalize lstL xs = l at h0
  cases l with
  | nil => exact absurd rfl h0
  | cons y l => rw [List.map_cons, allW, mRW_t]; exact mtailA_t y l
noncomputable def condTx (g : List UInt8) (xs : List (List RelM)) : List UInt8 := joinM ([32, 111, 114] ++ g ++ [32]) ((anyL xs).map allTx)
noncomputable def condMn (xs : List (List RelM)) : List (List RelT) := (anyL xs).map allMn
noncomputable def mCW (k : Nat) (xs : List RelM) : List RW × Nat := ((lstL xs).map mRW, k)
theorem bl_snoc (k : Nat) : bl (k + 1) = bl k ++ [32] := List.replicate_succ' ..
theorem mtailC_t (k : Nat) : ∀ (x : List RelM) (xs : List (List RelM)), allTx x ++ tailC (xs.map (mCW k)) = joinM ([32, 111, 114] ++ bl k ++ [32]) ((x :: xs).map allTx)
  | x, [] => (List.append_nil _).trans (joinM_one _ _).symm
  | x, y :: xs => by
    have e : joinM ([32, 111, 114] ++ bl k ++ [32]) ((x :: y :: xs).map allTx) = allTx x ++ ([32, 111, 114] ++ bl k ++ [32]) ++ joinM ([32, 111, 114] ++ bl k ++ [32]) ((y :: xs).map allTx) := joinM_cons _ _ _ _
    rw [e, ← mtailC_t k y xs]
    show _ ++ 32 :: 111 :: 114 :: (bl (k + 1) ++ (allW ((lstL y).map mRW) ++ _)) = _
    rw [mallW_t, bl_snoc]
    simp [List.append_assoc]
theorem mcondW_t (k : Nat) (xs : List (List RelM)) : condW ((anyL xs).map (mCW k)) = condTx (bl k) xs := by
  unfold condTx
  have h0 := anyL_ne xs
  generalize anyL xs = l at h0
  cases l with
  | nil => exact absurd rfl h0
  | cons y l =>
    rw [List.map_cons, condW]
    show allW ((lstL y).map mRW) ++ _ = _
    rw [mallW_t]; exact mtailC_t k y l
/-- The samples that are made. -/
def smpB (k : Nat) : List UInt8 := [[], [64, 105, 110, 116, 101, 103, 101, 114, 32, 49, 44, 32, 50, 49, 126, 50, 52, 44, 32, 226, 128, 166], [64, 100, 101, 99, 105, 109, 97, 108, 32, 48, 46, 48], [64, 32, 119, 104, 97, 116, 32, 101, 118, 101, 114, 32, 64], []].getD k []
theorem smpB_ok : ∀ k, k < 5 → SmpOK (smpB k) := by
  have h : ∀ k, k < 5 → (smpB k = [] ∨ (smpB k).head? = some 64) ∧ (∀ c ∈ smpB k, (c != 59) = true) ∧ sk (smpB k).reverse = (smpB k).reverse := by decide
  intro k hk
  obtain ⟨a, b, c⟩ := h k hk
  refine ⟨?_, b, c⟩
  rcases a with a | a
  · exact .inl a
  · cases hs : smpB k with
    | nil => exact .inl rfl
    | cons c t => rw [hs] at a; simp at a; exact .inr ⟨t, by rw [a]⟩
noncomputable def mcat (m : MadeM) : Nat := modM m.cat 6
noncomputable def msmp (m : MadeM) : List UInt8 := smpB (modM m.smp 5)
noncomputable def mqN (m : MadeM) : Nat := gapN (andN m.gp 3)
noncomputable def madeMn (m : MadeM) : RuleT := ⟨mcat m, if mcat m = 5 then [] else condMn m.any, msmp m⟩
noncomputable def madeTx (m : MadeM) : List UInt8 :=
  bl (mqN m) ++ wordW (mcat m) ++ bl (mqN m) ++ [58] ++ bl (mqN m) ++ (if mcat m = 5 then [] else condTx (bl (mqN m)) m.any) ++ [32] ++ msmp m ++ bl (mqN m)
noncomputable def mUW (m : MadeM) : UW := ⟨mcat m, mqN m, mqN m, if mcat m = 5 then [] else (anyL m.any).map (mCW (mqN m)), 1, msmp m, mqN m⟩
theorem mUW_t (m : MadeM) : bl (mqN m) ++ (mUW m).t = madeTx m := by
  unfold UW.t mUW madeTx
  simp only
  by_cases h : mcat m = 5
  · rw [if_pos h, if_pos h, show condW [] = [] from rfl, show bl 1 = [32] from rfl]
    simp [List.append_assoc]
  · rw [if_neg h, if_neg h, mcondW_t, show bl 1 = [32] from rfl]
    simp [List.append_assoc]
theorem mUW_v (m : MadeM) : (mUW m).v = madeMn m := by
  unfold UW.v mUW madeMn
  simp only
  by_cases h : mcat m = 5
  · rw [if_pos h, if_pos h]; rfl
  · rw [if_neg h, if_neg h]
    unfold condMn
    rw [List.map_map]
    congr 1
    apply List.map_congr_left
    intro x _
    show ((lstL x).map mRW).map RW.v = allMn x
    rw [List.map_map]
    unfold allMn
    apply List.map_congr_left
    intro y _
    exact mRW_v y
theorem mcat_lt (m : MadeM) : mcat m < 6 := by have := (modM_is m.cat 6 (by decide) (by decide)).2; unfold mcat; omega
theorem mUW_ok (m : MadeM) : (mUW m).OK := by
  refine ⟨mcat_lt m, ?_, ?_, ?_⟩
  · show mcat m = 5 ↔ (if mcat m = 5 then [] else (anyL m.any).map (mCW (mqN m))) = []
    by_cases h : mcat m = 5
    · rw [if_pos h]; simp [h]
    · rw [if_neg h]; simp [h, anyL_ne]
  · intro y hy
    have hy : y ∈ (if mcat m = 5 then [] else (anyL m.any).map (mCW (mqN m))) := hy
    by_cases h : mcat m = 5
    · rw [if_pos h] at hy; cases hy
    · rw [if_neg h] at hy
      obtain ⟨x, _, rfl⟩ := List.mem_map.1 hy
      refine ⟨by show (lstL x).map mRW ≠ []; simp [lstL_ne], ?_⟩
      intro z hz
      have hz : z ∈ (lstL x).map mRW := hz
      obtain ⟨u, _, rfl⟩ := List.mem_map.1 hz
      exact mRW_ok u
  · have := (modM_is m.smp 5 (by decide) (by decide)).2
    exact smpB_ok _ (by unfold modM at *; omega)
/-- Rules in a row, each with the gap of the next one behind its sign. -/
noncomputable def mUL : List MadeM → List (UW × Nat)
  | [] => []
  | [m] => [(mUW m, 0)]
  | m :: n :: r => (mUW m, mqN n) :: mUL (n :: r)
theorem mUL_map : ∀ ms : List MadeM, (mUL ms).map (·.1) = ms.map mUW
  | [] => rfl
  | [m] => rfl
  | m :: n :: r => by rw [mUL, List.map_cons, mUL_map (n :: r)]; rfl
theorem mUL_t (z : Option Nat) : ∀ (m : MadeM) (ms : List MadeM), bl (mqN m) ++ rulesW z (mUL (m :: ms)) = joinM [59] ((m :: ms).map madeTx) ++ endW z
  | m, [] => by
    rw [mUL, rulesW, ← List.append_assoc, mUW_t, List.map_cons, List.map_nil, joinM_one]
  | m, n :: r => by
    have ih := mUL_t z n r
    have hne : ∃ a b, mUL (n :: r) = a :: b := by cases r with | nil => exact ⟨_, _, rfl⟩ | cons x r => exact ⟨_, _, rfl⟩
    obtain ⟨a, b, hab⟩ := hne
    have e : joinM [59] ((m :: n :: r).map madeTx) = madeTx m ++ [59] ++ joinM [59] ((n :: r).map madeTx) := joinM_cons _ _ _ _
    rw [mUL, hab, rulesW, ← hab, ih, e, ← mUW_t m]
    simp [List.append_assoc]
/-- Few enough to be read. -/
def madeB (m : MadeM) : Prop := m.any.length ≤ 4 ∧ ∀ a ∈ m.any, a.length ≤ 4
theorem lstL_len {xs : List RelM} (h : xs.length ≤ 4) : (lstL xs).length ≤ 4 := by unfold lstL; split <;> simp_all
theorem anyL_len {xs : List (List RelM)} (h : xs.length ≤ 4) : (anyL xs).length ≤ 4 := by unfold anyL; split <;> simp_all
theorem sum_le (n : Nat) : ∀ l : List Nat, (∀ x ∈ l, x ≤ n) → l.sum ≤ l.length * n
  | [], _ => by simp
  | x :: l, h => by
    have h1 := sum_le n l (fun y hy => h y (List.Mem.tail _ hy))
    have h2 := h x (List.Mem.head _)
    rw [List.sum_cons, List.length_cons, Nat.add_mul]; omega
theorem mrel_le {m : MadeM} (h : madeB m) : nRel (mUW m).c ≤ 16 := by
  have hc : (mUW m).c = if mcat m = 5 then [] else (anyL m.any).map (mCW (mqN m)) := rfl
  rw [hc]
  by_cases h5 : mcat m = 5
  · rw [if_pos h5]; exact Nat.zero_le _
  · rw [if_neg h5]
    unfold nRel
    rw [List.map_map]
    have h1 := anyL_len h.1
    have h2 := sum_le 4 (((anyL m.any).map ((fun y : List RW × Nat => y.1.length) ∘ mCW (mqN m)))) (by
      intro x hx
      obtain ⟨y, hy, rfl⟩ := List.mem_map.1 hx
      show ((lstL y).map mRW).length ≤ 4
      rw [List.length_map]
      apply lstL_len
      unfold anyL at hy
      split at hy
      · simp at hy; subst hy; simp
      · exact h.2 y hy)
    rw [List.length_map] at h2
    omega
/-- The rules that are made of a row: those of a category that there is already are passed by. -/
noncomputable def keepM : List Nat → List MadeM → List MadeM
  | _, [] => []
  | seen, m :: ms => if seen.contains (mcat m) then keepM seen ms else m :: keepM (mcat m :: seen) ms
theorem keep_sub : ∀ (ms : List MadeM) (seen : List Nat), (∀ m ∈ keepM seen ms, m ∈ ms ∧ seen.contains (mcat m) = false) ∧ ((keepM seen ms).map mcat).Nodup ∧ (keepM seen ms).length ≤ ms.length
  | [], seen => ⟨(fun m h => by cases h), List.nodup_nil, Nat.le_refl _⟩
  | m :: ms, seen => by
    by_cases h : seen.contains (mcat m)
    · obtain ⟨a, b, c⟩ := keep_sub ms seen
      unfold keepM
      rw [if_pos h]
      exact ⟨fun x hx => ⟨List.Mem.tail _ (a x hx).1, (a x hx).2⟩, b, by rw [List.length_cons]; omega⟩
    · obtain ⟨a, b, c⟩ := keep_sub ms (mcat m :: seen)
      unfold keepM
      rw [if_neg h]
      refine ⟨?_, ?_, by rw [List.length_cons, List.length_cons]; omega⟩
      · intro x hx
        rcases List.mem_cons.1 hx with rfl | hx
        · exact ⟨List.Mem.head _, by simpa using h⟩
        · have := a x hx
          exact ⟨List.Mem.tail _ this.1, by have h2 := this.2; rw [List.contains_cons, Bool.or_eq_false_iff] at h2; exact h2.2⟩
      · rw [List.map_cons, List.nodup_cons]
        refine ⟨?_, b⟩
        intro hm
        obtain ⟨x, hx, he⟩ := List.mem_map.1 hm
        have h2 := (a x hx).2
        rw [List.contains_cons, Bool.or_eq_false_iff] at h2
        have := h2.1
        simp [he] at this
noncomputable def endT (ks : List MadeM) (e : Int) : List UInt8 := if ks ≠ [] ∧ andN e 1 = 1 then 59 :: bl (gapN (andN (e >>> 1) 3)) else []
noncomputable def madesMn (ms : List MadeM) : List RuleT := (keepM [] ms).map madeMn
noncomputable def madesTx (ms : List MadeM) (e : Int) : List UInt8 := joinM [59] ((keepM [] ms).map madeTx) ++ endT (keepM [] ms) e
/-- What is written of rules as they are made is read as they are meant. -/
theorem mades_read (ms : List MadeM) (e : Int) (h : ms.length ≤ 8) (hb : ∀ m ∈ ms, madeB m) : rulesP (madesTx ms e) = .ok (madesMn ms) [] := by
  obtain ⟨k1, k2, k3⟩ := keep_sub ms []
  unfold madesTx madesMn endT
  generalize keepM [] ms = ks at *
  cases ks with
  | nil =>
    have : joinM [59] (List.map madeTx []) ++ (if (([] : List MadeM) ≠ [] ∧ andN e 1 = 1) then 59 :: bl (gapN (andN (e >>> 1) 3)) else []) = [] := by rw [if_neg (by simp)]; rfl
    rw [this]; rfl
  | cons m ks =>
    obtain ⟨z, hz⟩ : ∃ z : Option Nat, (if (m :: ks ≠ [] ∧ andN e 1 = 1) then 59 :: bl (gapN (andN (e >>> 1) 3)) else []) = endW z := by
      by_cases h1 : andN e 1 = 1
      · exact ⟨some (gapN (andN (e >>> 1) 3)), by rw [if_pos ⟨by simp, h1⟩]; rfl⟩
      · exact ⟨none, by rw [if_neg (fun hh => h1 hh.2)]; rfl⟩
    rw [hz, ← mUL_t z m ks]
    have hmp := mUL_map (m :: ks)
    have e1 : (mUL (m :: ks)).map (fun x => nRel x.1.c) = (m :: ks).map fun m => nRel (mUW m).c := by
      have := congrArg (List.map fun x : UW => nRel x.c) hmp
      rwa [List.map_map, List.map_map] at this
    have e2 : (mUL (m :: ks)).map (fun x => x.1.cat) = (m :: ks).map mcat := by
      have := congrArg (List.map fun x : UW => x.cat) hmp
      rwa [List.map_map, List.map_map] at this
    have e3 : (mUL (m :: ks)).map (fun x => x.1.v) = (m :: ks).map madeMn := by
      have := congrArg (List.map fun x : UW => x.v) hmp
      rw [List.map_map, List.map_map] at this
      refine this.trans ?_
      apply List.map_congr_left
      intro x _
      exact mUW_v x
    rw [rules_of (mqN m) z (mUL (m :: ks)) ?_ ?_ ?_, e3]
    · rw [e1]
      have h2 := sum_le 16 ((m :: ks).map fun m => nRel (mUW m).c) (by
        intro x hx
        obtain ⟨y, hy, rfl⟩ := List.mem_map.1 hx
        exact mrel_le (hb y (k1 y hy).1))
      rw [List.length_map] at h2
      have : (m :: ks).length * 16 ≤ 8 * 16 := Nat.mul_le_mul_right _ (by omega)
      omega
    · intro x hx
      have : x.1 ∈ (m :: ks).map mUW := by rw [← hmp]; exact List.mem_map_of_mem hx
      obtain ⟨y, _, he⟩ := List.mem_map.1 this
      rw [← he]; exact mUW_ok y
    · rw [e2]; exact k2
end Go.Proofs.YtkjhdehpcanciaaGreatDoor
