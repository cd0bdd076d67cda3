/- Rules as they are made, one behind the other: the plain part. -/
import Derived.Test.YtkjhdehpcanciaaGreatDoorMdV
namespace Go.Proofs.YtkjhdehpcanciaaGreatDoor
open Go.RowKit Florin
set_option linter.unusedVariables false
set_option linter.unusedSimpArgs false
theorem keep_snoc (x : MadeM) : ∀ (l : List MadeM) (s : List Nat), keepM s (l ++ [x]) = if (s.contains (mcat x) || (keepM s l).any (fun m => mcat m == mcat x)) = true then keepM s l else keepM s l ++ [x]
  | [], s => by
    show keepM s [x] = _
    unfold keepM
    by_cases h : s.contains (mcat x) = true
    · rw [if_pos h, if_pos (by rw [h]; rfl)]; rfl
    · have h' : s.contains (mcat x) = false := by simpa using h
      rw [if_neg h, if_neg (by rw [h']; simp [keepM])]; rfl
  | m :: l, s => by
    show keepM s (m :: (l ++ [x])) = _
    unfold keepM
    by_cases h : s.contains (mcat m) = true
    · rw [if_pos h, if_pos h]; exact keep_snoc x l s
    · rw [if_neg h, if_neg h, keep_snoc x l (mcat m :: s)]
      have e : ((mcat m :: s).contains (mcat x) || (keepM (mcat m :: s) l).any fun m => mcat m == mcat x) = (s.contains (mcat x) || (m :: keepM (mcat m :: s) l).any fun m => mcat m == mcat x) := by
        rw [List.contains_cons, List.any_cons, Bool.beq_comm (a := mcat x)]
        cases (mcat m == mcat x) <;> cases s.contains (mcat x) <;> simp
      rw [e]
      by_cases h2 : (s.contains (mcat x) || (m :: keepM (mcat m :: s) l).any fun m => mcat m == mcat x) = true
      · rw [if_pos h2, if_pos h2]
      · rw [if_neg h2, if_neg h2]; rfl
/-- Which categories there are already. -/
noncomputable def sfM (ks : List MadeM) (c : Nat) : Bool := ks.any (fun m => mcat m == c)
def seenA (f : Nat → Bool) : Array Value := #[.bool (f 0), .bool (f 1), .bool (f 2), .bool (f 3), .bool (f 4), .bool (f 5)]
theorem seen_get (f : Nat → Bool) : ∀ c, c < 6 → (seenA f)[c]? = some (.bool (f c))
  | 0, _ => rfl
  | 1, _ => rfl
  | 2, _ => rfl
  | 3, _ => rfl
  | 4, _ => rfl
  | 5, _ => rfl
  | c + 6, h => absurd h (by omega)
theorem seen_set (f : Nat → Bool) : ∀ c, c < 6 → (seenA f).setIfInBounds c (.bool true) = seenA (fun i => if i = c then true else f i)
  | 0, _ => rfl
  | 1, _ => rfl
  | 2, _ => rfl
  | 3, _ => rfl
  | 4, _ => rfl
  | 5, _ => rfl
  | c + 6, h => absurd h (by omega)
theorem sf_snoc (ks : List MadeM) (m : MadeM) : sfM (ks ++ [m]) = fun i => if i = mcat m then true else sfM ks i := by
  funext i
  unfold sfM
  rw [List.any_append]
  by_cases h : i = mcat m
  · simp [h]
  · have : (mcat m == i) = false := by simpa using fun e => h e.symm
    simp [h, this]
theorem keep_take {ms : List MadeM} {k : Nat} {m : MadeM} (h : ms[k]? = some m) : keepM [] (ms.take (k + 1)) = if sfM (keepM [] (ms.take k)) (mcat m) = true then keepM [] (ms.take k) else keepM [] (ms.take k) ++ [m] := by
  obtain ⟨hj, hx⟩ := List.getElem?_eq_some_iff.1 h
  rw [List.take_succ_eq_append_getElem hj, hx, keep_snoc]
  simp [sfM]
theorem made_cells {w wq : World} {ms : List MadeM} {cs : List Value} {b off k : Nat} {m : MadeM} (h : ListAt (MadeAt w) ms cs) (hc : ∀ j, j < ms.length * 4 → w.cell? ⟨b, off + j, none⟩ = cs[j]?) (hb : b < w.heap.size) (hq : Below w.heap.size w wq) (hx : ms[k]? = some m) :
    ∃ v, AnymAt w m.any v ∧ wq.cell? ⟨b, off + k * 4, none⟩ = some (.int .i64 m.cat) ∧ wq.cell? ⟨b, off + k * 4 + 1, none⟩ = some (.int .i64 m.gp) ∧ wq.cell? ⟨b, off + k * 4 + 2, none⟩ = some (.int .i64 m.smp) ∧ wq.cell? ⟨b, off + k * 4 + 3, none⟩ = some v := by
  obtain ⟨hj, hxj⟩ := List.getElem?_eq_some_iff.1 hx
  obtain ⟨cj, ⟨vj, hcj, hnj⟩, hgj⟩ := ListAt.get (sz := 4) (fun x c ⟨u, e, _⟩ => by rw [e]; rfl) h k hj
  rw [hxj] at hcj hnj
  have CE : ∀ i, i < 4 → wq.cell? ⟨b, off + k * 4 + i, none⟩ = cj[i]? := fun i hi => by
    rw [Nat.add_assoc]
    exact (hq.cell (p := ⟨b, off + (k * 4 + i), none⟩) hb).trans ((hc (k * 4 + i) (by omega)).trans (hgj i hi))
  rw [hcj] at CE
  exact ⟨vj, hnj, CE 0 (by decide), CE 1 (by decide), CE 2 (by decide), CE 3 (by decide)⟩
theorem madeTx_len {m : MadeM} (hb : madeB m) (hr : ∀ a ∈ m.any, ∀ r ∈ a, r.rs.length ≤ 5) : (madeTx m).length ≤ 3400 := by
  have hg : (bl (mqN m)).length ≤ 2 := gapB_len (andN m.gp 3)
  have hw : ∀ k, k < 6 → (wordW k).length ≤ 5 := by decide
  have h1 := hw (mcat m) (mcat_lt m)
  have h5 : (msmp m).length ≤ 22 := smp_len _ (by have := (modM_is m.smp 5 (by decide) (by decide)).2; omega)
  have h6 : (if mcat m = 5 then [] else condTx (bl (mqN m)) m.any).length ≤ 3300 := by
    split
    · simp
    · unfold condTx
      have h1 := joinM_len ([32, 111, 114] ++ bl (mqN m) ++ [32]) 800 ((anyL m.any).map allTx) (fun l hl => by
        obtain ⟨x, hx, rfl⟩ := List.mem_map.1 hl
        exact allTx_len (anyL_b hb.2 x hx) (anyL_r hr x hx))
      rw [List.length_map] at h1
      have h3 := anyL_len hb.1
      have h2 : (anyL m.any).length * (800 + ([32, 111, 114] ++ bl (mqN m) ++ [32]).length) ≤ 4 * 806 := Nat.mul_le_mul h3 (by rw [List.length_append, List.length_append]; simp only [List.length_cons, List.length_nil]; omega)
      omega
  unfold madeTx
  simp only [List.length_append, List.length_cons, List.length_nil]
  omega
theorem RulesAt.move {w w' : World} {base : Nat} {xs : List RuleT} {v : Value} (h : RulesAt w base xs v) (hb : Below w.heap.size w w') : RulesAt w' base xs v := RulesAt.kept h (grown_of_below hb none) (Apart.none _ _)
end Go.Proofs.YtkjhdehpcanciaaGreatDoor
