/- What Bytes lays, plain. -/
import Derived.Test.YtkbigfkpgjhojaaBkC
namespace Go.Proofs.Ytkbigfkpgjhojaa
open Go.RowKit Florin
set_option linter.unusedVariables false
set_option linter.unusedSimpArgs false
attribute [local go_sem ↓] Go.wp_at_zero Go.wp_at_succ
def EK (f : Nat → List UInt8) (k : Nat) : List UInt8 := (List.range k).flatMap (fun j => eT (f j))
theorem EK_zero (f : Nat → List UInt8) : EK f 0 = [] := rfl
theorem EK_succ (f : Nat → List UInt8) (k : Nat) : EK f (k + 1) = EK f k ++ eT (f k) := by unfold EK; rw [List.range_succ, List.flatMap_append]; simp
theorem EK_le (f : Nat → List UInt8) {k m : Nat} (h : k ≤ m) : (EK f k).length ≤ (EK f m).length := by
  induction m with
  | zero => obtain rfl : k = 0 := by omega
            exact Nat.le_refl _
  | succ m ih =>
    rcases Nat.lt_or_ge m k with h1 | h1
    · obtain rfl : k = m + 1 := by omega
      exact Nat.le_refl _
    · have := ih h1; rw [EK_succ, List.length_append]; omega
def LS17 : List Nat := [10, 11, 12, 13, 14, 15, 16, 17, 18, 19, 20, 21, 22, 23, 24, 25, 26]
theorem lits17 (f : Nat → List UInt8) (k : Nat) (hk : k < 17) : (#[S (f 10), S (f 11), S (f 12), S (f 13), S (f 14), S (f 15), S (f 16), S (f 17), S (f 18), S (f 19), S (f 20), S (f 21), S (f 22), S (f 23), S (f 24), S (f 25), S (f 26)] : Array Value)[k]? = some (S (f (10 + k))) := by
  match k, hk with
  | 0, _ => rfl
  | 1, _ => rfl
  | 2, _ => rfl
  | 3, _ => rfl
  | 4, _ => rfl
  | 5, _ => rfl
  | 6, _ => rfl
  | 7, _ => rfl
  | 8, _ => rfl
  | 9, _ => rfl
  | 10, _ => rfl
  | 11, _ => rfl
  | 12, _ => rfl
  | 13, _ => rfl
  | 14, _ => rfl
  | 15, _ => rfl
  | 16, _ => rfl
  | k + 17, h => exact absurd h (by omega)
theorem snil_cat (l : List UInt8) : (⟨#[]⟩ : ByteArray) ++ ⟨l.toArray⟩ = ⟨l.toArray⟩ := by
  apply ByteArray.ext
  apply Array.ext'
  simp
def D4 (x : CurM) (j : Nat) : Int := match j with | 0 => x.d | 1 => x.i | 2 => x.cd | _ => x.ci
def N4 (x : CurM) (j : Nat) : List UInt8 := (List.range j).flatMap (fun i => vnum (D4 x i).toNat)
theorem N4_zero (x : CurM) : N4 x 0 = [] := rfl
theorem N4_succ (x : CurM) (j : Nat) (_h : j < 4) : N4 x (j + 1) = N4 x j ++ vnum (D4 x j).toNat := by unfold N4; rw [List.range_succ, List.flatMap_append]; simp
theorem N4_all (x : CurM) : N4 x 4 = eN x.d ++ eN x.i ++ eN x.cd ++ eN x.ci := by
  rw [N4_succ x 3 (by decide), N4_succ x 2 (by decide), N4_succ x 1 (by decide), N4_succ x 0 (by decide), N4_zero]
  rfl
theorem N4_le (x : CurM) {j : Nat} (h : j < 4) : (N4 x (j + 1)).length ≤ (N4 x 4).length := by
  have e0 : (N4 x 1).length = (N4 x 0).length + (vnum (D4 x 0).toNat).length := by rw [N4_succ x 0 (by decide), List.length_append]
  have e1 : (N4 x 2).length = (N4 x 1).length + (vnum (D4 x 1).toNat).length := by rw [N4_succ x 1 (by decide), List.length_append]
  have e2 : (N4 x 3).length = (N4 x 2).length + (vnum (D4 x 2).toNat).length := by rw [N4_succ x 2 (by decide), List.length_append]
  have e3 : (N4 x 4).length = (N4 x 3).length + (vnum (D4 x 3).toNat).length := by rw [N4_succ x 3 (by decide), List.length_append]
  rcases (show j = 0 ∨ j = 1 ∨ j = 2 ∨ j = 3 by omega) with rfl | rfl | rfl | rfl
  · show (N4 x 1).length ≤ _; omega
  · show (N4 x 2).length ≤ _; omega
  · show (N4 x 3).length ≤ _; omega
  · exact Nat.le_refl _
theorem lits4 (x : CurM) (j : Nat) (h : j < 4) : (#[.int .i64 x.d, .int .i64 x.i, .int .i64 x.cd, .int .i64 x.ci] : Array Value)[j]? = some (.int .i64 (D4 x j)) := by
  match j, h with
  | 0, _ => rfl
  | 1, _ => rfl
  | 2, _ => rfl
  | 3, _ => rfl
  | j + 4, h => exact absurd h (by omega)
theorem eCur_len (x : CurM) : (eCur x).length = (eT x.code).length + (eT x.sym).length + (eT x.nar).length + (eTxs x.names).length + (N4 x 4).length := by rw [N4_all]; unfold eCur; simp only [List.length_append]; omega
theorem eUnt_len (x : UntM) : (eUnt x).length = (eT x.1).length + (eTxs x.2).length := by unfold eUnt; rw [List.length_append]
end Go.Proofs.Ytkbigfkpgjhojaa
