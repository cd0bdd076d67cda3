/- Ranges turned, copied. -/
import Derived.Test.YtbfhkcljkblnmaaDoorCrR
import Derived.Laws.AppendOwnNone
namespace Go.Proofs.YtbfhkcljkblnmaaDoor
open Go.RowKit Florin
set_option linter.unusedVariables false
set_option linter.unusedSimpArgs false
theorem and_mask (n : Int) (M : Nat) (hM : M ≤ 9223372036854775807) : ∃ k : Nat, k ≤ M ∧ bits .and .i64 n (M : Int) = (k : Int) := by
  have hx : (BitVec.ofInt 64 n &&& BitVec.ofInt 64 (M : Int)).toNat ≤ M := by
    rw [BitVec.toNat_and, ofInt_u64 M (by omega)]
    exact Nat.and_le_right
  refine ⟨(BitVec.ofInt 64 n &&& BitVec.ofInt 64 (M : Int)).toNat, hx, ?_⟩
  show IntKind.i64.wrap ((BitVec.ofInt 64 n &&& BitVec.ofInt 64 (M : Int)).toNat : Int) = _
  rw [IntKind.wrap_i64]
  omega
/-- The first k of ranges that are turned by so many places. -/
def turnL (l : List (Int × Int)) (K : Nat) : Nat → List (Int × Int)
  | 0 => []
  | k + 1 => turnL l K k ++ [l.getD ((k + K) % l.length) (0, 0)]
theorem turn_len (l : List (Int × Int)) (K : Nat) : ∀ k, (turnL l K k).length = k
  | 0 => rfl
  | k + 1 => by unfold turnL; rw [List.length_append, turn_len l K k]; rfl
theorem turn_mem (l : List (Int × Int)) (K : Nat) : ∀ (k : Nat) (x : Int × Int), x ∈ turnL l K k ↔ ∃ i, i < k ∧ x = l.getD ((i + K) % l.length) (0, 0)
  | 0, x => by unfold turnL; simp
  | k + 1, x => by
    unfold turnL
    rw [List.mem_append, turn_mem l K k x, List.mem_singleton]
    constructor
    · rintro (⟨i, h1, h2⟩ | h)
      · exact ⟨i, by omega, h2⟩
      · exact ⟨k, by omega, h⟩
    · rintro ⟨i, h1, h2⟩
      by_cases h : i = k
      · subst h; exact .inr h2
      · exact .inl ⟨i, by omega, h2⟩
theorem turn_has (l : List (Int × Int)) (K : Nat) (r : Int) : hasC (turnL l K l.length) r = hasC l r := by
  rw [Bool.eq_iff_iff, hasC_iff, hasC_iff]
  constructor
  · rintro ⟨x, hx, h⟩
    obtain ⟨i, hi, rfl⟩ := (turn_mem l K _ x).1 hx
    have hl : (i + K) % l.length < l.length := Nat.mod_lt _ (by omega)
    refine ⟨_, ?_, h⟩
    rw [List.getD_eq_getElem?_getD, List.getElem?_eq_getElem hl]
    exact List.getElem_mem hl
  · rintro ⟨x, hx, h⟩
    obtain ⟨j, hj, rfl⟩ := List.getElem_of_mem hx
    refine ⟨l[j], (turn_mem l K _ _).2 ⟨(j + (l.length - K % l.length)) % l.length, Nat.mod_lt _ (by omega), ?_⟩, h⟩
    have hm : K % l.length < l.length := Nat.mod_lt _ (by omega)
    have e : ((j + (l.length - K % l.length)) % l.length + K) % l.length = j := by
      rw [Nat.mod_add_mod, Nat.add_mod, Nat.add_mod j]
      have h1 : (l.length - K % l.length + K) % l.length = 0 := by
        have h2 : l.length - K % l.length + K = l.length * (K / l.length + 1) := by
          have := Nat.div_add_mod K l.length
          rw [Nat.mul_add, Nat.mul_one]
          omega
        rw [h2, Nat.mul_mod_right]
      have h3 : (j + (l.length - K % l.length) + K) % l.length = (j + (l.length - K % l.length + K)) % l.length := by rw [Nat.add_assoc]
      rw [← Nat.add_mod j, ← Nat.add_mod, h3, Nat.add_mod, h1, Nat.add_zero, Nat.mod_mod, Nat.mod_eq_of_lt hj]
    rw [e, List.getD_eq_getElem?_getD, List.getElem?_eq_getElem hj]
    rfl
theorem inC_cells {w : World} {b off : Nat} {l : List (Int × Int)} (h : ∀ k (h : k < l.length), w.cell? ⟨b, off + k * 2, none⟩ = some (.int .i32 l[k].1) ∧ w.cell? ⟨b, off + k * 2 + 1, none⟩ = some (.int .i32 l[k].2)) : ∀ j u, (cC l)[j]? = some u → w.cell? ((⟨b, off, none⟩ : Addr).add j) = some u := by
  intro j u hu
  have hj : j < (cC l).length := by
    rcases Nat.lt_or_ge j (cC l).length with h1 | h1
    · exact h1
    · rw [List.getElem?_eq_none h1] at hu; cases hu
  rw [cC_len] at hj
  have e : (⟨b, off, none⟩ : Addr).add j = ⟨b, off + j, none⟩ := by unfold Addr.add; split <;> simp_all
  rw [e]
  have hk : j / 2 < l.length := by omega
  have hg := cC_get l (j / 2) hk
  rcases Nat.mod_two_eq_zero_or_one j with h2 | h2
  · have ej : j = j / 2 * 2 := by omega
    rw [ej] at hu ⊢
    rw [hg.1] at hu
    rw [← hu, (h _ hk).1]
  · have ej : j = j / 2 * 2 + 1 := by omega
    rw [ej] at hu ⊢
    rw [hg.2] at hu
    rw [← hu, ← Nat.add_assoc, (h _ hk).2]
theorem cC_one (l : List (Int × Int)) : ∀ u ∈ cC l, u.oneCell' = true := by
  intro u hu
  unfold cC at hu
  obtain ⟨x, _, hx⟩ := List.mem_flatMap.1 hu
  simp at hx
  rcases hx with rfl | rfl <;> rfl
end Go.Proofs.YtbfhkcljkblnmaaDoor
