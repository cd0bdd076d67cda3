/- Ranges of the call's own, sorted in their place. -/
import Derived.Test.YtbfhkcljkblnmaaDoorClF
import Derived.Shelf.SlSortCmp.NoneTotal
namespace Go.Proofs.YtbfhkcljkblnmaaDoor
open Go.RowKit Go.Lib Go.Sort Florin
set_option linter.unusedVariables false
set_option linter.unusedSimpArgs false
theorem flat_cC (c : List (Int × Int)) (t : Nat) (ht : t < c.length * 2) : (cC c)[t]? = some (flatK encR 2 c.toArray)[t]! := by
  rw [get_flatK encR 2 c.toArray t (by simpa using ht)]
  have hk : t / 2 < c.length := by omega
  have hg := cC_get c (t / 2) hk
  have he : (c.toArray)[t / 2]! = c[t / 2] := by simp [hk]
  rw [he]
  rcases Nat.mod_two_eq_zero_or_one t with hm | hm
  · have h2 : t / 2 * 2 = t := by omega
    rw [h2] at hg
    rw [hg.1, hm]; rfl
  · have h2 : t / 2 * 2 + 1 = t := by omega
    rw [h2] at hg
    rw [hg.2, hm]; rfl
theorem own_holds {w : World} {g cap : Nat} {cur : Array Value} {e : TypeId} {c : List (Int × Int)} (hg : w.heap[g]? = some (.cells cur e (0, 0))) (ht : cur.toList.take (c.length * 2) = cC c) : HoldsK encR 2 w g 0 c.toArray := by
  intro j hj
  have hj' : j < c.length * 2 := by simpa using hj
  refine ⟨?_, by simp [World.frozen?, hg]⟩
  have h1 : cur[j]? = (cC c)[j]? := by
    rw [← ht, List.getElem?_take, if_pos hj', Array.getElem?_toList]
  rw [Nat.zero_add]
  show w.cell? ⟨g, j, none⟩ = some (flatK encR 2 c.toArray)[j]!
  rw [← flat_cC c j hj', ← h1]
  simp [World.cell?, hg]
theorem put_cells (cur : Array Value) (c : List (Int × Int)) (hs : c.length * 2 ≤ cur.size) : (putCells id 0 (flatK encR 2 c.toArray) cur).toList.take (c.length * 2) = cC c := by
  apply List.ext_getElem?
  intro t
  rw [List.getElem?_take]
  by_cases ht : t < c.length * 2
  · rw [if_pos ht, flat_cC c t ht]
    have hc : t < cur.size := by omega
    simp [putCells, hc, ht]
  · rw [if_neg ht, List.getElem?_eq_none (by rw [cC_len]; omega)]
set_option maxHeartbeats 800000 in
theorem sort_as (w : World) (B : Nat) (v : Value) (c : List (Int × Int)) (hown : OwnC w B v c) (hB : B ≤ w.heap.size) (hl : c.length < 4611686018427387904) :
    Calls Tryd.prog 26 #[v, .func (.func 27) #[] #[]] w fun e w' => e = .returned (.tuple #[]) ∧ ∃ c' : List (Int × Int), c'.Perm c ∧ c'.Pairwise (fun x y => x.1 ≤ y.1) ∧ OwnC w' B v c' ∧ Below B w w' := by
  by_cases h0 : c = []
  · subst h0
    obtain ⟨ao, cap, rfl, -⟩ := hown.inC
    have hS := AnyF.slices_SortFunc_none (P := Tryd.prog) (ρ := Tryd.laysSort_ren) { Tryd.laysSort with } ao cap (.func (.func 27) #[] #[]) w
    refine Calls.mono hS ?_
    rintro e w' ⟨rfl, rfl⟩
    exact ⟨rfl, [], List.Perm.refl _, List.Pairwise.nil, hown, Below.refl _ _⟩
  · have hn : c.length ≠ 0 := fun h => h0 (List.length_eq_zero_iff.1 h)
    rcases h : hown.2 with ⟨rfl, hz⟩ | ⟨g, cap, cur, rfl, hBg, hg, h1, h2, h3, h4⟩
    · exact absurd hz hn
    have hlt : g < w.heap.size := by
      rcases Nat.lt_or_ge g w.heap.size with h' | h'
      · exact h'
      · simp [Array.getElem?_eq_none h'] at hg
    have hS := sortFunc_as g 0 cap c.toArray w (own_holds (cap := cap) hg h4) hlt (by simpa using hl)
    rw [show c.toArray.size = c.length from List.size_toArray ..] at hS
    refine hS.mono ?_
    rintro e w' ⟨rfl, d', n, os, ⟨hsz, -, hp⟩, hso, rfl⟩
    have hsz' : d'.size = c.length := by simpa using hsz
    have hd : d'.toList.length = c.length := by simpa using hsz'
    have hperm : d'.toList.Perm c := by
      rw [← hsz', Array.extract_size] at hp
      have e1 : c.toArray.extract 0 d'.size = c.toArray := by rw [hsz', show c.length = c.toArray.size from (List.size_toArray ..).symm, Array.extract_size]
      rw [e1] at hp
      exact hp
    refine ⟨rfl, d'.toList, hperm, ?_, ?_, ?_⟩
    · rw [List.pairwise_iff_getElem]
      intro i j hi hj hij
      have := hso i j (Nat.zero_le _) hij (by omega)
      rw [lt_key] at this
      have hi' : i < d'.size := by simpa using hi
      have hj' : j < d'.size := by simpa using hj
      rw [getElem!_pos d' i hi', getElem!_pos d' j hj'] at this
      simp at this
      simpa using this
    · refine ⟨by rw [cC_len], .inr ⟨g, cap, putCells id 0 (flatK encR 2 d') cur, by rw [hd], hBg, ?_, by omega, h2, by simp [putCells, h3], ?_⟩⟩
      · show (w.heap.modify g (onCells (putCells id 0 (flatK encR 2 d'))) ++ os)[g]? = _
        rw [Array.getElem?_append_left (by simpa using hlt), Array.getElem?_modify, if_pos rfl, hg]
        rfl
      · have := put_cells cur d'.toList (by rw [hd, h3]; omega)
        simpa using this
    · refine ⟨rfl, rfl, rfl, ?_, fun k hk => ?_⟩
      · show w.heap.size ≤ (w.heap.modify g (onCells (putCells id 0 (flatK encR 2 d'))) ++ os).size
        simp
      · show (w.heap.modify g (onCells (putCells id 0 (flatK encR 2 d'))) ++ os)[k]? = _
        rw [Array.getElem?_append_left (by simp; omega), Array.getElem?_modify, if_neg (by omega)]
end Go.Proofs.YtbfhkcljkblnmaaDoor
