/- Rows of texts that came in. -/
import Derived.Test.YtmopcgmodaahkaaDoorBrX
import Derived.Test.YtmopcgmodaahkaaDoorBrC
import Derived.ProofKit
import Derived.OpenShut
import Derived.Lib.SmallJoins
import Derived.Deep.Strs
namespace Go.Proofs.YtmopcgmodaahkaaDoor
open Go.ChangeShapes Go.WideShapes Go.ChangeAt Go.RowKit Go.Joins Go.Deep Florin
set_option linter.unusedVariables false
set_option linter.unusedSimpArgs false
section
variable {H : Type} {enc : TypeId × Value → H} {w : World} {spare : Nat → Bool} {held : Bool}
theorem add_noneS (b off i : Nat) : (⟨b, off, none⟩ : Addr).add i = ⟨b, off + i, none⟩ := by unfold Addr.add; split <;> simp_all
theorem open_txts {t : TypeId} {v : Value} {d : DataW H} {p : List MemPlace} (ht : Tryd.prog.underlying t = some (.slice 9)) (h : DataW.Trod enc Tryd.prog w 0 spare held t v d p) (hv : ∃ a len cap, v = .slice a len cap) :
    ∃ T : List (List UInt8), InT w v T ∧ ∀ t ∈ T, t.length ≤ maxLen := by
  obtain ⟨a0, len0, cap0, rfl⟩ := hv
  obtain ⟨fuel, hf⟩ := h
  rcases open_strs ht Tryd.underlying9 (by kernel_rfl) hf with ⟨hcs, _⟩ | ⟨a, len, cap, m, Sx, hcs, _, hl, hm, hmm, _, hcell⟩
  · simp [Value.cells] at hcs
    obtain ⟨rfl, rfl, rfl⟩ := hcs
    exact ⟨[], ⟨none, 0, rfl, Nat.le_refl _, Nat.zero_le _, fun h => absurd h (by simp)⟩, by simp⟩
  · simp [Value.cells] at hcs
    obtain ⟨rfl, rfl, rfl⟩ := hcs
    have hlm : len0 ≤ m := by rw [hmm]; split <;> omega
    refine ⟨(List.range len0).map fun i => (Sx i).data.toList, ?_, ?_⟩
    · have hlen : ((List.range len0).map fun i => (Sx i).data.toList).length = len0 := by simp
      show InF _ _ (((List.range len0).map fun i => (Sx i).data.toList).length) _
      rw [hlen]
      refine ⟨_, cap0, rfl, hl, hm, fun h0 => ?_⟩
      obtain ⟨b, off, spot⟩ := a
      have h1 := (hcell 0 (by omega)).1
      have hs : spot = none := by simpa [Addr.add] using World.cell?_spot h1
      subst hs
      have hb : b < w.heap.size := World.block_lt_of_cell? w _ (by simpa [Addr.add] using h1)
      refine ⟨b, off, rfl, hb, fun i hi => ?_⟩
      have h2 := (hcell i (by omega)).1
      rw [add_noneS] at h2
      rw [h2]
      simp [hi]
    · intro t ht
      obtain ⟨i, hi, rfl⟩ := List.mem_map.1 ht
      have := (hcell i (by have := List.mem_range.1 hi; omega)).2
      simpa using this
end
end Go.Proofs.YtmopcgmodaahkaaDoor
