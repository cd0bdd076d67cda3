/- Blocks of memory of a call's own, held all together: one after another laid, kept through calls, stored to. -/
import Derived.Test.YtkjhdehpcanciaaGreatDoorDecM
namespace Go.Proofs.YtkjhdehpcanciaaGreatDoor
open Go.RowKit Florin

/-- The blocks of a list hold these cells; the youngest stands first; nothing that was there before the call has changed. -/
structure HeldL (w : World) (L : List (Nat × Array Value)) (W : World) : Prop where
  box : ∀ p ∈ L, Box W p.1 p.2
  own : ∀ p ∈ L, w.heap.size ≤ p.1
  desc : L.Pairwise (fun p q => q.1 < p.1)
  bel : Below w.heap.size w W
theorem HeldL.refl (w : World) : HeldL w [] w := ⟨fun _ h => (List.not_mem_nil h).elim, fun _ h => (List.not_mem_nil h).elim, List.Pairwise.nil, Below.refl _ _⟩
theorem HeldL.keep {w : World} {L : List (Nat × Array Value)} {W W' : World} (h : HeldL w L W) (hb : Below W.heap.size W W') : HeldL w L W' :=
  ⟨fun p hp => (h.box p hp).below hb (h.box p hp).lt, h.own, h.desc, h.bel.trans (hb.mono h.bel.size)⟩
theorem HeldL.drew {w : World} {L : List (Nat × Array Value)} {W : World} (h : HeldL w L W) : HeldL w L W.drew :=
  ⟨fun p hp => (h.box p hp).drew, h.own, h.desc, h.bel.drew⟩
theorem HeldL.alloc {w : World} {L : List (Nat × Array Value)} {W : World} (h : HeldL w L W) (b : Nat) (cs : Array Value) (t : TypeId) (hb : b = W.heap.size) : HeldL w ((b, cs) :: L) (W.alloc (.cells cs t)) := by
  subst hb
  refine ⟨fun p hp => ?_, fun p hp => ?_, List.Pairwise.cons (fun p hp => (h.box p hp).lt) h.desc, h.bel.alloc h.bel.size _⟩
  · cases hp with
    | head => exact Box.new W cs t
    | tail _ hp => exact (h.box p hp).alloc _
  · cases hp with
    | head => exact h.bel.size
    | tail _ hp => exact h.own p hp
theorem HeldL.skip {w : World} {L : List (Nat × Array Value)} {W : World} (h : HeldL w L W) (o : Obj) : HeldL w L (W.alloc o) :=
  ⟨fun p hp => (h.box p hp).alloc _, h.own, h.desc, h.bel.alloc h.bel.size _⟩
theorem HeldL.f {w : World} {L : List (Nat × Array Value)} {W : World} (h : HeldL w L W) {b : Nat} {cs : Array Value} (hm : (b, cs) ∈ L) : Box W b cs := h.box _ hm
theorem HeldL.set1 {w : World} {L1 L2 : List (Nat × Array Value)} {b : Nat} {cs : Array Value} {W : World} (h : HeldL w (L1 ++ (b, cs) :: L2) W) (i : Nat) (x : Value) :
    HeldL w (L1 ++ (b, cs.setIfInBounds i x) :: L2) (W.setCell ⟨b, i, none⟩ x) := by
  have hd := h.desc
  rw [List.pairwise_append] at hd
  obtain ⟨d1, d2, d3⟩ := hd
  rw [List.pairwise_cons] at d2
  have hb : (b, cs) ∈ L1 ++ (b, cs) :: L2 := List.mem_append_right _ (List.Mem.head _)
  refine ⟨fun p hp => ?_, fun p hp => ?_, ?_, h.bel.setCell (h.own _ hb) x⟩
  · rcases List.mem_append.1 hp with h1 | h1
    · have hn : p.1 ≠ b := by have := d3 p h1 (b, cs) (List.Mem.head _); simp only at this; omega
      exact (h.box p (List.mem_append_left _ h1)).other hn x
    · cases h1 with
      | head => exact (h.box _ hb).set i x
      | tail _ h2 =>
        have hn : p.1 ≠ b := by have := d2.1 p h2; simp only at this; omega
        exact (h.box p (List.mem_append_right _ (List.Mem.tail _ h2))).other hn x
  · rcases List.mem_append.1 hp with h1 | h1
    · exact h.own p (List.mem_append_left _ h1)
    · cases h1 with
      | head => exact h.own (b, cs) hb
      | tail _ h2 => exact h.own p (List.mem_append_right _ (List.Mem.tail _ h2))
  · rw [List.pairwise_append, List.pairwise_cons]
    refine ⟨d1, ⟨d2.1, d2.2⟩, fun p hp q hq => ?_⟩
    cases hq with
    | head => exact d3 p hp (b, cs) (List.Mem.head _)
    | tail _ h2 => exact d3 p hp q (List.Mem.tail _ h2)
theorem HeldL.store2 {w : World} (L1 L2 : List (Nat × Array Value)) {b : Nat} {v0 v1 : Value} {W : World} (h : HeldL w (L1 ++ (b, #[v0, v1]) :: L2) W) (x0 x1 : Value) :
    HeldL w (L1 ++ (b, #[x0, x1]) :: L2) ((W.setCell ⟨b, 0, none⟩ x0).setCell ⟨b, 1, none⟩ x1) := (h.set1 0 x0).set1 1 x1
theorem HeldL.store3 {w : World} (L1 L2 : List (Nat × Array Value)) {b : Nat} {v0 v1 v2 : Value} {W : World} (h : HeldL w (L1 ++ (b, #[v0, v1, v2]) :: L2) W) (x0 x1 x2 : Value) :
    HeldL w (L1 ++ (b, #[x0, x1, x2]) :: L2) (((W.setCell ⟨b, 0, none⟩ x0).setCell ⟨b, 1, none⟩ x1).setCell ⟨b, 2, none⟩ x2) := ((h.set1 0 x0).set1 1 x1).set1 2 x2
theorem HeldL.store8 {w : World} (L1 L2 : List (Nat × Array Value)) {b : Nat} {v0 v1 v2 v3 v4 v5 v6 v7 : Value} {W : World} (h : HeldL w (L1 ++ (b, #[v0, v1, v2, v3, v4, v5, v6, v7]) :: L2) W) (x0 x1 x2 x3 x4 x5 x6 x7 : Value) :
    HeldL w (L1 ++ (b, #[x0, x1, x2, x3, x4, x5, x6, x7]) :: L2) ((((((((W.setCell ⟨b, 0, none⟩ x0).setCell ⟨b, 1, none⟩ x1).setCell ⟨b, 2, none⟩ x2).setCell ⟨b, 3, none⟩ x3).setCell ⟨b, 4, none⟩ x4).setCell ⟨b, 5, none⟩ x5).setCell ⟨b, 6, none⟩ x6).setCell ⟨b, 7, none⟩ x7) := by
  have h0 := h.set1 0 x0
  simp only [List.setIfInBounds_toArray, List.set_cons_zero] at h0
  have h1 := h0.set1 1 x1
  simp only [List.setIfInBounds_toArray, List.set_cons_zero, List.set_cons_succ] at h1
  have h2 := h1.set1 2 x2
  simp only [List.setIfInBounds_toArray, List.set_cons_zero, List.set_cons_succ] at h2
  have h3 := h2.set1 3 x3
  simp only [List.setIfInBounds_toArray, List.set_cons_zero, List.set_cons_succ] at h3
  have h4 := h3.set1 4 x4
  simp only [List.setIfInBounds_toArray, List.set_cons_zero, List.set_cons_succ] at h4
  have h5 := h4.set1 5 x5
  simp only [List.setIfInBounds_toArray, List.set_cons_zero, List.set_cons_succ] at h5
  have h6 := h5.set1 6 x6
  simp only [List.setIfInBounds_toArray, List.set_cons_zero, List.set_cons_succ] at h6
  have h7 := h6.set1 7 x7
  simp only [List.setIfInBounds_toArray, List.set_cons_zero, List.set_cons_succ] at h7
  exact h7
end Go.Proofs.YtkjhdehpcanciaaGreatDoor
