/- Pairs that came in. -/
import Derived.Test.YtbfhkcljkblnmaaDoorCrY
import Derived.Test.YtbfhkcljkblnmaaDoorCrW
namespace Go.Proofs.YtbfhkcljkblnmaaDoor
open Go.ChangeShapes Go.WideShapes Go.ChangeAt Go.RowKit Go.Joins Go.Deep Florin
set_option linter.unusedVariables false
set_option linter.unusedSimpArgs false
def pAt (x : PairM) (c : List Value) : Prop := c = (pC x).toList
theorem p_cells : ∀ {xs : List PairM} {cs : List Value}, ListAt pAt xs cs → ∀ k (h : k < xs.length) j, j < 6 → cs[k * 6 + j]? = (pC xs[k])[j]?
  | x :: xs, _, ⟨c, d, e, a, h⟩, 0, _, j, hj => by
    have hc : c.length = 6 := by rw [show c = _ from a]; rfl
    rw [e, Nat.zero_mul, Nat.zero_add, List.getElem?_append_left (by omega), show c = _ from a, Array.getElem?_toList]
    rfl
  | x :: xs, _, ⟨c, d, e, a, h⟩, k + 1, hk, j, hj => by
    have hc : c.length = 6 := by rw [show c = _ from a]; rfl
    have ih := p_cells h k (by simpa using hk) j hj
    rw [e, List.getElem?_append_right (by omega), hc, show (k + 1) * 6 + j - 6 = k * 6 + j by omega, ih]
    rfl
set_option maxRecDepth 1000000 in
theorem open_one {H : Type} {enc : TypeId × Value → H} {W : World} {n : Nat} {c0 c1 : Value} {y : DataW H × List MemPlace} (h : DataW.trod enc Tryd.prog W 0 (fun _ => true) true n 65 [c0, c1] = some y) : ∃ a b : Int, c0 = .int .i64 a ∧ c1 = .int .i64 b := by
  obtain ⟨d0, d1, y0, y1, m, hc, g0, g1⟩ := cells2 Tryd.underlying65 (by kernel_rfl) rfl h
  obtain ⟨rfl, rfl⟩ : c0 = d0 ∧ c1 = d1 := by simpa using hc
  obtain ⟨a0, e0, _, _⟩ := DataW.trod_int Tryd.underlying3 g0
  obtain ⟨a1, e1, _, _⟩ := DataW.trod_int Tryd.underlying3 g1
  simp at e0 e1
  exact ⟨a0, a1, e0, e1⟩
set_option maxRecDepth 1000000 in
theorem open_pair {H : Type} {enc : TypeId × Value → H} {W : World} (n : Nat) (c : List Value) (y : DataW H × List MemPlace) (hl : c.length = 6) (h : DataW.trod enc Tryd.prog W 0 (fun _ => true) true n 67 c = some y) : ∃ x, pAt x c := by
  obtain ⟨xs, m, h1, h2, h3, hlen, hg⟩ := DataW.trod_struct Tryd.underlying67 h
  match c, hl with
  | [c0, c1, c2, c3, c4, c5], _ =>
    match xs, hlen with
    | [y0, y1, y2, y3], _ =>
      have g0 := hg 0 _ rfl
      have g1 := hg 1 _ rfl
      have g2 := hg 2 _ rfl
      have g3 := hg 3 _ rfl
      have k2 : Tryd.prog.cellsOf 65 = 2 := by kernel_rfl
      have kb : Tryd.prog.cellsOf 4 = 1 := by kernel_rfl
      have ki : Tryd.prog.cellsOf 3 = 1 := by kernel_rfl
      have q0 : DataW.trod enc Tryd.prog W 0 (fun _ => true) true m 65 [c0, c1] = some y0 := by simpa [k2] using g0
      have q1 : DataW.trod enc Tryd.prog W 0 (fun _ => true) true m 65 [c2, c3] = some y1 := by simpa [k2] using g1
      have q2 : DataW.trod enc Tryd.prog W 0 (fun _ => true) true m 4 [c4] = some y2 := by simpa [kb] using g2
      have q3 : DataW.trod enc Tryd.prog W 0 (fun _ => true) true m 3 [c5] = some y3 := by simpa [ki] using g3
      obtain ⟨an, ak, rfl, rfl⟩ := open_one q0
      obtain ⟨bn, bk, rfl, rfl⟩ := open_one q1
      obtain ⟨two, e2, _⟩ := DataW.trod_bool Tryd.underlying4 q2
      obtain ⟨gap, e3, _, _⟩ := DataW.trod_int Tryd.underlying3 q3
      simp at e2 e3
      subst e2
      subst e3
      exact ⟨⟨an, ak, bn, bk, two, gap⟩, rfl⟩
/-- A row of pairs that came in. -/
theorem open_pairs {H : Type} {enc : TypeId × Value → H} {W : World} {v : Value} {d : DataW H} {p : List MemPlace} (h : DataW.Trod enc Tryd.prog W 0 (fun _ => true) true 38 v d p) (hs : ∃ a l c, v = .slice a l c) : ∃ ps, InP W v ps := by
  obtain ⟨a, l, c, rfl⟩ := hs
  obtain ⟨fuel, hf⟩ := h
  obtain ⟨xs, cs, h1, h2⟩ := open_rows pAt Tryd.underlying38 (by kernel_rfl) (by decide) hf (fun n c y hl hh => open_pair n c y hl hh)
  obtain ⟨a', cap, hv, hc, hm, hcl, hcell⟩ := h1
  refine ⟨xs, a', cap, hv, fun h0 => ?_⟩
  obtain ⟨b, off, rfl, hb, hx⟩ := hcell h0
  refine ⟨b, off, rfl, hb, fun k hk j hj => ?_⟩
  rw [Nat.add_assoc, hx (k * 6 + j) (by omega)]
  exact p_cells h2 k hk j hj
end Go.Proofs.YtbfhkcljkblnmaaDoor
