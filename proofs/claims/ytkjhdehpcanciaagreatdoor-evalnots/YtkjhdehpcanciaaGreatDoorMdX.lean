/- Rules as they are made, that came in: each relation, row by row. -/
import Derived.Test.YtkjhdehpcanciaaGreatDoorMdA
import Derived.ProofKit
import Derived.OpenShut
import Derived.Lib.SmallJoins
import Derived.Deep.Slices
namespace Go.Proofs.YtkjhdehpcanciaaGreatDoor
open Go.ChangeShapes Go.WideShapes Go.ChangeAt Go.RowKit Go.Joins Go.Deep Florin
set_option linter.unusedVariables false
set_option linter.unusedSimpArgs false
section
variable {H : Type} {enc : TypeId × Value → H} {P : Program} {w : World} {spare : Nat → Bool} {held : Bool}
theorem add_none (b off i : Nat) : (⟨b, off, none⟩ : Addr).add i = ⟨b, off + i, none⟩ := by unfold Addr.add; split <;> simp_all
theorem cells_none {a : Addr} {n : Nat} {cs : List Value} (hn : 0 < n) (h : w.cells? 0 a n = some cs) : a.spot = none ∧ a.block < w.heap.size := by
  obtain ⟨_, hl, hc⟩ := World.cells?_some h
  have h0 := hc 0 hn
  rw [List.getElem?_eq_getElem (by omega)] at h0
  refine ⟨?_, ?_⟩
  · simpa [Addr.add] using World.cell?_spot h0
  · have := World.block_lt_of_cell? w _ h0
    simpa [Addr.add] using this
/-- A slice opened, element by element. -/
theorem open_rows {α : Type} (A : α → List Value → Prop) {t e : TypeId} {sz fuel : Nat} {v : Value} {x : DataW H × List MemPlace} (ht : P.underlying t = some (.slice e)) (hsz : P.cellsOf e = sz) (hs0 : 0 < sz)
    (h : DataW.trod enc P w 0 spare held fuel t [v] = some x) (el : ∀ n c y, c.length = sz → DataW.trod enc P w 0 spare held n e c = some y → ∃ a, A a c) :
    ∃ (xs : List α) (cs : List Value), InR w sz v xs.length cs ∧ ListAt A xs cs := by
  rcases open_slice ht h with ⟨hc, _⟩ | ⟨a, len, cap, m, n, D, Pl, hc, _, hl, hm, hmm, _, hx⟩
  · simp at hc
    subst hc
    exact ⟨[], [], ⟨none, 0, rfl, Nat.le_refl _, by unfold maxLen; omega, by simp, fun h => absurd h (by simp)⟩, rfl⟩
  · simp at hc
    subst hc
    rw [hsz] at hx
    have hlm : len ≤ m := by rw [hmm]; split <;> omega
    have key : ∀ k, k ≤ len → ∃ (xs : List α) (cs : List Value), xs.length = k ∧ cs.length = k * sz ∧ ListAt A xs cs ∧ ∀ j, j < k * sz → w.cell? (a.add j) = cs[j]? := by
      intro k
      induction k with
      | zero => intro _; exact ⟨[], [], rfl, by simp, rfl, fun j hj => by simp at hj⟩
      | succ k ih =>
        intro hk
        obtain ⟨xs, cs, h1, h2, h3, h4⟩ := ih (by omega)
        obtain ⟨c, hc1, hc2⟩ := hx k (by omega)
        obtain ⟨hsp, _⟩ := cells_none hs0 hc1
        obtain ⟨_, hcl, hcc⟩ := World.cells?_some hc1
        obtain ⟨y, hy⟩ := el _ _ _ hcl hc2
        refine ⟨xs ++ [y], cs ++ c, by rw [List.length_append, h1]; rfl, by rw [List.length_append, h2, hcl, Nat.add_mul]; omega, ListAt.snoc hy h3, fun j hj => ?_⟩
        by_cases hjk : j < k * sz
        · rw [h4 j hjk, List.getElem?_append_left (by omega)]
        · obtain ⟨i, rfl⟩ : ∃ i, j = k * sz + i := ⟨j - k * sz, by omega⟩
          have hi : i < sz := by rw [Nat.add_mul] at hj; omega
          rw [List.getElem?_append_right (by omega), h2, Nat.add_sub_cancel_left, ← hcc i hi]
          congr 1
          unfold Addr.add
          by_cases hk0 : k * sz = 0
          · simp [hk0]
          · have hki : ¬ k * sz + i = 0 := by omega
            simp [hk0, hki]
            by_cases hi0 : i = 0
            · simp [hi0]
            · simp [hi0, Nat.add_assoc]
    obtain ⟨xs, cs, h1, h2, h3, h4⟩ := key len (Nat.le_refl _)
    refine ⟨xs, cs, ⟨some a, cap, by rw [h1], by rw [h1]; exact hl, hm, by rw [h1]; exact h2, fun hn => ?_⟩, h3⟩
    rw [h1] at hn
    obtain ⟨c, hc1, _⟩ := hx 0 (by omega)
    have hcn := cells_none hs0 hc1
    rw [Nat.zero_mul] at hcn
    obtain ⟨b, off, spot⟩ := a
    have hsp : spot = none := by simpa [Addr.add] using hcn.1
    subst hsp
    refine ⟨b, off, rfl, by simpa [Addr.add] using hcn.2, fun j hj => ?_⟩
    rw [h1] at hj
    rw [← h4 j hj, add_none]
theorem cells2 {t : TypeId} {f0 f1 : Field} (hs : P.underlying t = some (.struct #[f0, f1])) (hone : oneCellFields P #[f0, f1] = true) {n : Nat} {c : List Value} {y : DataW H × List MemPlace} (hl : c.length = 2) (h : DataW.trod enc P w 0 spare held n t c = some y) :
    ∃ (v0 v1 : Value) (y0 y1 : DataW H × List MemPlace) (m : Nat), c = [v0, v1] ∧ DataW.trod enc P w 0 spare held m f0.type [v0] = some y0 ∧ DataW.trod enc P w 0 spare held m f1.type [v1] = some y1 := by
  obtain ⟨xs, m, _, _, _, hlen, hg⟩ := DataW.trod_struct hs h
  match c, hl with
  | [c0, c1], _ =>
    obtain ⟨o0, k0⟩ := hone_of hone 0 f0 rfl
    obtain ⟨o1, k1⟩ := hone_of hone 1 f1 rfl
    match xs, hlen with
    | [y0, y1], _ =>
      exact ⟨c0, c1, y0, y1, m, rfl, by simpa [o0, k0] using hg 0 f0 rfl, by simpa [o1, k1] using hg 1 f1 rfl⟩
theorem cells4 {t : TypeId} {f0 f1 f2 f3 : Field} (hs : P.underlying t = some (.struct #[f0, f1, f2, f3])) (hone : oneCellFields P #[f0, f1, f2, f3] = true) {n : Nat} {c : List Value} {y : DataW H × List MemPlace} (hl : c.length = 4) (h : DataW.trod enc P w 0 spare held n t c = some y) :
    ∃ (v0 v1 v2 v3 : Value) (y0 y1 y2 y3 : DataW H × List MemPlace) (m : Nat), c = [v0, v1, v2, v3] ∧ DataW.trod enc P w 0 spare held m f0.type [v0] = some y0 ∧ DataW.trod enc P w 0 spare held m f1.type [v1] = some y1 ∧ DataW.trod enc P w 0 spare held m f2.type [v2] = some y2 ∧ DataW.trod enc P w 0 spare held m f3.type [v3] = some y3 := by
  obtain ⟨xs, m, _, _, _, hlen, hg⟩ := DataW.trod_struct hs h
  match c, hl with
  | [c0, c1, c2, c3], _ =>
    obtain ⟨o0, k0⟩ := hone_of hone 0 f0 rfl
    obtain ⟨o1, k1⟩ := hone_of hone 1 f1 rfl
    obtain ⟨o2, k2⟩ := hone_of hone 2 f2 rfl
    obtain ⟨o3, k3⟩ := hone_of hone 3 f3 rfl
    match xs, hlen with
    | [y0, y1, y2, y3], _ =>
      exact ⟨c0, c1, c2, c3, y0, y1, y2, y3, m, rfl, by simpa [o0, k0] using hg 0 f0 rfl, by simpa [o1, k1] using hg 1 f1 rfl, by simpa [o2, k2] using hg 2 f2 rfl, by simpa [o3, k3] using hg 3 f3 rfl⟩
theorem cells5 {t : TypeId} {f0 f1 f2 f3 f4 : Field} (hs : P.underlying t = some (.struct #[f0, f1, f2, f3, f4])) (hone : oneCellFields P #[f0, f1, f2, f3, f4] = true) {n : Nat} {c : List Value} {y : DataW H × List MemPlace} (hl : c.length = 5) (h : DataW.trod enc P w 0 spare held n t c = some y) :
    ∃ (v0 v1 v2 v3 v4 : Value) (y0 y1 y2 y3 y4 : DataW H × List MemPlace) (m : Nat), c = [v0, v1, v2, v3, v4] ∧ DataW.trod enc P w 0 spare held m f0.type [v0] = some y0 ∧ DataW.trod enc P w 0 spare held m f1.type [v1] = some y1 ∧ DataW.trod enc P w 0 spare held m f2.type [v2] = some y2 ∧ DataW.trod enc P w 0 spare held m f3.type [v3] = some y3 ∧ DataW.trod enc P w 0 spare held m f4.type [v4] = some y4 := by
  obtain ⟨xs, m, _, _, _, hlen, hg⟩ := DataW.trod_struct hs h
  match c, hl with
  | [c0, c1, c2, c3, c4], _ =>
    obtain ⟨o0, k0⟩ := hone_of hone 0 f0 rfl
    obtain ⟨o1, k1⟩ := hone_of hone 1 f1 rfl
    obtain ⟨o2, k2⟩ := hone_of hone 2 f2 rfl
    obtain ⟨o3, k3⟩ := hone_of hone 3 f3 rfl
    obtain ⟨o4, k4⟩ := hone_of hone 4 f4 rfl
    match xs, hlen with
    | [y0, y1, y2, y3, y4], _ =>
      exact ⟨c0, c1, c2, c3, c4, y0, y1, y2, y3, y4, m, rfl, by simpa [o0, k0] using hg 0 f0 rfl, by simpa [o1, k1] using hg 1 f1 rfl, by simpa [o2, k2] using hg 2 f2 rfl, by simpa [o3, k3] using hg 3 f3 rfl, by simpa [o4, k4] using hg 4 f4 rfl⟩
end
def numAt (x : Int × Int) (c : List Value) : Prop := c = [.int .i64 x.1, .int .i64 x.2]
theorem num_cells : ∀ {xs : List (Int × Int)} {cs : List Value}, ListAt numAt xs cs → cs = numC xs
  | [], _, h => h
  | x :: xs, _, ⟨c, d, e, a, h⟩ => by rw [e, show c = _ from a, num_cells h]; rfl
set_option maxRecDepth 1000000 in
theorem open_num {H : Type} {enc : TypeId × Value → H} {W : World} (n : Nat) (c : List Value) (y : DataW H × List MemPlace) (hl : c.length = 2) (h : DataW.trod enc Tryz.prog W 0 (fun _ => true) true n 128 c = some y) : ∃ x, numAt x c := by
  obtain ⟨c0, c1, y0, y1, m, rfl, g0, g1⟩ := cells2 Tryz.underlying128 (by kernel_rfl) hl h
  obtain ⟨a0, e0, _, _⟩ := DataW.trod_int Tryz.underlying3 g0
  obtain ⟨a1, e1, _, _⟩ := DataW.trod_int Tryz.underlying3 g1
  simp at e0 e1
  exact ⟨(a0, a1), by rw [e0, e1]; rfl⟩
theorem open_nums {H : Type} {enc : TypeId × Value → H} {W : World} {n : Nat} {v : Value} {y : DataW H × List MemPlace} (h : DataW.trod enc Tryz.prog W 0 (fun _ => true) true n 56 [v] = some y) : ∃ rs, NumsAt W rs v := by
  obtain ⟨xs, cs, h1, h2⟩ := open_rows numAt Tryz.underlying56 (by kernel_rfl) (by decide) h (fun n c y hl hh => open_num n c y hl hh)
  rw [num_cells h2] at h1
  exact ⟨xs, h1⟩
set_option maxRecDepth 1000000 in
theorem open_relc {H : Type} {enc : TypeId × Value → H} {W : World} (n : Nat) (c : List Value) (y : DataW H × List MemPlace) (hl : c.length = 5) (h : DataW.trod enc Tryz.prog W 0 (fun _ => true) true n 58 c = some y) : ∃ r, RelmAt W r c := by
  obtain ⟨c0, c1, c2, c3, c4, y0, y1, y2, y3, y4, m, rfl, g0, g1, g2, g3, g4⟩ := cells5 Tryz.underlying58 (by kernel_rfl) hl h
  obtain ⟨a0, e0, _, _⟩ := DataW.trod_int Tryz.underlying3 g0
  obtain ⟨a1, e1, _, _⟩ := DataW.trod_int Tryz.underlying3 g1
  obtain ⟨a2, e2, _, _⟩ := DataW.trod_int Tryz.underlying3 g2
  obtain ⟨a3, e3, _⟩ := DataW.trod_bool Tryz.underlying4 g3
  obtain ⟨rs, hr⟩ := open_nums g4
  simp at e0 e1 e2 e3
  exact ⟨⟨a0, a1, a2, a3, rs⟩, c4, by rw [e0, e1, e2, e3], hr⟩
theorem open_alls {H : Type} {enc : TypeId × Value → H} {W : World} {n : Nat} {v : Value} {y : DataW H × List MemPlace} (h : DataW.trod enc Tryz.prog W 0 (fun _ => true) true n 59 [v] = some y) : ∃ xs, AllmAt W xs v := by
  obtain ⟨xs, cs, h1, h2⟩ := open_rows (RelmAt W) Tryz.underlying59 (by kernel_rfl) (by decide) h (fun n c y hl hh => open_relc n c y hl hh)
  exact ⟨xs, cs, h1, h2⟩
theorem open_anys {H : Type} {enc : TypeId × Value → H} {W : World} {n : Nat} {v : Value} {y : DataW H × List MemPlace} (h : DataW.trod enc Tryz.prog W 0 (fun _ => true) true n 60 [v] = some y) : ∃ xs, AnymAt W xs v := by
  obtain ⟨xs, cs, h1, h2⟩ := open_rows (sz := 1) (fun x c => ∃ u, c = [u] ∧ AllmAt W x u) Tryz.underlying60 (by kernel_rfl) (by decide) h (fun n c y hl hh => by
    match c, hl with
    | [u], _ => obtain ⟨x, hx⟩ := open_alls hh; exact ⟨x, u, rfl, hx⟩)
  exact ⟨xs, cs, h1, h2⟩
set_option maxRecDepth 1000000 in
theorem open_madec {H : Type} {enc : TypeId × Value → H} {W : World} (n : Nat) (c : List Value) (y : DataW H × List MemPlace) (hl : c.length = 4) (h : DataW.trod enc Tryz.prog W 0 (fun _ => true) true n 62 c = some y) : ∃ m, MadeAt W m c := by
  obtain ⟨c0, c1, c2, c3, y0, y1, y2, y3, m, rfl, g0, g1, g2, g3⟩ := cells4 Tryz.underlying62 (by kernel_rfl) hl h
  obtain ⟨a0, e0, _, _⟩ := DataW.trod_int Tryz.underlying3 g0
  obtain ⟨a1, e1, _, _⟩ := DataW.trod_int Tryz.underlying3 g1
  obtain ⟨a2, e2, _, _⟩ := DataW.trod_int Tryz.underlying3 g2
  obtain ⟨xs, hx⟩ := open_anys g3
  simp at e0 e1 e2
  exact ⟨⟨a0, a1, a2, xs⟩, c3, by rw [e0, e1, e2], hx⟩
/-- A row of rules as they are made, that came in. -/
theorem open_mades {H : Type} {enc : TypeId × Value → H} {W : World} {v : Value} {d : DataW H} {p : List MemPlace} (h : DataW.Trod enc Tryz.prog W 0 (fun _ => true) true 22 v d p) (hs : ∃ a l c, v = .slice a l c) : ∃ xs, MadesAt W xs v := by
  obtain ⟨a, l, c, rfl⟩ := hs
  obtain ⟨fuel, hf⟩ := h
  obtain ⟨xs, cs, h1, h2⟩ := open_rows (MadeAt W) Tryz.underlying22 (by kernel_rfl) (by decide) hf (fun n c y hl hh => open_madec n c y hl hh)
  exact ⟨xs, cs, h1, h2⟩
set_option maxRecDepth 1000000 in
/-- A relation as it is made, that came in. -/
theorem open_relm {H : Type} {enc : TypeId × Value → H} {W : World} {r : Reach} {b0 : Nat} {v : Value} {d : DataW H} {p : List MemPlace} (hv : Value.okWide Tryz.prog W r b0 58 v)
    (h : DataW.Trod enc Tryz.prog W 0 (fun _ => true) true 58 v d p) :
    ∃ (g : RelM) (u : Value), v = .agg #[.int .i64 g.op, .int .i64 g.md, .int .i64 g.gp, .bool g.nt, u] ∧ NumsAt W g.rs u := by
  obtain ⟨cs, rfl, hsz⟩ := okWide_struct Tryz.underlying58 hv
  obtain ⟨l⟩ := cs
  obtain ⟨fuel, hf⟩ := h
  have hl : l.length = 5 := hsz.trans (by kernel_rfl)
  obtain ⟨g, u, hc, hr⟩ := open_relc fuel l _ hl (by simpa [Value.cells] using hf)
  subst hc
  exact ⟨g, u, rfl, hr⟩
end Go.Proofs.YtkjhdehpcanciaaGreatDoor
