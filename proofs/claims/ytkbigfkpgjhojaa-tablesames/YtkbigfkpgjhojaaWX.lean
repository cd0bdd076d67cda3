/- Rows of numbers and of items that came in. -/
import Derived.Test.YtkbigfkpgjhojaaWBase
import Derived.ProofKit
import Derived.OpenShut
import Derived.Lib.SmallJoins
import Derived.Deep.Slices
namespace Go.Proofs.Ytkbigfkpgjhojaa
open Go.ChangeShapes Go.WideShapes Go.ChangeAt Go.RowKit Go.Joins Go.Deep Florin
set_option linter.unusedVariables false
set_option linter.unusedSimpArgs false
/-- Elements one behind the other. -/
def ListAt {α : Type} (A : α → List Value → Prop) : List α → List Value → Prop
  | [], cs => cs = []
  | x :: xs, cs => ∃ c d, cs = c ++ d ∧ A x c ∧ ListAt A xs d
theorem ListAt.mono {α : Type} {A B : α → List Value → Prop} (h : ∀ x c, A x c → B x c) : ∀ {xs : List α} {cs : List Value}, ListAt A xs cs → ListAt B xs cs
  | [], _, k => k
  | _ :: _, _, ⟨c, d, e, a, k⟩ => ⟨c, d, e, h _ _ a, ListAt.mono h k⟩
theorem ListAt.snoc {α : Type} {A : α → List Value → Prop} {x : α} {c : List Value} (hx : A x c) : ∀ {xs : List α} {cs : List Value}, ListAt A xs cs → ListAt A (xs ++ [x]) (cs ++ c)
  | [], _, k => by rw [show _ = [] from k]; exact ⟨c, [], by simp, hx, rfl⟩
  | _ :: _, _, ⟨c1, d, e, a, k⟩ => ⟨c1, d ++ c, by rw [e, List.append_assoc], a, ListAt.snoc hx k⟩
def InR (w : World) (sz : Nat) (v : Value) (n : Nat) (cs : List Value) : Prop :=
  ∃ a c, v = .slice a n c ∧ n ≤ c ∧ c ≤ maxLen ∧ cs.length = n * sz ∧ (0 < n → ∃ b off, a = some ⟨b, off, none⟩ ∧ b < w.heap.size ∧ ∀ j, j < n * sz → w.cell? ⟨b, off + j, none⟩ = cs[j]?)
section
variable {H : Type} {enc : TypeId × Value → H} {P : Program} {w : World} {spare : Nat → Bool} {held : Bool}
theorem add_none (b off i : Nat) : (⟨b, off, none⟩ : Addr).add i = ⟨b, off + i, none⟩ := by unfold Addr.add; split <;> simp_all
theorem cells_none {a : Addr} {n : Nat} {cs : List Value} (hn : 0 < n) (h : w.cells? 0 a n = some cs) : a.spot = none ∧ a.block < w.heap.size := by
  obtain ⟨_, hl, hc⟩ := World.cells?_some h
  have h0 := hc 0 hn
  rw [List.getElem?_eq_getElem (by omega)] at h0
  refine ⟨?_, ?_⟩
  · simpa [Addr.add] using World.cell?_spot h0
  · have := World.block_lt_of_cell? w _ h0
    simpa [Addr.add] using this
/-- A slice opened, element by element. -/
theorem open_rows {α : Type} (A : α → List Value → Prop) {t e : TypeId} {sz fuel : Nat} {v : Value} {x : DataW H × List MemPlace} (ht : P.underlying t = some (.slice e)) (hsz : P.cellsOf e = sz) (hs0 : 0 < sz)
    (h : DataW.trod enc P w 0 spare held fuel t [v] = some x) (el : ∀ n c y, c.length = sz → DataW.trod enc P w 0 spare held n e c = some y → ∃ a, A a c) :
    ∃ (xs : List α) (cs : List Value), InR w sz v xs.length cs ∧ ListAt A xs cs := by
  rcases open_slice ht h with ⟨hc, _⟩ | ⟨a, len, cap, m, n, D, Pl, hc, _, hl, hm, hmm, _, hx⟩
  · simp at hc
    subst hc
    exact ⟨[], [], ⟨none, 0, rfl, Nat.le_refl _, by unfold maxLen; omega, by simp, fun h => absurd h (by simp)⟩, rfl⟩
  · simp at hc
    subst hc
    rw [hsz] at hx
    have hlm : len ≤ m := by rw [hmm]; split <;> omega
    have key : ∀ k, k ≤ len → ∃ (xs : List α) (cs : List Value), xs.length = k ∧ cs.length = k * sz ∧ ListAt A xs cs ∧ ∀ j, j < k * sz → w.cell? (a.add j) = cs[j]? := by
      intro k
      induction k with
      | zero => intro _; exact ⟨[], [], rfl, by simp, rfl, fun j hj => by simp at hj⟩
      | succ k ih =>
        intro hk
        obtain ⟨xs, cs, h1, h2, h3, h4⟩ := ih (by omega)
        obtain ⟨c, hc1, hc2⟩ := hx k (by omega)
        obtain ⟨hsp, _⟩ := cells_none hs0 hc1
        obtain ⟨_, hcl, hcc⟩ := World.cells?_some hc1
        obtain ⟨y, hy⟩ := el _ _ _ hcl hc2
        refine ⟨xs ++ [y], cs ++ c, by rw [List.length_append, h1]; rfl, by rw [List.length_append, h2, hcl, Nat.add_mul]; omega, ListAt.snoc hy h3, fun j hj => ?_⟩
        by_cases hjk : j < k * sz
        · rw [h4 j hjk, List.getElem?_append_left (by omega)]
        · obtain ⟨i, rfl⟩ : ∃ i, j = k * sz + i := ⟨j - k * sz, by omega⟩
          have hi : i < sz := by rw [Nat.add_mul] at hj; omega
          rw [List.getElem?_append_right (by omega), h2, Nat.add_sub_cancel_left, ← hcc i hi]
          congr 1
          unfold Addr.add
          by_cases hk0 : k * sz = 0
          · simp [hk0]
          · have hki : ¬ k * sz + i = 0 := by omega
            simp [hk0, hki]
            by_cases hi0 : i = 0
            · simp [hi0]
            · simp [hi0, Nat.add_assoc]
    obtain ⟨xs, cs, h1, h2, h3, h4⟩ := key len (Nat.le_refl _)
    refine ⟨xs, cs, ⟨some a, cap, by rw [h1], by rw [h1]; exact hl, hm, by rw [h1]; exact h2, fun hn => ?_⟩, h3⟩
    rw [h1] at hn
    obtain ⟨c, hc1, _⟩ := hx 0 (by omega)
    have hcn := cells_none hs0 hc1
    rw [Nat.zero_mul] at hcn
    obtain ⟨b, off, spot⟩ := a
    have hsp : spot = none := by simpa [Addr.add] using hcn.1
    subst hsp
    refine ⟨b, off, rfl, by simpa [Addr.add] using hcn.2, fun j hj => ?_⟩
    rw [h1] at hj
    rw [← h4 j hj, add_none]
theorem cells2 {t : TypeId} {f0 f1 : Field} (hs : P.underlying t = some (.struct #[f0, f1])) (hone : oneCellFields P #[f0, f1] = true) {n : Nat} {c : List Value} {y : DataW H × List MemPlace} (hl : c.length = 2) (h : DataW.trod enc P w 0 spare held n t c = some y) :
    ∃ (v0 v1 : Value) (y0 y1 : DataW H × List MemPlace) (m : Nat), c = [v0, v1] ∧ DataW.trod enc P w 0 spare held m f0.type [v0] = some y0 ∧ DataW.trod enc P w 0 spare held m f1.type [v1] = some y1 := by
  obtain ⟨xs, m, _, _, _, hlen, hg⟩ := DataW.trod_struct hs h
  match c, hl with
  | [c0, c1], _ =>
    obtain ⟨o0, k0⟩ := hone_of hone 0 f0 rfl
    obtain ⟨o1, k1⟩ := hone_of hone 1 f1 rfl
    match xs, hlen with
    | [y0, y1], _ =>
      exact ⟨c0, c1, y0, y1, m, rfl, by simpa [o0, k0] using hg 0 f0 rfl, by simpa [o1, k1] using hg 1 f1 rfl⟩
end
theorem ListAt.get {α : Type} {A : α → List Value → Prop} {sz : Nat} (hA : ∀ x c, A x c → c.length = sz) : ∀ {xs : List α} {cs : List Value}, ListAt A xs cs → ∀ (k : Nat) (hk : k < xs.length), ∃ c, A xs[k] c ∧ ∀ j, j < sz → cs[k * sz + j]? = c[j]?
  | x :: xs, cs, ⟨c, d, e, a, r⟩, 0, hk => ⟨c, a, fun j hj => by rw [e, Nat.zero_mul, Nat.zero_add, List.getElem?_append_left (by rw [hA x c a]; exact hj)]⟩
  | x :: xs, cs, ⟨c, d, e, a, r⟩, k + 1, hk => by
    obtain ⟨c2, a2, h2⟩ := ListAt.get hA r k (by simp at hk; omega)
    refine ⟨c2, a2, fun j hj => ?_⟩
    rw [e, List.getElem?_append_right (by rw [hA x c a, Nat.add_mul]; omega), hA x c a, ← h2 j hj]
    congr 1
    rw [Nat.add_mul]; omega
/-- A row that came in: element k stands at 'sz' cells. -/
def InX {α : Type} (w : World) (sz : Nat) (C : α → Array Value) (v : Value) (L : List α) : Prop :=
  ∃ a cap, v = .slice a L.length cap ∧ L.length ≤ cap ∧ cap ≤ maxLen ∧ (0 < L.length → ∃ b off, a = some ⟨b, off, none⟩ ∧ b < w.heap.size ∧ ∀ k (h : k < L.length) j, j < sz → w.cell? ⟨b, off + k * sz + j, none⟩ = (C L[k])[j]?)
theorem InX.below {α : Type} {w w' : World} {sz : Nat} {C : α → Array Value} {v : Value} {L : List α} (h : InX w sz C v L) (hb : Below w.heap.size w w') : InX w' sz C v L := by
  obtain ⟨a, cap, h1, h2, h3, h4⟩ := h
  refine ⟨a, cap, h1, h2, h3, fun hl => ?_⟩
  obtain ⟨b, off, e, hlt, hc⟩ := h4 hl
  exact ⟨b, off, e, Nat.lt_of_lt_of_le hlt hb.size, fun k hk j hj => (hb.cell (p := ⟨b, off + k * sz + j, none⟩) hlt).trans (hc k hk j hj)⟩
theorem InX.of {α : Type} {w : World} {sz : Nat} {C : α → Array Value} {A : α → List Value → Prop} (hA : ∀ x c, A x c → c = (C x).toList) (hC : ∀ x, (C x).size = sz) {v : Value} {L : List α} {cs : List Value} (h1 : InR w sz v L.length cs) (h2 : ListAt A L cs) : InX w sz C v L := by
  obtain ⟨a, cap, hv, hc, hm, hcl, hcell⟩ := h1
  refine ⟨a, cap, hv, hc, hm, fun h0 => ?_⟩
  obtain ⟨b, off, rfl, hb, hx⟩ := hcell h0
  refine ⟨b, off, rfl, hb, fun k hk j hj => ?_⟩
  obtain ⟨c, hc1, hc2⟩ := ListAt.get (sz := sz) (fun x c h => by rw [hA x c h, Array.length_toList]; exact hC x) h2 k hk
  have hlt : k * sz + j < L.length * sz := Nat.lt_of_lt_of_le (by rw [Nat.add_mul]; omega : k * sz + j < (k + 1) * sz) (Nat.mul_le_mul_right _ hk)
  rw [Nat.add_assoc, hx (k * sz + j) hlt, hc2 j hj, hA _ _ hc1, Array.getElem?_toList]
theorem all_of {α : Type} {A : α → List Value → Prop} {Q : α → Prop} (hA : ∀ x c, A x c → Q x) : ∀ {xs : List α} {cs : List Value}, ListAt A xs cs → ∀ x ∈ xs, Q x
  | [], _, _, _, h => absurd h (by simp)
  | y :: xs, _, ⟨c, d, e, a, k⟩, x, h => by
    rcases List.mem_cons.1 h with rfl | h
    · exact hA _ _ a
    · exact all_of hA k x h
def intC (x : Int) : Array Value := #[.int .i64 x]
def itC (x : WI) : Array Value := #[.bool x.1, .int .i64 x.2.1, S x.2.2]
def intAt (x : Int) (c : List Value) : Prop := c = (intC x).toList ∧ (Lit.int .i64 x).wf = true
def itAt (x : WI) (c : List Value) : Prop := c = (itC x).toList ∧ (Lit.int .i64 x.2.1).wf = true ∧ x.2.2.length ≤ maxLen
theorem wf_le {x : Int} (h : (Lit.int .i64 x).wf = true) : -9223372036854775808 ≤ x ∧ x ≤ 9223372036854775807 := by
  simp [Lit.wf, IntKind.min, IntKind.max, IntKind.signed, IntKind.bits] at h; omega
set_option maxRecDepth 1000000 in
theorem open_int1 {H : Type} {enc : TypeId × Value → H} {W : World} (n : Nat) (c : List Value) (y : DataW H × List MemPlace) (h : DataW.trod enc Try.prog W 0 (fun _ => true) true n 3 c = some y) : ∃ x, intAt x c := by
  obtain ⟨a, e, _, hw⟩ := DataW.trod_int Try.underlying3 h
  exact ⟨a, e, hw⟩
end Go.Proofs.Ytkbigfkpgjhojaa
