/- A table that came in: its cells, its lists. -/
import Derived.Test.YtkbigfkpgjhojaaTcF
import Derived.Test.YtkbigfkpgjhojaaWX
import Derived.Lib.LaidU8
namespace Go.Proofs.Ytkbigfkpgjhojaa
open Go.ChangeShapes Go.WideShapes Go.ChangeAt Go.RowKit Go.Joins Go.Deep Florin
set_option linter.unusedVariables false
set_option linter.unusedSimpArgs false
section
variable {H : Type} {enc : TypeId × Value → H} {P : Program} {w : World} {spare : Nat → Bool} {held : Bool}
theorem cells8 {t : TypeId} {f0 f1 f2 f3 f4 f5 f6 f7 : Field} (hs : P.underlying t = some (.struct #[f0, f1, f2, f3, f4, f5, f6, f7])) (hone : oneCellFields P #[f0, f1, f2, f3, f4, f5, f6, f7] = true) {n : Nat} {c : List Value} {y : DataW H × List MemPlace} (hl : c.length = 8) (h : DataW.trod enc P w 0 spare held n t c = some y) :
    ∃ (v0 v1 v2 v3 v4 v5 v6 v7 : Value) (y0 y1 y2 y3 y4 y5 y6 y7 : DataW H × List MemPlace) (m : Nat), c = [v0, v1, v2, v3, v4, v5, v6, v7] ∧ DataW.trod enc P w 0 spare held m f0.type [v0] = some y0 ∧ DataW.trod enc P w 0 spare held m f1.type [v1] = some y1 ∧ DataW.trod enc P w 0 spare held m f2.type [v2] = some y2 ∧ DataW.trod enc P w 0 spare held m f3.type [v3] = some y3 ∧ DataW.trod enc P w 0 spare held m f4.type [v4] = some y4 ∧ DataW.trod enc P w 0 spare held m f5.type [v5] = some y5 ∧ DataW.trod enc P w 0 spare held m f6.type [v6] = some y6 ∧ DataW.trod enc P w 0 spare held m f7.type [v7] = some y7 := by
  obtain ⟨xs, m, _, _, _, hlen, hg⟩ := DataW.trod_struct hs h
  match c, hl with
  | [c0, c1, c2, c3, c4, c5, c6, c7], _ =>
    obtain ⟨o0, k0⟩ := hone_of hone 0 f0 rfl
    obtain ⟨o1, k1⟩ := hone_of hone 1 f1 rfl
    obtain ⟨o2, k2⟩ := hone_of hone 2 f2 rfl
    obtain ⟨o3, k3⟩ := hone_of hone 3 f3 rfl
    obtain ⟨o4, k4⟩ := hone_of hone 4 f4 rfl
    obtain ⟨o5, k5⟩ := hone_of hone 5 f5 rfl
    obtain ⟨o6, k6⟩ := hone_of hone 6 f6 rfl
    obtain ⟨o7, k7⟩ := hone_of hone 7 f7 rfl
    match xs, hlen with
    | [y0, y1, y2, y3, y4, y5, y6, y7], _ =>
      exact ⟨c0, c1, c2, c3, c4, c5, c6, c7, y0, y1, y2, y3, y4, y5, y6, y7, m, rfl, by simpa [o0, k0] using hg 0 f0 rfl, by simpa [o1, k1] using hg 1 f1 rfl, by simpa [o2, k2] using hg 2 f2 rfl, by simpa [o3, k3] using hg 3 f3 rfl, by simpa [o4, k4] using hg 4 f4 rfl, by simpa [o5, k5] using hg 5 f5 rfl, by simpa [o6, k6] using hg 6 f6 rfl, by simpa [o7, k7] using hg 7 f7 rfl⟩
theorem open_arr {fuel : Nat} {t e : TypeId} {n : Nat} {cs : List Value} {d : DataW H} {p : List MemPlace} (ht : P.underlying t = some (.array n e)) (h : DataW.trod enc P w 0 spare held fuel t cs = some (d, p)) : ∃ ds, d = .agg ds := by
  cases fuel with
  | zero => simp [DataW.trod] at h
  | succ fuel =>
    simp only [DataW.trod, ht] at h
    split at h
    · obtain ⟨xs, hm, hx⟩ := Option.map_eq_some_iff.1 h
      exact ⟨_, (congrArg Prod.fst hx).symm⟩
    · cases h
end
theorem one_cell (l : List Value) (i : Nat) (h : i < l.length) : (l.drop i).take 1 = [l[i]] := by
  rw [List.drop_eq_getElem_cons h]; rfl
def wfI (n : Int) : Prop := -9223372036854775808 ≤ n ∧ n ≤ 9223372036854775807
def gTx (x : TxM) : Prop := wfI x.1 ∧ x.2.length ≤ maxLen
def gRow (r : RowM) : Prop := wfI r.1 ∧ ∀ x ∈ r.2, gTx x
def gUnt (u : UntM) : Prop := u.1.length ≤ maxLen ∧ ∀ x ∈ u.2, gTx x
def gCur (c : CurM) : Prop := c.code.length ≤ maxLen ∧ c.sym.length ≤ maxLen ∧ c.nar.length ≤ maxLen ∧ (∀ x ∈ c.names, gTx x) ∧ wfI c.d ∧ wfI c.i ∧ wfI c.cd ∧ wfI c.ci
theorem sub_cell (l : List Value) (a m j : Nat) (hj : j < m) (h : a + j < l.length) : (((l.drop a).take m).drop j).take 1 = [l[a + j]] := by
  rw [List.drop_take, List.take_take, List.drop_drop, show min 1 (m - j) = 1 by omega]
  exact one_cell l (a + j) h
theorem fld {H : Type} {enc : TypeId × Value → H} {W : World} {n off i : Nat} {t : TypeId} {l : List Value} {xs : List (DataW H × List MemPlace)} (hc : Try.prog.cellsOf t = 1) (ho : off < l.length) (q : DataW.trod enc Try.prog W 0 (fun _ => true) true n t (List.take (Try.prog.cellsOf t) (List.drop off l)) = xs[i]?) (hi : i < xs.length) : ∃ y, DataW.trod enc Try.prog W 0 (fun _ => true) true n t [l[off]] = some y := by
  rw [hc, one_cell l off ho] at q
  exact ⟨xs[i], by rw [q, List.getElem?_eq_getElem hi]⟩
theorem wfI_of {n : Int} (h : (Lit.int .i64 n).wf = true) : wfI n := wf_le h
section
variable {H : Type} {enc : TypeId × Value → H} {W : World}
theorem to_InL {α : Type} {sz : Nat} {A : α → List Value → Prop} {v : Value} {l : List α} {cs : List Value} (hA : ∀ x c, A x c → c.length = sz) (h1 : InR W sz v l.length cs) (h2 : ListAt A l cs) : InL W W.heap.size sz A v l := by
  obtain ⟨a, cap, hv, hc, hm, hcl, hcell⟩ := h1
  refine ⟨a, cap, hv, hc, hm, fun h0 => ?_⟩
  obtain ⟨b, off, rfl, hb, hx⟩ := hcell h0
  refine ⟨b, off, rfl, hb, hb, fun k hk => ?_⟩
  obtain ⟨c, hc1, hc2⟩ := ListAt.get hA h2 k hk
  refine ⟨c, hc1, hA _ _ hc1, fun j hj => ?_⟩
  have hlt : k * sz + j < l.length * sz := Nat.lt_of_lt_of_le (by rw [Nat.add_mul]; omega : k * sz + j < (k + 1) * sz) (Nat.mul_le_mul_right _ hk)
  rw [Nat.add_assoc, hx (k * sz + j) hlt, hc2 j hj]
theorem InL.weak {α : Type} {lim sz : Nat} {A A' : α → List Value → Prop} {v : Value} {l : List α} (h : InL W lim sz A v l) (hA : ∀ x c, A x c → A' x c) : InL W lim sz A' v l := by
  obtain ⟨a, cap, h1, h2, h3, h4⟩ := h
  refine ⟨a, cap, h1, h2, h3, fun h0 => ?_⟩
  obtain ⟨b, off, e, hb1, hb2, hc⟩ := h4 h0
  refine ⟨b, off, e, hb1, hb2, fun k hk => ?_⟩
  obtain ⟨c, g1, g2, g3⟩ := hc k hk
  exact ⟨c, hA _ _ g1, g2, g3⟩
theorem ot_int {n : Nat} {v : Value} {y : DataW H × List MemPlace} {t : TypeId} (ht : Try.prog.underlying t = some (.int .i64)) (h : DataW.trod enc Try.prog W 0 (fun _ => true) true n t [v] = some y) : ∃ z, v = .int .i64 z ∧ wfI z := by
  obtain ⟨a, e, _, hw⟩ := DataW.trod_int ht h
  simp at e
  exact ⟨a, e, wfI_of hw⟩
theorem ot_str {n : Nat} {v : Value} {y : DataW H × List MemPlace} {t : TypeId} (ht : Try.prog.underlying t = some .string) (h : DataW.trod enc Try.prog W 0 (fun _ => true) true n t [v] = some y) : ∃ l : List UInt8, v = S l ∧ l.length ≤ maxLen := by
  obtain ⟨s, e, _, hs⟩ := DataW.trod_string ht h
  simp at e
  exact ⟨s.data.toList, by rw [S_list]; exact e, by rw [size_list]; exact hs⟩
set_option maxRecDepth 1000000 in
theorem ot_texts {n : Nat} {v : Value} {y : DataW H × List MemPlace} (h : DataW.trod enc Try.prog W 0 (fun _ => true) true n 27 [v] = some y) : ∃ l, TxL W W.heap.size v l ∧ ∀ x ∈ l, gTx x := by
  obtain ⟨xs, cs, h1, h2⟩ := open_rows (sz := 2) (fun x c => txA x c ∧ gTx x) Try.underlying27 (by kernel_rfl) (by decide) h (fun n c y hl hh => by
    obtain ⟨v0, v1, y0, y1, m, rfl, k0, k1⟩ := cells2 Try.underlying56 (by kernel_rfl) hl hh
    obtain ⟨z, rfl, hz⟩ := ot_int Try.underlying54 k0
    obtain ⟨s, rfl, hs⟩ := ot_str Try.underlying9 k1
    exact ⟨(z, s), rfl, hz, hs⟩)
  exact ⟨xs, (to_InL (A := fun x c => txA x c ∧ gTx x) (fun x c h => by rw [h.1]; rfl) h1 h2).weak (fun _ _ h => h.1), all_of (A := fun x c => txA x c ∧ gTx x) (fun x c h => h.2) h2⟩
set_option maxRecDepth 1000000 in
theorem ot_rows {n : Nat} {v : Value} {y : DataW H × List MemPlace} (h : DataW.trod enc Try.prog W 0 (fun _ => true) true n 24 [v] = some y) : ∃ l, RowL W W.heap.size v l ∧ ∀ x ∈ l, gRow x := by
  obtain ⟨xs, cs, h1, h2⟩ := open_rows (sz := 2) (fun x c => rowA W W.heap.size x c ∧ gRow x) Try.underlying24 (by kernel_rfl) (by decide) h (fun n c y hl hh => by
    obtain ⟨v0, v1, y0, y1, m, rfl, k0, k1⟩ := cells2 Try.underlying37 (by kernel_rfl) hl hh
    obtain ⟨z, rfl, hz⟩ := ot_int Try.underlying3 k0
    obtain ⟨l, hl, hg⟩ := ot_texts k1
    exact ⟨(z, l), ⟨v1, rfl, hl⟩, hz, hg⟩)
  exact ⟨xs, (to_InL (A := fun x c => rowA W W.heap.size x c ∧ gRow x) (fun x c h => by obtain ⟨⟨u, e, _⟩, _⟩ := h; rw [e]; rfl) h1 h2).weak (fun _ _ h => h.1), all_of (A := fun x c => rowA W W.heap.size x c ∧ gRow x) (fun x c h => h.2) h2⟩
set_option maxRecDepth 1000000 in
theorem ot_units {n : Nat} {v : Value} {y : DataW H × List MemPlace} (h : DataW.trod enc Try.prog W 0 (fun _ => true) true n 26 [v] = some y) : ∃ l, UntL W W.heap.size v l ∧ ∀ x ∈ l, gUnt x := by
  obtain ⟨xs, cs, h1, h2⟩ := open_rows (sz := 2) (fun x c => untA W W.heap.size x c ∧ gUnt x) Try.underlying26 (by kernel_rfl) (by decide) h (fun n c y hl hh => by
    obtain ⟨v0, v1, y0, y1, m, rfl, k0, k1⟩ := cells2 Try.underlying50 (by kernel_rfl) hl hh
    obtain ⟨z, rfl, hz⟩ := ot_str Try.underlying9 k0
    obtain ⟨l, hl, hg⟩ := ot_texts k1
    exact ⟨(z, l), ⟨v1, rfl, hl⟩, hz, hg⟩)
  exact ⟨xs, (to_InL (A := fun x c => untA W W.heap.size x c ∧ gUnt x) (fun x c h => by obtain ⟨⟨u, e, _⟩, _⟩ := h; rw [e]; rfl) h1 h2).weak (fun _ _ h => h.1), all_of (A := fun x c => untA W W.heap.size x c ∧ gUnt x) (fun x c h => h.2) h2⟩
set_option maxRecDepth 1000000 in
theorem ot_curs {n : Nat} {v : Value} {y : DataW H × List MemPlace} (h : DataW.trod enc Try.prog W 0 (fun _ => true) true n 25 [v] = some y) : ∃ l, CurL W W.heap.size v l ∧ ∀ x ∈ l, gCur x := by
  obtain ⟨xs, cs, h1, h2⟩ := open_rows (sz := 8) (fun x c => curA W W.heap.size x c ∧ gCur x) Try.underlying25 (by kernel_rfl) (by decide) h (fun n c y hl hh => by
    obtain ⟨v0, v1, v2, v3, v4, v5, v6, v7, y0, y1, y2, y3, y4, y5, y6, y7, m, rfl, k0, k1, k2, k3, k4, k5, k6, k7⟩ := cells8 Try.underlying35 (by kernel_rfl) hl hh
    obtain ⟨s0, rfl, q0⟩ := ot_str Try.underlying9 k0
    obtain ⟨s1, rfl, q1⟩ := ot_str Try.underlying9 k1
    obtain ⟨s2, rfl, q2⟩ := ot_str Try.underlying9 k2
    obtain ⟨l, hll, hg⟩ := ot_texts k3
    obtain ⟨z4, rfl, q4⟩ := ot_int Try.underlying3 k4
    obtain ⟨z5, rfl, q5⟩ := ot_int Try.underlying3 k5
    obtain ⟨z6, rfl, q6⟩ := ot_int Try.underlying3 k6
    obtain ⟨z7, rfl, q7⟩ := ot_int Try.underlying3 k7
    exact ⟨⟨s0, s1, s2, l, z4, z5, z6, z7⟩, ⟨v3, rfl, hll⟩, q0, q1, q2, hg, q4, q5, q6, q7⟩)
  exact ⟨xs, (to_InL (A := fun x c => curA W W.heap.size x c ∧ gCur x) (fun x c h => by obtain ⟨⟨u, e, _⟩, _⟩ := h; rw [e]; rfl) h1 h2).weak (fun _ _ h => h.1), all_of (A := fun x c => curA W W.heap.size x c ∧ gCur x) (fun x c h => h.2) h2⟩
/-- What is known of a table that came in. -/
structure TabIn (W : World) (f : Nat → List UInt8) (mg : Int) (vsh vlo vms vcu vun vmu : Value) (sh lo ms : List RowM) (cu : List CurM) (un : List UntM) (mu : List TxM) : Prop where
  fl : ∀ k, k < 27 → (f k).length ≤ maxLen
  mg : wfI mg
  rsh : RowL W W.heap.size vsh sh
  rlo : RowL W W.heap.size vlo lo
  rms : RowL W W.heap.size vms ms
  rcu : CurL W W.heap.size vcu cu
  run : UntL W W.heap.size vun un
  rmu : TxL W W.heap.size vmu mu
  gsh : ∀ x ∈ sh, gRow x
  glo : ∀ x ∈ lo, gRow x
  gms : ∀ x ∈ ms, gRow x
  gcu : ∀ x ∈ cu, gCur x
  gun : ∀ x ∈ un, gUnt x
  gmu : ∀ x ∈ mu, gTx x
set_option maxRecDepth 1000000 in
set_option maxHeartbeats 3200000 in
theorem open_table {r : Reach} {b0 : Nat} {v : Value} {d : DataW H} {p : List MemPlace} (hv : Value.okWide Try.prog W r b0 TTb v) (h : DataW.Trod enc Try.prog W 0 (fun _ => true) true TTb v d p) :
    ∃ f mg vsh vlo vms vcu vun vmu sh lo ms cu un mu, v = .agg (tbA f mg vsh vlo vms vcu vun vmu) ∧ TabIn W f mg vsh vlo vms vcu vun vmu sh lo ms cu un mu := by
  obtain ⟨cs, rfl, hsz⟩ := okWide_struct Try.underlying31 hv
  obtain ⟨fuel, hf⟩ := h
  have h34 : cs.toList.length = 34 := by rw [Array.length_toList, hsz]; kernel_rfl
  obtain ⟨xs, n, _, hx, _, hlen, hg⟩ := DataW.trod_struct Try.underlying31 hf
  have hxl : xs.length = 21 := hlen
  obtain ⟨L, hL⟩ : ∃ L, L = (Value.agg cs).cells.toList := ⟨_, rfl⟩
  rw [← hL] at hg
  have h34L : L.length = 34 := by rw [hL]; exact h34
  have hcs : ∀ k (h : k < cs.size) (h2 : k < L.length), cs[k] = L[k] := fun k h h2 => by subst hL; rfl
  obtain ⟨y10, k10⟩ := fld (t := 9) (off := 10) (i := 1) (by kernel_rfl) (by omega) (hg 1 _ rfl) (by omega)
  obtain ⟨s10, e10, b10⟩ := ot_str Try.underlying9 k10
  obtain ⟨y11, k11⟩ := fld (t := 9) (off := 11) (i := 2) (by kernel_rfl) (by omega) (hg 2 _ rfl) (by omega)
  obtain ⟨s11, e11, b11⟩ := ot_str Try.underlying9 k11
  obtain ⟨y12, k12⟩ := fld (t := 9) (off := 12) (i := 3) (by kernel_rfl) (by omega) (hg 3 _ rfl) (by omega)
  obtain ⟨s12, e12, b12⟩ := ot_str Try.underlying9 k12
  obtain ⟨y13, k13⟩ := fld (t := 9) (off := 13) (i := 4) (by kernel_rfl) (by omega) (hg 4 _ rfl) (by omega)
  obtain ⟨s13, e13, b13⟩ := ot_str Try.underlying9 k13
  obtain ⟨y14, k14⟩ := fld (t := 9) (off := 14) (i := 5) (by kernel_rfl) (by omega) (hg 5 _ rfl) (by omega)
  obtain ⟨s14, e14, b14⟩ := ot_str Try.underlying9 k14
  obtain ⟨y15, k15⟩ := fld (t := 9) (off := 15) (i := 6) (by kernel_rfl) (by omega) (hg 6 _ rfl) (by omega)
  obtain ⟨s15, e15, b15⟩ := ot_str Try.underlying9 k15
  obtain ⟨y16, k16⟩ := fld (t := 3) (off := 16) (i := 7) (by kernel_rfl) (by omega) (hg 7 _ rfl) (by omega)
  obtain ⟨mg, e16, b16⟩ := ot_int Try.underlying3 k16
  obtain ⟨y17, k17⟩ := fld (t := 9) (off := 17) (i := 8) (by kernel_rfl) (by omega) (hg 8 _ rfl) (by omega)
  obtain ⟨s17, e17, b17⟩ := ot_str Try.underlying9 k17
  obtain ⟨y18, k18⟩ := fld (t := 9) (off := 18) (i := 9) (by kernel_rfl) (by omega) (hg 9 _ rfl) (by omega)
  obtain ⟨s18, e18, b18⟩ := ot_str Try.underlying9 k18
  obtain ⟨y19, k19⟩ := fld (t := 9) (off := 19) (i := 10) (by kernel_rfl) (by omega) (hg 10 _ rfl) (by omega)
  obtain ⟨s19, e19, b19⟩ := ot_str Try.underlying9 k19
  obtain ⟨y20, k20⟩ := fld (t := 9) (off := 20) (i := 11) (by kernel_rfl) (by omega) (hg 11 _ rfl) (by omega)
  obtain ⟨s20, e20, b20⟩ := ot_str Try.underlying9 k20
  obtain ⟨y21, k21⟩ := fld (t := 9) (off := 21) (i := 12) (by kernel_rfl) (by omega) (hg 12 _ rfl) (by omega)
  obtain ⟨s21, e21, b21⟩ := ot_str Try.underlying9 k21
  obtain ⟨y22, k22⟩ := fld (t := 24) (off := 22) (i := 13) (by kernel_rfl) (by omega) (hg 13 _ rfl) (by omega)
  obtain ⟨l22, e22, b22⟩ := ot_rows k22
  obtain ⟨y23, k23⟩ := fld (t := 24) (off := 23) (i := 14) (by kernel_rfl) (by omega) (hg 14 _ rfl) (by omega)
  obtain ⟨l23, e23, b23⟩ := ot_rows k23
  obtain ⟨y24, k24⟩ := fld (t := 24) (off := 24) (i := 15) (by kernel_rfl) (by omega) (hg 15 _ rfl) (by omega)
  obtain ⟨l24, e24, b24⟩ := ot_rows k24
  obtain ⟨y25, k25⟩ := fld (t := 25) (off := 25) (i := 16) (by kernel_rfl) (by omega) (hg 16 _ rfl) (by omega)
  obtain ⟨l25, e25, b25⟩ := ot_curs k25
  obtain ⟨y26, k26⟩ := fld (t := 26) (off := 26) (i := 17) (by kernel_rfl) (by omega) (hg 17 _ rfl) (by omega)
  obtain ⟨l26, e26, b26⟩ := ot_units k26
  obtain ⟨y27, k27⟩ := fld (t := 27) (off := 27) (i := 18) (by kernel_rfl) (by omega) (hg 18 _ rfl) (by omega)
  obtain ⟨l27, e27, b27⟩ := ot_texts k27
  have hset : ∀ k (hk : k < 10), ∃ s : List UInt8, L[k]'(by omega) = S s ∧ s.length ≤ maxLen := by
    intro k hk
    have q : DataW.trod enc Try.prog W 0 (fun _ => true) true n 23 (List.take (Try.prog.cellsOf 23) (List.drop 0 L)) = xs[0]? := hg 0 _ rfl
    rw [List.getElem?_eq_getElem (by omega)] at q
    rw [show Try.prog.cellsOf 23 = 10 by kernel_rfl] at q
    obtain ⟨⟨dd, pp⟩, hdp⟩ : ∃ z, xs[0]'(by omega) = z := ⟨_, rfl⟩
    rw [hdp] at q
    obtain ⟨ds, rfl⟩ := open_arr Try.underlying23 q
    obtain ⟨fu, d2, q2, _, hd⟩ := Lib.array_elem Try.underlying23 q k hk
    rw [show Try.prog.cellsOf 9 = 1 by kernel_rfl, Nat.mul_one] at hd
    rw [sub_cell L 0 10 k hk (by omega)] at hd
    obtain ⟨s, e, b⟩ := ot_str Try.underlying9 hd
    exact ⟨s, by rw [← e]; congr 1; omega, b⟩
  obtain ⟨s0, e0, b0⟩ := hset 0 (by decide)
  obtain ⟨s1, e1, b1⟩ := hset 1 (by decide)
  obtain ⟨s2, e2, b2⟩ := hset 2 (by decide)
  obtain ⟨s3, e3, b3⟩ := hset 3 (by decide)
  obtain ⟨s4, e4, b4⟩ := hset 4 (by decide)
  obtain ⟨s5, e5, b5⟩ := hset 5 (by decide)
  obtain ⟨s6, e6, b6⟩ := hset 6 (by decide)
  obtain ⟨s7, e7, b7⟩ := hset 7 (by decide)
  obtain ⟨s8, e8, b8⟩ := hset 8 (by decide)
  obtain ⟨s9, e9, b9⟩ := hset 9 (by decide)
  have hsp28 : ∀ j (hj : j < 3), ∃ s : List UInt8, L[28 + j]'(by omega) = S s ∧ s.length ≤ maxLen := by
    intro j hj
    have q : DataW.trod enc Try.prog W 0 (fun _ => true) true n 29 (List.take (Try.prog.cellsOf 29) (List.drop 28 L)) = xs[19]? := hg 19 _ rfl
    rw [List.getElem?_eq_getElem (by omega)] at q
    rw [show Try.prog.cellsOf 29 = 3 by kernel_rfl] at q
    obtain ⟨xs2, n2, _, _, _, hlen2, hg2⟩ := DataW.trod_struct Try.underlying29 q
    have hl2 : xs2.length = 3 := hlen2
    have key : ∃ y, DataW.trod enc Try.prog W 0 (fun _ => true) true n2 9 [L[28 + j]'(by omega)] = some y := by
      rcases (show j = 0 ∨ j = 1 ∨ j = 2 by omega) with rfl | rfl | rfl
      · have q2 : DataW.trod enc Try.prog W 0 (fun _ => true) true n2 9 (List.take (Try.prog.cellsOf 9) (List.drop 0 ((L.drop 28).take 3))) = xs2[0]? := hg2 0 _ rfl
        rw [List.getElem?_eq_getElem (by omega)] at q2
        rw [show Try.prog.cellsOf 9 = 1 by kernel_rfl] at q2
        rw [sub_cell L 28 3 0 (by decide) (by omega)] at q2
        exact ⟨_, q2⟩
      · have q2 : DataW.trod enc Try.prog W 0 (fun _ => true) true n2 9 (List.take (Try.prog.cellsOf 9) (List.drop 1 ((L.drop 28).take 3))) = xs2[1]? := hg2 1 _ rfl
        rw [List.getElem?_eq_getElem (by omega)] at q2
        rw [show Try.prog.cellsOf 9 = 1 by kernel_rfl] at q2
        rw [sub_cell L 28 3 1 (by decide) (by omega)] at q2
        exact ⟨_, q2⟩
      · have q2 : DataW.trod enc Try.prog W 0 (fun _ => true) true n2 9 (List.take (Try.prog.cellsOf 9) (List.drop 2 ((L.drop 28).take 3))) = xs2[2]? := hg2 2 _ rfl
        rw [List.getElem?_eq_getElem (by omega)] at q2
        rw [show Try.prog.cellsOf 9 = 1 by kernel_rfl] at q2
        rw [sub_cell L 28 3 2 (by decide) (by omega)] at q2
        exact ⟨_, q2⟩
    obtain ⟨y, hy⟩ := key
    exact ot_str Try.underlying9 hy
  obtain ⟨s28, e28, b28⟩ := hsp28 0 (by decide)
  obtain ⟨s29, e29, b29⟩ := hsp28 1 (by decide)
  obtain ⟨s30, e30, b30⟩ := hsp28 2 (by decide)
  have hsp31 : ∀ j (hj : j < 3), ∃ s : List UInt8, L[31 + j]'(by omega) = S s ∧ s.length ≤ maxLen := by
    intro j hj
    have q : DataW.trod enc Try.prog W 0 (fun _ => true) true n 29 (List.take (Try.prog.cellsOf 29) (List.drop 31 L)) = xs[20]? := hg 20 _ rfl
    rw [List.getElem?_eq_getElem (by omega)] at q
    rw [show Try.prog.cellsOf 29 = 3 by kernel_rfl] at q
    obtain ⟨xs2, n2, _, _, _, hlen2, hg2⟩ := DataW.trod_struct Try.underlying29 q
    have hl2 : xs2.length = 3 := hlen2
    have key : ∃ y, DataW.trod enc Try.prog W 0 (fun _ => true) true n2 9 [L[31 + j]'(by omega)] = some y := by
      rcases (show j = 0 ∨ j = 1 ∨ j = 2 by omega) with rfl | rfl | rfl
      · have q2 : DataW.trod enc Try.prog W 0 (fun _ => true) true n2 9 (List.take (Try.prog.cellsOf 9) (List.drop 0 ((L.drop 31).take 3))) = xs2[0]? := hg2 0 _ rfl
        rw [List.getElem?_eq_getElem (by omega)] at q2
        rw [show Try.prog.cellsOf 9 = 1 by kernel_rfl] at q2
        rw [sub_cell L 31 3 0 (by decide) (by omega)] at q2
        exact ⟨_, q2⟩
      · have q2 : DataW.trod enc Try.prog W 0 (fun _ => true) true n2 9 (List.take (Try.prog.cellsOf 9) (List.drop 1 ((L.drop 31).take 3))) = xs2[1]? := hg2 1 _ rfl
        rw [List.getElem?_eq_getElem (by omega)] at q2
        rw [show Try.prog.cellsOf 9 = 1 by kernel_rfl] at q2
        rw [sub_cell L 31 3 1 (by decide) (by omega)] at q2
        exact ⟨_, q2⟩
      · have q2 : DataW.trod enc Try.prog W 0 (fun _ => true) true n2 9 (List.take (Try.prog.cellsOf 9) (List.drop 2 ((L.drop 31).take 3))) = xs2[2]? := hg2 2 _ rfl
        rw [List.getElem?_eq_getElem (by omega)] at q2
        rw [show Try.prog.cellsOf 9 = 1 by kernel_rfl] at q2
        rw [sub_cell L 31 3 2 (by decide) (by omega)] at q2
        exact ⟨_, q2⟩
    obtain ⟨y, hy⟩ := key
    exact ot_str Try.underlying9 hy
  obtain ⟨s31, e31, b31⟩ := hsp31 0 (by decide)
  obtain ⟨s32, e32, b32⟩ := hsp31 1 (by decide)
  obtain ⟨s33, e33, b33⟩ := hsp31 2 (by decide)
  refine ⟨fun k => ([s0, s1, s2, s3, s4, s5, s6, s7, s8, s9, s10, s11, s12, s13, s14, s15, s17, s18, s19, s20, s21, s28, s29, s30, s31, s32, s33] : List (List UInt8)).getD k [], mg, L[22]'(by omega), L[23]'(by omega), L[24]'(by omega), L[25]'(by omega), L[26]'(by omega), L[27]'(by omega), l22, l23, l24, l25, l26, l27, congrArg Value.agg ?_, ⟨?_, b16, e22, e23, e24, e25, e26, e27, b22, b23, b24, b25, b26, b27⟩⟩
  · have hsz34 : cs.size = 34 := by rw [hsz]; kernel_rfl
    apply Array.ext
    · rw [hsz34]; rfl
    · intro i h1 h2
      have h3 : i < 34 := by omega
      rw [hcs i h1 (by omega)]
      match i, h3 with
      | 0, _ => exact e0
      | 1, _ => exact e1
      | 2, _ => exact e2
      | 3, _ => exact e3
      | 4, _ => exact e4
      | 5, _ => exact e5
      | 6, _ => exact e6
      | 7, _ => exact e7
      | 8, _ => exact e8
      | 9, _ => exact e9
      | 10, _ => exact e10
      | 11, _ => exact e11
      | 12, _ => exact e12
      | 13, _ => exact e13
      | 14, _ => exact e14
      | 15, _ => exact e15
      | 16, _ => exact e16
      | 17, _ => exact e17
      | 18, _ => exact e18
      | 19, _ => exact e19
      | 20, _ => exact e20
      | 21, _ => exact e21
      | 22, _ => rfl
      | 23, _ => rfl
      | 24, _ => rfl
      | 25, _ => rfl
      | 26, _ => rfl
      | 27, _ => rfl
      | 28, _ => exact e28
      | 29, _ => exact e29
      | 30, _ => exact e30
      | 31, _ => exact e31
      | 32, _ => exact e32
      | 33, _ => exact e33
      | k + 34, h => exact absurd h (by omega)
  · intro k hk
    match k, hk with
    | 0, _ => exact b0
    | 1, _ => exact b1
    | 2, _ => exact b2
    | 3, _ => exact b3
    | 4, _ => exact b4
    | 5, _ => exact b5
    | 6, _ => exact b6
    | 7, _ => exact b7
    | 8, _ => exact b8
    | 9, _ => exact b9
    | 10, _ => exact b10
    | 11, _ => exact b11
    | 12, _ => exact b12
    | 13, _ => exact b13
    | 14, _ => exact b14
    | 15, _ => exact b15
    | 16, _ => exact b17
    | 17, _ => exact b18
    | 18, _ => exact b19
    | 19, _ => exact b20
    | 20, _ => exact b21
    | 21, _ => exact b28
    | 22, _ => exact b29
    | 23, _ => exact b30
    | 24, _ => exact b31
    | 25, _ => exact b32
    | 26, _ => exact b33
    | k + 27, h => exact absurd h (by omega)
end
end Go.Proofs.Ytkbigfkpgjhojaa
