/- A table that came in, of bulk at most N: its currencies' texts are short. -/
import Derived.Test.YtkbigfkpgjhojaaRows
import Derived.Test.YtkbigfkpgjhojaaTbX
namespace Go.Proofs.Ytkbigfkpgjhojaa
open Go.ChangeShapes Go.WideShapes Go.ChangeAt Go.RowKit Go.Joins Go.Deep Florin
set_option linter.unusedVariables false
set_option linter.unusedSimpArgs false
section
variable {H : Type} {enc : TypeId × Value → H} {P : Program} {w : World} {spare : Nat → Bool} {held : Bool}
theorem bulk_mem : ∀ {l : List (DataW H)} {d : DataW H}, d ∈ l → Rows.uptoBulk d ≤ Rows.uptoBulkAll l
  | [], d, h => by cases h
  | e :: l, d, h => by
    have he : Rows.uptoBulkAll (e :: l) = Rows.uptoBulk e + Rows.uptoBulkAll l := by rw [Rows.uptoBulkAll]
    rcases List.mem_cons.1 h with rfl | h
    · omega
    · have := bulk_mem h; omega
theorem bulk_slice (a b : List (DataW H)) : Rows.uptoBulk (.slice a b) = Rows.uptoBulkAll a + Rows.uptoBulkAll b + 1 := by rw [Rows.uptoBulk]
theorem bulk_agg (a : List (DataW H)) : Rows.uptoBulk (.agg a) = Rows.uptoBulkAll a + 1 := by rw [Rows.uptoBulk]
theorem bulk_str (s : List UInt8) : Rows.uptoBulk (.lit (.string s) : DataW H) = s.length + 1 := by rw [Rows.uptoBulk]
theorem open_rowsB {α : Type} {N : Nat} (A : α → List Value → Prop) {t e : TypeId} {sz fuel : Nat} {v : Value} {x : DataW H × List MemPlace} (ht : P.underlying t = some (.slice e)) (hsz : P.cellsOf e = sz) (hs0 : 0 < sz)
    (h : DataW.trod enc P w 0 spare held fuel t [v] = some x) (hB : Rows.uptoBulk x.1 ≤ N) (el : ∀ n c y, c.length = sz → DataW.trod enc P w 0 spare held n e c = some y → Rows.uptoBulk y.1 ≤ N → ∃ a, A a c) :
    ∃ (xs : List α) (cs : List Value), InR w sz v xs.length cs ∧ ListAt A xs cs := by
  rcases open_slice ht h with ⟨hc, _⟩ | ⟨a, len, cap, m, n, D, Pl, hc, _, hl, hm, hmm, hxe, hx⟩
  · simp at hc
    subst hc
    exact ⟨[], [], ⟨none, 0, rfl, Nat.le_refl _, by unfold maxLen; omega, by simp, fun h => absurd h (by simp)⟩, rfl⟩
  · simp at hc
    subst hc
    rw [hsz] at hx
    have hlm : len ≤ m := by rw [hmm]; split <;> omega
    have key : ∀ k, k ≤ len → ∃ (xs : List α) (cs : List Value), xs.length = k ∧ cs.length = k * sz ∧ ListAt A xs cs ∧ ∀ j, j < k * sz → w.cell? (a.add j) = cs[j]? := by
      intro k
      induction k with
      | zero => intro _; exact ⟨[], [], rfl, by simp, rfl, fun j hj => by simp at hj⟩
      | succ k ih =>
        intro hk
        obtain ⟨xs, cs, h1, h2, h3, h4⟩ := ih (by omega)
        obtain ⟨c, hc1, hc2⟩ := hx k (by omega)
        obtain ⟨hsp, _⟩ := cells_none hs0 hc1
        obtain ⟨_, hcl, hcc⟩ := World.cells?_some hc1
        have hDk : Rows.uptoBulk (D k) ≤ N := by
          have h1 : Rows.uptoBulk (D k) ≤ Rows.uptoBulkAll ((List.range len).map D) := bulk_mem (List.mem_map.2 ⟨k, List.mem_range.2 (by omega), rfl⟩)
          have h2 := bulk_slice ((List.range len).map D) ((List.range (m - len)).map fun j => D (len + j))
          rw [hxe] at hB
          dsimp only at hB
          omega
        obtain ⟨y, hy⟩ := el _ _ _ hcl hc2 hDk
        refine ⟨xs ++ [y], cs ++ c, by rw [List.length_append, h1]; rfl, by rw [List.length_append, h2, hcl, Nat.add_mul]; omega, ListAt.snoc hy h3, fun j hj => ?_⟩
        by_cases hjk : j < k * sz
        · rw [h4 j hjk, List.getElem?_append_left (by omega)]
        · obtain ⟨i, rfl⟩ : ∃ i, j = k * sz + i := ⟨j - k * sz, by omega⟩
          have hi : i < sz := by rw [Nat.add_mul] at hj; omega
          rw [List.getElem?_append_right (by omega), h2, Nat.add_sub_cancel_left, ← hcc i hi]
          congr 1
          unfold Addr.add
          by_cases hk0 : k * sz = 0
          · simp [hk0]
          · have hki : ¬ k * sz + i = 0 := by omega
            simp [hk0, hki]
            by_cases hi0 : i = 0
            · simp [hi0]
            · simp [hi0, Nat.add_assoc]
    obtain ⟨xs, cs, h1, h2, h3, h4⟩ := key len (Nat.le_refl _)
    refine ⟨xs, cs, ⟨some a, cap, by rw [h1], by rw [h1]; exact hl, hm, by rw [h1]; exact h2, fun hn => ?_⟩, h3⟩
    rw [h1] at hn
    obtain ⟨c, hc1, _⟩ := hx 0 (by omega)
    have hcn := cells_none hs0 hc1
    rw [Nat.zero_mul] at hcn
    obtain ⟨b, off, spot⟩ := a
    have hsp : spot = none := by simpa [Addr.add] using hcn.1
    subst hsp
    refine ⟨b, off, rfl, by simpa [Addr.add] using hcn.2, fun j hj => ?_⟩
    rw [h1] at hj
    rw [← h4 j hj, add_none]
end
section
variable {H : Type} {enc : TypeId × Value → H} {W : World}
theorem ot_strB {N n : Nat} {v : Value} {y : DataW H × List MemPlace} {t : TypeId} (ht : Try.prog.underlying t = some .string) (h : DataW.trod enc Try.prog W 0 (fun _ => true) true n t [v] = some y) (hb : Rows.uptoBulk y.1 ≤ N) : ∃ l : List UInt8, v = S l ∧ l.length ≤ N := by
  obtain ⟨s, e, hy, hs⟩ := DataW.trod_string ht h
  simp at e
  rw [hy] at hb
  rw [bulk_str] at hb
  exact ⟨s.data.toList, by rw [S_list]; exact e, by omega⟩
def bCur (N : Nat) (c : CurM) : Prop := c.code.length ≤ N ∧ c.sym.length ≤ N ∧ c.nar.length ≤ N
set_option maxRecDepth 1000000 in
theorem ot_cursB {N n : Nat} {v : Value} {y : DataW H × List MemPlace} (h : DataW.trod enc Try.prog W 0 (fun _ => true) true n 25 [v] = some y) (hb : Rows.uptoBulk y.1 ≤ N) : ∃ l, CurL W W.heap.size v l ∧ ∀ x ∈ l, bCur N x := by
  obtain ⟨xs, cs, h1, h2⟩ := open_rowsB (sz := 8) (fun x c => curA W W.heap.size x c ∧ bCur N x) Try.underlying25 (by kernel_rfl) (by decide) h hb (fun n c y hl hh hby => by
    obtain ⟨xs', m', hn', hxe, _, hlen', hg'⟩ := DataW.trod_struct Try.underlying35 hh
    obtain ⟨v0, v1, v2, v3, v4, v5, v6, v7, y0, y1, y2, y3, y4, y5, y6, y7, m, rfl, k0, k1, k2, k3, k4, k5, k6, k7⟩ := cells8 Try.underlying35 (by kernel_rfl) hl hh
    have hpart : ∀ i (hi : i < xs'.length), Rows.uptoBulk xs'[i].1 ≤ N := fun i hi => by
      have h3 : Rows.uptoBulk xs'[i].1 ≤ Rows.uptoBulkAll (xs'.map (·.1)) := bulk_mem (List.mem_map.2 ⟨xs'[i], List.getElem_mem hi, rfl⟩)
      rw [hxe] at hby
      dsimp only at hby
      rw [bulk_agg] at hby
      omega
    have hl8 : xs'.length = 8 := hlen'
    have g0 : DataW.trod enc Try.prog W 0 (fun _ => true) true m' 9 [v0] = xs'[0]? := hg' 0 _ rfl
    have g1 : DataW.trod enc Try.prog W 0 (fun _ => true) true m' 9 [v1] = xs'[1]? := hg' 1 _ rfl
    have g2 : DataW.trod enc Try.prog W 0 (fun _ => true) true m' 9 [v2] = xs'[2]? := hg' 2 _ rfl
    rw [List.getElem?_eq_getElem (by omega)] at g0 g1 g2
    obtain ⟨s0, rfl, q0⟩ := ot_strB Try.underlying9 g0 (hpart 0 (by omega))
    obtain ⟨s1, rfl, q1⟩ := ot_strB Try.underlying9 g1 (hpart 1 (by omega))
    obtain ⟨s2, rfl, q2⟩ := ot_strB Try.underlying9 g2 (hpart 2 (by omega))
    obtain ⟨l, hll, hg⟩ := ot_texts k3
    obtain ⟨z4, rfl, q4⟩ := ot_int Try.underlying3 k4
    obtain ⟨z5, rfl, q5⟩ := ot_int Try.underlying3 k5
    obtain ⟨z6, rfl, q6⟩ := ot_int Try.underlying3 k6
    obtain ⟨z7, rfl, q7⟩ := ot_int Try.underlying3 k7
    exact ⟨⟨s0, s1, s2, l, z4, z5, z6, z7⟩, ⟨v3, rfl, hll⟩, q0, q1, q2⟩)
  exact ⟨xs, (to_InL (A := fun x c => curA W W.heap.size x c ∧ bCur N x) (fun x c h => by obtain ⟨⟨u, e, _⟩, _⟩ := h; rw [e]; rfl) h1 h2).weak (fun _ _ h => h.1), all_of (A := fun x c => curA W W.heap.size x c ∧ bCur N x) (fun x c h => h.2) h2⟩
theorem S_inj {a b : List UInt8} (h : S a = S b) : a = b := by
  injection h with h1
  injection h1 with h2
  have := congrArg Array.toList h2
  simpa using this
theorem cur_det {lim N : Nat} {v : Value} {l l' : List CurM} (h : CurL W lim v l) (h' : CurL W lim v l') (hb : ∀ x ∈ l', bCur N x) : ∀ x ∈ l, bCur N x := by
  obtain ⟨a, cap, rfl, _, _, hc⟩ := h
  obtain ⟨a', cap', e, _, _, hc'⟩ := h'
  injection e with e1 e2 e3
  subst e1
  intro x hx
  obtain ⟨k, hk, rfl⟩ := List.getElem_of_mem hx
  obtain ⟨b, off, rfl, _, _, hq⟩ := hc (by omega)
  obtain ⟨b', off', e4, _, _, hq'⟩ := hc' (by omega)
  injection e4 with e5
  injection e5 with e6 e7
  subst e6 e7
  obtain ⟨c, ⟨u, rfl, _⟩, _, hj⟩ := hq k hk
  obtain ⟨c', ⟨u', rfl, _⟩, _, hj'⟩ := hq' k (by omega)
  have f0 := (hj 0 (by decide)).symm.trans (hj' 0 (by decide))
  have f1 := (hj 1 (by decide)).symm.trans (hj' 1 (by decide))
  have f2 := (hj 2 (by decide)).symm.trans (hj' 2 (by decide))
  simp only [List.getElem?_cons_zero, List.getElem?_cons_succ, Option.some.injEq] at f0 f1 f2
  have hbk := hb l'[k] (List.getElem_mem (by omega))
  exact ⟨by rw [S_inj f0]; exact hbk.1, by rw [S_inj f1]; exact hbk.2.1, by rw [S_inj f2]; exact hbk.2.2⟩
set_option maxRecDepth 1000000 in
theorem open_tableB {N : Nat} {r : Reach} {b0 : Nat} {v : Value} {d : DataW H} {p : List MemPlace} (hv : Value.okWide Try.prog W r b0 TTb v) (h : DataW.Trod enc Try.prog W 0 (fun _ => true) true TTb v d p) (hb : Rows.uptoBulk d ≤ N) :
    ∃ f mg vsh vlo vms vcu vun vmu sh lo ms cu un mu, v = .agg (tbA f mg vsh vlo vms vcu vun vmu) ∧ TabIn W f mg vsh vlo vms vcu vun vmu sh lo ms cu un mu ∧ ∀ c ∈ cu, bCur N c := by
  obtain ⟨f, mg, vsh, vlo, vms, vcu, vun, vmu, sh, lo, ms, cu, un, mu, rfl, ht⟩ := open_table hv h
  obtain ⟨fuel, hf⟩ := h
  obtain ⟨xs, n, _, hx, _, hlen, hg⟩ := DataW.trod_struct Try.underlying31 hf
  have hxl : xs.length = 21 := hlen
  have g : DataW.trod enc Try.prog W 0 (fun _ => true) true n 25 [vcu] = xs[16]? := hg 16 _ rfl
  rw [List.getElem?_eq_getElem (by omega)] at g
  have hd : Rows.uptoBulk xs[16].1 ≤ N := by
    have h3 : Rows.uptoBulk xs[16].1 ≤ Rows.uptoBulkAll (xs.map (·.1)) := bulk_mem (List.mem_map.2 ⟨xs[16], List.getElem_mem _, rfl⟩)
    have h4 : d = .agg (xs.map (·.1)) := congrArg Prod.fst hx
    rw [h4, bulk_agg] at hb
    omega
  obtain ⟨cu', h1, h2⟩ := ot_cursB g hd
  exact ⟨f, mg, vsh, vlo, vms, vcu, vun, vmu, sh, lo, ms, cu, un, mu, rfl, ht, cur_det ht.rcu h1 h2⟩
end
end Go.Proofs.Ytkbigfkpgjhojaa
