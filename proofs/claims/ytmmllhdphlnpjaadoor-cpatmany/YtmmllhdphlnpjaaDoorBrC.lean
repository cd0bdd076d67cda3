/- Texts with places: builders that are written to; Fill. -/
import Derived.Test.YtmmllhdphlnpjaaDoorBrB
import Derived.Lib.AppendStr
import Derived.Shelf.Strings.Builder1
namespace Go.Proofs.YtmmllhdphlnpjaaDoor
open Go.RowKit Florin
set_option linter.unusedVariables false
set_option linter.unusedSimpArgs false
attribute [local go_sem ↓] Go.wp_at_zero Go.wp_at_succ
abbrev TB : TypeId := 71
theorem sizeB : (Tryd.prog.info? TB).map (·.size) = some 2 := by kernel_rfl
theorem liesB : liesAt Tryd.prog Tryd.prog.depth TB (2 / Tryd.prog.cellsOf TB) 0 TB 1 = true := by kernel_rfl
theorem infoB : (Tryd.prog.info? 5).map (fun i => (i.zero, i.size, i.bytes)) = some (some (.int .u8 0), 1, 1) := by kernel_rfl
set_option maxHeartbeats 1000000 in
set_option maxRecDepth 100000 in
theorem check_used (b : Nat) (w : World) (h0 : w.cell? ⟨b, 0, none⟩ = some (.pointer (some ⟨b, 0, none⟩))) :
    Calls Tryd.prog 44 #[.pointer (some ⟨b, 0, none⟩)] w fun e w' => e = .returned (.tuple #[]) ∧ w' = w := by
  obtain ⟨j, hj, _⟩ := Option.map_eq_some_iff.1 sizeB
  go_enter Tryd.func44, Tryd.ntmps44
  go_wp2
  rw [Lib.run_neq_ptr_same w _ Tryd.underlying68 hj]
  go_wp2
  go_end0
  exact ⟨rfl, rfl⟩
set_option maxHeartbeats 1000000 in
set_option maxRecDepth 100000 in
theorem check_fresh (b : Nat) (w : World) (h0 : w.cell? ⟨b, 0, none⟩ = some (.pointer none)) (hsh : w.shape? b = some (TB, 2)) (hfz : w.frozen? ⟨b, 0, none⟩ = false) :
    Calls Tryd.prog 44 #[.pointer (some ⟨b, 0, none⟩)] w fun e w' => e = .returned (.tuple #[]) ∧ w' = w.setCell ⟨b, 0, none⟩ (.pointer (some ⟨b, 0, none⟩)) := by
  obtain ⟨j, hj, hjs⟩ := Option.map_eq_some_iff.1 sizeB
  go_enter Tryd.func44, Tryd.ntmps44
  go_wp2
  rw [Lib.run_to_unsafe w ⟨b, 0, none⟩ Tryd.underlying68 Tryd.underlying94 hj (by rw [hjs]; decide) hsh (Nat.zero_lt_succ 1)]
  simp only [Result.andThen]
  rw [Oper.upon_value]
  go_wp2
  rw [run_callFunc_extern Tryd.func52 (by kernel_rfl) (by kernel_rfl) (by kernel_rfl) (e := Extern.AbiNoEscape.same) (by kernel_rfl)]
  rw [Lib.run_noEscape]
  simp only [Result.andThen]
  rw [Oper.upon_value]
  go_wp2
  rw [Lib.run_from_unsafe w ⟨b, 0, none⟩ Tryd.underlying94 Tryd.underlying68 hj hsh liesB]
  simp only [Result.andThen]
  rw [Oper.upon_value]
  go_wp2
  go_end0
  exact ⟨rfl, rfl⟩
/-- Blocks of other elements than bytes stay, but for one. -/
def KeptT (b : Nat) (w w' : World) : Prop := ∀ i cs t, t ≠ 5 → i ≠ b → BoxT w i cs t → BoxT w' i cs t
theorem KeptT.refl (b : Nat) (w : World) : KeptT b w w := fun _ _ _ _ _ h => h
theorem KeptT.trans {b : Nat} {w w' w'' : World} (h : KeptT b w w') (k : KeptT b w' w'') : KeptT b w w'' := fun i cs t h1 h2 h3 => k i cs t h1 h2 (h i cs t h1 h2 h3)
theorem KeptT.set (b j : Nat) (w : World) (v : Value) : KeptT b w (w.setCell ⟨b, j, none⟩ v) := fun i cs t _ h2 h3 => (Below.heap_setCell w ⟨b, j, none⟩ v i h2).trans h3
theorem KeptT.grown {b : Nat} {w w' : World} {B : Nat} {v : Value} {n : Nat} {xs : List Value} (h : w.ownsRow B 5 1 v n xs) (hg : w.grownBy w' v.ownBlock) : KeptT b w w' := fun i cs t h1 _ h3 => (hg.block i h3.lt (fun e => by
  rcases h.2 with ⟨rfl, _⟩ | ⟨g, cap, cur, rfl, _, hgc, _⟩
  · cases e
  · have e2 : i = g := Option.some.inj e
    subst e2
    have h4 : w.heap[i]? = some (.cells cs t) := h3
    rw [h4] at hgc
    cases hgc
    exact h1 rfl)).trans h3
theorem check_as (B b : Nat) (bs : List Value) (w : World) (h : Lib.IsBuilder TB 5 B b bs w) :
    Calls Tryd.prog 44 #[.pointer (some ⟨b, 0, none⟩)] w fun e w' => e = .returned (.tuple #[]) ∧ (Lib.BuilderAt TB 5 B b (.pointer (some ⟨b, 0, none⟩)) bs w' ∧ Below B w w' ∧ KeptT b w w') := by
  rcases h with h | h
  · refine (check_fresh b w h.cell0 h.shape h.frozen0).mono ?_
    rintro e w' ⟨rfl, rfl⟩
    exact ⟨rfl, h.used _, (Below.refl B w).setCell (p := ⟨b, 0, none⟩) h.1 _, KeptT.set b 0 w _⟩
  · refine (check_used b w h.cell0).mono ?_
    rintro e w' ⟨rfl, rfl⟩
    exact ⟨rfl, h, Below.refl B _, KeptT.refl b _⟩
set_option maxHeartbeats 2000000 in
set_option maxRecDepth 100000 in
theorem wstr_as (B b : Nat) (bs : List Value) (s : ByteArray) (w : World) (h : Lib.IsBuilder TB 5 B b bs w) (hlen : bs.length + s.size ≤ 140737488355328) (hBw : B ≤ w.heap.size) :
    Calls Tryd.prog 45 #[.pointer (some ⟨b, 0, none⟩), .string s] w fun e w' => e = .returned (.tuple #[.int .i64 s.size, .nilIface]) ∧ (Lib.BuilderAt TB 5 B b (.pointer (some ⟨b, 0, none⟩)) (bs ++ Lib.strCells s) w' ∧ Below B w w' ∧ KeptT b w w') := by
  obtain ⟨i0, hi, hz0, hz1, hz2⟩ := info_parts infoB
  go_enter Tryd.func45, Tryd.ntmps45
  go_wp2_with fail
  with_reducible refine (check_as B b bs _ h).mono ?_
  rintro e w1 ⟨rfl, h1, hb1, hkt⟩
  have HKT := Lib.hid hkt
  clear hkt
  obtain ⟨hB, v, hbk, hown, hne⟩ := h1
  have c0 : w1.cell? ⟨b, 0, none⟩ = some (.pointer (some ⟨b, 0, none⟩)) := by rw [Lib.cell_of_heap hbk]; rfl
  have c1 : w1.cell? ⟨b, 1, none⟩ = some v := by rw [Lib.cell_of_heap hbk]; rfl
  go_wp2_with (at_builtin; refine Lib.wpList_append_own_string _ rfl _ _ 69 9 rfl B 5 i0 Tryd.underlying69 Tryd.underlying9 hi hz0 hz1 hz2 _ _ _ rfl hown s rfl ?c3 ?c4 ?c5 ?_)
  case c3 => unfold maxLen; omega
  case c4 => omega
  case c5 => have := hb1.size; omega
  intro v' w2 hown' hgrow _
  have hlt : b < w1.heap.size := by
    rcases Nat.lt_or_ge b w1.heap.size with h' | h'
    · exact h'
    · simp [Array.getElem?_eq_none h'] at hbk
  have hb2 : w2.heap[b]? = some (.cells #[.pointer (some ⟨b, 0, none⟩), v] TB (0, 0)) := by
    rw [hgrow.block b hlt (fun e => hne e.symm)]
    exact hbk
  have d0 : w2.cell? ⟨b, 0, none⟩ = some (.pointer (some ⟨b, 0, none⟩)) := by rw [Lib.cell_of_heap hb2]; rfl
  have d1 : w2.cell? ⟨b, 1, none⟩ = some v := by rw [Lib.cell_of_heap hb2]; rfl
  have f1 : w2.frozen? ⟨b, 1, none⟩ = false := Lib.frozen_of_heap hb2 1
  obtain ⟨ao, n', cap, rfl⟩ : ∃ ao n' cap, v' = .slice ao n' cap := by
    rcases hown'.2 with ⟨hv, _⟩ | ⟨g, cap, cur, hv, _⟩
    · exact ⟨_, _, _, hv⟩
    · exact ⟨_, _, _, hv⟩
  go_wp2
  go_ret2
  refine ⟨rfl, ?_, ?_, (HKT.out.trans (KeptT.grown hown hgrow)).trans (KeptT.set b 1 _ _)⟩
  · exact Lib.BuilderAt.put (T := TB) (e := 5) hB hb2 (bs' := bs ++ Lib.strCells s) (by simpa [Lib.strCells_length] using hown') (by decide)
  · exact (hb1.grown hgrow (by have := hb1.size; omega) (fun k hk => (hown.lt k hk).1)).setCell (p := ⟨b, 1, none⟩) hB _

/-- A row that is read: of this length, with these elements. -/
def InF (w : World) (v : Value) (n : Nat) (f : Nat → Value) : Prop :=
  ∃ a cap, v = .slice a n cap ∧ n ≤ cap ∧ cap ≤ maxLen ∧ (0 < n → ∃ b off, a = some ⟨b, off, none⟩ ∧ b < w.heap.size ∧ ∀ i, i < n → w.cell? ⟨b, off + i, none⟩ = some (f i))
theorem InF.below {w w' : World} {v : Value} {n : Nat} {f : Nat → Value} (h : InF w v n f) (hb : Below w.heap.size w w') : InF w' v n f := by
  obtain ⟨a, cap, h1, h2, h3, h4⟩ := h
  refine ⟨a, cap, h1, h2, h3, fun hl => ?_⟩
  obtain ⟨b, off, e, hlt, hc⟩ := h4 hl
  exact ⟨b, off, e, Nat.lt_of_lt_of_le hlt hb.size, fun i hi => (hb.cell (p := ⟨b, off + i, none⟩) hlt).trans (hc i hi)⟩
theorem in_own {w : World} {B : Nat} {e : TypeId} {v : Value} {n : Nat} {xs : List Value} (h : w.ownsRow B e 1 v n xs) {f : Nat → Value} (hf : ∀ i, i < n → xs[i]? = some (f i)) : InF w v n f := by
  have h0 := h
  rcases h.2 with ⟨rfl, hn⟩ | ⟨g, cap, cur, rfl, hB, hg, hc, hm, _⟩
  · subst hn; exact ⟨none, 0, rfl, Nat.le_refl _, Nat.zero_le _, fun h => absurd h (by omega)⟩
  · refine ⟨_, cap, rfl, hc, hm, fun hl => ⟨g, 0, rfl, ?_, fun i hi => ?_⟩⟩
    · exact (BoxT.lt (w := w) (b := g) (cs := cur) (t := e) hg)
    · rw [Nat.zero_add, World.ownsRow.cellAt h0 i (by omega)]; exact hf i hi
abbrev InT (w : World) (v : Value) (T : List (List UInt8)) : Prop := InF w v T.length (fun i => S (T.getD i []))
abbrev InP (w : World) (v : Value) (P : List Nat) : Prop := InF w v P.length (fun i => pv (P.getD i 0))
theorem OwnT.inT {w : World} {B : Nat} {v : Value} {T : List (List UInt8)} (h : OwnT w B v T) : InT w v T := in_own h (fun i hi => by simp [hi])
theorem OwnP.inP {w : World} {B : Nat} {v : Value} {P : List Nat} (h : OwnP w B v P) : InP w v P := in_own h (fun i hi => by simp [hi])
/-- Where each stands, a row of one's own. -/
def stL (m : Nat) (st : Nat → Nat) : List Value := (List.range m).map fun i => pv (st i)
abbrev OwnS (w : World) (B : Nat) (v : Value) (m : Nat) (st : Nat → Nat) : Prop := w.ownsRow B 3 1 v m (stL m st)
theorem stL_set (m : Nat) (st : Nat → Nat) (d x : Nat) (hd : d < m) : (stL m st).set d (pv x) = stL m (upS st d x) := by
  unfold stL upS
  apply List.ext_getElem
  · simp
  · intro i h1 h2
    simp only [List.getElem_set, List.getElem_map, List.getElem_range]
    by_cases h : d = i
    · subst h; simp
    · rw [if_neg h, if_neg (fun e => h e.symm)]
theorem flK_len (L T : List (List UInt8)) (P : List Nat) (M : Nat) (hT : ∀ t ∈ T, t.length ≤ M) (hL : ∀ t ∈ L, t.length ≤ M) : ∀ i, (flK L T P i).1.length ≤ i * (2 * M)
  | 0 => Nat.zero_le _
  | i + 1 => by
    have ih := flK_len L T P M hT hL i
    have g1 : ∀ (X : List (List UInt8)), (∀ t ∈ X, t.length ≤ M) → ∀ j, (X.getD j []).length ≤ M := by
      intro X hX j
      rw [List.getD_eq_getElem?_getD]
      cases h : X[j]? with
      | none => simp
      | some t => exact hX t (List.mem_of_getElem? h)
    have h1 := g1 T hT i
    show (stB L (T.getD i []) P[i]? (flK L T P i)).1.length ≤ _
    rw [Nat.add_mul]
    cases ho : P[i]? with
    | none => rw [stB_none]; simp only [List.length_append]; omega
    | some d =>
      have h2 := g1 L hL d
      by_cases h : d < L.length
      · rw [stB_yes h]; simp only [List.length_append]; omega
      · rw [stB_no h]; simp only [List.length_append]; omega
theorem strC_S (t : List UInt8) : Lib.strCells ⟨t.toArray⟩ = Lib.byteCells t := by
  unfold Lib.strCells Lib.byteCells
  simp
end Go.Proofs.YtmmllhdphlnpjaaDoor
