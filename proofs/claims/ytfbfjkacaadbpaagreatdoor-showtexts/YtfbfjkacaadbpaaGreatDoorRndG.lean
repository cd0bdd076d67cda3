/- What the helpers of the laws on rounding return; contracts over decimals as triples. -/
import Derived.Test.YtfbfjkacaadbpaaGreatDoorRndH
import Derived.Test.YtfbfjkacaadbpaaGreatDoorDawH0
import Derived.Test.YtfbfjkacaadbpaaGreatDoorDecEq
namespace Go.Proofs.YtfbfjkacaadbpaaGreatDoor
open Go.RowKit Florin
set_option linter.unusedVariables false
set_option linter.unusedSimpArgs false
attribute [local go_sem ↓] Go.wp_at_zero Go.wp_at_succ

/-- Two decimals compared. -/
def CmpIs (d g : Tri) (c : Int) : Prop := ∃ k x y, Fit k x ∧ Fit k y ∧ made d.neg d.l d.e = nf k x ∧ made g.neg g.l g.e = nf k y ∧ Lib.compareInt x y = c
theorem cmp_T (d g : Tri) (c : Int) (w : World) (h1 : d.l.length ≤ 100000) (h2 : g.l.length ≤ 100000) (h : CmpIs d g c) :
    Calls Tryz.prog 32 #[V d, V g] w fun z w' => z = .returned (.int .i64 c) ∧ Below w.heap.size w w' := by
  obtain ⟨k, x, y, hx, hy, hd, hg, hc⟩ := h
  exact cmpD d.neg ⟨d.l.toArray⟩ d.e g.neg ⟨g.l.toArray⟩ g.e w (by rw [arr_size]; exact h1) (by rw [arr_size]; exact h2) k x y hx hy (by rw [arr_list]; exact hd) (by rw [arr_list]; exact hg) c hc
def AddIs (d g r : Tri) : Prop := ∃ k x y, Fit k x ∧ Fit k y ∧ Fit k (x + y) ∧ made d.neg d.l d.e = nf k x ∧ made g.neg g.l g.e = nf k y ∧ nf k (x + y) = r
theorem add_T (d g r : Tri) (w : World) (h1 : d.l.length ≤ 100000) (h2 : g.l.length ≤ 100000) (h : AddIs d g r) :
    Calls Tryz.prog 58 #[V d, V g] w fun z w' => z = .returned (V r) ∧ Below w.heap.size w w' := by
  obtain ⟨k, x, y, hx, hy, hs, hd, hg, rfl⟩ := h
  exact addD d.neg ⟨d.l.toArray⟩ d.e g.neg ⟨g.l.toArray⟩ g.e w (by rw [arr_size]; exact h1) (by rw [arr_size]; exact h2) k x y hx hy hs (by rw [arr_list]; exact hd) (by rw [arr_list]; exact hg)
def SubIs (d g r : Tri) : Prop := ∃ k x y, Fit k x ∧ Fit k y ∧ Fit k (x - y) ∧ made d.neg d.l d.e = nf k x ∧ Dv k y g ∧ nf k (x - y) = r
theorem sub_T (d g r : Tri) (w : World) (h1 : d.l.length ≤ 100000) (h2 : g.l.length ≤ 100000) (h : SubIs d g r) :
    Calls Tryz.prog 36 #[V d, V g] w fun z w' => z = .returned (V r) ∧ Below w.heap.size w w' := by
  obtain ⟨k, x, y, hx, hy, hs, hd, hg, rfl⟩ := h
  exact subD d.neg ⟨d.l.toArray⟩ d.e g.neg ⟨g.l.toArray⟩ g.e w (by rw [arr_size]; exact h1) (by rw [arr_size]; exact h2) k x y hx hy hs (by rw [arr_list]; exact hd) (by rw [arr_list]; exact hg)
theorem at_T (d : Tri) (p m : Int) (g : Tri) (w : World) (h1 : d.l.length ≤ 100000) (h : mulT (made d.neg d.l d.e) 1 (hld p) m = g) (ht : Tab w) :
    Calls Tryz.prog 14 #[V d, .int .i64 p, .int .i64 m] w fun z w' => z = .returned (V g) ∧ Below w.heap.size w w' :=
  at_as d.neg ⟨d.l.toArray⟩ d.e p m w (by rw [arr_size]; exact h1) _ (by rw [arr_list]) ht g h
theorem minus_T (d g : Tri) (w : World) (h1 : d.l.length ≤ 100000) (h : made (!d.neg) d.l d.e = g) :
    Calls Tryz.prog 33 #[V d] w fun z w' => z = .returned (V g) ∧ Below w.heap.size w w' :=
  minus_as d.neg ⟨d.l.toArray⟩ d.e w (by rw [arr_size]; omega) g (by rw [arr_list]; exact h)
theorem abs_T (d g : Tri) (w : World) (h1 : d.l.length ≤ 100000) (h : made false d.l d.e = g) :
    Calls Tryz.prog 37 #[V d] w fun z w' => z = .returned (V g) ∧ Below w.heap.size w w' :=
  abs_as d.neg ⟨d.l.toArray⟩ d.e w (by rw [arr_size]; omega) g (by rw [arr_list]; exact h)
theorem norm_T (d g : Tri) (w : World) (h1 : d.l.length ≤ 100000) (h : made d.neg d.l d.e = g) :
    Calls Tryz.prog 23 #[V d] w fun z w' => z = .returned (V g) ∧ Below w.heap.size w w' :=
  norm_as d.neg ⟨d.l.toArray⟩ d.e w (by rw [arr_size]; omega) g (by rw [arr_list]; exact h)
theorem zero_T (d : Tri) (z : Bool) (w : World) (h1 : d.l.length ≤ 100000) (h : (made d.neg d.l d.e).l.isEmpty = z) :
    Calls Tryz.prog 28 #[V d] w fun x w' => x = .returned (.bool z) ∧ Below w.heap.size w w' :=
  zero_as d.neg ⟨d.l.toArray⟩ d.e w (by rw [arr_size]; omega) _ (by rw [arr_list]) z h
theorem stepT_yes (d i : Tri) (m : Int) (g : Tri) (w : World) (h1 : d.l.length ≤ 100000) (h2 : i.l.length ≤ 100000) (il : List UInt8) (ie : Int) (hi : made i.neg i.l i.e = ⟨false, il, ie⟩) (hF1 : 1 ≤ val il) (hF2 : val il ≤ 1000000000) (h : mulT (made d.neg d.l d.e) (val il) ie m = g) (ht : Tab w) :
    Calls Tryz.prog 20 #[V d, V i, .int .i64 m] w fun z w' => z = .returned (V g) ∧ Below w.heap.size w w' :=
  step_yes d.neg ⟨d.l.toArray⟩ d.e m w (by rw [arr_size]; exact h1) _ (by rw [arr_list]) i.neg ⟨i.l.toArray⟩ i.e (by rw [arr_size]; exact h2) il ie (by rw [arr_list]; exact hi) (val il) rfl (Nat.lt_of_le_of_lt hF2 (by decide)) hF1 hF2 ht g h

set_option maxHeartbeats 800000 in
theorem unit_as (p : Int) (w : World) (u : Tri) (hu : made false [49] p = u) :
    Calls Tryz.prog 15 #[.int .i64 p] w fun x w' => x = .returned (V u) ∧ Below w.heap.size w w' := by
  have HU := Lib.hid hu
  clear hu
  go_enter Tryz.func15, Tryz.ntmps15
  go_wp2_with fail
  with_reducible refine (made_as false ⟨#[49]⟩ p _ (by decide) u HU.out).mono ?_
  rintro x w1 ⟨rfl, hb⟩
  have H1 : Hid (HeldL w [(w.heap.size, #[.bool false, .string ⟨#[]⟩, .int .i64 0])] w1) := Lib.hid (HeldL.keep (HeldL.alloc (HeldL.refl w) _ _ _ rfl) hb)
  obtain ⟨r0, r1, r2, f0, f1, f2, lt⟩ := (H1.out.f (List.Mem.head _)).three
  clear hb
  go_wp2
  exact bodyPost_ret (v := V u) (by simp [results, Tryz.results15, go_sem, r0, r1, r2]) rfl ⟨rfl, (HeldL.store3 [] [] H1.out _ _ _).bel⟩
set_option maxHeartbeats 800000 in
theorem twice_as (d r : Tri) (w : World) (h1 : d.l.length ≤ 100000) (h : AddIs d d r) :
    Calls Tryz.prog 38 #[V d] w fun x w' => x = .returned (V r) ∧ Below w.heap.size w w' := by
  have HU := Lib.hid h
  clear h
  go_enter Tryz.func38, Tryz.ntmps38
  go_wp2_with fail
  with_reducible refine (add_T d d r _ h1 h1 HU.out).mono ?_
  rintro x w1 ⟨rfl, hb⟩
  have H1 : Hid (HeldL w [(w.heap.size + 1, #[.bool false, .string ⟨#[]⟩, .int .i64 0]), (w.heap.size, #[.bool d.neg, S d.l, .int .i64 d.e])] w1) := Lib.hid (HeldL.keep (HeldL.alloc (HeldL.alloc (HeldL.refl w) _ _ _ rfl) _ _ _ (by simp)) hb)
  obtain ⟨r0, r1, r2, f0, f1, f2, lt⟩ := (H1.out.f (List.Mem.head _)).three
  clear hb
  go_wp2
  exact bodyPost_ret (v := V r) (by simp [results, Tryz.results38, go_sem, r0, r1, r2]) rfl ⟨rfl, (HeldL.store3 [] [(w.heap.size, #[.bool d.neg, S d.l, .int .i64 d.e])] H1.out _ _ _).bel⟩
theorem u64_mod (n : Int) (k : Int) (hk : 0 < k) (h9 : k ≤ 1000) : 0 ≤ wrap64 ((IntKind.u64.wrap n).tmod k) ∧ wrap64 ((IntKind.u64.wrap n).tmod k) < k := by
  have h0 : 0 ≤ IntKind.u64.wrap n := by
    show 0 ≤ n % _
    exact Int.emod_nonneg _ (by decide)
  have h1 := Int.tmod_lt_of_pos (IntKind.u64.wrap n) hk
  have h2 := Int.tmod_nonneg k h0
  generalize (IntKind.u64.wrap n).tmod k = t at *
  have : wrap64 t = t := by unfold wrap64; omega
  rw [this]; exact ⟨h2, h1⟩
set_option maxHeartbeats 800000 in
theorem mode_as (n : Int) : ∃ m : Int, 0 ≤ m ∧ m ≤ 6 ∧ ∀ w : World, Calls Tryz.prog 11 #[.int .i64 n] w fun x w' => x = .returned (.int .i64 m) ∧ w = w' := by
  have hb := u64_mod n 7 (by decide) (by decide)
  refine ⟨wrap64 ((IntKind.u64.wrap n).tmod 7), hb.1, by omega, fun w => ?_⟩
  clear hb
  go_enter Tryz.func11, Tryz.ntmps11
  go_wp2
  go_ret
  exact ⟨rfl, rfl⟩
end Go.Proofs.YtfbfjkacaadbpaaGreatDoor
