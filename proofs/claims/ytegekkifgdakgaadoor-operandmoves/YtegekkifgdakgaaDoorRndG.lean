/- What the helpers of the laws on rounding return; contracts over decimals as triples. -/
import Derived.Test.YtegekkifgdakgaaDoorRndH
import Derived.Test.YtegekkifgdakgaaDoorDawH0
import Derived.Test.YtegekkifgdakgaaDoorDecEq
namespace Go.Proofs.YtegekkifgdakgaaDoor
open Go.RowKit Florin
set_option linter.unusedVariables false
set_option linter.unusedSimpArgs false
attribute [local go_sem ↓] Go.wp_at_zero Go.wp_at_succ

/-- Two decimals compared. -/
def CmpIs (d g : Tri) (c : Int) : Prop := ∃ k x y, Fit k x ∧ Fit k y ∧ made d.neg d.l d.e = nf k x ∧ made g.neg g.l g.e = nf k y ∧ Lib.compareInt x y = c
def AddIs (d g r : Tri) : Prop := ∃ k x y, Fit k x ∧ Fit k y ∧ Fit k (x + y) ∧ made d.neg d.l d.e = nf k x ∧ made g.neg g.l g.e = nf k y ∧ nf k (x + y) = r
def SubIs (d g r : Tri) : Prop := ∃ k x y, Fit k x ∧ Fit k y ∧ Fit k (x - y) ∧ made d.neg d.l d.e = nf k x ∧ Dv k y g ∧ nf k (x - y) = r
theorem at_T (d : Tri) (p m : Int) (g : Tri) (w : World) (h1 : d.l.length ≤ 100000) (h : mulT (made d.neg d.l d.e) 1 (hld p) m = g) (ht : Tab w) :
    Calls Tryd.prog 44 #[V d, .int .i64 p, .int .i64 m] w fun z w' => z = .returned (V g) ∧ Below w.heap.size w w' :=
  at_as d.neg ⟨d.l.toArray⟩ d.e p m w (by rw [arr_size]; exact h1) _ (by rw [arr_list]) ht g h
theorem abs_T (d g : Tri) (w : World) (h1 : d.l.length ≤ 100000) (h : made false d.l d.e = g) :
    Calls Tryd.prog 27 #[V d] w fun z w' => z = .returned (V g) ∧ Below w.heap.size w w' :=
  abs_as d.neg ⟨d.l.toArray⟩ d.e w (by rw [arr_size]; omega) g (by rw [arr_list]; exact h)
theorem norm_T (d g : Tri) (w : World) (h1 : d.l.length ≤ 100000) (h : made d.neg d.l d.e = g) :
    Calls Tryd.prog 48 #[V d] w fun z w' => z = .returned (V g) ∧ Below w.heap.size w w' :=
  norm_as d.neg ⟨d.l.toArray⟩ d.e w (by rw [arr_size]; omega) g (by rw [arr_list]; exact h)
theorem zero_T (d : Tri) (z : Bool) (w : World) (h1 : d.l.length ≤ 100000) (h : (made d.neg d.l d.e).l.isEmpty = z) :
    Calls Tryd.prog 18 #[V d] w fun x w' => x = .returned (.bool z) ∧ Below w.heap.size w w' :=
  zero_as d.neg ⟨d.l.toArray⟩ d.e w (by rw [arr_size]; omega) _ (by rw [arr_list]) z h
theorem stepT_yes (d i : Tri) (m : Int) (g : Tri) (w : World) (h1 : d.l.length ≤ 100000) (h2 : i.l.length ≤ 100000) (il : List UInt8) (ie : Int) (hi : made i.neg i.l i.e = ⟨false, il, ie⟩) (hF1 : 1 ≤ val il) (hF2 : val il ≤ 1000000000) (h : mulT (made d.neg d.l d.e) (val il) ie m = g) (ht : Tab w) :
    Calls Tryd.prog 46 #[V d, V i, .int .i64 m] w fun z w' => z = .returned (V g) ∧ Below w.heap.size w w' :=
  step_yes d.neg ⟨d.l.toArray⟩ d.e m w (by rw [arr_size]; exact h1) _ (by rw [arr_list]) i.neg ⟨i.l.toArray⟩ i.e (by rw [arr_size]; exact h2) il ie (by rw [arr_list]; exact hi) (val il) rfl (Nat.lt_of_le_of_lt hF2 (by decide)) hF1 hF2 ht g h

theorem u64_mod (n : Int) (k : Int) (hk : 0 < k) (h9 : k ≤ 1000) : 0 ≤ wrap64 ((IntKind.u64.wrap n).tmod k) ∧ wrap64 ((IntKind.u64.wrap n).tmod k) < k := by
  have h0 : 0 ≤ IntKind.u64.wrap n := by
    show 0 ≤ n % _
    exact Int.emod_nonneg _ (by decide)
  have h1 := Int.tmod_lt_of_pos (IntKind.u64.wrap n) hk
  have h2 := Int.tmod_nonneg k h0
  generalize (IntKind.u64.wrap n).tmod k = t at *
  have : wrap64 t = t := by unfold wrap64; omega
  rw [this]; exact ⟨h2, h1⟩
set_option maxHeartbeats 800000 in
theorem mode_as (n : Int) : ∃ m : Int, 0 ≤ m ∧ m ≤ 6 ∧ ∀ w : World, Calls Tryd.prog 39 #[.int .i64 n] w fun x w' => x = .returned (.int .i64 m) ∧ w = w' := by
  have hb := u64_mod n 7 (by decide) (by decide)
  refine ⟨wrap64 ((IntKind.u64.wrap n).tmod 7), hb.1, by omega, fun w => ?_⟩
  clear hb
  go_enter Tryd.func39, Tryd.ntmps39
  go_wp2
  go_ret
  exact ⟨rfl, rfl⟩
end Go.Proofs.YtegekkifgdakgaaDoor
