/- A table with one thing turned: what is known of it on the way. -/
import Derived.Test.YtkbigfkpgjhojaaTuA
import Derived.Test.YtkbigfkpgjhojaaTdG
import Derived.Test.YtkbigfkpgjhojaaTcH
import Derived.Test.YtkbigfkpgjhojaaBkE
namespace Go.Proofs.Ytkbigfkpgjhojaa
open Go.RowKit Florin
set_option linter.unusedVariables false
set_option linter.unusedSimpArgs false
theorem tb22 (f : Nat → List UInt8) (mg : Int) (vsh vlo vms vcu vun vmu v : Value) : (tbA f mg vsh vlo vms vcu vun vmu).setIfInBounds 22 v = tbA f mg v vlo vms vcu vun vmu := rfl
theorem tb23 (f : Nat → List UInt8) (mg : Int) (vsh vlo vms vcu vun vmu v : Value) : (tbA f mg vsh vlo vms vcu vun vmu).setIfInBounds 23 v = tbA f mg vsh v vms vcu vun vmu := rfl
theorem tb24 (f : Nat → List UInt8) (mg : Int) (vsh vlo vms vcu vun vmu v : Value) : (tbA f mg vsh vlo vms vcu vun vmu).setIfInBounds 24 v = tbA f mg vsh vlo v vcu vun vmu := rfl
theorem tb25 (f : Nat → List UInt8) (mg : Int) (vsh vlo vms vcu vun vmu v : Value) : (tbA f mg vsh vlo vms vcu vun vmu).setIfInBounds 25 v = tbA f mg vsh vlo vms v vun vmu := rfl
theorem tb26 (f : Nat → List UInt8) (mg : Int) (vsh vlo vms vcu vun vmu v : Value) : (tbA f mg vsh vlo vms vcu vun vmu).setIfInBounds 26 v = tbA f mg vsh vlo vms vcu v vmu := rfl
theorem tb27 (f : Nat → List UInt8) (mg : Int) (vsh vlo vms vcu vun vmu v : Value) : (tbA f mg vsh vlo vms vcu vun vmu).setIfInBounds 27 v = tbA f mg vsh vlo vms vcu vun v := rfl
theorem tb16 (f : Nat → List UInt8) (mg n : Int) (vsh vlo vms vcu vun vmu : Value) : (tbA f mg vsh vlo vms vcu vun vmu).setIfInBounds 16 (.int .i64 n) = tbA f n vsh vlo vms vcu vun vmu := rfl
/-- What is known of the boxes: the table's and the result's. -/
structure T0 (w0 w : World) (q : Nat) (X : Array Value) : Prop where
  hq : w0.heap.size = q
  hb : Below q w0 w
  box : BoxT w q X TTb
  zbox : BoxT w (q + 1) Z34 TTb
theorem T0.sz {w0 w : World} {q : Nat} {X : Array Value} (h : T0 w0 w q X) : q + 2 ≤ w.heap.size := h.zbox.lt
theorem T0.below {w0 w w' : World} {q : Nat} {X : Array Value} (h : T0 w0 w q X) (hb : Below w.heap.size w w') : T0 w0 w' q X :=
  ⟨h.hq, h.hb.trans (hb.mono (by have := h.sz; omega)), h.box.below hb, h.zbox.below hb⟩
theorem T0.row {w0 w w' : World} {q : Nat} {X : Array Value} (h : T0 w0 w q X) {T : TypeId} {sz n : Nat} {v : Value} {xs : List Value} (ho : w.ownsRow q T sz v n xs) (hn : TTb ≠ T) (hg : w.grownBy w' v.ownBlock) : T0 w0 w' q X :=
  ⟨h.hq, h.hb.grown hg (by have := h.sz; omega) (fun j hj => (World.ownsRow.lt ho j hj).1), KeepB.own (T := TTb) ho hn hg q X h.box, KeepB.own (T := TTb) ho hn hg _ _ h.zbox⟩
theorem T0.set {w0 w : World} {q : Nat} {X : Array Value} (h : T0 w0 w q X) (i : Nat) (v : Value) : T0 w0 (w.setCell ⟨q, i, none⟩ v) q (X.setIfInBounds i v) :=
  ⟨h.hq, h.hb.trans (below_grown (Below.refl _ _) (by have := h.sz; omega) (Nat.le_refl _) (grown_set (World.grownBy.refl w _) i v)), h.box.set i v, h.zbox.other (a := ⟨q, i, none⟩) (by simp) v⟩
theorem new_below {w w' : World} {o : Obj} (hg : (w.alloc o).grownBy w' (some w.heap.size)) : Below w.heap.size w w' :=
  ((Below.refl w.heap.size w).alloc (Nat.le_refl _) o).grown hg (by simp) (fun j hj => by obtain rfl := Option.some.inj hj; exact Nat.le_refl _)
/-- A list of the call's own, told apart from the boxes by its elements. -/
theorem OwnA.setq {α : Type} {w : World} {base q sz : Nat} {T U : TypeId} {X : Array Value} {A : α → List Value → Prop} {v : Value} {l : List α} (h : OwnA w base T sz A v l) (hx : BoxT w q X U) (hn : T ≠ U) (i : Nat) (u : Value) : OwnA (w.setCell ⟨q, i, none⟩ u) base T sz A v l := h.keep (KeepB.set hx hn i u) (fun _ _ h => h)
theorem OwnA.bel {α : Type} {w w' : World} {base sz : Nat} {T : TypeId} {A : α → List Value → Prop} {v : Value} {l : List α} (h : OwnA w base T sz A v l) (hb : Below w.heap.size w w') : OwnA w' base T sz A v l := h.keep (KeepB.below hb) (fun _ _ h => h)
/-- The lists that were handed in, and those of the call's own. -/
structure TS (w0 w : World) (q : Nat) (f : Nat → List UInt8) (mg : Int) (vsh vlo vms vcu vun vmu : Value) (sh lo ms : List RowM) (cu : List CurM) (un : List UntM) (mu : List TxM) : Prop where
  t0 : T0 w0 w q (tbA f mg vsh vlo vms vcu vun vmu)
  osh : OwnA w q TRw 2 (rowA w0 q) vsh sh
  olo : RowL w0 q vlo lo
  oms : RowL w0 q vms ms
  ocu : OwnA w q TCu 8 (curA w0 q) vcu cu
  oun : OwnA w q TUn 2 (untA w0 q) vun un
  omu : TxL w0 q vmu mu
end Go.Proofs.Ytkbigfkpgjhojaa
