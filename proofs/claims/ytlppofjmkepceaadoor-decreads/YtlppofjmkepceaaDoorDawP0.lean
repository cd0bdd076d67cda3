/- The walk of the law DecParses, by what the text is. -/
import Derived.Test.YtlppofjmkepceaaDoorDecT0
import Derived.Test.YtlppofjmkepceaaDoorDawC0
namespace Go.Proofs.YtlppofjmkepceaaDoor
open Go.RowKit Florin
set_option linter.unusedVariables false
set_option linter.unusedSimpArgs false

def HeldT (w : World) (b : Nat) (t0 t1 t2 t3 t4 t5 t6 t7 : Value) (c : Nat) (d0 d1 d2 : Value) (W : World) : Prop := Box W b #[t0, t1, t2, t3, t4, t5, t6, t7] ∧ Box W c #[d0, d1, d2] ∧ Below w.heap.size w W
theorem HeldT.all {w : World} {b : Nat} {t0 t1 t2 t3 t4 t5 t6 t7 : Value} {c : Nat} {d0 d1 d2 : Value} {W : World} (h : HeldT w b t0 t1 t2 t3 t4 t5 t6 t7 c d0 d1 d2 W) :
    W.cell? ⟨b, 0, none⟩ = some t0 ∧ W.cell? ⟨c, 0, none⟩ = some d0 ∧ W.cell? ⟨c, 1, none⟩ = some d1 ∧ W.cell? ⟨c, 2, none⟩ = some d2 ∧ HeldT w b t0 t1 t2 t3 t4 t5 t6 t7 c d0 d1 d2 W := by
  have h' := h
  obtain ⟨h0, h1, hb⟩ := h
  exact ⟨h0.cell 0, h1.cell 0, h1.cell 1, h1.cell 2, h'⟩
theorem HeldT.keep {w : World} {b : Nat} {t0 t1 t2 t3 t4 t5 t6 t7 : Value} {c : Nat} {d0 d1 d2 : Value} {W W' : World} (h : W.cell? ⟨b, 0, none⟩ = some t0 ∧ W.cell? ⟨c, 0, none⟩ = some d0 ∧ W.cell? ⟨c, 1, none⟩ = some d1 ∧ W.cell? ⟨c, 2, none⟩ = some d2 ∧ HeldT w b t0 t1 t2 t3 t4 t5 t6 t7 c d0 d1 d2 W) (hw : Below W.heap.size W W') :
    W'.cell? ⟨b, 0, none⟩ = some t0 ∧ W'.cell? ⟨c, 0, none⟩ = some d0 ∧ W'.cell? ⟨c, 1, none⟩ = some d1 ∧ W'.cell? ⟨c, 2, none⟩ = some d2 ∧ HeldT w b t0 t1 t2 t3 t4 t5 t6 t7 c d0 d1 d2 W' := by
  obtain ⟨_, _, _, _, h⟩ := h
  obtain ⟨h0, h1, hb⟩ := h
  exact HeldT.all ⟨h0.below hw h0.lt, h1.below hw h1.lt, hb.trans (hw.mono hb.size)⟩
theorem HeldT.drew {w : World} {b : Nat} {t0 t1 t2 t3 t4 t5 t6 t7 : Value} {c : Nat} {d0 d1 d2 : Value} {W : World} (h : HeldT w b t0 t1 t2 t3 t4 t5 t6 t7 c d0 d1 d2 W) : HeldT w b t0 t1 t2 t3 t4 t5 t6 t7 c d0 d1 d2 W.drew := by
  obtain ⟨h0, h1, hb⟩ := h
  exact ⟨h0.drew, h1.drew, hb.drew⟩
end Go.Proofs.YtlppofjmkepceaaDoor
