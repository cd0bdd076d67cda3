/- Two decimals, compared as structs. -/
import Derived.Test.YtkjhdehpcanciaaGreatDoorDecC
import Derived.Laws.StructEq
namespace Go.Proofs.YtkjhdehpcanciaaGreatDoor
open Go.RowKit Florin

theorem run_V (a b : Tri) (w : World) : (Op.equalIn 10000 90 (V a) (V b)).run Tryz.prog w = .ok (decide (a = b)) w := by
  rw [show (10000 : Nat) = 9999 + 1 from rfl, run_equalIn_struct w 9999 90 _ _ (by kernel_rfl) (by kernel_rfl)]
  obtain ⟨an, al, ae⟩ := a
  obtain ⟨bn, bl, be⟩ := b
  simp [go_sem, Tryz.underlying90, Tryz.underlying4, Tryz.underlying9, Tryz.underlying3]
  by_cases h1 : an = bn
  · by_cases h2 : al = bl
    · by_cases h3 : ae = be
      · simp [h1, h2, h3]
      · simp [h1, h2, h3]
    · simp [h1, h2]
  · simp [h1]
theorem eq_V (a b : Tri) (w : World) : (binOp .eql 90 (V a) (V b)).run Tryz.prog w = .ok (.bool (decide (a = b))) w := by
  rw [run_eql_struct, run_V]; rfl
theorem ne_V (a b : Tri) (w : World) : (binOp .neq 90 (V a) (V b)).run Tryz.prog w = .ok (.bool (!decide (a = b))) w := by
  rw [run_neq_struct, run_V]; rfl
end Go.Proofs.YtkjhdehpcanciaaGreatDoor
