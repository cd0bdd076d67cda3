/- The category of a rule as it is made. -/
import Derived.Test.YtkjhdehpcanciaaGreatDoorMdA
namespace Go.Proofs.YtkjhdehpcanciaaGreatDoor
open Go.RowKit Florin
set_option linter.unusedVariables false
set_option linter.unusedSimpArgs false
attribute [local go_sem ↓] Go.wp_at_zero Go.wp_at_succ

theorem u64_modM (n : Int) (k : Int) (hk : 0 < k) (h9 : k ≤ 1000) : 0 ≤ wrap64 ((IntKind.u64.wrap n).tmod k) ∧ wrap64 ((IntKind.u64.wrap n).tmod k) < k := by
  have h0 : 0 ≤ IntKind.u64.wrap n := by
    show 0 ≤ n % _
    exact Int.emod_nonneg _ (by decide)
  have h1 := Int.tmod_lt_of_pos (IntKind.u64.wrap n) hk
  have h2 := Int.tmod_nonneg k h0
  generalize (IntKind.u64.wrap n).tmod k = t at *
  have : wrap64 t = t := by unfold wrap64; omega
  rw [this]; exact ⟨h2, h1⟩
noncomputable def modM (n k : Int) : Nat := (wrap64 ((IntKind.u64.wrap n).tmod k)).toNat
theorem modM_is (n k : Int) (hk : 0 < k) (h9 : k ≤ 1000) : wrap64 ((IntKind.u64.wrap n).tmod k) = (modM n k : Int) ∧ (modM n k : Int) < k := by
  obtain ⟨h1, h2⟩ := u64_modM n k hk h9
  unfold modM
  exact ⟨by omega, by omega⟩
set_option maxRecDepth 100000 in
set_option maxHeartbeats 1600000 in
theorem mcat_as (m : MadeM) (a : Option Addr) (n c : Nat) (w : World) :
    Calls Tryz.prog 29 #[.agg #[.int .i64 m.cat, .int .i64 m.gp, .int .i64 m.smp, .slice a n c]] w fun e w' => e = .returned (.int .i64 ((modM m.cat 6 : Nat) : Int)) ∧ Below w.heap.size w w' := by
  have h := (modM_is m.cat 6 (by decide) (by decide)).1
  go_enter Tryz.func29, Tryz.ntmps29
  go_wp2
  go_ret
  exact ⟨by rw [← h]; rfl, Below.alloc (Below.refl _ _) (Nat.le_refl _) _⟩
end Go.Proofs.YtkjhdehpcanciaaGreatDoor
