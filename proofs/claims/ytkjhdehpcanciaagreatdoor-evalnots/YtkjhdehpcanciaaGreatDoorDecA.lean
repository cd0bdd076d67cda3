/- What the small helpers of dec return, at any world: held, sign. -/
import Derived.Test.YtkjhdehpcanciaaGreatDoorNumS
import Derived.Test.YtkjhdehpcanciaaGreatDoorDPlain
namespace Go.Proofs.YtkjhdehpcanciaaGreatDoor
open Go.RowKit Florin

theorem held_any (e : Int) (w : World) : Calls Tryz.prog 71 #[.int .i64 e] w fun x w' => x = .returned (.int .i64 (hld e)) ∧ w = w' := by
  go_enter Tryz.func71, Tryz.ntmps71
  go_wp2_with fail
  go_ret
  exact ⟨rfl, rfl⟩

theorem sign_any (n : Bool) (s : ByteArray) (e : Int) (w : World) : Calls Tryz.prog 199 #[.agg #[.bool n, .string s, .int .i64 e]] w fun x w' => x = .returned (.string ⟨(if n then [45] else []).toArray⟩) ∧ Below w.heap.size w w' := by
  cases n
  · go_enter Tryz.func199, Tryz.ntmps199
    go_wp2
    go_ret
    exact ⟨rfl, (Below.refl _ _).alloc (Nat.le_refl _) _⟩
  · go_enter Tryz.func199, Tryz.ntmps199
    go_wp2
    go_ret
    exact ⟨rfl, (Below.refl _ _).alloc (Nat.le_refl _) _⟩
end Go.Proofs.YtkjhdehpcanciaaGreatDoor
