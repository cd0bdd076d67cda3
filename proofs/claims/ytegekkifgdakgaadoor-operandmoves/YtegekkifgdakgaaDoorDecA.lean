/- What the small helpers of dec return, at any world: held, sign. -/
import Derived.Test.YtegekkifgdakgaaDoorNumS
import Derived.Test.YtegekkifgdakgaaDoorDPlain
namespace Go.Proofs.YtegekkifgdakgaaDoor
open Go.RowKit Florin

theorem held_any (e : Int) (w : World) : Calls Tryd.prog 50 #[.int .i64 e] w fun x w' => x = .returned (.int .i64 (hld e)) ∧ w = w' := by
  go_enter Tryd.func50, Tryd.ntmps50
  go_wp2_with fail
  go_ret
  exact ⟨rfl, rfl⟩

end Go.Proofs.YtegekkifgdakgaaDoor
