/- What round's small functions return: Valid, away, odd, half. -/
import Derived.Test.YtjobccgpejbchaaDoorDecP
import Derived.Test.YtjobccgpejbchaaDoorRPlain3
import Derived.Deep.RegionWith
import Derived.Deep.DrawnRows
namespace Go.Proofs.YtjobccgpejbchaaDoor
open Go.RowKit Florin
set_option linter.unusedVariables false
set_option linter.unusedSimpArgs false
attribute [local go_sem ↓] Go.wp_at_zero Go.wp_at_succ

def vm (m : Int) : Bool := decide (0 ≤ m ∧ m ≤ 6)
theorem times2 (a : List UInt8) (w : World) (ha : a.length ≤ 1000000) (da : isDig a = true) (ht : Tab w) :
    Calls Tryd.prog 15 #[S a, .int .i64 2] w fun e w' => e = .returned (S (dig (val a * 2))) ∧ Below w.heap.size w w' := timesS a 2 w ha da (by decide) ht
theorem ret_ci {a b c d : Int} (h1 : a = c) (h2 : b = d) : Ending.returned (.int .i64 (Lib.compareInt a b)) = .returned (.int .i64 (Lib.compareInt c d)) := by rw [h1, h2]
end Go.Proofs.YtjobccgpejbchaaDoor
