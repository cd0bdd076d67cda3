/- What the laws' own helpers return: Few and Make of Raw. -/
import Derived.Test.YtkjhdehpcanciaaGreatDoorDecI
import Derived.Deep.RegionWith
import Derived.Deep.DrawnRows
namespace Go.Proofs.YtkjhdehpcanciaaGreatDoor
open Go.RowKit Florin
set_option linter.unusedVariables false
attribute [local go_sem ↓] Go.wp_at_zero Go.wp_at_succ

theorem Box.drew {w : World} {b : Nat} {cs : Array Value} (h : Box w b cs) : Box w.drew b cs := h
/-- A decimal as it came in. -/
abbrev RV (n : Bool) (a : Option Addr) (len cap : Nat) (e : Int) : Value := .agg #[.bool n, .slice a len cap, .int .i64 e]

end Go.Proofs.YtkjhdehpcanciaaGreatDoor
