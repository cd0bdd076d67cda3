/- What num.Trim, bare and the helpers on single digits return, at any world. -/
import Derived.Test.YtcobokfccfeonaaGreatDoorNumA
import Derived.Test.YtcobokfccfeonaaGreatDoorShelf
namespace Go.Proofs.YtcobokfccfeonaaGreatDoor
open Go.RowKit Florin

/-- A text as a value. -/
abbrev S (l : List UInt8) : Value := .string ⟨l.toArray⟩

theorem ret_int {k : IntKind} {a b : Int} (h : a = b) : Ending.returned (.int k a) = .returned (.int k b) := by rw [h]

end Go.Proofs.YtcobokfccfeonaaGreatDoor
