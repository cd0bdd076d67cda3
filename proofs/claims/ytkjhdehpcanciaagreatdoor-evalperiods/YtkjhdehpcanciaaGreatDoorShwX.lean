/- What is shown, as a struct (for places where the program shows nothing itself). -/
import Derived.Test.YtkjhdehpcanciaaGreatDoorHold
namespace Go.Proofs.YtkjhdehpcanciaaGreatDoor
open Go.RowKit Florin
/-- What is shown. -/
structure Vs where
  neg : Bool
  i : List UInt8
  f : List UInt8
deriving DecidableEq
abbrev VV (v : Vs) : Value := .agg #[.bool v.neg, S v.i, S v.f]
end Go.Proofs.YtkjhdehpcanciaaGreatDoor
