/- What num.Sub returns, at any world. -/
import Derived.Test.YtjhppbnelfandaaGreatDoorNumE
namespace Go.Proofs.YtjhppbnelfandaaGreatDoor
open Go.RowKit Florin

theorem cmpv_lt {a b : List UInt8} (ha : isDig a = true) (hb : isDig b = true) : cmpv a b < 0 ↔ val a < val b := by
  rw [cmpv_yes (by rw [ha, hb]; rfl)]
  unfold Lib.compareInt
  split
  · omega
  · split <;> omega

end Go.Proofs.YtjhppbnelfandaaGreatDoor
