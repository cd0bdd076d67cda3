/- What num.Div and num.Int return, at any world. -/
import Derived.Test.YtcobokfccfeonaaGreatDoorNumF
namespace Go.Proofs.YtcobokfccfeonaaGreatDoor
open Go.RowKit Florin

theorem isD_at (s : ByteArray) (k : Nat) (hd : isDig s.data.toList = true) (h : k < s.size) : isD s[k] = true := by
  unfold isDig at hd
  rw [List.all_eq_true] at hd
  exact hd _ (by simp [ByteArray.getElem_eq_getElem_data])
theorem set_quo (n k q d : Nat) (hk : k < n) (q0 : Nat) (hq : q / 10 = q0) (hd : d % 10 = q % 10) : (digs k q0 ++ List.replicate (n - k) (0 : UInt8)).set k (db d) = digs (k + 1) q ++ List.replicate (n - (k + 1)) 0 := by
  rw [show digs (k + 1) q = digs k (q / 10) ++ [db q] from rfl, hq, db_congr hd]
  rw [List.set_append_right _ _ (by rw [digs_length]; omega), digs_length, Nat.sub_self]
  rw [show n - k = (n - (k + 1)) + 1 by omega, List.replicate_succ]
  simp

theorem ret_I2 {a b : Int} {v : Value} (h : a = b) : Ending.returned (.tuple #[.int .i64 a, v]) = .returned (.tuple #[.int .i64 b, v]) := by rw [h]
end Go.Proofs.YtcobokfccfeonaaGreatDoor
