/- What num.Trim, bare and the helpers on single digits return, at any world. -/
import Derived.Test.YtkjhdehpcanciaaGreatDoorNumA
import Derived.Test.YtkjhdehpcanciaaGreatDoorShelf
namespace Go.Proofs.YtkjhdehpcanciaaGreatDoor
open Go.RowKit Florin

/-- A text as a value. -/
abbrev S (l : List UInt8) : Value := .string ⟨l.toArray⟩

theorem trim_yes (s : ByteArray) (w : World) (hs : s.size ≤ maxLen) (hd : isDig s.data.toList = true) :
    Calls Tryz.prog 41 #[.string s] w fun e w' => e = .returned (S (trim s.data.toList)) ∧ w = w' := by
  go_enter Tryz.func41, Tryz.ntmps41
  go_wp2_with fail
  refine (is_any _ _ hs).mono ?_
  rintro e w' ⟨rfl, rfl⟩
  go_wp2_with fail
  refine (Tryz.strings_TrimLeft_one _ 48 (by decide) _).mono ?_
  rintro e w' ⟨rfl, rfl⟩
  go_wp2
  go_ret
  exact ⟨rfl, rfl⟩
theorem trim_no (s : ByteArray) (w : World) (hs : s.size ≤ maxLen) (hd : isDig s.data.toList = false) :
    Calls Tryz.prog 41 #[.string s] w fun e w' => e = .returned (S []) ∧ w = w' := by
  go_enter Tryz.func41, Tryz.ntmps41
  go_wp2_with fail
  refine (is_any _ _ hs).mono ?_
  rintro e w' ⟨rfl, rfl⟩
  go_wp2
  go_ret
  exact ⟨rfl, rfl⟩

theorem ret_int {k : IntKind} {a b : Int} (h : a = b) : Ending.returned (.int k a) = .returned (.int k b) := by rw [h]

/-- The digit that a byte is. -/
theorem digitValue_any (c : UInt8) (w : World) (hc : isD c = true) :
    Calls Tryz.prog 74 #[.int .u8 c.toNat] w fun e w' => e = .returned (.int .i64 (dv c)) ∧ w = w' := by
  rw [isD_iff] at hc
  go_enter Tryz.func74, Tryz.ntmps74
  go_wp2
  go_ret
  refine ⟨ret_int ?_, rfl⟩
  unfold dv
  omega
theorem digitByte_any (d : Int) (w : World) (h0 : 0 ≤ d) (h1 : d < 10) :
    Calls Tryz.prog 52 #[.int .i64 d] w fun e w' => e = .returned (.int .u8 ((db d.toNat).toNat : Int)) ∧ w = w' := by
  go_enter Tryz.func52, Tryz.ntmps52
  go_wp2
  go_ret
  refine ⟨ret_int ?_, rfl⟩
  rw [db_nat]
  omega
end Go.Proofs.YtkjhdehpcanciaaGreatDoor
