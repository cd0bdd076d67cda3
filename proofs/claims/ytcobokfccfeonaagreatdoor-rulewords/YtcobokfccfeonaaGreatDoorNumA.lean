/- What num.Is, bare and the digit helpers return, at any world. -/
import Derived.Test.YtcobokfccfeonaaGreatDoorProg
import Derived.Test.YtcobokfccfeonaaGreatDoorPlain
import Derived.WalkKit
import Derived.WalkSpells
import Derived.WalkLawsBesides
import Derived.Below
import Derived.Lib.Hide
import Derived.IntWalk
namespace Go.Proofs.YtcobokfccfeonaaGreatDoor
open Go.RowKit Florin

theorem take_snoc (s : ByteArray) (k : Nat) (h : k < s.size) : s.data.toList.take (k + 1) = s.data.toList.take k ++ [s[k]] := by
  rw [List.take_succ_eq_append_getElem (by simpa using h)]; rfl
theorem take_all (s : ByteArray) (k : Nat) (h : s.size ≤ k) : s.data.toList.take k = s.data.toList := by
  rw [List.take_of_length_le (by simpa using h)]
theorem ret_bool {a b : Bool} (h : a = b) : Ending.returned (.bool a) = .returned (.bool b) := by rw [h]
theorem isDig_at (s : ByteArray) (k : Nat) (h : k < s.size) (hd : isD s[k] = false) : isDig s.data.toList = false := by
  unfold isDig
  rw [List.all_eq_false]
  exact ⟨s[k], by simp [ByteArray.getElem_eq_getElem_data], by simp [hd]⟩

end Go.Proofs.YtcobokfccfeonaaGreatDoor
