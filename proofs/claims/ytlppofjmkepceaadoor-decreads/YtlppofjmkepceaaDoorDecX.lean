/- What the law's own readers return: run and form. -/
import Derived.Test.YtlppofjmkepceaaDoorDecI
import Derived.Test.YtlppofjmkepceaaDoorDForm
import Derived.Deep.Cut
namespace Go.Proofs.YtlppofjmkepceaaDoor
open Go.RowKit Florin
set_option linter.unusedVariables false
set_option linter.unusedSimpArgs false

theorem drop_at (s : ByteArray) (i : Nat) (h : i < s.size) : s.data.toList.drop i = s[i] :: s.data.toList.drop (i + 1) := by
  rw [List.drop_eq_getElem_cons (by simpa using h)]; rfl
theorem drop_end (s : ByteArray) (i : Nat) (h : s.size ≤ i) : s.data.toList.drop i = [] := List.drop_eq_nil_of_le (by simpa using h)

set_option maxRecDepth 100000 in
set_option maxHeartbeats 1600000 in
theorem run_any (s : ByteArray) (i : Nat) (w : World) (hi : i ≤ s.size) (hs : s.size ≤ 1000000) :
    Calls Tryd.prog 47 #[.string s, .int .i64 i] w fun x w' => x = .returned (.int .i64 (rn (s.data.toList.drop i))) ∧ w = w' := by
  go_enter Tryd.func47, Tryd.ntmps47
  go_wp2
  go_loop [5] (fun v => ∃ k : Nat, i + k ≤ s.size ∧ v = .int .i64 k ∧ rn (s.data.toList.drop i) = k + rn (s.data.toList.drop (i + k))) (fun v => s.size - (intOf v).toNat)
  case atStart => exact ⟨0, by omega, rfl, by simp⟩
  case round =>
    obtain ⟨k, hk, rfl, hr⟩ := hrel
    have HR := Lib.hid hr
    clear hr
    by_cases hlt : i + k < s.size
    · have hd := Lib.hid (drop_at s (i + k) hlt)
      by_cases h1 : (s[i + k].toNat : Int) < 48
      · go_wp2
        go_ret
        exact ⟨by rw [HR.out, hd.out, rn_cons, if_neg (by rw [isD_iff]; omega)]; simp, rfl⟩
      · by_cases h2 : (57 : Int) < (s[i + k].toNat : Int)
        · go_wp2
          go_ret
          exact ⟨by rw [HR.out, hd.out, rn_cons, if_neg (by rw [isD_iff]; omega)]; simp, rfl⟩
        · go_wp2
          go_round
          case rel => exact ⟨k + 1, by omega, by go_num, by rw [HR.out, hd.out, rn_cons, if_pos ((isD_iff _).2 (by omega))]; simp [Nat.add_assoc, Nat.add_comm, Nat.add_left_comm]⟩
          case measure => simp [intOf]; omega
    · have HE := Lib.hid (drop_end s (i + k) (by omega))
      go_wp2
      go_ret
      exact ⟨by rw [HR.out, HE.out]; simp [rn], rfl⟩
end Go.Proofs.YtlppofjmkepceaaDoor
