/- What aligned of dec returns: two decimals at one place for both. -/
import Derived.Test.YtkjhdehpcanciaaGreatDoorDecM
namespace Go.Proofs.YtkjhdehpcanciaaGreatDoor
open Go.RowKit Florin
set_option linter.unusedVariables false

theorem ret_al {a b c d : List UInt8} {m : Int} : Ending.returned (.tuple #[.string ((⟨a.toArray⟩ : ByteArray) ++ (⟨b.toArray⟩ : ByteArray)), .string ((⟨c.toArray⟩ : ByteArray) ++ (⟨d.toArray⟩ : ByteArray)), .int .i64 m]) = .returned (.tuple #[S (a ++ b), S (c ++ d), .int .i64 m]) := by rw [arr_append, arr_append]

set_option maxRecDepth 100000 in
set_option maxHeartbeats 3200000 in
theorem aligned_as (dn : Bool) (dl : List UInt8) (de : Int) (gn : Bool) (gl : List UInt8) (ge : Int) (m : Int) (w : World) (hm : min de ge = m) (h1 : dl.length ≤ 100000) (h2 : gl.length ≤ 100000) (h3 : -30000 ≤ de) (h4 : de ≤ 30000) (h5 : -30000 ≤ ge) (h6 : ge ≤ 30000) :
    Calls Tryz.prog 72 #[.agg #[.bool dn, S dl, .int .i64 de], .agg #[.bool gn, S gl, .int .i64 ge]] w fun x w' => x = .returned (.tuple #[S (dl ++ zs (de - m).toNat), S (gl ++ zs (ge - m).toNat), .int .i64 m]) ∧ Below w.heap.size w w' := by
  have m1 : m ≤ de := by omega
  have m2 : m ≤ ge := by omega
  have m3 : -30000 ≤ m := by omega
  have HM := Lib.hid hm
  clear hm
  have z1 : (zs (de - m).toNat).length ≤ 60000 := by rw [zs_length]; omega
  have z2 : (zs (ge - m).toNat).length ≤ 60000 := by rw [zs_length]; omega
  have hcat1 : ¬ 9223372036854775807 < dl.length + (zs (de - m).toNat).length := by omega
  have hcat2 : ¬ 9223372036854775807 < gl.length + (zs (ge - m).toNat).length := by omega
  have hw1 : IntKind.i64.wrap (de - m) = de - m := by rw [IntKind.wrap_i64]; omega
  have hw2 : IntKind.i64.wrap (ge - m) = ge - m := by rw [IntKind.wrap_i64]; omega
  go_enter Tryz.func72, Tryz.ntmps72
  go_wp2_with fail
  rw [HM.out]
  have Q0 : Hid (Held2 w (w.heap.size) (.bool dn) (S dl) (.int .i64 de) (w.heap.size + 1) (.bool gn) (S gl) (.int .i64 ge) ((w.alloc (.cells #[.bool dn, S dl, .int .i64 de] 90)).alloc (.cells #[.bool gn, S gl, .int .i64 ge] 90))) :=
    Lib.hid ⟨(Box.new _ _ _).alloc _, (Box.new _ _ _).at (by simp), below_alloc2 w _ _⟩
  go_region_held3 (fun w' => w'.cell? ⟨w.heap.size, 0, none⟩ = some (.bool dn) ∧ w'.cell? ⟨w.heap.size, 1, none⟩ = some (S dl) ∧ w'.cell? ⟨w.heap.size, 2, none⟩ = some (.int .i64 de) ∧ w'.cell? ⟨w.heap.size + 1, 0, none⟩ = some (.bool gn) ∧ w'.cell? ⟨w.heap.size + 1, 1, none⟩ = some (S gl) ∧ w'.cell? ⟨w.heap.size + 1, 2, none⟩ = some (.int .i64 ge) ∧
      Held2 w (w.heap.size) (.bool dn) (S dl) (.int .i64 de) (w.heap.size + 1) (.bool gn) (S gl) (.int .i64 ge) w')
    (first | exact Held2.all (Held2.drew Q0.out) | exact Held2.keep (by assumption) hb)
    (first | (go_at_call 40; with_reducible refine (zeros_as (de - m) _ (by omega)).mono ?_; rintro x wA ⟨rfl, hb⟩) | (go_at_call 40; with_reducible refine (zeros_as (ge - m) _ (by omega)).mono ?_; rintro x wB ⟨rfl, hb⟩))
  have HH := (‹wB.cell? ⟨w.heap.size, 0, none⟩ = some (.bool dn) ∧ _›)
  obtain ⟨_, _, _, _, _, _, HH⟩ := HH
  have b1 : Hid (Below w.heap.size w wB) := Lib.hid HH.2.2
  clear HH hb
  go_wp2
  go_ret3
  exact ⟨ret_al, b1.out⟩
end Go.Proofs.YtkjhdehpcanciaaGreatDoor
