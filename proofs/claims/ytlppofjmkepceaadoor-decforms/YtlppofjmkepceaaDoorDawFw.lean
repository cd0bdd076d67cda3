/- The walk of the law DecForms, whatever came in. -/
import Derived.Test.YtlppofjmkepceaaDoorDawF
import Derived.Test.YtlppofjmkepceaaDoorDawG
namespace Go.Proofs.YtlppofjmkepceaaDoor
open Go.RowKit Florin
set_option linter.unusedVariables false

set_option maxRecDepth 100000 in
set_option maxHeartbeats 1600000 in
theorem forms_no0 (n0 : Bool) (a0 : Option Addr) (len0 cap0 : Nat) (e0 : Int) (odd : ByteArray) (w : World) (hc0 : len0 ≤ cap0) (hm0 : cap0 ≤ maxLen) (htab : Tab w) (h : ¬ ((len0 : Int) ≤ 60 ∧ -60 ≤ e0 ∧ e0 ≤ 60)) :
    Calls Tryd.prog 3 #[RV n0 a0 len0 cap0 e0, .string odd] w fun x w' => x = .returned (.bool true) ∧ Below w.heap.size w w' := by
  have HT := Lib.hid htab
  have H := Lib.hid h
  clear htab h
  go_enter Tryd.func3, Tryd.ntmps3
  go_wp2_with fail
  with_reducible refine (headD _ (HT.out.below ((Below.refl w.heap.size w).alloc (by simp <;> omega) _))).mono ?_
  rintro x w1 ⟨rfl, hb⟩
  have Cr0 := Lib.hid (((Box.new w #[.bool n0, .slice a0 len0 cap0, .int .i64 e0] 24).at (b' := w.heap.size) (by simp)).below hb (by simp <;> omega))
  have b1 := Lib.hid (((Below.refl w.heap.size w).alloc (by simp <;> omega) _).trans (hb.mono (B' := w.heap.size) (by simp <;> omega)))
  clear hb
  have Br0 : Hid (Box w1 (w.heap.size) #[.bool n0, .slice a0 len0 cap0, .int .i64 e0]) := Cr0
  clear Cr0
  obtain ⟨r00, r01, r02, r03, r04, r05, r06⟩ := Br0.out.three
  go_wp2_with fail
  with_reducible refine (few_no n0 a0 len0 cap0 e0 60 _ hc0 hm0 (by decide) (by decide) H.out).mono ?_
  rintro x w2 ⟨rfl, hb⟩
  have Cr0 := Lib.hid (Br0.out.below hb (by have := Br0.out.lt; simp <;> omega))
  have b2 := Lib.hid (b1.out.trans (hb.mono (B' := w.heap.size) (by have := b1.out.size; simp <;> omega)))
  clear r00 r01 r02 r03 r04 r05 r06
  clear hb Br0
  have Br0 : Hid (Box w2 (w.heap.size) #[.bool n0, .slice a0 len0 cap0, .int .i64 e0]) := Cr0
  clear Cr0
  go_wp2
  go_ret
  exact ⟨rfl, b2.out⟩

set_option maxRecDepth 100000 in
set_option maxHeartbeats 1600000 in
theorem forms_no1 (n0 : Bool) (a0 : Option Addr) (len0 cap0 : Nat) (e0 : Int) (odd : ByteArray) (w : World) (hc0 : len0 ≤ cap0) (hm0 : cap0 ≤ maxLen) (htab : Tab w) (g0 : (len0 : Int) ≤ 60) (lo0 : -60 ≤ e0) (hi0 : e0 ≤ 60) (ho : 60 < odd.size) :
    Calls Tryd.prog 3 #[RV n0 a0 len0 cap0 e0, .string odd] w fun x w' => x = .returned (.bool true) ∧ Below w.heap.size w w' := by
  have HT := Lib.hid htab
  have H1 : (60 : Int) < (odd.size : Int) := by omega
  clear htab
  go_enter Tryd.func3, Tryd.ntmps3
  go_wp2_with fail
  with_reducible refine (headD _ (HT.out.below ((Below.refl w.heap.size w).alloc (by simp <;> omega) _))).mono ?_
  rintro x w1 ⟨rfl, hb⟩
  have Cr0 := Lib.hid (((Box.new w #[.bool n0, .slice a0 len0 cap0, .int .i64 e0] 24).at (b' := w.heap.size) (by simp)).below hb (by simp <;> omega))
  have b1 := Lib.hid (((Below.refl w.heap.size w).alloc (by simp <;> omega) _).trans (hb.mono (B' := w.heap.size) (by simp <;> omega)))
  clear hb
  have Br0 : Hid (Box w1 (w.heap.size) #[.bool n0, .slice a0 len0 cap0, .int .i64 e0]) := Cr0
  clear Cr0
  obtain ⟨r00, r01, r02, r03, r04, r05, r06⟩ := Br0.out.three
  go_wp2_with fail
  with_reducible refine (few_yes n0 a0 len0 cap0 e0 60 _ hc0 hm0 (by decide) (by decide) g0 lo0 hi0).mono ?_
  rintro x w2 ⟨rfl, hb⟩
  have Cr0 := Lib.hid (Br0.out.below hb (by have := Br0.out.lt; simp <;> omega))
  have b2 := Lib.hid (b1.out.trans (hb.mono (B' := w.heap.size) (by have := b1.out.size; simp <;> omega)))
  clear r00 r01 r02 r03 r04 r05 r06
  clear hb Br0
  have Br0 : Hid (Box w2 (w.heap.size) #[.bool n0, .slice a0 len0 cap0, .int .i64 e0]) := Cr0
  clear Cr0
  go_wp2
  go_ret
  exact ⟨rfl, b2.out⟩

theorem decForms_walk (n0 : Bool) (a0 : Option Addr) (len0 cap0 : Nat) (e0 : Int) (L0 : List UInt8) (odd : ByteArray) (w : World) (hin0 : InB w a0 len0 cap0 L0) (_ : odd.size ≤ maxLen) (htab : Tab w) :
    Calls Tryd.prog 3 #[RV n0 a0 len0 cap0 e0, .string odd] w fun x w' => x = .returned (.bool true) ∧ Below w.heap.size w w' := by
  by_cases hf0 : (len0 : Int) ≤ 60 ∧ -60 ≤ e0 ∧ e0 ≤ 60
  · obtain ⟨g0, lo0, hi0⟩ := hf0
    by_cases ho : odd.size ≤ 60
    · obtain ⟨X, hX, bX, vX⟩ := raw60 n0 L0 e0 (by rw [hin0.1]; omega) lo0 hi0
      by_cases hx : X = 0
      · cases hd : isDig odd.data.toList with
        | true => exact forms_oz n0 a0 len0 cap0 L0 e0 odd w hin0 htab (by omega) lo0 hi0 ho X hX bX vX hd hx
        | false => exact forms_nz n0 a0 len0 cap0 L0 e0 odd w hin0 htab (by omega) lo0 hi0 ho X hX bX vX hd hx
      · cases hd : isDig odd.data.toList with
        | true => exact forms_os n0 a0 len0 cap0 L0 e0 odd w hin0 htab (by omega) lo0 hi0 ho X hX bX vX hd hx
        | false => exact forms_ns n0 a0 len0 cap0 L0 e0 odd w hin0 htab (by omega) lo0 hi0 ho X hX bX vX hd hx
    · exact forms_no1 n0 a0 len0 cap0 e0 odd w hin0.2.1 hin0.2.2.1 htab g0 lo0 hi0 (by omega)
  · exact forms_no0 n0 a0 len0 cap0 e0 odd w hin0.2.1 hin0.2.2.1 htab hf0
end Go.Proofs.YtlppofjmkepceaaDoor
