/- The walk of the law DecAdds, whatever came in. -/
import Derived.Test.YtlppofjmkepceaaDoorDawC
import Derived.Test.YtlppofjmkepceaaDoorDawD
import Derived.Test.YtlppofjmkepceaaDoorDawE
namespace Go.Proofs.YtlppofjmkepceaaDoor
open Go.RowKit Florin
set_option linter.unusedVariables false

set_option maxRecDepth 100000 in
set_option maxHeartbeats 1600000 in
theorem adds_no0 (n0 : Bool) (a0 : Option Addr) (len0 cap0 : Nat) (e0 : Int) (n1 : Bool) (a1 : Option Addr) (len1 cap1 : Nat) (e1 : Int) (w : World) (hc0 : len0 ≤ cap0) (hm0 : cap0 ≤ maxLen) (hc1 : len1 ≤ cap1) (hm1 : cap1 ≤ maxLen) (htab : Tab w) (h : ¬ ((len0 : Int) ≤ 60 ∧ -60 ≤ e0 ∧ e0 ≤ 60)) :
    Calls Tryd.prog 7 #[RV n0 a0 len0 cap0 e0, RV n1 a1 len1 cap1 e1] w fun x w' => x = .returned (.bool true) ∧ Below w.heap.size w w' := by
  have HT := Lib.hid htab
  have H := Lib.hid h
  clear htab h
  go_enter Tryd.func7, Tryd.ntmps7
  go_wp2_with fail
  with_reducible refine (headD _ (HT.out.below (((Below.refl w.heap.size w).alloc (by simp <;> omega) _).alloc (by simp <;> omega) _))).mono ?_
  rintro x w1 ⟨rfl, hb⟩
  have Cr0 := Lib.hid ((((Box.new w #[.bool n0, .slice a0 len0 cap0, .int .i64 e0] 24).at (b' := w.heap.size) (by simp)).alloc (.cells #[.bool n1, .slice a1 len1 cap1, .int .i64 e1] 24)).below hb (by simp <;> omega))
  have Cr1 := Lib.hid (((Box.new (w.alloc (.cells #[.bool n0, .slice a0 len0 cap0, .int .i64 e0] 24)) #[.bool n1, .slice a1 len1 cap1, .int .i64 e1] 24).at (b' := w.heap.size + 1) (by simp)).below hb (by simp <;> omega))
  have b1 := Lib.hid ((((Below.refl w.heap.size w).alloc (by simp <;> omega) _).alloc (by simp <;> omega) _).trans (hb.mono (B' := w.heap.size) (by simp <;> omega)))
  clear hb
  have Br0 : Hid (Box w1 (w.heap.size) #[.bool n0, .slice a0 len0 cap0, .int .i64 e0]) := Cr0
  have Br1 : Hid (Box w1 (w.heap.size + 1) #[.bool n1, .slice a1 len1 cap1, .int .i64 e1]) := Cr1
  clear Cr0 Cr1
  obtain ⟨r00, r01, r02, r03, r04, r05, r06⟩ := Br0.out.three
  obtain ⟨r10, r11, r12, r13, r14, r15, r16⟩ := Br1.out.three
  go_wp2_with fail
  with_reducible refine (few_no n0 a0 len0 cap0 e0 60 _ hc0 hm0 (by decide) (by decide) H.out).mono ?_
  rintro x w2 ⟨rfl, hb⟩
  have Cr0 := Lib.hid (Br0.out.below hb (by have := Br0.out.lt; simp <;> omega))
  have Cr1 := Lib.hid (Br1.out.below hb (by have := Br1.out.lt; simp <;> omega))
  have b2 := Lib.hid (b1.out.trans (hb.mono (B' := w.heap.size) (by have := b1.out.size; simp <;> omega)))
  clear r00 r01 r02 r03 r04 r05 r06 r10 r11 r12 r13 r14 r15 r16
  clear hb Br0 Br1
  have Br0 : Hid (Box w2 (w.heap.size) #[.bool n0, .slice a0 len0 cap0, .int .i64 e0]) := Cr0
  have Br1 : Hid (Box w2 (w.heap.size + 1) #[.bool n1, .slice a1 len1 cap1, .int .i64 e1]) := Cr1
  clear Cr0 Cr1
  go_wp2
  go_ret
  exact ⟨rfl, b2.out⟩

set_option maxRecDepth 100000 in
set_option maxHeartbeats 1600000 in
theorem adds_no1 (n0 : Bool) (a0 : Option Addr) (len0 cap0 : Nat) (e0 : Int) (n1 : Bool) (a1 : Option Addr) (len1 cap1 : Nat) (e1 : Int) (w : World) (hc0 : len0 ≤ cap0) (hm0 : cap0 ≤ maxLen) (hc1 : len1 ≤ cap1) (hm1 : cap1 ≤ maxLen) (htab : Tab w) (g0 : (len0 : Int) ≤ 60) (p0 : -60 ≤ e0) (q0 : e0 ≤ 60) (h : ¬ ((len1 : Int) ≤ 60 ∧ -60 ≤ e1 ∧ e1 ≤ 60)) :
    Calls Tryd.prog 7 #[RV n0 a0 len0 cap0 e0, RV n1 a1 len1 cap1 e1] w fun x w' => x = .returned (.bool true) ∧ Below w.heap.size w w' := by
  have HT := Lib.hid htab
  have H := Lib.hid h
  clear htab h
  go_enter Tryd.func7, Tryd.ntmps7
  go_wp2_with fail
  with_reducible refine (headD _ (HT.out.below (((Below.refl w.heap.size w).alloc (by simp <;> omega) _).alloc (by simp <;> omega) _))).mono ?_
  rintro x w1 ⟨rfl, hb⟩
  have Cr0 := Lib.hid ((((Box.new w #[.bool n0, .slice a0 len0 cap0, .int .i64 e0] 24).at (b' := w.heap.size) (by simp)).alloc (.cells #[.bool n1, .slice a1 len1 cap1, .int .i64 e1] 24)).below hb (by simp <;> omega))
  have Cr1 := Lib.hid (((Box.new (w.alloc (.cells #[.bool n0, .slice a0 len0 cap0, .int .i64 e0] 24)) #[.bool n1, .slice a1 len1 cap1, .int .i64 e1] 24).at (b' := w.heap.size + 1) (by simp)).below hb (by simp <;> omega))
  have b1 := Lib.hid ((((Below.refl w.heap.size w).alloc (by simp <;> omega) _).alloc (by simp <;> omega) _).trans (hb.mono (B' := w.heap.size) (by simp <;> omega)))
  clear hb
  have Br0 : Hid (Box w1 (w.heap.size) #[.bool n0, .slice a0 len0 cap0, .int .i64 e0]) := Cr0
  have Br1 : Hid (Box w1 (w.heap.size + 1) #[.bool n1, .slice a1 len1 cap1, .int .i64 e1]) := Cr1
  clear Cr0 Cr1
  obtain ⟨r00, r01, r02, r03, r04, r05, r06⟩ := Br0.out.three
  obtain ⟨r10, r11, r12, r13, r14, r15, r16⟩ := Br1.out.three
  go_wp2_with fail
  with_reducible refine (few_yes n0 a0 len0 cap0 e0 60 _ hc0 hm0 (by decide) (by decide) g0 p0 q0).mono ?_
  rintro x w2 ⟨rfl, hb⟩
  have Cr0 := Lib.hid (Br0.out.below hb (by have := Br0.out.lt; simp <;> omega))
  have Cr1 := Lib.hid (Br1.out.below hb (by have := Br1.out.lt; simp <;> omega))
  have b2 := Lib.hid (b1.out.trans (hb.mono (B' := w.heap.size) (by have := b1.out.size; simp <;> omega)))
  clear r00 r01 r02 r03 r04 r05 r06 r10 r11 r12 r13 r14 r15 r16
  clear hb Br0 Br1
  have Br0 : Hid (Box w2 (w.heap.size) #[.bool n0, .slice a0 len0 cap0, .int .i64 e0]) := Cr0
  have Br1 : Hid (Box w2 (w.heap.size + 1) #[.bool n1, .slice a1 len1 cap1, .int .i64 e1]) := Cr1
  clear Cr0 Cr1
  obtain ⟨r00, r01, r02, r03, r04, r05, r06⟩ := Br0.out.three
  obtain ⟨r10, r11, r12, r13, r14, r15, r16⟩ := Br1.out.three
  go_wp2_with fail
  with_reducible refine (few_no n1 a1 len1 cap1 e1 60 _ hc1 hm1 (by decide) (by decide) H.out).mono ?_
  rintro x w3 ⟨rfl, hb⟩
  have Cr0 := Lib.hid (Br0.out.below hb (by have := Br0.out.lt; simp <;> omega))
  have Cr1 := Lib.hid (Br1.out.below hb (by have := Br1.out.lt; simp <;> omega))
  have b3 := Lib.hid (b2.out.trans (hb.mono (B' := w.heap.size) (by have := b2.out.size; simp <;> omega)))
  clear r00 r01 r02 r03 r04 r05 r06 r10 r11 r12 r13 r14 r15 r16
  clear hb Br0 Br1
  have Br0 : Hid (Box w3 (w.heap.size) #[.bool n0, .slice a0 len0 cap0, .int .i64 e0]) := Cr0
  have Br1 : Hid (Box w3 (w.heap.size + 1) #[.bool n1, .slice a1 len1 cap1, .int .i64 e1]) := Cr1
  clear Cr0 Cr1
  go_wp2
  go_ret
  exact ⟨rfl, b3.out⟩

theorem decAdds_walk (n0 : Bool) (a0 : Option Addr) (len0 cap0 : Nat) (e0 : Int) (L0 : List UInt8) (n1 : Bool) (a1 : Option Addr) (len1 cap1 : Nat) (e1 : Int) (L1 : List UInt8) (w : World) (hin0 : InB w a0 len0 cap0 L0) (hin1 : InB w a1 len1 cap1 L1) (htab : Tab w) :
    Calls Tryd.prog 7 #[RV n0 a0 len0 cap0 e0, RV n1 a1 len1 cap1 e1] w fun x w' => x = .returned (.bool true) ∧ Below w.heap.size w w' := by
  by_cases hf0 : (len0 : Int) ≤ 60 ∧ -60 ≤ e0 ∧ e0 ≤ 60
  · obtain ⟨g0, lo0, hi0⟩ := hf0
    by_cases hf1 : (len1 : Int) ≤ 60 ∧ -60 ≤ e1 ∧ e1 ≤ 60
    · obtain ⟨g1, lo1, hi1⟩ := hf1
      obtain ⟨X, hX, bX, vX⟩ := raw60 n0 L0 e0 (by rw [hin0.1]; omega) lo0 hi0
      obtain ⟨Y, hY, bY, vY⟩ := raw60 n1 L1 e1 (by rw [hin1.1]; omega) lo1 hi1
      by_cases hx : X = 0
      · exact adds_x0 n0 a0 len0 cap0 L0 e0 n1 a1 len1 cap1 L1 e1 w hin0 hin1 htab (by omega) lo0 hi0 (by omega) lo1 hi1 X Y hX hY bX bY vX vY hx
      · by_cases hy : Y = 0
        · exact adds_y0 n0 a0 len0 cap0 L0 e0 n1 a1 len1 cap1 L1 e1 w hin0 hin1 htab (by omega) lo0 hi0 (by omega) lo1 hi1 X Y hX hY bX bY vX vY hx hy
        · by_cases hs : (n0 == n1) = true
          · exact adds_same n0 a0 len0 cap0 L0 e0 n1 a1 len1 cap1 L1 e1 w hin0 hin1 htab (by omega) lo0 hi0 (by omega) lo1 hi1 X Y hX hY bX bY vX vY hx hy hs
          · have hs' : (n0 == n1) = false := by simpa using hs
            rcases Nat.lt_trichotomy X.natAbs Y.natAbs with h | h | h
            · exact adds_lt n0 a0 len0 cap0 L0 e0 n1 a1 len1 cap1 L1 e1 w hin0 hin1 htab (by omega) lo0 hi0 (by omega) lo1 hi1 X Y hX hY bX bY vX vY hx hy hs' h
            · exact adds_eq n0 a0 len0 cap0 L0 e0 n1 a1 len1 cap1 L1 e1 w hin0 hin1 htab (by omega) lo0 hi0 (by omega) lo1 hi1 X Y hX hY bX bY vX vY hx hy hs' h
            · exact adds_gt n0 a0 len0 cap0 L0 e0 n1 a1 len1 cap1 L1 e1 w hin0 hin1 htab (by omega) lo0 hi0 (by omega) lo1 hi1 X Y hX hY bX bY vX vY hx hy hs' h
    · exact adds_no1 n0 a0 len0 cap0 e0 n1 a1 len1 cap1 e1 w hin0.2.1 hin0.2.2.1 hin1.2.1 hin1.2.2.1 htab g0 lo0 hi0 hf1
  · exact adds_no0 n0 a0 len0 cap0 e0 n1 a1 len1 cap1 e1 w hin0.2.1 hin0.2.2.1 hin1.2.1 hin1.2.2.1 htab hf0
end Go.Proofs.YtlppofjmkepceaaDoor
