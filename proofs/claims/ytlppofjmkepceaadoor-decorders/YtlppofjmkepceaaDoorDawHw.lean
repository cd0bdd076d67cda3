/- The walk of the law DecOrders, whatever came in. -/
import Derived.Test.YtlppofjmkepceaaDoorDawH
import Derived.Test.YtlppofjmkepceaaDoorDawI
import Derived.Test.YtlppofjmkepceaaDoorDawJ
namespace Go.Proofs.YtlppofjmkepceaaDoor
open Go.RowKit Florin
set_option linter.unusedVariables false

set_option maxRecDepth 100000 in
set_option maxHeartbeats 1600000 in
theorem orders_no0 (n0 : Bool) (a0 : Option Addr) (len0 cap0 : Nat) (e0 : Int) (n1 : Bool) (a1 : Option Addr) (len1 cap1 : Nat) (e1 : Int) (n2 : Bool) (a2 : Option Addr) (len2 cap2 : Nat) (e2 : Int) (w : World) (hc0 : len0 ≤ cap0) (hm0 : cap0 ≤ maxLen) (hc1 : len1 ≤ cap1) (hm1 : cap1 ≤ maxLen) (hc2 : len2 ≤ cap2) (hm2 : cap2 ≤ maxLen) (htab : Tab w) (h : ¬ ((len0 : Int) ≤ 50 ∧ -50 ≤ e0 ∧ e0 ≤ 50)) :
    Calls Tryd.prog 8 #[RV n0 a0 len0 cap0 e0, RV n1 a1 len1 cap1 e1, RV n2 a2 len2 cap2 e2] w fun x w' => x = .returned (.bool true) ∧ Below w.heap.size w w' := by
  have HT := Lib.hid htab
  have H := Lib.hid h
  clear htab h
  go_enter Tryd.func8, Tryd.ntmps8
  go_wp2_with fail
  with_reducible refine (headD _ (HT.out.below ((((Below.refl w.heap.size w).alloc (by simp <;> omega) _).alloc (by simp <;> omega) _).alloc (by simp <;> omega) _))).mono ?_
  rintro x w1 ⟨rfl, hb⟩
  have Cr0 := Lib.hid (((((Box.new w #[.bool n0, .slice a0 len0 cap0, .int .i64 e0] 24).at (b' := w.heap.size) (by simp)).alloc (.cells #[.bool n1, .slice a1 len1 cap1, .int .i64 e1] 24)).alloc (.cells #[.bool n2, .slice a2 len2 cap2, .int .i64 e2] 24)).below hb (by simp <;> omega))
  have Cr1 := Lib.hid ((((Box.new (w.alloc (.cells #[.bool n0, .slice a0 len0 cap0, .int .i64 e0] 24)) #[.bool n1, .slice a1 len1 cap1, .int .i64 e1] 24).at (b' := w.heap.size + 1) (by simp)).alloc (.cells #[.bool n2, .slice a2 len2 cap2, .int .i64 e2] 24)).below hb (by simp <;> omega))
  have Cr2 := Lib.hid (((Box.new ((w.alloc (.cells #[.bool n0, .slice a0 len0 cap0, .int .i64 e0] 24)).alloc (.cells #[.bool n1, .slice a1 len1 cap1, .int .i64 e1] 24)) #[.bool n2, .slice a2 len2 cap2, .int .i64 e2] 24).at (b' := w.heap.size + 2) (by simp)).below hb (by simp <;> omega))
  have b1 := Lib.hid (((((Below.refl w.heap.size w).alloc (by simp <;> omega) _).alloc (by simp <;> omega) _).alloc (by simp <;> omega) _).trans (hb.mono (B' := w.heap.size) (by simp <;> omega)))
  clear hb
  have Br0 : Hid (Box w1 (w.heap.size) #[.bool n0, .slice a0 len0 cap0, .int .i64 e0]) := Cr0
  have Br1 : Hid (Box w1 (w.heap.size + 1) #[.bool n1, .slice a1 len1 cap1, .int .i64 e1]) := Cr1
  have Br2 : Hid (Box w1 (w.heap.size + 2) #[.bool n2, .slice a2 len2 cap2, .int .i64 e2]) := Cr2
  clear Cr0 Cr1 Cr2
  obtain ⟨r00, r01, r02, r03, r04, r05, r06⟩ := Br0.out.three
  obtain ⟨r10, r11, r12, r13, r14, r15, r16⟩ := Br1.out.three
  obtain ⟨r20, r21, r22, r23, r24, r25, r26⟩ := Br2.out.three
  go_wp2_with fail
  with_reducible refine (few_no n0 a0 len0 cap0 e0 50 _ hc0 hm0 (by decide) (by decide) H.out).mono ?_
  rintro x w2 ⟨rfl, hb⟩
  have Cr0 := Lib.hid (Br0.out.below hb (by have := Br0.out.lt; simp <;> omega))
  have Cr1 := Lib.hid (Br1.out.below hb (by have := Br1.out.lt; simp <;> omega))
  have Cr2 := Lib.hid (Br2.out.below hb (by have := Br2.out.lt; simp <;> omega))
  have b2 := Lib.hid (b1.out.trans (hb.mono (B' := w.heap.size) (by have := b1.out.size; simp <;> omega)))
  clear r00 r01 r02 r03 r04 r05 r06 r10 r11 r12 r13 r14 r15 r16 r20 r21 r22 r23 r24 r25 r26
  clear hb Br0 Br1 Br2
  have Br0 : Hid (Box w2 (w.heap.size) #[.bool n0, .slice a0 len0 cap0, .int .i64 e0]) := Cr0
  have Br1 : Hid (Box w2 (w.heap.size + 1) #[.bool n1, .slice a1 len1 cap1, .int .i64 e1]) := Cr1
  have Br2 : Hid (Box w2 (w.heap.size + 2) #[.bool n2, .slice a2 len2 cap2, .int .i64 e2]) := Cr2
  clear Cr0 Cr1 Cr2
  go_wp2
  go_ret
  exact ⟨rfl, b2.out⟩

set_option maxRecDepth 100000 in
set_option maxHeartbeats 1600000 in
theorem orders_no1 (n0 : Bool) (a0 : Option Addr) (len0 cap0 : Nat) (e0 : Int) (n1 : Bool) (a1 : Option Addr) (len1 cap1 : Nat) (e1 : Int) (n2 : Bool) (a2 : Option Addr) (len2 cap2 : Nat) (e2 : Int) (w : World) (hc0 : len0 ≤ cap0) (hm0 : cap0 ≤ maxLen) (hc1 : len1 ≤ cap1) (hm1 : cap1 ≤ maxLen) (hc2 : len2 ≤ cap2) (hm2 : cap2 ≤ maxLen) (htab : Tab w) (g0 : (len0 : Int) ≤ 50) (p0 : -50 ≤ e0) (q0 : e0 ≤ 50) (h : ¬ ((len1 : Int) ≤ 50 ∧ -50 ≤ e1 ∧ e1 ≤ 50)) :
    Calls Tryd.prog 8 #[RV n0 a0 len0 cap0 e0, RV n1 a1 len1 cap1 e1, RV n2 a2 len2 cap2 e2] w fun x w' => x = .returned (.bool true) ∧ Below w.heap.size w w' := by
  have HT := Lib.hid htab
  have H := Lib.hid h
  clear htab h
  go_enter Tryd.func8, Tryd.ntmps8
  go_wp2_with fail
  with_reducible refine (headD _ (HT.out.below ((((Below.refl w.heap.size w).alloc (by simp <;> omega) _).alloc (by simp <;> omega) _).alloc (by simp <;> omega) _))).mono ?_
  rintro x w1 ⟨rfl, hb⟩
  have Cr0 := Lib.hid (((((Box.new w #[.bool n0, .slice a0 len0 cap0, .int .i64 e0] 24).at (b' := w.heap.size) (by simp)).alloc (.cells #[.bool n1, .slice a1 len1 cap1, .int .i64 e1] 24)).alloc (.cells #[.bool n2, .slice a2 len2 cap2, .int .i64 e2] 24)).below hb (by simp <;> omega))
  have Cr1 := Lib.hid ((((Box.new (w.alloc (.cells #[.bool n0, .slice a0 len0 cap0, .int .i64 e0] 24)) #[.bool n1, .slice a1 len1 cap1, .int .i64 e1] 24).at (b' := w.heap.size + 1) (by simp)).alloc (.cells #[.bool n2, .slice a2 len2 cap2, .int .i64 e2] 24)).below hb (by simp <;> omega))
  have Cr2 := Lib.hid (((Box.new ((w.alloc (.cells #[.bool n0, .slice a0 len0 cap0, .int .i64 e0] 24)).alloc (.cells #[.bool n1, .slice a1 len1 cap1, .int .i64 e1] 24)) #[.bool n2, .slice a2 len2 cap2, .int .i64 e2] 24).at (b' := w.heap.size + 2) (by simp)).below hb (by simp <;> omega))
  have b1 := Lib.hid (((((Below.refl w.heap.size w).alloc (by simp <;> omega) _).alloc (by simp <;> omega) _).alloc (by simp <;> omega) _).trans (hb.mono (B' := w.heap.size) (by simp <;> omega)))
  clear hb
  have Br0 : Hid (Box w1 (w.heap.size) #[.bool n0, .slice a0 len0 cap0, .int .i64 e0]) := Cr0
  have Br1 : Hid (Box w1 (w.heap.size + 1) #[.bool n1, .slice a1 len1 cap1, .int .i64 e1]) := Cr1
  have Br2 : Hid (Box w1 (w.heap.size + 2) #[.bool n2, .slice a2 len2 cap2, .int .i64 e2]) := Cr2
  clear Cr0 Cr1 Cr2
  obtain ⟨r00, r01, r02, r03, r04, r05, r06⟩ := Br0.out.three
  obtain ⟨r10, r11, r12, r13, r14, r15, r16⟩ := Br1.out.three
  obtain ⟨r20, r21, r22, r23, r24, r25, r26⟩ := Br2.out.three
  go_wp2_with fail
  with_reducible refine (few_yes n0 a0 len0 cap0 e0 50 _ hc0 hm0 (by decide) (by decide) g0 p0 q0).mono ?_
  rintro x w2 ⟨rfl, hb⟩
  have Cr0 := Lib.hid (Br0.out.below hb (by have := Br0.out.lt; simp <;> omega))
  have Cr1 := Lib.hid (Br1.out.below hb (by have := Br1.out.lt; simp <;> omega))
  have Cr2 := Lib.hid (Br2.out.below hb (by have := Br2.out.lt; simp <;> omega))
  have b2 := Lib.hid (b1.out.trans (hb.mono (B' := w.heap.size) (by have := b1.out.size; simp <;> omega)))
  clear r00 r01 r02 r03 r04 r05 r06 r10 r11 r12 r13 r14 r15 r16 r20 r21 r22 r23 r24 r25 r26
  clear hb Br0 Br1 Br2
  have Br0 : Hid (Box w2 (w.heap.size) #[.bool n0, .slice a0 len0 cap0, .int .i64 e0]) := Cr0
  have Br1 : Hid (Box w2 (w.heap.size + 1) #[.bool n1, .slice a1 len1 cap1, .int .i64 e1]) := Cr1
  have Br2 : Hid (Box w2 (w.heap.size + 2) #[.bool n2, .slice a2 len2 cap2, .int .i64 e2]) := Cr2
  clear Cr0 Cr1 Cr2
  obtain ⟨r00, r01, r02, r03, r04, r05, r06⟩ := Br0.out.three
  obtain ⟨r10, r11, r12, r13, r14, r15, r16⟩ := Br1.out.three
  obtain ⟨r20, r21, r22, r23, r24, r25, r26⟩ := Br2.out.three
  go_wp2_with fail
  with_reducible refine (few_no n1 a1 len1 cap1 e1 50 _ hc1 hm1 (by decide) (by decide) H.out).mono ?_
  rintro x w3 ⟨rfl, hb⟩
  have Cr0 := Lib.hid (Br0.out.below hb (by have := Br0.out.lt; simp <;> omega))
  have Cr1 := Lib.hid (Br1.out.below hb (by have := Br1.out.lt; simp <;> omega))
  have Cr2 := Lib.hid (Br2.out.below hb (by have := Br2.out.lt; simp <;> omega))
  have b3 := Lib.hid (b2.out.trans (hb.mono (B' := w.heap.size) (by have := b2.out.size; simp <;> omega)))
  clear r00 r01 r02 r03 r04 r05 r06 r10 r11 r12 r13 r14 r15 r16 r20 r21 r22 r23 r24 r25 r26
  clear hb Br0 Br1 Br2
  have Br0 : Hid (Box w3 (w.heap.size) #[.bool n0, .slice a0 len0 cap0, .int .i64 e0]) := Cr0
  have Br1 : Hid (Box w3 (w.heap.size + 1) #[.bool n1, .slice a1 len1 cap1, .int .i64 e1]) := Cr1
  have Br2 : Hid (Box w3 (w.heap.size + 2) #[.bool n2, .slice a2 len2 cap2, .int .i64 e2]) := Cr2
  clear Cr0 Cr1 Cr2
  go_wp2
  go_ret
  exact ⟨rfl, b3.out⟩

set_option maxRecDepth 100000 in
set_option maxHeartbeats 1600000 in
theorem orders_no2 (n0 : Bool) (a0 : Option Addr) (len0 cap0 : Nat) (e0 : Int) (n1 : Bool) (a1 : Option Addr) (len1 cap1 : Nat) (e1 : Int) (n2 : Bool) (a2 : Option Addr) (len2 cap2 : Nat) (e2 : Int) (w : World) (hc0 : len0 ≤ cap0) (hm0 : cap0 ≤ maxLen) (hc1 : len1 ≤ cap1) (hm1 : cap1 ≤ maxLen) (hc2 : len2 ≤ cap2) (hm2 : cap2 ≤ maxLen) (htab : Tab w) (g0 : (len0 : Int) ≤ 50) (p0 : -50 ≤ e0) (q0 : e0 ≤ 50) (g1 : (len1 : Int) ≤ 50) (p1 : -50 ≤ e1) (q1 : e1 ≤ 50) (h : ¬ ((len2 : Int) ≤ 50 ∧ -50 ≤ e2 ∧ e2 ≤ 50)) :
    Calls Tryd.prog 8 #[RV n0 a0 len0 cap0 e0, RV n1 a1 len1 cap1 e1, RV n2 a2 len2 cap2 e2] w fun x w' => x = .returned (.bool true) ∧ Below w.heap.size w w' := by
  have HT := Lib.hid htab
  have H := Lib.hid h
  clear htab h
  go_enter Tryd.func8, Tryd.ntmps8
  go_wp2_with fail
  with_reducible refine (headD _ (HT.out.below ((((Below.refl w.heap.size w).alloc (by simp <;> omega) _).alloc (by simp <;> omega) _).alloc (by simp <;> omega) _))).mono ?_
  rintro x w1 ⟨rfl, hb⟩
  have Cr0 := Lib.hid (((((Box.new w #[.bool n0, .slice a0 len0 cap0, .int .i64 e0] 24).at (b' := w.heap.size) (by simp)).alloc (.cells #[.bool n1, .slice a1 len1 cap1, .int .i64 e1] 24)).alloc (.cells #[.bool n2, .slice a2 len2 cap2, .int .i64 e2] 24)).below hb (by simp <;> omega))
  have Cr1 := Lib.hid ((((Box.new (w.alloc (.cells #[.bool n0, .slice a0 len0 cap0, .int .i64 e0] 24)) #[.bool n1, .slice a1 len1 cap1, .int .i64 e1] 24).at (b' := w.heap.size + 1) (by simp)).alloc (.cells #[.bool n2, .slice a2 len2 cap2, .int .i64 e2] 24)).below hb (by simp <;> omega))
  have Cr2 := Lib.hid (((Box.new ((w.alloc (.cells #[.bool n0, .slice a0 len0 cap0, .int .i64 e0] 24)).alloc (.cells #[.bool n1, .slice a1 len1 cap1, .int .i64 e1] 24)) #[.bool n2, .slice a2 len2 cap2, .int .i64 e2] 24).at (b' := w.heap.size + 2) (by simp)).below hb (by simp <;> omega))
  have b1 := Lib.hid (((((Below.refl w.heap.size w).alloc (by simp <;> omega) _).alloc (by simp <;> omega) _).alloc (by simp <;> omega) _).trans (hb.mono (B' := w.heap.size) (by simp <;> omega)))
  clear hb
  have Br0 : Hid (Box w1 (w.heap.size) #[.bool n0, .slice a0 len0 cap0, .int .i64 e0]) := Cr0
  have Br1 : Hid (Box w1 (w.heap.size + 1) #[.bool n1, .slice a1 len1 cap1, .int .i64 e1]) := Cr1
  have Br2 : Hid (Box w1 (w.heap.size + 2) #[.bool n2, .slice a2 len2 cap2, .int .i64 e2]) := Cr2
  clear Cr0 Cr1 Cr2
  obtain ⟨r00, r01, r02, r03, r04, r05, r06⟩ := Br0.out.three
  obtain ⟨r10, r11, r12, r13, r14, r15, r16⟩ := Br1.out.three
  obtain ⟨r20, r21, r22, r23, r24, r25, r26⟩ := Br2.out.three
  go_wp2_with fail
  with_reducible refine (few_yes n0 a0 len0 cap0 e0 50 _ hc0 hm0 (by decide) (by decide) g0 p0 q0).mono ?_
  rintro x w2 ⟨rfl, hb⟩
  have Cr0 := Lib.hid (Br0.out.below hb (by have := Br0.out.lt; simp <;> omega))
  have Cr1 := Lib.hid (Br1.out.below hb (by have := Br1.out.lt; simp <;> omega))
  have Cr2 := Lib.hid (Br2.out.below hb (by have := Br2.out.lt; simp <;> omega))
  have b2 := Lib.hid (b1.out.trans (hb.mono (B' := w.heap.size) (by have := b1.out.size; simp <;> omega)))
  clear r00 r01 r02 r03 r04 r05 r06 r10 r11 r12 r13 r14 r15 r16 r20 r21 r22 r23 r24 r25 r26
  clear hb Br0 Br1 Br2
  have Br0 : Hid (Box w2 (w.heap.size) #[.bool n0, .slice a0 len0 cap0, .int .i64 e0]) := Cr0
  have Br1 : Hid (Box w2 (w.heap.size + 1) #[.bool n1, .slice a1 len1 cap1, .int .i64 e1]) := Cr1
  have Br2 : Hid (Box w2 (w.heap.size + 2) #[.bool n2, .slice a2 len2 cap2, .int .i64 e2]) := Cr2
  clear Cr0 Cr1 Cr2
  obtain ⟨r00, r01, r02, r03, r04, r05, r06⟩ := Br0.out.three
  obtain ⟨r10, r11, r12, r13, r14, r15, r16⟩ := Br1.out.three
  obtain ⟨r20, r21, r22, r23, r24, r25, r26⟩ := Br2.out.three
  go_wp2_with fail
  with_reducible refine (few_yes n1 a1 len1 cap1 e1 50 _ hc1 hm1 (by decide) (by decide) g1 p1 q1).mono ?_
  rintro x w3 ⟨rfl, hb⟩
  have Cr0 := Lib.hid (Br0.out.below hb (by have := Br0.out.lt; simp <;> omega))
  have Cr1 := Lib.hid (Br1.out.below hb (by have := Br1.out.lt; simp <;> omega))
  have Cr2 := Lib.hid (Br2.out.below hb (by have := Br2.out.lt; simp <;> omega))
  have b3 := Lib.hid (b2.out.trans (hb.mono (B' := w.heap.size) (by have := b2.out.size; simp <;> omega)))
  clear r00 r01 r02 r03 r04 r05 r06 r10 r11 r12 r13 r14 r15 r16 r20 r21 r22 r23 r24 r25 r26
  clear hb Br0 Br1 Br2
  have Br0 : Hid (Box w3 (w.heap.size) #[.bool n0, .slice a0 len0 cap0, .int .i64 e0]) := Cr0
  have Br1 : Hid (Box w3 (w.heap.size + 1) #[.bool n1, .slice a1 len1 cap1, .int .i64 e1]) := Cr1
  have Br2 : Hid (Box w3 (w.heap.size + 2) #[.bool n2, .slice a2 len2 cap2, .int .i64 e2]) := Cr2
  clear Cr0 Cr1 Cr2
  obtain ⟨r00, r01, r02, r03, r04, r05, r06⟩ := Br0.out.three
  obtain ⟨r10, r11, r12, r13, r14, r15, r16⟩ := Br1.out.three
  obtain ⟨r20, r21, r22, r23, r24, r25, r26⟩ := Br2.out.three
  go_wp2_with fail
  with_reducible refine (few_no n2 a2 len2 cap2 e2 50 _ hc2 hm2 (by decide) (by decide) H.out).mono ?_
  rintro x w4 ⟨rfl, hb⟩
  have Cr0 := Lib.hid (Br0.out.below hb (by have := Br0.out.lt; simp <;> omega))
  have Cr1 := Lib.hid (Br1.out.below hb (by have := Br1.out.lt; simp <;> omega))
  have Cr2 := Lib.hid (Br2.out.below hb (by have := Br2.out.lt; simp <;> omega))
  have b4 := Lib.hid (b3.out.trans (hb.mono (B' := w.heap.size) (by have := b3.out.size; simp <;> omega)))
  clear r00 r01 r02 r03 r04 r05 r06 r10 r11 r12 r13 r14 r15 r16 r20 r21 r22 r23 r24 r25 r26
  clear hb Br0 Br1 Br2
  have Br0 : Hid (Box w4 (w.heap.size) #[.bool n0, .slice a0 len0 cap0, .int .i64 e0]) := Cr0
  have Br1 : Hid (Box w4 (w.heap.size + 1) #[.bool n1, .slice a1 len1 cap1, .int .i64 e1]) := Cr1
  have Br2 : Hid (Box w4 (w.heap.size + 2) #[.bool n2, .slice a2 len2 cap2, .int .i64 e2]) := Cr2
  clear Cr0 Cr1 Cr2
  go_wp2
  go_ret
  exact ⟨rfl, b4.out⟩

theorem decOrders_walk (n0 : Bool) (a0 : Option Addr) (len0 cap0 : Nat) (e0 : Int) (L0 : List UInt8) (n1 : Bool) (a1 : Option Addr) (len1 cap1 : Nat) (e1 : Int) (L1 : List UInt8) (n2 : Bool) (a2 : Option Addr) (len2 cap2 : Nat) (e2 : Int) (L2 : List UInt8) (w : World) (hin0 : InB w a0 len0 cap0 L0) (hin1 : InB w a1 len1 cap1 L1) (hin2 : InB w a2 len2 cap2 L2) (htab : Tab w) :
    Calls Tryd.prog 8 #[RV n0 a0 len0 cap0 e0, RV n1 a1 len1 cap1 e1, RV n2 a2 len2 cap2 e2] w fun x w' => x = .returned (.bool true) ∧ Below w.heap.size w w' := by
  by_cases hf0 : (len0 : Int) ≤ 50 ∧ -50 ≤ e0 ∧ e0 ≤ 50
  · obtain ⟨g0, lo0, hi0⟩ := hf0
    by_cases hf1 : (len1 : Int) ≤ 50 ∧ -50 ≤ e1 ∧ e1 ≤ 50
    · obtain ⟨g1, lo1, hi1⟩ := hf1
      by_cases hf2 : (len2 : Int) ≤ 50 ∧ -50 ≤ e2 ∧ e2 ≤ 50
      · obtain ⟨g2, lo2, hi2⟩ := hf2
        obtain ⟨X, hX, bX⟩ := raw50 n0 L0 e0 (by rw [hin0.1]; omega) lo0 hi0
        obtain ⟨Y, hY, bY⟩ := raw50 n1 L1 e1 (by rw [hin1.1]; omega) lo1 hi1
        obtain ⟨Z, hZ, bZ⟩ := raw50 n2 L2 e2 (by rw [hin2.1]; omega) lo2 hi2
        by_cases h1 : X ≤ Y
        · by_cases h2 : Y ≤ Z
          · exact orders_3 n0 a0 len0 cap0 L0 e0 n1 a1 len1 cap1 L1 e1 n2 a2 len2 cap2 L2 e2 w hin0 hin1 hin2 htab (by omega) lo0 hi0 (by omega) lo1 hi1 (by omega) lo2 hi2 X Y Z hX hY hZ bX bY bZ h1 h2
          · exact orders_2 n0 a0 len0 cap0 L0 e0 n1 a1 len1 cap1 L1 e1 n2 a2 len2 cap2 L2 e2 w hin0 hin1 hin2 htab (by omega) lo0 hi0 (by omega) lo1 hi1 (by omega) lo2 hi2 X Y Z hX hY hZ bX bY bZ h1 h2
        · exact orders_1 n0 a0 len0 cap0 L0 e0 n1 a1 len1 cap1 L1 e1 n2 a2 len2 cap2 L2 e2 w hin0 hin1 hin2 htab (by omega) lo0 hi0 (by omega) lo1 hi1 (by omega) lo2 hi2 X Y Z hX hY hZ bX bY bZ h1
      · exact orders_no2 n0 a0 len0 cap0 e0 n1 a1 len1 cap1 e1 n2 a2 len2 cap2 e2 w hin0.2.1 hin0.2.2.1 hin1.2.1 hin1.2.2.1 hin2.2.1 hin2.2.2.1 htab g0 lo0 hi0 g1 lo1 hi1 hf2
    · exact orders_no1 n0 a0 len0 cap0 e0 n1 a1 len1 cap1 e1 n2 a2 len2 cap2 e2 w hin0.2.1 hin0.2.2.1 hin1.2.1 hin1.2.2.1 hin2.2.1 hin2.2.2.1 htab g0 lo0 hi0 hf1
  · exact orders_no0 n0 a0 len0 cap0 e0 n1 a1 len1 cap1 e1 n2 a2 len2 cap2 e2 w hin0.2.1 hin0.2.2.1 hin1.2.1 hin1.2.2.1 hin2.2.1 hin2.2.2.1 htab hf0
end Go.Proofs.YtlppofjmkepceaaDoor
