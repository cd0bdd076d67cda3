/- The walk of the law DecReads, by what the text is. -/
import Derived.Test.YtlppofjmkepceaaDoorDecZ
import Derived.Test.YtlppofjmkepceaaDoorDawC0
namespace Go.Proofs.YtlppofjmkepceaaDoor
open Go.RowKit Florin
set_option linter.unusedVariables false
set_option linter.unusedSimpArgs false

set_option maxRecDepth 100000 in
set_option maxHeartbeats 3200000 in
theorem rd_N (s : ByteArray) (w : World) (htab : Tab w) (hs : 200 < s.size) (hm : s.size ≤ maxLen) :
    Calls Tryd.prog 5 #[.string s] w fun x w' => x = .returned (.bool true) ∧ Below w.heap.size w w' := by
  have Hhtab := Lib.hid htab
  clear htab
  have HT := Hhtab
  unfold maxLen at hm
  go_enter Tryd.func5, Tryd.ntmps5
  go_wp2_with fail
  with_reducible refine (headD _ (HT.out.below (Below.refl w.heap.size w))).mono ?_
  rintro x w1 ⟨rfl, hb⟩
  have b1 := Lib.hid ((Below.refl w.heap.size w).trans (hb.mono (B' := w.heap.size) (by simp <;> omega)))
  clear hb
  go_wp2
  go_ret
  exact ⟨rfl, b1.out⟩

set_option maxRecDepth 100000 in
set_option maxHeartbeats 3200000 in
theorem rd_F (s : ByteArray) (w : World) (htab : Tab w) (hs : s.size ≤ 200) (CP : ∀ w1 : World, Calls Tryd.prog 22 #[.string s] w1 fun x w2 => x = .returned (.tuple #[.agg #[.bool false, .string ⟨#[]⟩, .int .i64 0], .int .i64 1]) ∧ Below w1.heap.size w1 w2) (CF : ∀ w1 : World, Calls Tryd.prog 25 #[.string s] w1 fun x w2 => x = .returned (.bool false) ∧ w1 = w2) :
    Calls Tryd.prog 5 #[.string s] w fun x w' => x = .returned (.bool true) ∧ Below w.heap.size w w' := by
  have Hhtab := Lib.hid htab
  have HCP := Lib.hid CP
  have HCF := Lib.hid CF
  clear htab CP CF
  have HT := Hhtab
  go_enter Tryd.func5, Tryd.ntmps5
  go_wp2_with fail
  with_reducible refine (headD _ (HT.out.below (Below.refl w.heap.size w))).mono ?_
  rintro x w1 ⟨rfl, hb⟩
  have b1 := Lib.hid ((Below.refl w.heap.size w).trans (hb.mono (B' := w.heap.size) (by simp <;> omega)))
  clear hb
  go_wp2_with fail
  with_reducible refine (HCP.out _).mono ?_
  rintro x w2 ⟨rfl, hb⟩
  have b2 := Lib.hid (b1.out.trans (hb.mono (B' := w.heap.size) (by have := b1.out.size; simp <;> omega)))
  clear hb
  go_wp2_with fail
  with_reducible refine (HCF.out _).mono ?_
  rintro x wz ⟨rfl, rfl⟩
  go_wp2
  go_ret
  exact ⟨rfl, (b2.out.alloc (by have := b2.out.size; simp <;> omega) _)⟩

set_option maxRecDepth 100000 in
set_option maxHeartbeats 3200000 in
theorem rd_L (s : ByteArray) (w : World) (htab : Tab w) (hs : s.size ≤ 200) (CP : ∀ w1 : World, Calls Tryd.prog 22 #[.string s] w1 fun x w2 => x = .returned (.tuple #[.agg #[.bool false, .string ⟨#[]⟩, .int .i64 0], .int .i64 2]) ∧ Below w1.heap.size w1 w2) (CF : ∀ w1 : World, Calls Tryd.prog 25 #[.string s] w1 fun x w2 => x = .returned (.bool true) ∧ w1 = w2) :
    Calls Tryd.prog 5 #[.string s] w fun x w' => x = .returned (.bool true) ∧ Below w.heap.size w w' := by
  have Hhtab := Lib.hid htab
  have HCP := Lib.hid CP
  have HCF := Lib.hid CF
  clear htab CP CF
  have HT := Hhtab
  go_enter Tryd.func5, Tryd.ntmps5
  go_wp2_with fail
  with_reducible refine (headD _ (HT.out.below (Below.refl w.heap.size w))).mono ?_
  rintro x w1 ⟨rfl, hb⟩
  have b1 := Lib.hid ((Below.refl w.heap.size w).trans (hb.mono (B' := w.heap.size) (by simp <;> omega)))
  clear hb
  go_wp2_with fail
  with_reducible refine (HCP.out _).mono ?_
  rintro x w2 ⟨rfl, hb⟩
  have b2 := Lib.hid (b1.out.trans (hb.mono (B' := w.heap.size) (by have := b1.out.size; simp <;> omega)))
  clear hb
  go_wp2_with fail
  with_reducible refine (HCF.out _).mono ?_
  rintro x wz ⟨rfl, rfl⟩
  go_wp2
  go_ret
  exact ⟨rfl, (b2.out.alloc (by have := b2.out.size; simp <;> omega) _)⟩

set_option maxRecDepth 100000 in
set_option maxHeartbeats 3200000 in
theorem rd_G (s : ByteArray) (w : World) (htab : Tab w) (hs : s.size ≤ 200) (d : Tri) (TX : List UInt8) (CP : ∀ w1 : World, Calls Tryd.prog 22 #[.string s] w1 fun x w2 => x = .returned (.tuple #[V d, .int .i64 0]) ∧ Below w1.heap.size w1 w2) (CF : ∀ w1 : World, Calls Tryd.prog 25 #[.string s] w1 fun x w2 => x = .returned (.bool true) ∧ w1 = w2) (CN : ∀ w1 : World, Calls Tryd.prog 15 #[V d] w1 fun x w2 => x = .returned (.bool true) ∧ Below w1.heap.size w1 w2) (CS : ∀ w1 : World, Tab w1 → Calls Tryd.prog 26 #[V d] w1 fun x w2 => x = .returned (S TX) ∧ Below w1.heap.size w1 w2) (d2 : Tri) (f2 : Int) (he : 9000 < d.e) (CX : ∀ w1 : World, Calls Tryd.prog 22 #[S TX] w1 fun x w2 => x = .returned (.tuple #[V d2, .int .i64 f2]) ∧ Below w1.heap.size w1 w2) :
    Calls Tryd.prog 5 #[.string s] w fun x w' => x = .returned (.bool true) ∧ Below w.heap.size w w' := by
  have Hhtab := Lib.hid htab
  have HCP := Lib.hid CP
  have HCF := Lib.hid CF
  have HCN := Lib.hid CN
  have HCS := Lib.hid CS
  have HCX := Lib.hid CX
  clear htab CP CF CN CS CX
  have HT := Hhtab
  go_enter Tryd.func5, Tryd.ntmps5
  go_wp2_with fail
  with_reducible refine (headD _ (HT.out.below (Below.refl w.heap.size w))).mono ?_
  rintro x w1 ⟨rfl, hb⟩
  have b1 := Lib.hid ((Below.refl w.heap.size w).trans (hb.mono (B' := w.heap.size) (by simp <;> omega)))
  clear hb
  go_wp2_with fail
  with_reducible refine (HCP.out _).mono ?_
  rintro x w2 ⟨rfl, hb⟩
  have b2 := Lib.hid (b1.out.trans (hb.mono (B' := w.heap.size) (by have := b1.out.size; simp <;> omega)))
  clear hb
  go_wp2_with fail
  with_reducible refine (HCF.out _).mono ?_
  rintro x wz ⟨rfl, rfl⟩
  go_wp2_with fail
  with_reducible refine (HCN.out _).mono ?_
  rintro x w3 ⟨rfl, hb⟩
  have Cd := Lib.hid (((Box.new w2 #[.bool d.neg, S d.l, .int .i64 d.e] 28).at (b' := w2.heap.size) (by simp)).below hb (by simp <;> omega))
  have b3 := Lib.hid ((b2.out.alloc (by have := b2.out.size; simp <;> omega) _).trans (hb.mono (B' := w.heap.size) (by have := b2.out.size; simp <;> omega)))
  clear hb
  have Bd : Hid (Box w3 (w2.heap.size) #[.bool d.neg, S d.l, .int .i64 d.e]) := Cd
  clear Cd
  obtain ⟨d0, d1, d2, d3, d4, d5, d6⟩ := Bd.out.three
  go_wp2_with fail
  with_reducible refine (HCS.out _ (HT.out.below b3.out)).mono ?_
  rintro x w4 ⟨rfl, hb⟩
  have Cd := Lib.hid (Bd.out.below hb (by have := Bd.out.lt; simp <;> omega))
  have b4 := Lib.hid (b3.out.trans (hb.mono (B' := w.heap.size) (by have := b3.out.size; simp <;> omega)))
  clear d0 d1 d2 d3 d4 d5 d6
  clear hb Bd
  have Bd : Hid (Box w4 (w2.heap.size) #[.bool d.neg, S d.l, .int .i64 d.e]) := Cd
  clear Cd
  obtain ⟨d0, d1, d2, d3, d4, d5, d6⟩ := Bd.out.three
  go_wp2_with fail
  with_reducible refine (HCX.out _).mono ?_
  rintro x w5 ⟨rfl, hb⟩
  have Cd := Lib.hid (Bd.out.below hb (by have := Bd.out.lt; simp <;> omega))
  have b5 := Lib.hid (b4.out.trans (hb.mono (B' := w.heap.size) (by have := b4.out.size; simp <;> omega)))
  clear d0 d1 d2 d3 d4 d5 d6
  clear hb Bd
  have Bd : Hid (Box w5 (w2.heap.size) #[.bool d.neg, S d.l, .int .i64 d.e]) := Cd
  clear Cd
  obtain ⟨d0, d1, d2, d3, d4, d5, d6⟩ := Bd.out.three
  go_wp2
  go_ret
  exact ⟨rfl, (b5.out.alloc (by have := b5.out.size; simp <;> omega) _)⟩

set_option maxRecDepth 100000 in
set_option maxHeartbeats 3200000 in
theorem rd_H (s : ByteArray) (w : World) (htab : Tab w) (hs : s.size ≤ 200) (d : Tri) (TX : List UInt8) (CP : ∀ w1 : World, Calls Tryd.prog 22 #[.string s] w1 fun x w2 => x = .returned (.tuple #[V d, .int .i64 0]) ∧ Below w1.heap.size w1 w2) (CF : ∀ w1 : World, Calls Tryd.prog 25 #[.string s] w1 fun x w2 => x = .returned (.bool true) ∧ w1 = w2) (CN : ∀ w1 : World, Calls Tryd.prog 15 #[V d] w1 fun x w2 => x = .returned (.bool true) ∧ Below w1.heap.size w1 w2) (CS : ∀ w1 : World, Tab w1 → Calls Tryd.prog 26 #[V d] w1 fun x w2 => x = .returned (S TX) ∧ Below w1.heap.size w1 w2) (d2 : Tri) (f2 : Int) (he : d.e < -9000) (CX : ∀ w1 : World, Calls Tryd.prog 22 #[S TX] w1 fun x w2 => x = .returned (.tuple #[V d2, .int .i64 f2]) ∧ Below w1.heap.size w1 w2) :
    Calls Tryd.prog 5 #[.string s] w fun x w' => x = .returned (.bool true) ∧ Below w.heap.size w w' := by
  have Hhtab := Lib.hid htab
  have HCP := Lib.hid CP
  have HCF := Lib.hid CF
  have HCN := Lib.hid CN
  have HCS := Lib.hid CS
  have HCX := Lib.hid CX
  clear htab CP CF CN CS CX
  have HT := Hhtab
  go_enter Tryd.func5, Tryd.ntmps5
  go_wp2_with fail
  with_reducible refine (headD _ (HT.out.below (Below.refl w.heap.size w))).mono ?_
  rintro x w1 ⟨rfl, hb⟩
  have b1 := Lib.hid ((Below.refl w.heap.size w).trans (hb.mono (B' := w.heap.size) (by simp <;> omega)))
  clear hb
  go_wp2_with fail
  with_reducible refine (HCP.out _).mono ?_
  rintro x w2 ⟨rfl, hb⟩
  have b2 := Lib.hid (b1.out.trans (hb.mono (B' := w.heap.size) (by have := b1.out.size; simp <;> omega)))
  clear hb
  go_wp2_with fail
  with_reducible refine (HCF.out _).mono ?_
  rintro x wz ⟨rfl, rfl⟩
  go_wp2_with fail
  with_reducible refine (HCN.out _).mono ?_
  rintro x w3 ⟨rfl, hb⟩
  have Cd := Lib.hid (((Box.new w2 #[.bool d.neg, S d.l, .int .i64 d.e] 28).at (b' := w2.heap.size) (by simp)).below hb (by simp <;> omega))
  have b3 := Lib.hid ((b2.out.alloc (by have := b2.out.size; simp <;> omega) _).trans (hb.mono (B' := w.heap.size) (by have := b2.out.size; simp <;> omega)))
  clear hb
  have Bd : Hid (Box w3 (w2.heap.size) #[.bool d.neg, S d.l, .int .i64 d.e]) := Cd
  clear Cd
  obtain ⟨d0, d1, d2, d3, d4, d5, d6⟩ := Bd.out.three
  go_wp2_with fail
  with_reducible refine (HCS.out _ (HT.out.below b3.out)).mono ?_
  rintro x w4 ⟨rfl, hb⟩
  have Cd := Lib.hid (Bd.out.below hb (by have := Bd.out.lt; simp <;> omega))
  have b4 := Lib.hid (b3.out.trans (hb.mono (B' := w.heap.size) (by have := b3.out.size; simp <;> omega)))
  clear d0 d1 d2 d3 d4 d5 d6
  clear hb Bd
  have Bd : Hid (Box w4 (w2.heap.size) #[.bool d.neg, S d.l, .int .i64 d.e]) := Cd
  clear Cd
  obtain ⟨d0, d1, d2, d3, d4, d5, d6⟩ := Bd.out.three
  go_wp2_with fail
  with_reducible refine (HCX.out _).mono ?_
  rintro x w5 ⟨rfl, hb⟩
  have Cd := Lib.hid (Bd.out.below hb (by have := Bd.out.lt; simp <;> omega))
  have b5 := Lib.hid (b4.out.trans (hb.mono (B' := w.heap.size) (by have := b4.out.size; simp <;> omega)))
  clear d0 d1 d2 d3 d4 d5 d6
  clear hb Bd
  have Bd : Hid (Box w5 (w2.heap.size) #[.bool d.neg, S d.l, .int .i64 d.e]) := Cd
  clear Cd
  obtain ⟨d0, d1, d2, d3, d4, d5, d6⟩ := Bd.out.three
  go_wp2
  go_ret
  exact ⟨rfl, (b5.out.alloc (by have := b5.out.size; simp <;> omega) _)⟩

set_option maxRecDepth 100000 in
set_option maxHeartbeats 3200000 in
theorem rd_W (s : ByteArray) (w : World) (htab : Tab w) (hs : s.size ≤ 200) (d : Tri) (TX : List UInt8) (CP : ∀ w1 : World, Calls Tryd.prog 22 #[.string s] w1 fun x w2 => x = .returned (.tuple #[V d, .int .i64 0]) ∧ Below w1.heap.size w1 w2) (CF : ∀ w1 : World, Calls Tryd.prog 25 #[.string s] w1 fun x w2 => x = .returned (.bool true) ∧ w1 = w2) (CN : ∀ w1 : World, Calls Tryd.prog 15 #[V d] w1 fun x w2 => x = .returned (.bool true) ∧ Below w1.heap.size w1 w2) (CS : ∀ w1 : World, Tab w1 → Calls Tryd.prog 26 #[V d] w1 fun x w2 => x = .returned (S TX) ∧ Below w1.heap.size w1 w2) (e1 : -9000 ≤ d.e) (e2 : d.e ≤ 9000) (PX : List UInt8) (hp : 900 < PX.length) (hp2 : PX.length ≤ 1000000) (CX : ∀ w1 : World, Calls Tryd.prog 22 #[S TX] w1 fun x w2 => x = .returned (.tuple #[V d, .int .i64 0]) ∧ Below w1.heap.size w1 w2) (CL : ∀ w1 : World, Calls Tryd.prog 27 #[V d] w1 fun x w2 => x = .returned (S PX) ∧ Below w1.heap.size w1 w2) (CG : ∀ w1 : World, Calls Tryd.prog 25 #[S PX] w1 fun x w2 => x = .returned (.bool true) ∧ w1 = w2) :
    Calls Tryd.prog 5 #[.string s] w fun x w' => x = .returned (.bool true) ∧ Below w.heap.size w w' := by
  have Hhtab := Lib.hid htab
  have HCP := Lib.hid CP
  have HCF := Lib.hid CF
  have HCN := Lib.hid CN
  have HCS := Lib.hid CS
  have HCX := Lib.hid CX
  have HCL := Lib.hid CL
  have HCG := Lib.hid CG
  clear htab CP CF CN CS CX CL CG
  have HT := Hhtab
  go_enter Tryd.func5, Tryd.ntmps5
  go_wp2_with fail
  with_reducible refine (headD _ (HT.out.below (Below.refl w.heap.size w))).mono ?_
  rintro x w1 ⟨rfl, hb⟩
  have b1 := Lib.hid ((Below.refl w.heap.size w).trans (hb.mono (B' := w.heap.size) (by simp <;> omega)))
  clear hb
  go_wp2_with fail
  with_reducible refine (HCP.out _).mono ?_
  rintro x w2 ⟨rfl, hb⟩
  have b2 := Lib.hid (b1.out.trans (hb.mono (B' := w.heap.size) (by have := b1.out.size; simp <;> omega)))
  clear hb
  go_wp2_with fail
  with_reducible refine (HCF.out _).mono ?_
  rintro x wz ⟨rfl, rfl⟩
  go_wp2_with fail
  with_reducible refine (HCN.out _).mono ?_
  rintro x w3 ⟨rfl, hb⟩
  have Cd := Lib.hid (((Box.new w2 #[.bool d.neg, S d.l, .int .i64 d.e] 28).at (b' := w2.heap.size) (by simp)).below hb (by simp <;> omega))
  have b3 := Lib.hid ((b2.out.alloc (by have := b2.out.size; simp <;> omega) _).trans (hb.mono (B' := w.heap.size) (by have := b2.out.size; simp <;> omega)))
  clear hb
  have Bd : Hid (Box w3 (w2.heap.size) #[.bool d.neg, S d.l, .int .i64 d.e]) := Cd
  clear Cd
  obtain ⟨d0, d1, d2, d3, d4, d5, d6⟩ := Bd.out.three
  go_wp2_with fail
  with_reducible refine (HCS.out _ (HT.out.below b3.out)).mono ?_
  rintro x w4 ⟨rfl, hb⟩
  have Cd := Lib.hid (Bd.out.below hb (by have := Bd.out.lt; simp <;> omega))
  have b4 := Lib.hid (b3.out.trans (hb.mono (B' := w.heap.size) (by have := b3.out.size; simp <;> omega)))
  clear d0 d1 d2 d3 d4 d5 d6
  clear hb Bd
  have Bd : Hid (Box w4 (w2.heap.size) #[.bool d.neg, S d.l, .int .i64 d.e]) := Cd
  clear Cd
  obtain ⟨d0, d1, d2, d3, d4, d5, d6⟩ := Bd.out.three
  go_wp2_with fail
  with_reducible refine (HCX.out _).mono ?_
  rintro x w5 ⟨rfl, hb⟩
  have Cd := Lib.hid (Bd.out.below hb (by have := Bd.out.lt; simp <;> omega))
  have b5 := Lib.hid (b4.out.trans (hb.mono (B' := w.heap.size) (by have := b4.out.size; simp <;> omega)))
  clear d0 d1 d2 d3 d4 d5 d6
  clear hb Bd
  have Bd : Hid (Box w5 (w2.heap.size) #[.bool d.neg, S d.l, .int .i64 d.e]) := Cd
  clear Cd
  obtain ⟨d0, d1, d2, d3, d4, d5, d6⟩ := Bd.out.three
  go_wp2_with fail
  with_reducible refine (HCL.out _).mono ?_
  rintro x w6 ⟨rfl, hb⟩
  have Cd := Lib.hid ((Bd.out.alloc (.cells #[.bool d.neg, S d.l, .int .i64 d.e] 28)).below hb (by have := Bd.out.lt; simp <;> omega))
  have Cx := Lib.hid (((Box.new w5 #[.bool d.neg, S d.l, .int .i64 d.e] 28).at (b' := w5.heap.size) (by simp)).below hb (by simp <;> omega))
  have b6 := Lib.hid ((b5.out.alloc (by have := b5.out.size; simp <;> omega) _).trans (hb.mono (B' := w.heap.size) (by have := b5.out.size; simp <;> omega)))
  clear d0 d1 d2 d3 d4 d5 d6
  clear hb Bd
  have Bd : Hid (Box w6 (w2.heap.size) #[.bool d.neg, S d.l, .int .i64 d.e]) := Cd
  have Bx : Hid (Box w6 (w5.heap.size) #[.bool d.neg, S d.l, .int .i64 d.e]) := Cx
  clear Cd Cx
  obtain ⟨d0, d1, d2, d3, d4, d5, d6⟩ := Bd.out.three
  obtain ⟨x0, x1, x2, x3, x4, x5, x6⟩ := Bx.out.three
  go_wp2_with fail
  with_reducible refine (HCG.out _).mono ?_
  rintro x wz ⟨rfl, rfl⟩
  go_wp2_with fail
  with_reducible refine (HCL.out _).mono ?_
  rintro x w7 ⟨rfl, hb⟩
  have Cd := Lib.hid (Bd.out.below hb (by have := Bd.out.lt; simp <;> omega))
  have Cx := Lib.hid (Bx.out.below hb (by have := Bx.out.lt; simp <;> omega))
  have b7 := Lib.hid (b6.out.trans (hb.mono (B' := w.heap.size) (by have := b6.out.size; simp <;> omega)))
  clear d0 d1 d2 d3 d4 d5 d6 x0 x1 x2 x3 x4 x5 x6
  clear hb Bd Bx
  have Bd : Hid (Box w7 (w2.heap.size) #[.bool d.neg, S d.l, .int .i64 d.e]) := Cd
  have Bx : Hid (Box w7 (w5.heap.size) #[.bool d.neg, S d.l, .int .i64 d.e]) := Cx
  clear Cd Cx
  obtain ⟨d0, d1, d2, d3, d4, d5, d6⟩ := Bd.out.three
  obtain ⟨x0, x1, x2, x3, x4, x5, x6⟩ := Bx.out.three
  go_wp2
  go_ret
  exact ⟨rfl, b7.out⟩

set_option maxRecDepth 100000 in
set_option maxHeartbeats 3200000 in
theorem rd_R (s : ByteArray) (w : World) (htab : Tab w) (hs : s.size ≤ 200) (d : Tri) (TX : List UInt8) (CP : ∀ w1 : World, Calls Tryd.prog 22 #[.string s] w1 fun x w2 => x = .returned (.tuple #[V d, .int .i64 0]) ∧ Below w1.heap.size w1 w2) (CF : ∀ w1 : World, Calls Tryd.prog 25 #[.string s] w1 fun x w2 => x = .returned (.bool true) ∧ w1 = w2) (CN : ∀ w1 : World, Calls Tryd.prog 15 #[V d] w1 fun x w2 => x = .returned (.bool true) ∧ Below w1.heap.size w1 w2) (CS : ∀ w1 : World, Tab w1 → Calls Tryd.prog 26 #[V d] w1 fun x w2 => x = .returned (S TX) ∧ Below w1.heap.size w1 w2) (e1 : -9000 ≤ d.e) (e2 : d.e ≤ 9000) (PX : List UInt8) (hp : PX.length ≤ 900) (CX : ∀ w1 : World, Calls Tryd.prog 22 #[S TX] w1 fun x w2 => x = .returned (.tuple #[V d, .int .i64 0]) ∧ Below w1.heap.size w1 w2) (CL : ∀ w1 : World, Calls Tryd.prog 27 #[V d] w1 fun x w2 => x = .returned (S PX) ∧ Below w1.heap.size w1 w2) (CG : ∀ w1 : World, Calls Tryd.prog 25 #[S PX] w1 fun x w2 => x = .returned (.bool true) ∧ w1 = w2) (CY : ∀ w1 : World, Calls Tryd.prog 22 #[S PX] w1 fun x w2 => x = .returned (.tuple #[V d, .int .i64 0]) ∧ Below w1.heap.size w1 w2) :
    Calls Tryd.prog 5 #[.string s] w fun x w' => x = .returned (.bool true) ∧ Below w.heap.size w w' := by
  have Hhtab := Lib.hid htab
  have HCP := Lib.hid CP
  have HCF := Lib.hid CF
  have HCN := Lib.hid CN
  have HCS := Lib.hid CS
  have HCX := Lib.hid CX
  have HCL := Lib.hid CL
  have HCG := Lib.hid CG
  have HCY := Lib.hid CY
  clear htab CP CF CN CS CX CL CG CY
  have HT := Hhtab
  go_enter Tryd.func5, Tryd.ntmps5
  go_wp2_with fail
  with_reducible refine (headD _ (HT.out.below (Below.refl w.heap.size w))).mono ?_
  rintro x w1 ⟨rfl, hb⟩
  have b1 := Lib.hid ((Below.refl w.heap.size w).trans (hb.mono (B' := w.heap.size) (by simp <;> omega)))
  clear hb
  go_wp2_with fail
  with_reducible refine (HCP.out _).mono ?_
  rintro x w2 ⟨rfl, hb⟩
  have b2 := Lib.hid (b1.out.trans (hb.mono (B' := w.heap.size) (by have := b1.out.size; simp <;> omega)))
  clear hb
  go_wp2_with fail
  with_reducible refine (HCF.out _).mono ?_
  rintro x wz ⟨rfl, rfl⟩
  go_wp2_with fail
  with_reducible refine (HCN.out _).mono ?_
  rintro x w3 ⟨rfl, hb⟩
  have Cd := Lib.hid (((Box.new w2 #[.bool d.neg, S d.l, .int .i64 d.e] 28).at (b' := w2.heap.size) (by simp)).below hb (by simp <;> omega))
  have b3 := Lib.hid ((b2.out.alloc (by have := b2.out.size; simp <;> omega) _).trans (hb.mono (B' := w.heap.size) (by have := b2.out.size; simp <;> omega)))
  clear hb
  have Bd : Hid (Box w3 (w2.heap.size) #[.bool d.neg, S d.l, .int .i64 d.e]) := Cd
  clear Cd
  obtain ⟨d0, d1, d2, d3, d4, d5, d6⟩ := Bd.out.three
  go_wp2_with fail
  with_reducible refine (HCS.out _ (HT.out.below b3.out)).mono ?_
  rintro x w4 ⟨rfl, hb⟩
  have Cd := Lib.hid (Bd.out.below hb (by have := Bd.out.lt; simp <;> omega))
  have b4 := Lib.hid (b3.out.trans (hb.mono (B' := w.heap.size) (by have := b3.out.size; simp <;> omega)))
  clear d0 d1 d2 d3 d4 d5 d6
  clear hb Bd
  have Bd : Hid (Box w4 (w2.heap.size) #[.bool d.neg, S d.l, .int .i64 d.e]) := Cd
  clear Cd
  obtain ⟨d0, d1, d2, d3, d4, d5, d6⟩ := Bd.out.three
  go_wp2_with fail
  with_reducible refine (HCX.out _).mono ?_
  rintro x w5 ⟨rfl, hb⟩
  have Cd := Lib.hid (Bd.out.below hb (by have := Bd.out.lt; simp <;> omega))
  have b5 := Lib.hid (b4.out.trans (hb.mono (B' := w.heap.size) (by have := b4.out.size; simp <;> omega)))
  clear d0 d1 d2 d3 d4 d5 d6
  clear hb Bd
  have Bd : Hid (Box w5 (w2.heap.size) #[.bool d.neg, S d.l, .int .i64 d.e]) := Cd
  clear Cd
  obtain ⟨d0, d1, d2, d3, d4, d5, d6⟩ := Bd.out.three
  go_wp2_with fail
  with_reducible refine (HCL.out _).mono ?_
  rintro x w6 ⟨rfl, hb⟩
  have Cd := Lib.hid ((Bd.out.alloc (.cells #[.bool d.neg, S d.l, .int .i64 d.e] 28)).below hb (by have := Bd.out.lt; simp <;> omega))
  have Cx := Lib.hid (((Box.new w5 #[.bool d.neg, S d.l, .int .i64 d.e] 28).at (b' := w5.heap.size) (by simp)).below hb (by simp <;> omega))
  have b6 := Lib.hid ((b5.out.alloc (by have := b5.out.size; simp <;> omega) _).trans (hb.mono (B' := w.heap.size) (by have := b5.out.size; simp <;> omega)))
  clear d0 d1 d2 d3 d4 d5 d6
  clear hb Bd
  have Bd : Hid (Box w6 (w2.heap.size) #[.bool d.neg, S d.l, .int .i64 d.e]) := Cd
  have Bx : Hid (Box w6 (w5.heap.size) #[.bool d.neg, S d.l, .int .i64 d.e]) := Cx
  clear Cd Cx
  obtain ⟨d0, d1, d2, d3, d4, d5, d6⟩ := Bd.out.three
  obtain ⟨x0, x1, x2, x3, x4, x5, x6⟩ := Bx.out.three
  go_wp2_with fail
  with_reducible refine (HCG.out _).mono ?_
  rintro x wz ⟨rfl, rfl⟩
  go_wp2_with fail
  with_reducible refine (HCL.out _).mono ?_
  rintro x w7 ⟨rfl, hb⟩
  have Cd := Lib.hid (Bd.out.below hb (by have := Bd.out.lt; simp <;> omega))
  have Cx := Lib.hid (Bx.out.below hb (by have := Bx.out.lt; simp <;> omega))
  have b7 := Lib.hid (b6.out.trans (hb.mono (B' := w.heap.size) (by have := b6.out.size; simp <;> omega)))
  clear d0 d1 d2 d3 d4 d5 d6 x0 x1 x2 x3 x4 x5 x6
  clear hb Bd Bx
  have Bd : Hid (Box w7 (w2.heap.size) #[.bool d.neg, S d.l, .int .i64 d.e]) := Cd
  have Bx : Hid (Box w7 (w5.heap.size) #[.bool d.neg, S d.l, .int .i64 d.e]) := Cx
  clear Cd Cx
  obtain ⟨d0, d1, d2, d3, d4, d5, d6⟩ := Bd.out.three
  obtain ⟨x0, x1, x2, x3, x4, x5, x6⟩ := Bx.out.three
  go_wp2_with fail
  with_reducible refine (HCL.out _).mono ?_
  rintro x w8 ⟨rfl, hb⟩
  have Cd := Lib.hid (Bd.out.below hb (by have := Bd.out.lt; simp <;> omega))
  have Cx := Lib.hid (Bx.out.below hb (by have := Bx.out.lt; simp <;> omega))
  have b8 := Lib.hid (b7.out.trans (hb.mono (B' := w.heap.size) (by have := b7.out.size; simp <;> omega)))
  clear d0 d1 d2 d3 d4 d5 d6 x0 x1 x2 x3 x4 x5 x6
  clear hb Bd Bx
  have Bd : Hid (Box w8 (w2.heap.size) #[.bool d.neg, S d.l, .int .i64 d.e]) := Cd
  have Bx : Hid (Box w8 (w5.heap.size) #[.bool d.neg, S d.l, .int .i64 d.e]) := Cx
  clear Cd Cx
  obtain ⟨d0, d1, d2, d3, d4, d5, d6⟩ := Bd.out.three
  obtain ⟨x0, x1, x2, x3, x4, x5, x6⟩ := Bx.out.three
  go_wp2_with fail
  with_reducible refine (HCY.out _).mono ?_
  rintro x w9 ⟨rfl, hb⟩
  have Cd := Lib.hid (Bd.out.below hb (by have := Bd.out.lt; simp <;> omega))
  have Cx := Lib.hid (Bx.out.below hb (by have := Bx.out.lt; simp <;> omega))
  have b9 := Lib.hid (b8.out.trans (hb.mono (B' := w.heap.size) (by have := b8.out.size; simp <;> omega)))
  clear d0 d1 d2 d3 d4 d5 d6 x0 x1 x2 x3 x4 x5 x6
  clear hb Bd Bx
  have Bd : Hid (Box w9 (w2.heap.size) #[.bool d.neg, S d.l, .int .i64 d.e]) := Cd
  have Bx : Hid (Box w9 (w5.heap.size) #[.bool d.neg, S d.l, .int .i64 d.e]) := Cx
  clear Cd Cx
  obtain ⟨d0, d1, d2, d3, d4, d5, d6⟩ := Bd.out.three
  obtain ⟨x0, x1, x2, x3, x4, x5, x6⟩ := Bx.out.three
  go_wp2
  go_ret
  exact ⟨rfl, (b9.out.alloc (by have := b9.out.size; simp <;> omega) _)⟩

end Go.Proofs.YtlppofjmkepceaaDoor
