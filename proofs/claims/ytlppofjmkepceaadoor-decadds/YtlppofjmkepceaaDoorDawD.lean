/- The walk of the law DecAdds. -/
import Derived.Test.YtlppofjmkepceaaDoorDawC0
namespace Go.Proofs.YtlppofjmkepceaaDoor
open Go.RowKit Florin
set_option linter.unusedVariables false
set_option linter.unusedSimpArgs false

set_option maxRecDepth 100000 in
set_option maxHeartbeats 6400000 in
theorem adds_same (n0 : Bool) (a0 : Option Addr) (len0 cap0 : Nat) (L0 : List UInt8) (e0 : Int) (n1 : Bool) (a1 : Option Addr) (len1 cap1 : Nat) (L1 : List UInt8) (e1 : Int) (w : World) (hin0 : InB w a0 len0 cap0 L0) (hin1 : InB w a1 len1 cap1 L1) (htab : Tab w) (g0 : len0 ≤ 60) (lo0 : -60 ≤ e0) (hi0 : e0 ≤ 60) (g1 : len1 ≤ 60) (lo1 : -60 ≤ e1) (hi1 : e1 ≤ 60) (X Y : Int) (hX : Dv 60 X ⟨n0, dgs L0, e0⟩) (hY : Dv 60 Y ⟨n1, dgs L1, e1⟩) (bX : X.natAbs < 10 ^ 200) (bY : Y.natAbs < 10 ^ 200) (vX : val (dgs L0 ++ zs (e0 + 60).toNat) = X.natAbs) (vY : val (dgs L1 ++ zs (e1 + 60).toNat) = Y.natAbs) (hk : X ≠ 0) (hk2 : Y ≠ 0) (hk3 : (n0 == n1) = true) :
    Calls Tryd.prog 7 #[RV n0 a0 len0 cap0 e0, RV n1 a1 len1 cap1 e1] w fun x w' => x = .returned (.bool true) ∧ Below w.heap.size w w' := by
  have GD : Hid ((dig (X.natAbs + Y.natAbs)).length ≤ 1000000) := Lib.hid (gd_of bX bY).1
  have l0 : (dgs L0).length ≤ 60 := by rw [dgs_length, hin0.1]; exact g0
  have l1 : (dgs L1).length ≤ 60 := by rw [dgs_length, hin1.1]; exact g1
  have p200 : 10 ^ 200 + 10 ^ 200 < 10 ^ 240 := by decide
  have fx : Fit 60 X := fit60 (by omega)
  have fy : Fit 60 Y := fit60 (by omega)
  have fs : Fit 60 (X + Y) := fit60 (by omega)
  have fd : Fit 60 (X - Y) := fit60 (by omega)
  have fd2 : Fit 60 (Y - X) := fit60 (by omega)
  obtain ⟨s, hs⟩ : ∃ s, nf 60 (X + Y) = s := ⟨_, rfl⟩
  obtain ⟨f, hf⟩ : ∃ f, nf 60 (X - Y) = f := ⟨_, rfl⟩
  obtain ⟨f2, hf2⟩ : ∃ f2, nf 60 (Y - X) = f2 := ⟨_, rfl⟩
  obtain ⟨dx, hdx⟩ : ∃ dx, nf 60 X = dx := ⟨_, rfl⟩
  have ms : made s.neg s.l s.e = nf 60 (X + Y) := by rw [← hs]; exact nf_made fs
  have sl : s.l.length ≤ 240 := by rw [← hs]; exact nf_length (by omega)
  have fl2 : f2.l.length ≤ 240 := by rw [← hf2]; exact nf_length (by omega)
  have se1 : -60 ≤ s.e := by rw [← hs]; exact (nf_bounds fs).1
  have se2 : s.e ≤ 30000 := by rw [← hs]; exact (nf_bounds fs).2
  have CXY : Hid (∀ w : World, Calls Tryd.prog 30 #[.agg #[.bool n0, S (dgs L0), .int .i64 e0], .agg #[.bool n1, S (dgs L1), .int .i64 e1]] w fun z w' => z = .returned (V s) ∧ Below w.heap.size w w') := Lib.hid fun w => by rw [← hs]; exact addD n0 ⟨(dgs L0).toArray⟩ e0 n1 ⟨(dgs L1).toArray⟩ e1 w (by rw [arr_size]; omega) (by rw [arr_size]; omega) 60 X Y fx fy fs (by rw [arr_list]; exact hX.made fx) (by rw [arr_list]; exact hY.made fy)
  have CYX : Hid (∀ w : World, Calls Tryd.prog 30 #[.agg #[.bool n1, S (dgs L1), .int .i64 e1], .agg #[.bool n0, S (dgs L0), .int .i64 e0]] w fun z w' => z = .returned (V s) ∧ Below w.heap.size w w') := Lib.hid fun w => by rw [← hs, Int.add_comm X Y]; exact addD n1 ⟨(dgs L1).toArray⟩ e1 n0 ⟨(dgs L0).toArray⟩ e0 w (by rw [arr_size]; omega) (by rw [arr_size]; omega) 60 Y X fy fx (by rw [Int.add_comm]; exact fs) (by rw [arr_list]; exact hY.made fy) (by rw [arr_list]; exact hX.made fx)
  have CSY : Hid (∀ w : World, Calls Tryd.prog 31 #[V s, .agg #[.bool n1, S (dgs L1), .int .i64 e1]] w fun z w' => z = .returned (V dx) ∧ Below w.heap.size w w') := Lib.hid fun w => by have h := subD s.neg ⟨s.l.toArray⟩ s.e n1 ⟨(dgs L1).toArray⟩ e1 w (by rw [arr_size]; omega) (by rw [arr_size]; omega) 60 (X + Y) Y fs fy (by rw [Int.add_sub_cancel]; exact fx) (by rw [arr_list]; exact ms) (by rw [arr_list]; exact hY); rw [Int.add_sub_cancel, hdx] at h; exact h
  have CXD : Hid (∀ w : World, Calls Tryd.prog 31 #[.agg #[.bool n0, S (dgs L0), .int .i64 e0], .agg #[.bool n1, S (dgs L1), .int .i64 e1]] w fun z w' => z = .returned (V f) ∧ Below w.heap.size w w') := Lib.hid fun w => by rw [← hf]; exact subD n0 ⟨(dgs L0).toArray⟩ e0 n1 ⟨(dgs L1).toArray⟩ e1 w (by rw [arr_size]; omega) (by rw [arr_size]; omega) 60 X Y fx fy fd (by rw [arr_list]; exact hX.made fx) (by rw [arr_list]; exact hY)
  have CYD : Hid (∀ w : World, Calls Tryd.prog 31 #[.agg #[.bool n1, S (dgs L1), .int .i64 e1], .agg #[.bool n0, S (dgs L0), .int .i64 e0]] w fun z w' => z = .returned (V f2) ∧ Below w.heap.size w w') := Lib.hid fun w => by rw [← hf2]; exact subD n1 ⟨(dgs L1).toArray⟩ e1 n0 ⟨(dgs L0).toArray⟩ e0 w (by rw [arr_size]; omega) (by rw [arr_size]; omega) 60 Y X fy fx fd2 (by rw [arr_list]; exact hY.made fy) (by rw [arr_list]; exact hX)
  have CMF : Hid (∀ w : World, Calls Tryd.prog 32 #[V f2] w fun z w' => z = .returned (V f) ∧ Below w.heap.size w w') := Lib.hid fun w => minus_as f2.neg ⟨f2.l.toArray⟩ f2.e w (by rw [arr_size]; omega) f (by rw [arr_list, ← hf2, nf_minus fd2, show -(Y - X) = X - Y by omega, hf])
  have CX0 : Hid (∀ w : World, Calls Tryd.prog 30 #[.agg #[.bool n0, S (dgs L0), .int .i64 e0], .agg #[.bool false, .string ⟨#[]⟩, .int .i64 0]] w fun z w' => z = .returned (V dx) ∧ Below w.heap.size w w') := Lib.hid fun w => by have h := addD n0 ⟨(dgs L0).toArray⟩ e0 false ⟨#[]⟩ 0 w (by rw [arr_size]; omega) (by decide) 60 X 0 fx (fit60 (by decide)) (by rw [Int.add_zero]; exact fx) (by rw [arr_list]; exact hX.made fx) (nf_zero 60).symm; rw [Int.add_zero, hdx] at h; exact h
  have CNX : Hid (∀ w : World, Calls Tryd.prog 14 #[.agg #[.bool n0, S (dgs L0), .int .i64 e0]] w fun z w' => z = .returned (V dx) ∧ Below w.heap.size w w') := Lib.hid fun w => norm_as n0 ⟨(dgs L0).toArray⟩ e0 w (by rw [arr_size]; omega) dx (by rw [arr_list, hX.made fx, hdx])
  have CNS : Hid (∀ w : World, Calls Tryd.prog 15 #[V s] w fun z w' => z = .returned (.bool true) ∧ Below w.heap.size w w') := Lib.hid fun w => normal_as s w (by omega) (by rw [← hs]; exact made_nrm _ _ _)
  have CPX : Hid (∀ w : World, Calls Tryd.prog 21 #[.agg #[.bool n0, S (dgs L0), .int .i64 e0], .int .i64 60] w fun z w' => z = .returned (S (dgs L0 ++ zs (e0 + 60).toNat)) ∧ Below w.heap.size w w') := Lib.hid fun w => places_any n0 ⟨(dgs L0).toArray⟩ e0 60 w (by rw [arr_size]; omega) (by decide) (by omega) (by omega)
  have CPY : Hid (∀ w : World, Calls Tryd.prog 21 #[.agg #[.bool n1, S (dgs L1), .int .i64 e1], .int .i64 60] w fun z w' => z = .returned (S (dgs L1 ++ zs (e1 + 60).toNat)) ∧ Below w.heap.size w w') := Lib.hid fun w => places_any n1 ⟨(dgs L1).toArray⟩ e1 60 w (by rw [arr_size]; omega) (by decide) (by omega) (by omega)
  have CPS : Hid (∀ w : World, Calls Tryd.prog 21 #[V s, .int .i64 60] w fun z w' => z = .returned (S (s.l ++ zs (s.e + 60).toNat)) ∧ Below w.heap.size w w') := Lib.hid fun w => places_any s.neg ⟨s.l.toArray⟩ s.e 60 w (by rw [arr_size]; omega) (by decide) (by omega) (by omega)
  have IX : Hid (isDig (dgs L0 ++ zs (e0 + 60).toNat) = true) := Lib.hid (by rw [isDig_append, isDig_dgs, isDig_zs]; rfl)
  have IY : Hid (isDig (dgs L1 ++ zs (e1 + 60).toNat) = true) := Lib.hid (by rw [isDig_append, isDig_dgs, isDig_zs]; rfl)
  have IS : Hid (isDig (s.l ++ zs (s.e + 60).toNat) = true) := Lib.hid (by rw [isDig_append, isDig_zs, ← hs, nf_isDig]; rfl)
  have kx : (dgs L0 ++ zs (e0 + 60).toNat).length ≤ 200 := by rw [List.length_append, zs_length]; omega
  have ky : (dgs L1 ++ zs (e1 + 60).toNat).length ≤ 200 := by rw [List.length_append, zs_length]; omega
  have ks : (s.l ++ zs (s.e + 60).toNat).length ≤ 40000 := by rw [List.length_append, zs_length]; omega
  have VS : Hid (val (s.l ++ zs (s.e + 60).toNat) = (X + Y).natAbs) := Lib.hid (by rw [← hs]; exact nf_places fs)
  have VX := Lib.hid vX
  have VY := Lib.hid vY
  have SN : Hid (s.neg = decide (X + Y < 0)) := Lib.hid (by rw [← hs]; exact nf_neg fs)
  have hnx := hX.num
  have hny := hY.num
  simp only at hnx hny
  have sx : n0 = decide (X < 0) := by rw [← hnx]; exact (sg_neg n0 (by intro h; rw [h, sg_zero] at hnx; exact hk hnx.symm)).symm
  have sy : n1 = decide (Y < 0) := by rw [← hny]; exact (sg_neg n1 (by intro h; rw [h, sg_zero] at hny; exact hk2 hny.symm)).symm
  have ee : n0 = n1 := by simpa using hk3
  rw [sx, sy] at ee
  have ee2 : (X < 0) ↔ (Y < 0) := by simpa using ee
  have VE : Hid ((X + Y).natAbs = X.natAbs + Y.natAbs) := Lib.hid (by by_cases h : X < 0 <;> omega)
  have hsn : (s.neg == n0) = true := by rw [SN.out, sx]; simp; by_cases h : X < 0 <;> omega
  have EX : Hid ((bare (dgs L0 ++ zs (e0 + 60).toNat)).isEmpty = false) := Lib.hid (by rw [bare_dig IX.out, vX]; exact ne_empty (by rw [Ne, dig_eq_nil]; omega))
  have EY : Hid ((bare (dgs L1 ++ zs (e1 + 60).toNat)).isEmpty = false) := Lib.hid (by rw [bare_dig IY.out, vY]; exact ne_empty (by rw [Ne, dig_eq_nil]; omega))
  clear sx sy ee ee2 hk hk2
  have HT := Lib.hid htab
  have HIN0 := Lib.hid hin0
  have HIN1 := Lib.hid hin1
  have hc0 := hin0.2.1
  have hm0 := hin0.2.2.1
  have hc1 := hin1.2.1
  have hm1 := hin1.2.2.1
  clear htab hin0 hin1 hX hY bX bY vX vY p200 fx fy fs fd fd2 hs hf hf2 hdx ms hnx hny
  go_enter Tryd.func7, Tryd.ntmps7
  go_wp2_with fail
  with_reducible refine (headD _ (HT.out.below (((Below.refl w.heap.size w).alloc (by simp <;> omega) _).alloc (by simp <;> omega) _))).mono ?_
  rintro x w1 ⟨rfl, hb⟩
  have Cr := Lib.hid ((((Box.new w #[.bool n0, .slice a0 len0 cap0, .int .i64 e0] 24).at (b' := w.heap.size) (by simp)).alloc (.cells #[.bool n1, .slice a1 len1 cap1, .int .i64 e1] 24)).below hb (by simp <;> omega))
  have Cq := Lib.hid (((Box.new (w.alloc (.cells #[.bool n0, .slice a0 len0 cap0, .int .i64 e0] 24)) #[.bool n1, .slice a1 len1 cap1, .int .i64 e1] 24).at (b' := w.heap.size + 1) (by simp)).below hb (by simp <;> omega))
  have b1 := Lib.hid ((((Below.refl w.heap.size w).alloc (by simp <;> omega) _).alloc (by simp <;> omega) _).trans (hb.mono (B' := w.heap.size) (by simp <;> omega)))
  clear hb
  have Br : Hid (Box w1 (w.heap.size) #[.bool n0, .slice a0 len0 cap0, .int .i64 e0]) := Cr
  have Bq : Hid (Box w1 (w.heap.size + 1) #[.bool n1, .slice a1 len1 cap1, .int .i64 e1]) := Cq
  clear Cr Cq
  obtain ⟨r0, r1, r2, r3, r4, r5, r6⟩ := Br.out.three
  obtain ⟨q0, q1, q2, q3, q4, q5, q6⟩ := Bq.out.three
  go_wp2_with fail
  with_reducible refine (few_yes n0 a0 len0 cap0 e0 60 _ hc0 hm0 (by decide) (by decide) (by omega) lo0 hi0).mono ?_
  rintro x w2 ⟨rfl, hb⟩
  have Cr := Lib.hid (Br.out.below hb (by have := Br.out.lt; simp <;> omega))
  have Cq := Lib.hid (Bq.out.below hb (by have := Bq.out.lt; simp <;> omega))
  have b2 := Lib.hid (b1.out.trans (hb.mono (B' := w.heap.size) (by have := b1.out.size; simp <;> omega)))
  clear r0 r1 r2 r3 r4 r5 r6 q0 q1 q2 q3 q4 q5 q6
  clear hb Br Bq
  have Br : Hid (Box w2 (w.heap.size) #[.bool n0, .slice a0 len0 cap0, .int .i64 e0]) := Cr
  have Bq : Hid (Box w2 (w.heap.size + 1) #[.bool n1, .slice a1 len1 cap1, .int .i64 e1]) := Cq
  clear Cr Cq
  obtain ⟨r0, r1, r2, r3, r4, r5, r6⟩ := Br.out.three
  obtain ⟨q0, q1, q2, q3, q4, q5, q6⟩ := Bq.out.three
  go_wp2_with fail
  with_reducible refine (few_yes n1 a1 len1 cap1 e1 60 _ hc1 hm1 (by decide) (by decide) (by omega) lo1 hi1).mono ?_
  rintro x w3 ⟨rfl, hb⟩
  have Cr := Lib.hid (Br.out.below hb (by have := Br.out.lt; simp <;> omega))
  have Cq := Lib.hid (Bq.out.below hb (by have := Bq.out.lt; simp <;> omega))
  have b3 := Lib.hid (b2.out.trans (hb.mono (B' := w.heap.size) (by have := b2.out.size; simp <;> omega)))
  clear r0 r1 r2 r3 r4 r5 r6 q0 q1 q2 q3 q4 q5 q6
  clear hb Br Bq
  have Br : Hid (Box w3 (w.heap.size) #[.bool n0, .slice a0 len0 cap0, .int .i64 e0]) := Cr
  have Bq : Hid (Box w3 (w.heap.size + 1) #[.bool n1, .slice a1 len1 cap1, .int .i64 e1]) := Cq
  clear Cr Cq
  obtain ⟨r0, r1, r2, r3, r4, r5, r6⟩ := Br.out.three
  obtain ⟨q0, q1, q2, q3, q4, q5, q6⟩ := Bq.out.three
  go_wp2_with fail
  with_reducible refine (make_as n0 a0 len0 cap0 L0 e0 _ (HIN0.out.below b3.out) (by omega)).mono ?_
  rintro x w4 ⟨rfl, hb⟩
  have Cq := Lib.hid (Bq.out.below hb (by have := Bq.out.lt; simp <;> omega))
  have b4 := Lib.hid (b3.out.trans (hb.mono (B' := w.heap.size) (by have := b3.out.size; simp <;> omega)))
  clear r0 r1 r2 r3 r4 r5 r6 q0 q1 q2 q3 q4 q5 q6
  clear hb Br Bq
  have Bq : Hid (Box w4 (w.heap.size + 1) #[.bool n1, .slice a1 len1 cap1, .int .i64 e1]) := Cq
  clear Cq
  obtain ⟨q0, q1, q2, q3, q4, q5, q6⟩ := Bq.out.three
  go_wp2_with fail
  with_reducible refine (make_as n1 a1 len1 cap1 L1 e1 _ (HIN1.out.below (b4.out.alloc (by have := b4.out.size; simp <;> omega) _)) (by omega)).mono ?_
  rintro x w5 ⟨rfl, hb⟩
  have Cx := Lib.hid (((Box.new w4 #[.bool n0, S (dgs L0), .int .i64 e0] 28).at (b' := w4.heap.size) (by simp)).below hb (by simp <;> omega))
  have b5 := Lib.hid ((b4.out.alloc (by have := b4.out.size; simp <;> omega) _).trans (hb.mono (B' := w.heap.size) (by have := b4.out.size; simp <;> omega)))
  clear q0 q1 q2 q3 q4 q5 q6
  clear hb Bq
  have Bx : Hid (Box w5 (w4.heap.size) #[.bool n0, S (dgs L0), .int .i64 e0]) := Cx
  clear Cx
  obtain ⟨x0, x1, x2, x3, x4, x5, x6⟩ := Bx.out.three
  go_wp2_with fail
  with_reducible refine (CXY.out _).mono ?_
  rintro x w6 ⟨rfl, hb⟩
  have Cx := Lib.hid ((Bx.out.alloc (.cells #[.bool n1, S (dgs L1), .int .i64 e1] 28)).below hb (by have := Bx.out.lt; simp <;> omega))
  have Cy := Lib.hid (((Box.new w5 #[.bool n1, S (dgs L1), .int .i64 e1] 28).at (b' := w5.heap.size) (by simp)).below hb (by simp <;> omega))
  have b6 := Lib.hid ((b5.out.alloc (by have := b5.out.size; simp <;> omega) _).trans (hb.mono (B' := w.heap.size) (by have := b5.out.size; simp <;> omega)))
  clear x0 x1 x2 x3 x4 x5 x6
  clear hb Bx
  have Bx : Hid (Box w6 (w4.heap.size) #[.bool n0, S (dgs L0), .int .i64 e0]) := Cx
  have By : Hid (Box w6 (w5.heap.size) #[.bool n1, S (dgs L1), .int .i64 e1]) := Cy
  clear Cx Cy
  obtain ⟨x0, x1, x2, x3, x4, x5, x6⟩ := Bx.out.three
  obtain ⟨y0, y1, y2, y3, y4, y5, y6⟩ := By.out.three
  go_wp2_with fail
  have Q0 : Hid (Held3 w (w4.heap.size) (.bool n0) (S (dgs L0)) (.int .i64 e0) (w5.heap.size) (.bool n1) (S (dgs L1)) (.int .i64 e1) (w6.heap.size) (.bool s.neg) (S s.l) (.int .i64 s.e) (w6.alloc (.cells #[.bool s.neg, S s.l, .int .i64 s.e] 28))) := Lib.hid ⟨(Bx.out.alloc (.cells #[.bool s.neg, S s.l, .int .i64 s.e] 28)), (By.out.alloc (.cells #[.bool s.neg, S s.l, .int .i64 s.e] 28)), ((Box.new w6 #[.bool s.neg, S s.l, .int .i64 s.e] 28).at (b' := w6.heap.size) (by simp)), (b6.out.alloc (by have := b6.out.size; simp <;> omega) _)⟩
  first | (go_region_held3 (fun w' => w'.cell? ⟨w4.heap.size, 0, none⟩ = some (.bool n0) ∧ w'.cell? ⟨w4.heap.size, 1, none⟩ = some (S (dgs L0)) ∧ w'.cell? ⟨w4.heap.size, 2, none⟩ = some (.int .i64 e0) ∧ w'.cell? ⟨w5.heap.size, 0, none⟩ = some (.bool n1) ∧ w'.cell? ⟨w5.heap.size, 1, none⟩ = some (S (dgs L1)) ∧ w'.cell? ⟨w5.heap.size, 2, none⟩ = some (.int .i64 e1) ∧ w'.cell? ⟨w6.heap.size, 0, none⟩ = some (.bool s.neg) ∧ w'.cell? ⟨w6.heap.size, 1, none⟩ = some (S s.l) ∧ w'.cell? ⟨w6.heap.size, 2, none⟩ = some (.int .i64 s.e) ∧ Held3 w (w4.heap.size) (.bool n0) (S (dgs L0)) (.int .i64 e0) (w5.heap.size) (.bool n1) (S (dgs L1)) (.int .i64 e1) (w6.heap.size) (.bool s.neg) (S s.l) (.int .i64 s.e) w')
    (first | exact Held3.all (Held3.drew Q0.out) | exact Held3.keep (by assumption) hb | assumption)
    (first | (go_at_call 15; (with_reducible refine (CNS.out _).mono ?_); rintro z wA ⟨rfl, hb⟩) | (go_at_call 30; (with_reducible refine (CYX.out _).mono ?_); rintro z wB ⟨rfl, hb⟩) | (go_at_call 30; (with_reducible refine (CX0.out _).mono ?_); rintro z wC ⟨rfl, hb⟩) | (go_at_call 31; (with_reducible refine (CSY.out _).mono ?_); rintro z wD ⟨rfl, hb⟩) | (go_at_call 31; (with_reducible refine (CXD.out _).mono ?_); rintro z wE ⟨rfl, hb⟩) | (go_at_call 31; (with_reducible refine (CYD.out _).mono ?_); rintro z wF ⟨rfl, hb⟩) | (go_at_call 14; (with_reducible refine (CNX.out _).mono ?_); rintro z wG ⟨rfl, hb⟩) | (go_at_call 32; (with_reducible refine (CMF.out _).mono ?_); rintro z wH ⟨rfl, hb⟩))) | fail
  have HH := (‹wG.cell? ⟨w4.heap.size, 0, none⟩ = some (.bool n0) ∧ _›)
  obtain ⟨_, _, _, _, _, _, _, _, _, HH⟩ := HH
  clear x0 x1 x2 x3 x4 x5 x6 y0 y1 y2 y3 y4 y5 y6
  clear Q0 Bx By
  have Bx : Hid (Box wG (w4.heap.size) #[.bool n0, S (dgs L0), .int .i64 e0]) := Lib.hid HH.1
  have By : Hid (Box wG (w5.heap.size) #[.bool n1, S (dgs L1), .int .i64 e1]) := Lib.hid HH.2.1
  have Bs : Hid (Box wG (w6.heap.size) #[.bool s.neg, S s.l, .int .i64 s.e]) := Lib.hid HH.2.2.1
  have b7 : Hid (Below w.heap.size w wG) := Lib.hid (HH.2.2.2)
  clear HH
  obtain ⟨x0, x1, x2, x3, x4, x5, x6⟩ := Bx.out.three
  obtain ⟨y0, y1, y2, y3, y4, y5, y6⟩ := By.out.three
  obtain ⟨s0, s1, s2, s3, s4, s5, s6⟩ := Bs.out.three
  go_wp2_with fail
  with_reducible refine (CPX.out _).mono ?_
  rintro x w8 ⟨rfl, hb⟩
  have Cx := Lib.hid (Bx.out.below hb (by have := Bx.out.lt; simp <;> omega))
  have Cy := Lib.hid (By.out.below hb (by have := By.out.lt; simp <;> omega))
  have Cs := Lib.hid (Bs.out.below hb (by have := Bs.out.lt; simp <;> omega))
  have b8 := Lib.hid (b7.out.trans (hb.mono (B' := w.heap.size) (by have := b7.out.size; simp <;> omega)))
  clear x0 x1 x2 x3 x4 x5 x6 y0 y1 y2 y3 y4 y5 y6 s0 s1 s2 s3 s4 s5 s6
  clear hb Bx By Bs
  have Bx : Hid (Box w8 (w4.heap.size) #[.bool n0, S (dgs L0), .int .i64 e0]) := Cx
  have By : Hid (Box w8 (w5.heap.size) #[.bool n1, S (dgs L1), .int .i64 e1]) := Cy
  have Bs : Hid (Box w8 (w6.heap.size) #[.bool s.neg, S s.l, .int .i64 s.e]) := Cs
  clear Cx Cy Cs
  obtain ⟨x0, x1, x2, x3, x4, x5, x6⟩ := Bx.out.three
  obtain ⟨y0, y1, y2, y3, y4, y5, y6⟩ := By.out.three
  obtain ⟨s0, s1, s2, s3, s4, s5, s6⟩ := Bs.out.three
  go_wp2_with fail
  with_reducible refine (CPY.out _).mono ?_
  rintro x w9 ⟨rfl, hb⟩
  have Cx := Lib.hid (Bx.out.below hb (by have := Bx.out.lt; simp <;> omega))
  have Cy := Lib.hid (By.out.below hb (by have := By.out.lt; simp <;> omega))
  have Cs := Lib.hid (Bs.out.below hb (by have := Bs.out.lt; simp <;> omega))
  have b9 := Lib.hid (b8.out.trans (hb.mono (B' := w.heap.size) (by have := b8.out.size; simp <;> omega)))
  clear x0 x1 x2 x3 x4 x5 x6 y0 y1 y2 y3 y4 y5 y6 s0 s1 s2 s3 s4 s5 s6
  clear hb Bx By Bs
  have Bx : Hid (Box w9 (w4.heap.size) #[.bool n0, S (dgs L0), .int .i64 e0]) := Cx
  have By : Hid (Box w9 (w5.heap.size) #[.bool n1, S (dgs L1), .int .i64 e1]) := Cy
  have Bs : Hid (Box w9 (w6.heap.size) #[.bool s.neg, S s.l, .int .i64 s.e]) := Cs
  clear Cx Cy Cs
  obtain ⟨x0, x1, x2, x3, x4, x5, x6⟩ := Bx.out.three
  obtain ⟨y0, y1, y2, y3, y4, y5, y6⟩ := By.out.three
  obtain ⟨s0, s1, s2, s3, s4, s5, s6⟩ := Bs.out.three
  go_wp2_with fail
  with_reducible refine (trim_bare ⟨(dgs L0 ++ zs (e0 + 60).toNat).toArray⟩ _ (by rw [arr_size]; unfold maxLen; omega)).mono ?_
  rintro x wz ⟨rfl, rfl⟩
  rw [arr_list]
  have hE := EX.out
  generalize bare (dgs L0 ++ zs (e0 + 60).toNat) = bEX at *
  have hE1 := hE
  clear hE
  go_wp2_with fail
  with_reducible refine (trim_bare ⟨(dgs L1 ++ zs (e1 + 60).toNat).toArray⟩ _ (by rw [arr_size]; unfold maxLen; omega)).mono ?_
  rintro x wz ⟨rfl, rfl⟩
  rw [arr_list]
  have hE := EY.out
  generalize bare (dgs L1 ++ zs (e1 + 60).toNat) = bEY at *
  go_wp2_with fail
  with_reducible refine (CPS.out _).mono ?_
  rintro x w10 ⟨rfl, hb⟩
  have Cx := Lib.hid (Bx.out.below hb (by have := Bx.out.lt; simp <;> omega))
  have Cy := Lib.hid (By.out.below hb (by have := By.out.lt; simp <;> omega))
  have Cs := Lib.hid (Bs.out.below hb (by have := Bs.out.lt; simp <;> omega))
  have b10 := Lib.hid (b9.out.trans (hb.mono (B' := w.heap.size) (by have := b9.out.size; simp <;> omega)))
  clear x0 x1 x2 x3 x4 x5 x6 y0 y1 y2 y3 y4 y5 y6 s0 s1 s2 s3 s4 s5 s6
  clear hb Bx By Bs
  have Bx : Hid (Box w10 (w4.heap.size) #[.bool n0, S (dgs L0), .int .i64 e0]) := Cx
  have By : Hid (Box w10 (w5.heap.size) #[.bool n1, S (dgs L1), .int .i64 e1]) := Cy
  have Bs : Hid (Box w10 (w6.heap.size) #[.bool s.neg, S s.l, .int .i64 s.e]) := Cs
  clear Cx Cy Cs
  obtain ⟨x0, x1, x2, x3, x4, x5, x6⟩ := Bx.out.three
  obtain ⟨y0, y1, y2, y3, y4, y5, y6⟩ := By.out.three
  obtain ⟨s0, s1, s2, s3, s4, s5, s6⟩ := Bs.out.three
  go_wp2_with fail
  with_reducible refine (addS (dgs L0 ++ zs (e0 + 60).toNat) (dgs L1 ++ zs (e1 + 60).toNat) _ (by omega) (by omega) IX.out IY.out).mono ?_
  rintro x w11 ⟨rfl, hb⟩
  have Cx := Lib.hid (Bx.out.below hb (by have := Bx.out.lt; simp <;> omega))
  have Cy := Lib.hid (By.out.below hb (by have := By.out.lt; simp <;> omega))
  have Cs := Lib.hid (Bs.out.below hb (by have := Bs.out.lt; simp <;> omega))
  have b11 := Lib.hid (b10.out.trans (hb.mono (B' := w.heap.size) (by have := b10.out.size; simp <;> omega)))
  clear x0 x1 x2 x3 x4 x5 x6 y0 y1 y2 y3 y4 y5 y6 s0 s1 s2 s3 s4 s5 s6
  clear hb Bx By Bs
  have Bx : Hid (Box w11 (w4.heap.size) #[.bool n0, S (dgs L0), .int .i64 e0]) := Cx
  have By : Hid (Box w11 (w5.heap.size) #[.bool n1, S (dgs L1), .int .i64 e1]) := Cy
  have Bs : Hid (Box w11 (w6.heap.size) #[.bool s.neg, S s.l, .int .i64 s.e]) := Cs
  clear Cx Cy Cs
  obtain ⟨x0, x1, x2, x3, x4, x5, x6⟩ := Bx.out.three
  obtain ⟨y0, y1, y2, y3, y4, y5, y6⟩ := By.out.three
  obtain ⟨s0, s1, s2, s3, s4, s5, s6⟩ := Bs.out.three
  rw [VX.out, VY.out]
  go_wp2_with fail
  with_reducible refine (cmpS (s.l ++ zs (s.e + 60).toNat) (dig (X.natAbs + Y.natAbs)) _ (by omega) GD.out IS.out (isDig_dig _)).mono ?_
  rintro x w12 ⟨rfl, hb⟩
  have Cx := Lib.hid (Bx.out.below hb (by have := Bx.out.lt; simp <;> omega))
  have Cy := Lib.hid (By.out.below hb (by have := By.out.lt; simp <;> omega))
  have Cs := Lib.hid (Bs.out.below hb (by have := Bs.out.lt; simp <;> omega))
  have b12 := Lib.hid (b11.out.trans (hb.mono (B' := w.heap.size) (by have := b11.out.size; simp <;> omega)))
  clear x0 x1 x2 x3 x4 x5 x6 y0 y1 y2 y3 y4 y5 y6 s0 s1 s2 s3 s4 s5 s6
  clear hb Bx By Bs
  have Bx : Hid (Box w12 (w4.heap.size) #[.bool n0, S (dgs L0), .int .i64 e0]) := Cx
  have By : Hid (Box w12 (w5.heap.size) #[.bool n1, S (dgs L1), .int .i64 e1]) := Cy
  have Bs : Hid (Box w12 (w6.heap.size) #[.bool s.neg, S s.l, .int .i64 s.e]) := Cs
  clear Cx Cy Cs
  obtain ⟨x0, x1, x2, x3, x4, x5, x6⟩ := Bx.out.three
  obtain ⟨y0, y1, y2, y3, y4, y5, y6⟩ := By.out.three
  obtain ⟨s0, s1, s2, s3, s4, s5, s6⟩ := Bs.out.three
  rw [VS.out, val_dig, VE.out, compareInt_self]
  go_wp2
  go_ret
  exact ⟨rfl, b12.out⟩

set_option maxRecDepth 100000 in
set_option maxHeartbeats 6400000 in
theorem adds_eq (n0 : Bool) (a0 : Option Addr) (len0 cap0 : Nat) (L0 : List UInt8) (e0 : Int) (n1 : Bool) (a1 : Option Addr) (len1 cap1 : Nat) (L1 : List UInt8) (e1 : Int) (w : World) (hin0 : InB w a0 len0 cap0 L0) (hin1 : InB w a1 len1 cap1 L1) (htab : Tab w) (g0 : len0 ≤ 60) (lo0 : -60 ≤ e0) (hi0 : e0 ≤ 60) (g1 : len1 ≤ 60) (lo1 : -60 ≤ e1) (hi1 : e1 ≤ 60) (X Y : Int) (hX : Dv 60 X ⟨n0, dgs L0, e0⟩) (hY : Dv 60 Y ⟨n1, dgs L1, e1⟩) (bX : X.natAbs < 10 ^ 200) (bY : Y.natAbs < 10 ^ 200) (vX : val (dgs L0 ++ zs (e0 + 60).toNat) = X.natAbs) (vY : val (dgs L1 ++ zs (e1 + 60).toNat) = Y.natAbs) (hk : X ≠ 0) (hk2 : Y ≠ 0) (hk3 : (n0 == n1) = false) (hk4 : X.natAbs = Y.natAbs) :
    Calls Tryd.prog 7 #[RV n0 a0 len0 cap0 e0, RV n1 a1 len1 cap1 e1] w fun x w' => x = .returned (.bool true) ∧ Below w.heap.size w w' := by
  have l0 : (dgs L0).length ≤ 60 := by rw [dgs_length, hin0.1]; exact g0
  have l1 : (dgs L1).length ≤ 60 := by rw [dgs_length, hin1.1]; exact g1
  have p200 : 10 ^ 200 + 10 ^ 200 < 10 ^ 240 := by decide
  have fx : Fit 60 X := fit60 (by omega)
  have fy : Fit 60 Y := fit60 (by omega)
  have fs : Fit 60 (X + Y) := fit60 (by omega)
  have fd : Fit 60 (X - Y) := fit60 (by omega)
  have fd2 : Fit 60 (Y - X) := fit60 (by omega)
  obtain ⟨s, hs⟩ : ∃ s, nf 60 (X + Y) = s := ⟨_, rfl⟩
  obtain ⟨f, hf⟩ : ∃ f, nf 60 (X - Y) = f := ⟨_, rfl⟩
  obtain ⟨f2, hf2⟩ : ∃ f2, nf 60 (Y - X) = f2 := ⟨_, rfl⟩
  obtain ⟨dx, hdx⟩ : ∃ dx, nf 60 X = dx := ⟨_, rfl⟩
  have ms : made s.neg s.l s.e = nf 60 (X + Y) := by rw [← hs]; exact nf_made fs
  have sl : s.l.length ≤ 240 := by rw [← hs]; exact nf_length (by omega)
  have fl2 : f2.l.length ≤ 240 := by rw [← hf2]; exact nf_length (by omega)
  have se1 : -60 ≤ s.e := by rw [← hs]; exact (nf_bounds fs).1
  have se2 : s.e ≤ 30000 := by rw [← hs]; exact (nf_bounds fs).2
  have CXY : Hid (∀ w : World, Calls Tryd.prog 30 #[.agg #[.bool n0, S (dgs L0), .int .i64 e0], .agg #[.bool n1, S (dgs L1), .int .i64 e1]] w fun z w' => z = .returned (V s) ∧ Below w.heap.size w w') := Lib.hid fun w => by rw [← hs]; exact addD n0 ⟨(dgs L0).toArray⟩ e0 n1 ⟨(dgs L1).toArray⟩ e1 w (by rw [arr_size]; omega) (by rw [arr_size]; omega) 60 X Y fx fy fs (by rw [arr_list]; exact hX.made fx) (by rw [arr_list]; exact hY.made fy)
  have CYX : Hid (∀ w : World, Calls Tryd.prog 30 #[.agg #[.bool n1, S (dgs L1), .int .i64 e1], .agg #[.bool n0, S (dgs L0), .int .i64 e0]] w fun z w' => z = .returned (V s) ∧ Below w.heap.size w w') := Lib.hid fun w => by rw [← hs, Int.add_comm X Y]; exact addD n1 ⟨(dgs L1).toArray⟩ e1 n0 ⟨(dgs L0).toArray⟩ e0 w (by rw [arr_size]; omega) (by rw [arr_size]; omega) 60 Y X fy fx (by rw [Int.add_comm]; exact fs) (by rw [arr_list]; exact hY.made fy) (by rw [arr_list]; exact hX.made fx)
  have CSY : Hid (∀ w : World, Calls Tryd.prog 31 #[V s, .agg #[.bool n1, S (dgs L1), .int .i64 e1]] w fun z w' => z = .returned (V dx) ∧ Below w.heap.size w w') := Lib.hid fun w => by have h := subD s.neg ⟨s.l.toArray⟩ s.e n1 ⟨(dgs L1).toArray⟩ e1 w (by rw [arr_size]; omega) (by rw [arr_size]; omega) 60 (X + Y) Y fs fy (by rw [Int.add_sub_cancel]; exact fx) (by rw [arr_list]; exact ms) (by rw [arr_list]; exact hY); rw [Int.add_sub_cancel, hdx] at h; exact h
  have CXD : Hid (∀ w : World, Calls Tryd.prog 31 #[.agg #[.bool n0, S (dgs L0), .int .i64 e0], .agg #[.bool n1, S (dgs L1), .int .i64 e1]] w fun z w' => z = .returned (V f) ∧ Below w.heap.size w w') := Lib.hid fun w => by rw [← hf]; exact subD n0 ⟨(dgs L0).toArray⟩ e0 n1 ⟨(dgs L1).toArray⟩ e1 w (by rw [arr_size]; omega) (by rw [arr_size]; omega) 60 X Y fx fy fd (by rw [arr_list]; exact hX.made fx) (by rw [arr_list]; exact hY)
  have CYD : Hid (∀ w : World, Calls Tryd.prog 31 #[.agg #[.bool n1, S (dgs L1), .int .i64 e1], .agg #[.bool n0, S (dgs L0), .int .i64 e0]] w fun z w' => z = .returned (V f2) ∧ Below w.heap.size w w') := Lib.hid fun w => by rw [← hf2]; exact subD n1 ⟨(dgs L1).toArray⟩ e1 n0 ⟨(dgs L0).toArray⟩ e0 w (by rw [arr_size]; omega) (by rw [arr_size]; omega) 60 Y X fy fx fd2 (by rw [arr_list]; exact hY.made fy) (by rw [arr_list]; exact hX)
  have CMF : Hid (∀ w : World, Calls Tryd.prog 32 #[V f2] w fun z w' => z = .returned (V f) ∧ Below w.heap.size w w') := Lib.hid fun w => minus_as f2.neg ⟨f2.l.toArray⟩ f2.e w (by rw [arr_size]; omega) f (by rw [arr_list, ← hf2, nf_minus fd2, show -(Y - X) = X - Y by omega, hf])
  have CX0 : Hid (∀ w : World, Calls Tryd.prog 30 #[.agg #[.bool n0, S (dgs L0), .int .i64 e0], .agg #[.bool false, .string ⟨#[]⟩, .int .i64 0]] w fun z w' => z = .returned (V dx) ∧ Below w.heap.size w w') := Lib.hid fun w => by have h := addD n0 ⟨(dgs L0).toArray⟩ e0 false ⟨#[]⟩ 0 w (by rw [arr_size]; omega) (by decide) 60 X 0 fx (fit60 (by decide)) (by rw [Int.add_zero]; exact fx) (by rw [arr_list]; exact hX.made fx) (nf_zero 60).symm; rw [Int.add_zero, hdx] at h; exact h
  have CNX : Hid (∀ w : World, Calls Tryd.prog 14 #[.agg #[.bool n0, S (dgs L0), .int .i64 e0]] w fun z w' => z = .returned (V dx) ∧ Below w.heap.size w w') := Lib.hid fun w => norm_as n0 ⟨(dgs L0).toArray⟩ e0 w (by rw [arr_size]; omega) dx (by rw [arr_list, hX.made fx, hdx])
  have CNS : Hid (∀ w : World, Calls Tryd.prog 15 #[V s] w fun z w' => z = .returned (.bool true) ∧ Below w.heap.size w w') := Lib.hid fun w => normal_as s w (by omega) (by rw [← hs]; exact made_nrm _ _ _)
  have CPX : Hid (∀ w : World, Calls Tryd.prog 21 #[.agg #[.bool n0, S (dgs L0), .int .i64 e0], .int .i64 60] w fun z w' => z = .returned (S (dgs L0 ++ zs (e0 + 60).toNat)) ∧ Below w.heap.size w w') := Lib.hid fun w => places_any n0 ⟨(dgs L0).toArray⟩ e0 60 w (by rw [arr_size]; omega) (by decide) (by omega) (by omega)
  have CPY : Hid (∀ w : World, Calls Tryd.prog 21 #[.agg #[.bool n1, S (dgs L1), .int .i64 e1], .int .i64 60] w fun z w' => z = .returned (S (dgs L1 ++ zs (e1 + 60).toNat)) ∧ Below w.heap.size w w') := Lib.hid fun w => places_any n1 ⟨(dgs L1).toArray⟩ e1 60 w (by rw [arr_size]; omega) (by decide) (by omega) (by omega)
  have CPS : Hid (∀ w : World, Calls Tryd.prog 21 #[V s, .int .i64 60] w fun z w' => z = .returned (S (s.l ++ zs (s.e + 60).toNat)) ∧ Below w.heap.size w w') := Lib.hid fun w => places_any s.neg ⟨s.l.toArray⟩ s.e 60 w (by rw [arr_size]; omega) (by decide) (by omega) (by omega)
  have IX : Hid (isDig (dgs L0 ++ zs (e0 + 60).toNat) = true) := Lib.hid (by rw [isDig_append, isDig_dgs, isDig_zs]; rfl)
  have IY : Hid (isDig (dgs L1 ++ zs (e1 + 60).toNat) = true) := Lib.hid (by rw [isDig_append, isDig_dgs, isDig_zs]; rfl)
  have IS : Hid (isDig (s.l ++ zs (s.e + 60).toNat) = true) := Lib.hid (by rw [isDig_append, isDig_zs, ← hs, nf_isDig]; rfl)
  have kx : (dgs L0 ++ zs (e0 + 60).toNat).length ≤ 200 := by rw [List.length_append, zs_length]; omega
  have ky : (dgs L1 ++ zs (e1 + 60).toNat).length ≤ 200 := by rw [List.length_append, zs_length]; omega
  have ks : (s.l ++ zs (s.e + 60).toNat).length ≤ 40000 := by rw [List.length_append, zs_length]; omega
  have VS : Hid (val (s.l ++ zs (s.e + 60).toNat) = (X + Y).natAbs) := Lib.hid (by rw [← hs]; exact nf_places fs)
  have VX := Lib.hid vX
  have VY := Lib.hid vY
  have SN : Hid (s.neg = decide (X + Y < 0)) := Lib.hid (by rw [← hs]; exact nf_neg fs)
  have hnx := hX.num
  have hny := hY.num
  simp only at hnx hny
  have sx : n0 = decide (X < 0) := by rw [← hnx]; exact (sg_neg n0 (by intro h; rw [h, sg_zero] at hnx; exact hk hnx.symm)).symm
  have sy : n1 = decide (Y < 0) := by rw [← hny]; exact (sg_neg n1 (by intro h; rw [h, sg_zero] at hny; exact hk2 hny.symm)).symm
  have ee : ¬ n0 = n1 := by simpa using hk3
  rw [sx, sy] at ee
  have ee2 : ¬ ((X < 0) ↔ (Y < 0)) := by simpa using ee
  have SZ : Hid (s = ⟨false, [], 0⟩) := Lib.hid (by rw [← hs, show X + Y = 0 by by_cases h : X < 0 <;> omega]; exact nf_zero 60)
  have EX : Hid ((bare (dgs L0 ++ zs (e0 + 60).toNat)).isEmpty = false) := Lib.hid (by rw [bare_dig IX.out, vX]; exact ne_empty (by rw [Ne, dig_eq_nil]; omega))
  have EY : Hid ((bare (dgs L1 ++ zs (e1 + 60).toNat)).isEmpty = false) := Lib.hid (by rw [bare_dig IY.out, vY]; exact ne_empty (by rw [Ne, dig_eq_nil]; omega))
  have HK4 := Lib.hid hk4
  clear sx sy ee ee2 hk hk2 hk4
  have HT := Lib.hid htab
  have HIN0 := Lib.hid hin0
  have HIN1 := Lib.hid hin1
  have hc0 := hin0.2.1
  have hm0 := hin0.2.2.1
  have hc1 := hin1.2.1
  have hm1 := hin1.2.2.1
  clear htab hin0 hin1 hX hY bX bY vX vY p200 fx fy fs fd fd2 hs hf hf2 hdx ms hnx hny
  go_enter Tryd.func7, Tryd.ntmps7
  go_wp2_with fail
  with_reducible refine (headD _ (HT.out.below (((Below.refl w.heap.size w).alloc (by simp <;> omega) _).alloc (by simp <;> omega) _))).mono ?_
  rintro x w1 ⟨rfl, hb⟩
  have Cr := Lib.hid ((((Box.new w #[.bool n0, .slice a0 len0 cap0, .int .i64 e0] 24).at (b' := w.heap.size) (by simp)).alloc (.cells #[.bool n1, .slice a1 len1 cap1, .int .i64 e1] 24)).below hb (by simp <;> omega))
  have Cq := Lib.hid (((Box.new (w.alloc (.cells #[.bool n0, .slice a0 len0 cap0, .int .i64 e0] 24)) #[.bool n1, .slice a1 len1 cap1, .int .i64 e1] 24).at (b' := w.heap.size + 1) (by simp)).below hb (by simp <;> omega))
  have b1 := Lib.hid ((((Below.refl w.heap.size w).alloc (by simp <;> omega) _).alloc (by simp <;> omega) _).trans (hb.mono (B' := w.heap.size) (by simp <;> omega)))
  clear hb
  have Br : Hid (Box w1 (w.heap.size) #[.bool n0, .slice a0 len0 cap0, .int .i64 e0]) := Cr
  have Bq : Hid (Box w1 (w.heap.size + 1) #[.bool n1, .slice a1 len1 cap1, .int .i64 e1]) := Cq
  clear Cr Cq
  obtain ⟨r0, r1, r2, r3, r4, r5, r6⟩ := Br.out.three
  obtain ⟨q0, q1, q2, q3, q4, q5, q6⟩ := Bq.out.three
  go_wp2_with fail
  with_reducible refine (few_yes n0 a0 len0 cap0 e0 60 _ hc0 hm0 (by decide) (by decide) (by omega) lo0 hi0).mono ?_
  rintro x w2 ⟨rfl, hb⟩
  have Cr := Lib.hid (Br.out.below hb (by have := Br.out.lt; simp <;> omega))
  have Cq := Lib.hid (Bq.out.below hb (by have := Bq.out.lt; simp <;> omega))
  have b2 := Lib.hid (b1.out.trans (hb.mono (B' := w.heap.size) (by have := b1.out.size; simp <;> omega)))
  clear r0 r1 r2 r3 r4 r5 r6 q0 q1 q2 q3 q4 q5 q6
  clear hb Br Bq
  have Br : Hid (Box w2 (w.heap.size) #[.bool n0, .slice a0 len0 cap0, .int .i64 e0]) := Cr
  have Bq : Hid (Box w2 (w.heap.size + 1) #[.bool n1, .slice a1 len1 cap1, .int .i64 e1]) := Cq
  clear Cr Cq
  obtain ⟨r0, r1, r2, r3, r4, r5, r6⟩ := Br.out.three
  obtain ⟨q0, q1, q2, q3, q4, q5, q6⟩ := Bq.out.three
  go_wp2_with fail
  with_reducible refine (few_yes n1 a1 len1 cap1 e1 60 _ hc1 hm1 (by decide) (by decide) (by omega) lo1 hi1).mono ?_
  rintro x w3 ⟨rfl, hb⟩
  have Cr := Lib.hid (Br.out.below hb (by have := Br.out.lt; simp <;> omega))
  have Cq := Lib.hid (Bq.out.below hb (by have := Bq.out.lt; simp <;> omega))
  have b3 := Lib.hid (b2.out.trans (hb.mono (B' := w.heap.size) (by have := b2.out.size; simp <;> omega)))
  clear r0 r1 r2 r3 r4 r5 r6 q0 q1 q2 q3 q4 q5 q6
  clear hb Br Bq
  have Br : Hid (Box w3 (w.heap.size) #[.bool n0, .slice a0 len0 cap0, .int .i64 e0]) := Cr
  have Bq : Hid (Box w3 (w.heap.size + 1) #[.bool n1, .slice a1 len1 cap1, .int .i64 e1]) := Cq
  clear Cr Cq
  obtain ⟨r0, r1, r2, r3, r4, r5, r6⟩ := Br.out.three
  obtain ⟨q0, q1, q2, q3, q4, q5, q6⟩ := Bq.out.three
  go_wp2_with fail
  with_reducible refine (make_as n0 a0 len0 cap0 L0 e0 _ (HIN0.out.below b3.out) (by omega)).mono ?_
  rintro x w4 ⟨rfl, hb⟩
  have Cq := Lib.hid (Bq.out.below hb (by have := Bq.out.lt; simp <;> omega))
  have b4 := Lib.hid (b3.out.trans (hb.mono (B' := w.heap.size) (by have := b3.out.size; simp <;> omega)))
  clear r0 r1 r2 r3 r4 r5 r6 q0 q1 q2 q3 q4 q5 q6
  clear hb Br Bq
  have Bq : Hid (Box w4 (w.heap.size + 1) #[.bool n1, .slice a1 len1 cap1, .int .i64 e1]) := Cq
  clear Cq
  obtain ⟨q0, q1, q2, q3, q4, q5, q6⟩ := Bq.out.three
  go_wp2_with fail
  with_reducible refine (make_as n1 a1 len1 cap1 L1 e1 _ (HIN1.out.below (b4.out.alloc (by have := b4.out.size; simp <;> omega) _)) (by omega)).mono ?_
  rintro x w5 ⟨rfl, hb⟩
  have Cx := Lib.hid (((Box.new w4 #[.bool n0, S (dgs L0), .int .i64 e0] 28).at (b' := w4.heap.size) (by simp)).below hb (by simp <;> omega))
  have b5 := Lib.hid ((b4.out.alloc (by have := b4.out.size; simp <;> omega) _).trans (hb.mono (B' := w.heap.size) (by have := b4.out.size; simp <;> omega)))
  clear q0 q1 q2 q3 q4 q5 q6
  clear hb Bq
  have Bx : Hid (Box w5 (w4.heap.size) #[.bool n0, S (dgs L0), .int .i64 e0]) := Cx
  clear Cx
  obtain ⟨x0, x1, x2, x3, x4, x5, x6⟩ := Bx.out.three
  go_wp2_with fail
  with_reducible refine (CXY.out _).mono ?_
  rintro x w6 ⟨rfl, hb⟩
  have Cx := Lib.hid ((Bx.out.alloc (.cells #[.bool n1, S (dgs L1), .int .i64 e1] 28)).below hb (by have := Bx.out.lt; simp <;> omega))
  have Cy := Lib.hid (((Box.new w5 #[.bool n1, S (dgs L1), .int .i64 e1] 28).at (b' := w5.heap.size) (by simp)).below hb (by simp <;> omega))
  have b6 := Lib.hid ((b5.out.alloc (by have := b5.out.size; simp <;> omega) _).trans (hb.mono (B' := w.heap.size) (by have := b5.out.size; simp <;> omega)))
  clear x0 x1 x2 x3 x4 x5 x6
  clear hb Bx
  have Bx : Hid (Box w6 (w4.heap.size) #[.bool n0, S (dgs L0), .int .i64 e0]) := Cx
  have By : Hid (Box w6 (w5.heap.size) #[.bool n1, S (dgs L1), .int .i64 e1]) := Cy
  clear Cx Cy
  obtain ⟨x0, x1, x2, x3, x4, x5, x6⟩ := Bx.out.three
  obtain ⟨y0, y1, y2, y3, y4, y5, y6⟩ := By.out.three
  go_wp2_with fail
  have Q0 : Hid (Held3 w (w4.heap.size) (.bool n0) (S (dgs L0)) (.int .i64 e0) (w5.heap.size) (.bool n1) (S (dgs L1)) (.int .i64 e1) (w6.heap.size) (.bool s.neg) (S s.l) (.int .i64 s.e) (w6.alloc (.cells #[.bool s.neg, S s.l, .int .i64 s.e] 28))) := Lib.hid ⟨(Bx.out.alloc (.cells #[.bool s.neg, S s.l, .int .i64 s.e] 28)), (By.out.alloc (.cells #[.bool s.neg, S s.l, .int .i64 s.e] 28)), ((Box.new w6 #[.bool s.neg, S s.l, .int .i64 s.e] 28).at (b' := w6.heap.size) (by simp)), (b6.out.alloc (by have := b6.out.size; simp <;> omega) _)⟩
  first | (go_region_held3 (fun w' => w'.cell? ⟨w4.heap.size, 0, none⟩ = some (.bool n0) ∧ w'.cell? ⟨w4.heap.size, 1, none⟩ = some (S (dgs L0)) ∧ w'.cell? ⟨w4.heap.size, 2, none⟩ = some (.int .i64 e0) ∧ w'.cell? ⟨w5.heap.size, 0, none⟩ = some (.bool n1) ∧ w'.cell? ⟨w5.heap.size, 1, none⟩ = some (S (dgs L1)) ∧ w'.cell? ⟨w5.heap.size, 2, none⟩ = some (.int .i64 e1) ∧ w'.cell? ⟨w6.heap.size, 0, none⟩ = some (.bool s.neg) ∧ w'.cell? ⟨w6.heap.size, 1, none⟩ = some (S s.l) ∧ w'.cell? ⟨w6.heap.size, 2, none⟩ = some (.int .i64 s.e) ∧ Held3 w (w4.heap.size) (.bool n0) (S (dgs L0)) (.int .i64 e0) (w5.heap.size) (.bool n1) (S (dgs L1)) (.int .i64 e1) (w6.heap.size) (.bool s.neg) (S s.l) (.int .i64 s.e) w')
    (first | exact Held3.all (Held3.drew Q0.out) | exact Held3.keep (by assumption) hb | assumption)
    (first | (go_at_call 15; (with_reducible refine (CNS.out _).mono ?_); rintro z wA ⟨rfl, hb⟩) | (go_at_call 30; (with_reducible refine (CYX.out _).mono ?_); rintro z wB ⟨rfl, hb⟩) | (go_at_call 30; (with_reducible refine (CX0.out _).mono ?_); rintro z wC ⟨rfl, hb⟩) | (go_at_call 31; (with_reducible refine (CSY.out _).mono ?_); rintro z wD ⟨rfl, hb⟩) | (go_at_call 31; (with_reducible refine (CXD.out _).mono ?_); rintro z wE ⟨rfl, hb⟩) | (go_at_call 31; (with_reducible refine (CYD.out _).mono ?_); rintro z wF ⟨rfl, hb⟩) | (go_at_call 14; (with_reducible refine (CNX.out _).mono ?_); rintro z wG ⟨rfl, hb⟩) | (go_at_call 32; (with_reducible refine (CMF.out _).mono ?_); rintro z wH ⟨rfl, hb⟩))) | fail
  have HH := (‹wG.cell? ⟨w4.heap.size, 0, none⟩ = some (.bool n0) ∧ _›)
  obtain ⟨_, _, _, _, _, _, _, _, _, HH⟩ := HH
  clear x0 x1 x2 x3 x4 x5 x6 y0 y1 y2 y3 y4 y5 y6
  clear Q0 Bx By
  have Bx : Hid (Box wG (w4.heap.size) #[.bool n0, S (dgs L0), .int .i64 e0]) := Lib.hid HH.1
  have By : Hid (Box wG (w5.heap.size) #[.bool n1, S (dgs L1), .int .i64 e1]) := Lib.hid HH.2.1
  have Bs : Hid (Box wG (w6.heap.size) #[.bool s.neg, S s.l, .int .i64 s.e]) := Lib.hid HH.2.2.1
  have b7 : Hid (Below w.heap.size w wG) := Lib.hid (HH.2.2.2)
  clear HH
  obtain ⟨x0, x1, x2, x3, x4, x5, x6⟩ := Bx.out.three
  obtain ⟨y0, y1, y2, y3, y4, y5, y6⟩ := By.out.three
  obtain ⟨s0, s1, s2, s3, s4, s5, s6⟩ := Bs.out.three
  go_wp2_with fail
  with_reducible refine (CPX.out _).mono ?_
  rintro x w8 ⟨rfl, hb⟩
  have Cx := Lib.hid (Bx.out.below hb (by have := Bx.out.lt; simp <;> omega))
  have Cy := Lib.hid (By.out.below hb (by have := By.out.lt; simp <;> omega))
  have Cs := Lib.hid (Bs.out.below hb (by have := Bs.out.lt; simp <;> omega))
  have b8 := Lib.hid (b7.out.trans (hb.mono (B' := w.heap.size) (by have := b7.out.size; simp <;> omega)))
  clear x0 x1 x2 x3 x4 x5 x6 y0 y1 y2 y3 y4 y5 y6 s0 s1 s2 s3 s4 s5 s6
  clear hb Bx By Bs
  have Bx : Hid (Box w8 (w4.heap.size) #[.bool n0, S (dgs L0), .int .i64 e0]) := Cx
  have By : Hid (Box w8 (w5.heap.size) #[.bool n1, S (dgs L1), .int .i64 e1]) := Cy
  have Bs : Hid (Box w8 (w6.heap.size) #[.bool s.neg, S s.l, .int .i64 s.e]) := Cs
  clear Cx Cy Cs
  obtain ⟨x0, x1, x2, x3, x4, x5, x6⟩ := Bx.out.three
  obtain ⟨y0, y1, y2, y3, y4, y5, y6⟩ := By.out.three
  obtain ⟨s0, s1, s2, s3, s4, s5, s6⟩ := Bs.out.three
  go_wp2_with fail
  with_reducible refine (CPY.out _).mono ?_
  rintro x w9 ⟨rfl, hb⟩
  have Cx := Lib.hid (Bx.out.below hb (by have := Bx.out.lt; simp <;> omega))
  have Cy := Lib.hid (By.out.below hb (by have := By.out.lt; simp <;> omega))
  have Cs := Lib.hid (Bs.out.below hb (by have := Bs.out.lt; simp <;> omega))
  have b9 := Lib.hid (b8.out.trans (hb.mono (B' := w.heap.size) (by have := b8.out.size; simp <;> omega)))
  clear x0 x1 x2 x3 x4 x5 x6 y0 y1 y2 y3 y4 y5 y6 s0 s1 s2 s3 s4 s5 s6
  clear hb Bx By Bs
  have Bx : Hid (Box w9 (w4.heap.size) #[.bool n0, S (dgs L0), .int .i64 e0]) := Cx
  have By : Hid (Box w9 (w5.heap.size) #[.bool n1, S (dgs L1), .int .i64 e1]) := Cy
  have Bs : Hid (Box w9 (w6.heap.size) #[.bool s.neg, S s.l, .int .i64 s.e]) := Cs
  clear Cx Cy Cs
  obtain ⟨x0, x1, x2, x3, x4, x5, x6⟩ := Bx.out.three
  obtain ⟨y0, y1, y2, y3, y4, y5, y6⟩ := By.out.three
  obtain ⟨s0, s1, s2, s3, s4, s5, s6⟩ := Bs.out.three
  go_wp2_with fail
  with_reducible refine (trim_bare ⟨(dgs L0 ++ zs (e0 + 60).toNat).toArray⟩ _ (by rw [arr_size]; unfold maxLen; omega)).mono ?_
  rintro x wz ⟨rfl, rfl⟩
  rw [arr_list]
  have hE := EX.out
  generalize bare (dgs L0 ++ zs (e0 + 60).toNat) = bEX at *
  have hE1 := hE
  clear hE
  go_wp2_with fail
  with_reducible refine (trim_bare ⟨(dgs L1 ++ zs (e1 + 60).toNat).toArray⟩ _ (by rw [arr_size]; unfold maxLen; omega)).mono ?_
  rintro x wz ⟨rfl, rfl⟩
  rw [arr_list]
  have hE := EY.out
  generalize bare (dgs L1 ++ zs (e1 + 60).toNat) = bEY at *
  go_wp2_with fail
  with_reducible refine (cmpS (dgs L0 ++ zs (e0 + 60).toNat) (dgs L1 ++ zs (e1 + 60).toNat) _ (by omega) (by omega) IX.out IY.out).mono ?_
  rintro x w10 ⟨rfl, hb⟩
  have Cx := Lib.hid (Bx.out.below hb (by have := Bx.out.lt; simp <;> omega))
  have Cy := Lib.hid (By.out.below hb (by have := By.out.lt; simp <;> omega))
  have Cs := Lib.hid (Bs.out.below hb (by have := Bs.out.lt; simp <;> omega))
  have b10 := Lib.hid (b9.out.trans (hb.mono (B' := w.heap.size) (by have := b9.out.size; simp <;> omega)))
  clear x0 x1 x2 x3 x4 x5 x6 y0 y1 y2 y3 y4 y5 y6 s0 s1 s2 s3 s4 s5 s6
  clear hb Bx By Bs
  have Bx : Hid (Box w10 (w4.heap.size) #[.bool n0, S (dgs L0), .int .i64 e0]) := Cx
  have By : Hid (Box w10 (w5.heap.size) #[.bool n1, S (dgs L1), .int .i64 e1]) := Cy
  have Bs : Hid (Box w10 (w6.heap.size) #[.bool s.neg, S s.l, .int .i64 s.e]) := Cs
  clear Cx Cy Cs
  obtain ⟨x0, x1, x2, x3, x4, x5, x6⟩ := Bx.out.three
  obtain ⟨y0, y1, y2, y3, y4, y5, y6⟩ := By.out.three
  obtain ⟨s0, s1, s2, s3, s4, s5, s6⟩ := Bs.out.three
  rw [VX.out, VY.out, HK4.out, compareInt_self]
  have hz1 : s.neg = false := by rw [SZ.out]
  have hz2 : s.l = [] := by rw [SZ.out]
  have hz3 : s.e = 0 := by rw [SZ.out]
  go_wp2
  go_ret
  exact ⟨rfl, b10.out⟩

end Go.Proofs.YtlppofjmkepceaaDoor
