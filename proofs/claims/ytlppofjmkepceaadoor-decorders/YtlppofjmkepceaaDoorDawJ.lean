/- The walk of the law DecOrders. -/
import Derived.Test.YtlppofjmkepceaaDoorDawH0
namespace Go.Proofs.YtlppofjmkepceaaDoor
open Go.RowKit Florin
set_option linter.unusedVariables false
set_option linter.unusedSimpArgs false
attribute [local go_sem ↓] eq_V ne_V

set_option maxRecDepth 100000 in
set_option maxHeartbeats 6400000 in
theorem orders_2 (n0 : Bool) (a0 : Option Addr) (len0 cap0 : Nat) (L0 : List UInt8) (e0 : Int) (n1 : Bool) (a1 : Option Addr) (len1 cap1 : Nat) (L1 : List UInt8) (e1 : Int) (n2 : Bool) (a2 : Option Addr) (len2 cap2 : Nat) (L2 : List UInt8) (e2 : Int) (w : World) (hin0 : InB w a0 len0 cap0 L0) (hin1 : InB w a1 len1 cap1 L1) (hin2 : InB w a2 len2 cap2 L2) (htab : Tab w) (g0 : len0 ≤ 50) (lo0 : -50 ≤ e0) (hi0 : e0 ≤ 50) (g1 : len1 ≤ 50) (lo1 : -50 ≤ e1) (hi1 : e1 ≤ 50) (g2 : len2 ≤ 50) (lo2 : -50 ≤ e2) (hi2 : e2 ≤ 50) (X Y Z : Int) (hX : Dv 50 X ⟨n0, dgs L0, e0⟩) (hY : Dv 50 Y ⟨n1, dgs L1, e1⟩) (hZ : Dv 50 Z ⟨n2, dgs L2, e2⟩) (bX : X.natAbs < 10 ^ 200) (bY : Y.natAbs < 10 ^ 200) (bZ : Z.natAbs < 10 ^ 200) (hk : X ≤ Y) (hk2 : ¬ Y ≤ Z) :
    Calls Tryd.prog 8 #[RV n0 a0 len0 cap0 e0, RV n1 a1 len1 cap1 e1, RV n2 a2 len2 cap2 e2] w fun x w' => x = .returned (.bool true) ∧ Below w.heap.size w w' := by
  have l0 : (dgs L0).length ≤ 50 := by rw [dgs_length, hin0.1]; exact g0
  have l1 : (dgs L1).length ≤ 50 := by rw [dgs_length, hin1.1]; exact g1
  have l2 : (dgs L2).length ≤ 50 := by rw [dgs_length, hin2.1]; exact g2
  have p200 : 10 ^ 200 + 10 ^ 200 < 10 ^ 240 := by decide
  have fx : Fit 50 X := fit50 (by omega)
  have fy : Fit 50 Y := fit50 (by omega)
  have fz : Fit 50 Z := fit50 (by omega)
  have fxz : Fit 50 (X + Z) := fit50 (by omega)
  have fyz : Fit 50 (Y + Z) := fit50 (by omega)
  obtain ⟨dx, hdx⟩ : ∃ d, nf 50 (X) = d := ⟨_, rfl⟩
  obtain ⟨dy, hdy⟩ : ∃ d, nf 50 (Y) = d := ⟨_, rfl⟩
  obtain ⟨mx, hmx⟩ : ∃ d, nf 50 (-X) = d := ⟨_, rfl⟩
  obtain ⟨my, hmy⟩ : ∃ d, nf 50 (-Y) = d := ⟨_, rfl⟩
  obtain ⟨sx, hsx⟩ : ∃ d, nf 50 (X + Z) = d := ⟨_, rfl⟩
  obtain ⟨sy, hsy⟩ : ∃ d, nf 50 (Y + Z) = d := ⟨_, rfl⟩
  obtain ⟨ax, hax⟩ : ∃ d, nf 50 ((X.natAbs : Int)) = d := ⟨_, rfl⟩
  obtain ⟨ay, hay⟩ : ∃ d, nf 50 ((Y.natAbs : Int)) = d := ⟨_, rfl⟩
  have kdx : dx.l.length ≤ 240 := by rw [← hdx]; exact nf_length (by omega)
  have vdx : made dx.neg dx.l dx.e = nf 50 (X) := by rw [← hdx]; exact nf_made fx
  have kdy : dy.l.length ≤ 240 := by rw [← hdy]; exact nf_length (by omega)
  have vdy : made dy.neg dy.l dy.e = nf 50 (Y) := by rw [← hdy]; exact nf_made fy
  have kmx : mx.l.length ≤ 240 := by rw [← hmx]; exact nf_length (by omega)
  have vmx : made mx.neg mx.l mx.e = nf 50 (-X) := by rw [← hmx]; exact nf_made (fit_neg fx)
  have kmy : my.l.length ≤ 240 := by rw [← hmy]; exact nf_length (by omega)
  have vmy : made my.neg my.l my.e = nf 50 (-Y) := by rw [← hmy]; exact nf_made (fit_neg fy)
  have ksx : sx.l.length ≤ 240 := by rw [← hsx]; exact nf_length (by omega)
  have vsx : made sx.neg sx.l sx.e = nf 50 (X + Z) := by rw [← hsx]; exact nf_made fxz
  have ksy : sy.l.length ≤ 240 := by rw [← hsy]; exact nf_length (by omega)
  have vsy : made sy.neg sy.l sy.e = nf 50 (Y + Z) := by rw [← hsy]; exact nf_made fyz
  have kax : ax.l.length ≤ 240 := by rw [← hax]; exact nf_length (by omega)
  have vax : made ax.neg ax.l ax.e = nf 50 ((X.natAbs : Int)) := by rw [← hax]; exact nf_made (fit_abs fx)
  have kay : ay.l.length ≤ 240 := by rw [← hay]; exact nf_length (by omega)
  have vay : made ay.neg ay.l ay.e = nf 50 ((Y.natAbs : Int)) := by rw [← hay]; exact nf_made (fit_abs fy)
  have uax : -50 ≤ ax.e := by rw [← hax]; exact (nf_bounds (fit_abs fx)).1
  have tax : ax.e ≤ 30000 := by rw [← hax]; exact (nf_bounds (fit_abs fx)).2
  have uay : -50 ≤ ay.e := by rw [← hay]; exact (nf_bounds (fit_abs fy)).1
  have tay : ay.e ≤ 30000 := by rw [← hay]; exact (nf_bounds (fit_abs fy)).2
  obtain ⟨c, hcc⟩ : ∃ c, Lib.compareInt X Y = c := ⟨_, rfl⟩
  obtain ⟨c2, hcc2⟩ : ∃ c, Lib.compareInt Y Z = c := ⟨_, rfl⟩
  obtain ⟨c3, hcc3⟩ : ∃ c, Lib.compareInt X Z = c := ⟨_, rfl⟩
  obtain ⟨pc, hpc⟩ : ∃ c, Lib.compareInt (X.natAbs : Int) (Y.natAbs : Int) = c := ⟨_, rfl⟩
  obtain ⟨c0, hc0'⟩ : ∃ c, Lib.compareInt (X.natAbs : Int) 0 = c := ⟨_, rfl⟩
  have cb : -1 ≤ c ∧ c ≤ 1 := by rw [← hcc]; exact ci_bounds _ _
  obtain ⟨cb1, cb2⟩ := cb
  have CXY : Hid (∀ w : World, Calls Tryd.prog 35 #[.agg #[.bool n0, S (dgs L0), .int .i64 e0], .agg #[.bool n1, S (dgs L1), .int .i64 e1]] w fun z w' => z = .returned (.int .i64 c) ∧ Below w.heap.size w w') := Lib.hid fun w => cmpD n0 ⟨(dgs L0).toArray⟩ e0 n1 ⟨(dgs L1).toArray⟩ e1 w (by rw [arr_size]; omega) (by rw [arr_size]; omega) 50 X Y fx fy (by rw [arr_list]; exact hX.made fx) (by rw [arr_list]; exact hY.made fy) c hcc
  have CYX : Hid (∀ w : World, Calls Tryd.prog 35 #[.agg #[.bool n1, S (dgs L1), .int .i64 e1], .agg #[.bool n0, S (dgs L0), .int .i64 e0]] w fun z w' => z = .returned (.int .i64 (-c)) ∧ Below w.heap.size w w') := Lib.hid fun w => cmpD n1 ⟨(dgs L1).toArray⟩ e1 n0 ⟨(dgs L0).toArray⟩ e0 w (by rw [arr_size]; omega) (by rw [arr_size]; omega) 50 Y X fy fx (by rw [arr_list]; exact hY.made fy) (by rw [arr_list]; exact hX.made fx) (-c) (by rw [ci_swap, hcc])
  have CYZ : Hid (∀ w : World, Calls Tryd.prog 35 #[.agg #[.bool n1, S (dgs L1), .int .i64 e1], .agg #[.bool n2, S (dgs L2), .int .i64 e2]] w fun z w' => z = .returned (.int .i64 c2) ∧ Below w.heap.size w w') := Lib.hid fun w => cmpD n1 ⟨(dgs L1).toArray⟩ e1 n2 ⟨(dgs L2).toArray⟩ e2 w (by rw [arr_size]; omega) (by rw [arr_size]; omega) 50 Y Z fy fz (by rw [arr_list]; exact hY.made fy) (by rw [arr_list]; exact hZ.made fz) c2 hcc2
  have CXZ : Hid (∀ w : World, Calls Tryd.prog 35 #[.agg #[.bool n0, S (dgs L0), .int .i64 e0], .agg #[.bool n2, S (dgs L2), .int .i64 e2]] w fun z w' => z = .returned (.int .i64 c3) ∧ Below w.heap.size w w') := Lib.hid fun w => cmpD n0 ⟨(dgs L0).toArray⟩ e0 n2 ⟨(dgs L2).toArray⟩ e2 w (by rw [arr_size]; omega) (by rw [arr_size]; omega) 50 X Z fx fz (by rw [arr_list]; exact hX.made fx) (by rw [arr_list]; exact hZ.made fz) c3 hcc3
  have CNdx : Hid (∀ w : World, Calls Tryd.prog 14 #[.agg #[.bool n0, S (dgs L0), .int .i64 e0]] w fun z w' => z = .returned (V dx) ∧ Below w.heap.size w w') := Lib.hid fun w => norm_as n0 ⟨(dgs L0).toArray⟩ e0 w (by rw [arr_size]; omega) dx (by rw [arr_list, hX.made fx, hdx])
  have CNdy : Hid (∀ w : World, Calls Tryd.prog 14 #[.agg #[.bool n1, S (dgs L1), .int .i64 e1]] w fun z w' => z = .returned (V dy) ∧ Below w.heap.size w w') := Lib.hid fun w => norm_as n1 ⟨(dgs L1).toArray⟩ e1 w (by rw [arr_size]; omega) dy (by rw [arr_list, hY.made fy, hdy])
  have CMmx : Hid (∀ w : World, Calls Tryd.prog 32 #[.agg #[.bool n0, S (dgs L0), .int .i64 e0]] w fun z w' => z = .returned (V mx) ∧ Below w.heap.size w w') := Lib.hid fun w => minus_as n0 ⟨(dgs L0).toArray⟩ e0 w (by rw [arr_size]; omega) mx (by rw [arr_list, (dv_neg hX).made (fit_neg fx), hmx])
  have CMmy : Hid (∀ w : World, Calls Tryd.prog 32 #[.agg #[.bool n1, S (dgs L1), .int .i64 e1]] w fun z w' => z = .returned (V my) ∧ Below w.heap.size w w') := Lib.hid fun w => minus_as n1 ⟨(dgs L1).toArray⟩ e1 w (by rw [arr_size]; omega) my (by rw [arr_list, (dv_neg hY).made (fit_neg fy), hmy])
  have CMM : Hid (∀ w : World, Calls Tryd.prog 35 #[V mx, V my] w fun z w' => z = .returned (.int .i64 (-c)) ∧ Below w.heap.size w w') := Lib.hid fun w => cmpD mx.neg ⟨mx.l.toArray⟩ mx.e my.neg ⟨my.l.toArray⟩ my.e w (by rw [arr_size]; omega) (by rw [arr_size]; omega) 50 (-X) (-Y) (fit_neg fx) (fit_neg fy) (by rw [arr_list]; exact vmx) (by rw [arr_list]; exact vmy) (-c) (by rw [ci_neg, hcc])
  have CAX : Hid (∀ w : World, Calls Tryd.prog 30 #[.agg #[.bool n0, S (dgs L0), .int .i64 e0], .agg #[.bool n2, S (dgs L2), .int .i64 e2]] w fun z w' => z = .returned (V sx) ∧ Below w.heap.size w w') := Lib.hid fun w => by rw [← hsx]; exact addD n0 ⟨(dgs L0).toArray⟩ e0 n2 ⟨(dgs L2).toArray⟩ e2 w (by rw [arr_size]; omega) (by rw [arr_size]; omega) 50 X Z fx fz fxz (by rw [arr_list]; exact hX.made fx) (by rw [arr_list]; exact hZ.made fz)
  have CAY : Hid (∀ w : World, Calls Tryd.prog 30 #[.agg #[.bool n1, S (dgs L1), .int .i64 e1], .agg #[.bool n2, S (dgs L2), .int .i64 e2]] w fun z w' => z = .returned (V sy) ∧ Below w.heap.size w w') := Lib.hid fun w => by rw [← hsy]; exact addD n1 ⟨(dgs L1).toArray⟩ e1 n2 ⟨(dgs L2).toArray⟩ e2 w (by rw [arr_size]; omega) (by rw [arr_size]; omega) 50 Y Z fy fz fyz (by rw [arr_list]; exact hY.made fy) (by rw [arr_list]; exact hZ.made fz)
  have CSS : Hid (∀ w : World, Calls Tryd.prog 35 #[V sx, V sy] w fun z w' => z = .returned (.int .i64 c) ∧ Below w.heap.size w w') := Lib.hid fun w => cmpD sx.neg ⟨sx.l.toArray⟩ sx.e sy.neg ⟨sy.l.toArray⟩ sy.e w (by rw [arr_size]; omega) (by rw [arr_size]; omega) 50 (X + Z) (Y + Z) fxz fyz (by rw [arr_list]; exact vsx) (by rw [arr_list]; exact vsy) c (by rw [ci_add, hcc])
  have CBax : Hid (∀ w : World, Calls Tryd.prog 36 #[.agg #[.bool n0, S (dgs L0), .int .i64 e0]] w fun z w' => z = .returned (V ax) ∧ Below w.heap.size w w') := Lib.hid fun w => abs_as n0 ⟨(dgs L0).toArray⟩ e0 w (by rw [arr_size]; omega) ax (by rw [arr_list, nf_abs hX fx, hax])
  have CPax : Hid (∀ w : World, Calls Tryd.prog 21 #[V ax, .int .i64 50] w fun z w' => z = .returned (S (ax.l ++ zs (ax.e + 50).toNat)) ∧ Below w.heap.size w w') := Lib.hid fun w => places_any ax.neg ⟨ax.l.toArray⟩ ax.e 50 w (by rw [arr_size]; omega) (by decide) (by omega) (by omega)
  have CBay : Hid (∀ w : World, Calls Tryd.prog 36 #[.agg #[.bool n1, S (dgs L1), .int .i64 e1]] w fun z w' => z = .returned (V ay) ∧ Below w.heap.size w w') := Lib.hid fun w => abs_as n1 ⟨(dgs L1).toArray⟩ e1 w (by rw [arr_size]; omega) ay (by rw [arr_list, nf_abs hY fy, hay])
  have CPay : Hid (∀ w : World, Calls Tryd.prog 21 #[V ay, .int .i64 50] w fun z w' => z = .returned (S (ay.l ++ zs (ay.e + 50).toNat)) ∧ Below w.heap.size w w') := Lib.hid fun w => places_any ay.neg ⟨ay.l.toArray⟩ ay.e 50 w (by rw [arr_size]; omega) (by decide) (by omega) (by omega)
  have IA : isDig (ax.l ++ zs (ax.e + 50).toNat) = true := by rw [isDig_append, isDig_zs, ← hax, nf_isDig]; rfl
  have IB : isDig (ay.l ++ zs (ay.e + 50).toNat) = true := by rw [isDig_append, isDig_zs, ← hay, nf_isDig]; rfl
  have VA : val (ax.l ++ zs (ax.e + 50).toNat) = X.natAbs := by have h := nf_places (fit_abs fx); rw [hax, Int.natAbs_natCast] at h; exact h
  have VB : val (ay.l ++ zs (ay.e + 50).toNat) = Y.natAbs := by have h := nf_places (fit_abs fy); rw [hay, Int.natAbs_natCast] at h; exact h
  have ka : (ax.l ++ zs (ax.e + 50).toNat).length ≤ 40000 := by rw [List.length_append, zs_length]; omega
  have kb : (ay.l ++ zs (ay.e + 50).toNat).length ≤ 40000 := by rw [List.length_append, zs_length]; omega
  have CNC : Hid (∀ w : World, Calls Tryd.prog 20 #[S (ax.l ++ zs (ax.e + 50).toNat), S (ay.l ++ zs (ay.e + 50).toNat)] w fun z w' => z = .returned (.int .i64 pc) ∧ Below w.heap.size w w') := Lib.hid fun w => by have h := cmpS (ax.l ++ zs (ax.e + 50).toNat) (ay.l ++ zs (ay.e + 50).toNat) w (by omega) (by omega) IA IB; rw [VA, VB, hpc] at h; exact h
  have CAA : Hid (∀ w : World, Calls Tryd.prog 35 #[V ax, V ay] w fun z w' => z = .returned (.int .i64 pc) ∧ Below w.heap.size w w') := Lib.hid fun w => cmpD ax.neg ⟨ax.l.toArray⟩ ax.e ay.neg ⟨ay.l.toArray⟩ ay.e w (by rw [arr_size]; omega) (by rw [arr_size]; omega) 50 (X.natAbs : Int) (Y.natAbs : Int) (fit_abs fx) (fit_abs fy) (by rw [arr_list]; exact vax) (by rw [arr_list]; exact vay) pc hpc
  have CA0 : Hid (∀ w : World, Calls Tryd.prog 35 #[V ax, .agg #[.bool false, .string ⟨#[]⟩, .int .i64 0]] w fun z w' => z = .returned (.int .i64 c0) ∧ Below w.heap.size w w') := Lib.hid fun w => cmpD ax.neg ⟨ax.l.toArray⟩ ax.e false ⟨#[]⟩ 0 w (by rw [arr_size]; omega) (by decide) 50 (X.natAbs : Int) 0 (fit_abs fx) (fit50 (by decide)) (by rw [arr_list]; exact vax) (nf_zero 50).symm c0 hc0'
  have CMX : Hid (∀ w : World, Calls Tryd.prog 32 #[V mx] w fun z w' => z = .returned (V dx) ∧ Below w.heap.size w w') := Lib.hid fun w => minus_as mx.neg ⟨mx.l.toArray⟩ mx.e w (by rw [arr_size]; omega) dx (by rw [arr_list, ← hmx, nf_minus (fit_neg fx), Int.neg_neg, hdx])
  have hq : (c == 0) = decide (dx = dy) := by rw [← hcc]; by_cases h : X = Y; rw [decide_eq_true (by rw [← hdx, ← hdy, h])]; simp [ci_zero, h]; rw [decide_eq_false (fun e => h (nf_inj fx fy (by rw [hdx, hdy, e])))]; simp [ci_zero, h]
  have hmin : min 1 (dx.l.length : Int) = c0 := by rw [← hc0']; exact min_len _ _ (by rw [← hdx, nf_l_nil fx]; omega)
  have hw : IntKind.i64.wrap c = c := by rw [IntKind.wrap_i64]; omega
  have hw2 : IntKind.i64.wrap (-c) = -c := by rw [IntKind.wrap_i64]; omega
  have k1 : c ≤ 0 := by rw [← hcc, ci_le]; exact hk
  have k2 : ¬ c2 ≤ 0 := by rw [← hcc2, ci_le]; exact hk2
  have HIN0 := Lib.hid hin0
  have hc0 := hin0.2.1
  have hm0 := hin0.2.2.1
  have HIN1 := Lib.hid hin1
  have hc1 := hin1.2.1
  have hm1 := hin1.2.2.1
  have HIN2 := Lib.hid hin2
  have hc2 := hin2.2.1
  have hm2 := hin2.2.2.1
  have HT := Lib.hid htab
  have hfl := fieldL
  clear htab hin0 hin1 hin2 hX hY hZ bX bY bZ p200 fx fy fz fxz fyz hdx hdy hmx hmy hsx hsy hax hay vdx vdy vmx vmy vsx vsy vax vay hcc hcc2 hcc3 hpc hc0' IA IB VA VB hk hk2
  go_enter Tryd.func8, Tryd.ntmps8
  go_wp2_with fail
  with_reducible refine (headD _ (HT.out.below ((((Below.refl w.heap.size w).alloc (by simp <;> omega) _).alloc (by simp <;> omega) _).alloc (by simp <;> omega) _))).mono ?_
  rintro x w1 ⟨rfl, hb⟩
  have Cr := Lib.hid (((((Box.new w #[.bool n0, .slice a0 len0 cap0, .int .i64 e0] 24).at (b' := w.heap.size) (by simp)).alloc (.cells #[.bool n1, .slice a1 len1 cap1, .int .i64 e1] 24)).alloc (.cells #[.bool n2, .slice a2 len2 cap2, .int .i64 e2] 24)).below hb (by simp <;> omega))
  have Cq := Lib.hid ((((Box.new (w.alloc (.cells #[.bool n0, .slice a0 len0 cap0, .int .i64 e0] 24)) #[.bool n1, .slice a1 len1 cap1, .int .i64 e1] 24).at (b' := w.heap.size + 1) (by simp)).alloc (.cells #[.bool n2, .slice a2 len2 cap2, .int .i64 e2] 24)).below hb (by simp <;> omega))
  have Co := Lib.hid (((Box.new ((w.alloc (.cells #[.bool n0, .slice a0 len0 cap0, .int .i64 e0] 24)).alloc (.cells #[.bool n1, .slice a1 len1 cap1, .int .i64 e1] 24)) #[.bool n2, .slice a2 len2 cap2, .int .i64 e2] 24).at (b' := w.heap.size + 2) (by simp)).below hb (by simp <;> omega))
  have b1 := Lib.hid (((((Below.refl w.heap.size w).alloc (by simp <;> omega) _).alloc (by simp <;> omega) _).alloc (by simp <;> omega) _).trans (hb.mono (B' := w.heap.size) (by simp <;> omega)))
  clear hb
  have Br : Hid (Box w1 (w.heap.size) #[.bool n0, .slice a0 len0 cap0, .int .i64 e0]) := Cr
  have Bq : Hid (Box w1 (w.heap.size + 1) #[.bool n1, .slice a1 len1 cap1, .int .i64 e1]) := Cq
  have Bo : Hid (Box w1 (w.heap.size + 2) #[.bool n2, .slice a2 len2 cap2, .int .i64 e2]) := Co
  clear Cr Cq Co
  obtain ⟨r0, r1, r2, r3, r4, r5, r6⟩ := Br.out.three
  obtain ⟨q0, q1, q2, q3, q4, q5, q6⟩ := Bq.out.three
  obtain ⟨o0, o1, o2, o3, o4, o5, o6⟩ := Bo.out.three
  go_wp2_with fail
  with_reducible refine (few_yes n0 a0 len0 cap0 e0 50 _ hc0 hm0 (by decide) (by decide) (by omega) lo0 hi0).mono ?_
  rintro x w2 ⟨rfl, hb⟩
  have Cr := Lib.hid (Br.out.below hb (by have := Br.out.lt; simp <;> omega))
  have Cq := Lib.hid (Bq.out.below hb (by have := Bq.out.lt; simp <;> omega))
  have Co := Lib.hid (Bo.out.below hb (by have := Bo.out.lt; simp <;> omega))
  have b2 := Lib.hid (b1.out.trans (hb.mono (B' := w.heap.size) (by have := b1.out.size; simp <;> omega)))
  clear r0 r1 r2 r3 r4 r5 r6 q0 q1 q2 q3 q4 q5 q6 o0 o1 o2 o3 o4 o5 o6
  clear hb Br Bq Bo
  have Br : Hid (Box w2 (w.heap.size) #[.bool n0, .slice a0 len0 cap0, .int .i64 e0]) := Cr
  have Bq : Hid (Box w2 (w.heap.size + 1) #[.bool n1, .slice a1 len1 cap1, .int .i64 e1]) := Cq
  have Bo : Hid (Box w2 (w.heap.size + 2) #[.bool n2, .slice a2 len2 cap2, .int .i64 e2]) := Co
  clear Cr Cq Co
  obtain ⟨r0, r1, r2, r3, r4, r5, r6⟩ := Br.out.three
  obtain ⟨q0, q1, q2, q3, q4, q5, q6⟩ := Bq.out.three
  obtain ⟨o0, o1, o2, o3, o4, o5, o6⟩ := Bo.out.three
  go_wp2_with fail
  with_reducible refine (few_yes n1 a1 len1 cap1 e1 50 _ hc1 hm1 (by decide) (by decide) (by omega) lo1 hi1).mono ?_
  rintro x w3 ⟨rfl, hb⟩
  have Cr := Lib.hid (Br.out.below hb (by have := Br.out.lt; simp <;> omega))
  have Cq := Lib.hid (Bq.out.below hb (by have := Bq.out.lt; simp <;> omega))
  have Co := Lib.hid (Bo.out.below hb (by have := Bo.out.lt; simp <;> omega))
  have b3 := Lib.hid (b2.out.trans (hb.mono (B' := w.heap.size) (by have := b2.out.size; simp <;> omega)))
  clear r0 r1 r2 r3 r4 r5 r6 q0 q1 q2 q3 q4 q5 q6 o0 o1 o2 o3 o4 o5 o6
  clear hb Br Bq Bo
  have Br : Hid (Box w3 (w.heap.size) #[.bool n0, .slice a0 len0 cap0, .int .i64 e0]) := Cr
  have Bq : Hid (Box w3 (w.heap.size + 1) #[.bool n1, .slice a1 len1 cap1, .int .i64 e1]) := Cq
  have Bo : Hid (Box w3 (w.heap.size + 2) #[.bool n2, .slice a2 len2 cap2, .int .i64 e2]) := Co
  clear Cr Cq Co
  obtain ⟨r0, r1, r2, r3, r4, r5, r6⟩ := Br.out.three
  obtain ⟨q0, q1, q2, q3, q4, q5, q6⟩ := Bq.out.three
  obtain ⟨o0, o1, o2, o3, o4, o5, o6⟩ := Bo.out.three
  go_wp2_with fail
  with_reducible refine (few_yes n2 a2 len2 cap2 e2 50 _ hc2 hm2 (by decide) (by decide) (by omega) lo2 hi2).mono ?_
  rintro x w4 ⟨rfl, hb⟩
  have Cr := Lib.hid (Br.out.below hb (by have := Br.out.lt; simp <;> omega))
  have Cq := Lib.hid (Bq.out.below hb (by have := Bq.out.lt; simp <;> omega))
  have Co := Lib.hid (Bo.out.below hb (by have := Bo.out.lt; simp <;> omega))
  have b4 := Lib.hid (b3.out.trans (hb.mono (B' := w.heap.size) (by have := b3.out.size; simp <;> omega)))
  clear r0 r1 r2 r3 r4 r5 r6 q0 q1 q2 q3 q4 q5 q6 o0 o1 o2 o3 o4 o5 o6
  clear hb Br Bq Bo
  have Br : Hid (Box w4 (w.heap.size) #[.bool n0, .slice a0 len0 cap0, .int .i64 e0]) := Cr
  have Bq : Hid (Box w4 (w.heap.size + 1) #[.bool n1, .slice a1 len1 cap1, .int .i64 e1]) := Cq
  have Bo : Hid (Box w4 (w.heap.size + 2) #[.bool n2, .slice a2 len2 cap2, .int .i64 e2]) := Co
  clear Cr Cq Co
  obtain ⟨r0, r1, r2, r3, r4, r5, r6⟩ := Br.out.three
  obtain ⟨q0, q1, q2, q3, q4, q5, q6⟩ := Bq.out.three
  obtain ⟨o0, o1, o2, o3, o4, o5, o6⟩ := Bo.out.three
  go_wp2_with fail
  with_reducible refine (make_as n0 a0 len0 cap0 L0 e0 _ (HIN0.out.below b4.out) (by omega)).mono ?_
  rintro x w5 ⟨rfl, hb⟩
  have Cq := Lib.hid (Bq.out.below hb (by have := Bq.out.lt; simp <;> omega))
  have Co := Lib.hid (Bo.out.below hb (by have := Bo.out.lt; simp <;> omega))
  have b5 := Lib.hid (b4.out.trans (hb.mono (B' := w.heap.size) (by have := b4.out.size; simp <;> omega)))
  clear r0 r1 r2 r3 r4 r5 r6 q0 q1 q2 q3 q4 q5 q6 o0 o1 o2 o3 o4 o5 o6
  clear hb Br Bq Bo
  have Bq : Hid (Box w5 (w.heap.size + 1) #[.bool n1, .slice a1 len1 cap1, .int .i64 e1]) := Cq
  have Bo : Hid (Box w5 (w.heap.size + 2) #[.bool n2, .slice a2 len2 cap2, .int .i64 e2]) := Co
  clear Cq Co
  obtain ⟨q0, q1, q2, q3, q4, q5, q6⟩ := Bq.out.three
  obtain ⟨o0, o1, o2, o3, o4, o5, o6⟩ := Bo.out.three
  go_wp2_with fail
  with_reducible refine (make_as n1 a1 len1 cap1 L1 e1 _ (HIN1.out.below (b5.out.alloc (by have := b5.out.size; simp <;> omega) _)) (by omega)).mono ?_
  rintro x w6 ⟨rfl, hb⟩
  have Co := Lib.hid ((Bo.out.alloc (.cells #[.bool n0, S (dgs L0), .int .i64 e0] 28)).below hb (by have := Bo.out.lt; simp <;> omega))
  have Cx := Lib.hid (((Box.new w5 #[.bool n0, S (dgs L0), .int .i64 e0] 28).at (b' := w5.heap.size) (by simp)).below hb (by simp <;> omega))
  have b6 := Lib.hid ((b5.out.alloc (by have := b5.out.size; simp <;> omega) _).trans (hb.mono (B' := w.heap.size) (by have := b5.out.size; simp <;> omega)))
  clear q0 q1 q2 q3 q4 q5 q6 o0 o1 o2 o3 o4 o5 o6
  clear hb Bq Bo
  have Bo : Hid (Box w6 (w.heap.size + 2) #[.bool n2, .slice a2 len2 cap2, .int .i64 e2]) := Co
  have Bx : Hid (Box w6 (w5.heap.size) #[.bool n0, S (dgs L0), .int .i64 e0]) := Cx
  clear Co Cx
  obtain ⟨o0, o1, o2, o3, o4, o5, o6⟩ := Bo.out.three
  obtain ⟨x0, x1, x2, x3, x4, x5, x6⟩ := Bx.out.three
  go_wp2_with fail
  with_reducible refine (make_as n2 a2 len2 cap2 L2 e2 _ (HIN2.out.below (b6.out.alloc (by have := b6.out.size; simp <;> omega) _)) (by omega)).mono ?_
  rintro x w7 ⟨rfl, hb⟩
  have Cx := Lib.hid ((Bx.out.alloc (.cells #[.bool n1, S (dgs L1), .int .i64 e1] 28)).below hb (by have := Bx.out.lt; simp <;> omega))
  have Cy := Lib.hid (((Box.new w6 #[.bool n1, S (dgs L1), .int .i64 e1] 28).at (b' := w6.heap.size) (by simp)).below hb (by simp <;> omega))
  have b7 := Lib.hid ((b6.out.alloc (by have := b6.out.size; simp <;> omega) _).trans (hb.mono (B' := w.heap.size) (by have := b6.out.size; simp <;> omega)))
  clear o0 o1 o2 o3 o4 o5 o6 x0 x1 x2 x3 x4 x5 x6
  clear hb Bo Bx
  have Bx : Hid (Box w7 (w5.heap.size) #[.bool n0, S (dgs L0), .int .i64 e0]) := Cx
  have By : Hid (Box w7 (w6.heap.size) #[.bool n1, S (dgs L1), .int .i64 e1]) := Cy
  clear Cx Cy
  obtain ⟨x0, x1, x2, x3, x4, x5, x6⟩ := Bx.out.three
  obtain ⟨y0, y1, y2, y3, y4, y5, y6⟩ := By.out.three
  go_wp2_with fail
  with_reducible refine (CXY.out _).mono ?_
  rintro x w8 ⟨rfl, hb⟩
  have Cx := Lib.hid ((Bx.out.alloc (.cells #[.bool n2, S (dgs L2), .int .i64 e2] 28)).below hb (by have := Bx.out.lt; simp <;> omega))
  have Cy := Lib.hid ((By.out.alloc (.cells #[.bool n2, S (dgs L2), .int .i64 e2] 28)).below hb (by have := By.out.lt; simp <;> omega))
  have Cz := Lib.hid (((Box.new w7 #[.bool n2, S (dgs L2), .int .i64 e2] 28).at (b' := w7.heap.size) (by simp)).below hb (by simp <;> omega))
  have b8 := Lib.hid ((b7.out.alloc (by have := b7.out.size; simp <;> omega) _).trans (hb.mono (B' := w.heap.size) (by have := b7.out.size; simp <;> omega)))
  clear x0 x1 x2 x3 x4 x5 x6 y0 y1 y2 y3 y4 y5 y6
  clear hb Bx By
  have Bx : Hid (Box w8 (w5.heap.size) #[.bool n0, S (dgs L0), .int .i64 e0]) := Cx
  have By : Hid (Box w8 (w6.heap.size) #[.bool n1, S (dgs L1), .int .i64 e1]) := Cy
  have Bz : Hid (Box w8 (w7.heap.size) #[.bool n2, S (dgs L2), .int .i64 e2]) := Cz
  clear Cx Cy Cz
  obtain ⟨x0, x1, x2, x3, x4, x5, x6⟩ := Bx.out.three
  obtain ⟨y0, y1, y2, y3, y4, y5, y6⟩ := By.out.three
  obtain ⟨z0, z1, z2, z3, z4, z5, z6⟩ := Bz.out.three
  go_wp2_with fail
  have Q0 : Hid (Held3 w (w5.heap.size) (.bool n0) (S (dgs L0)) (.int .i64 e0) (w6.heap.size) (.bool n1) (S (dgs L1)) (.int .i64 e1) (w7.heap.size) (.bool n2) (S (dgs L2)) (.int .i64 e2) w8) := Lib.hid ⟨Bx.out, By.out, Bz.out, b8.out⟩
  first | (go_region_held3 (fun w' => w'.cell? ⟨w5.heap.size, 0, none⟩ = some (.bool n0) ∧ w'.cell? ⟨w5.heap.size, 1, none⟩ = some (S (dgs L0)) ∧ w'.cell? ⟨w5.heap.size, 2, none⟩ = some (.int .i64 e0) ∧ w'.cell? ⟨w6.heap.size, 0, none⟩ = some (.bool n1) ∧ w'.cell? ⟨w6.heap.size, 1, none⟩ = some (S (dgs L1)) ∧ w'.cell? ⟨w6.heap.size, 2, none⟩ = some (.int .i64 e1) ∧ w'.cell? ⟨w7.heap.size, 0, none⟩ = some (.bool n2) ∧ w'.cell? ⟨w7.heap.size, 1, none⟩ = some (S (dgs L2)) ∧ w'.cell? ⟨w7.heap.size, 2, none⟩ = some (.int .i64 e2) ∧ Held3 w (w5.heap.size) (.bool n0) (S (dgs L0)) (.int .i64 e0) (w6.heap.size) (.bool n1) (S (dgs L1)) (.int .i64 e1) (w7.heap.size) (.bool n2) (S (dgs L2)) (.int .i64 e2) w')
    (first | exact Held3.all (Held3.drew Q0.out) | exact Held3.keep (by assumption) hb | assumption)
    (first | (go_at_call 35; (with_reducible refine (CYX.out _).mono ?_); rintro v wA ⟨rfl, hb⟩) | (go_at_call 35; (with_reducible refine (CMM.out _).mono ?_); rintro v wB ⟨rfl, hb⟩) | (go_at_call 35; (with_reducible refine (CSS.out _).mono ?_); rintro v wC ⟨rfl, hb⟩) | (go_at_call 14; (with_reducible refine (CNdx.out _).mono ?_); rintro v wD ⟨rfl, hb⟩) | (go_at_call 14; (with_reducible refine (CNdy.out _).mono ?_); rintro v wE ⟨rfl, hb⟩) | (go_at_call 32; (with_reducible refine (CMmx.out _).mono ?_); rintro v wF ⟨rfl, hb⟩) | (go_at_call 32; (with_reducible refine (CMmy.out _).mono ?_); rintro v wG ⟨rfl, hb⟩) | (go_at_call 30; (with_reducible refine (CAX.out _).mono ?_); rintro v wH ⟨rfl, hb⟩) | (go_at_call 30; (with_reducible refine (CAY.out _).mono ?_); rintro v wI ⟨rfl, hb⟩))) | fail
  have HH := (‹wC.cell? ⟨w5.heap.size, 0, none⟩ = some (.bool n0) ∧ _›)
  obtain ⟨_, _, _, _, _, _, _, _, _, HH⟩ := HH
  clear x0 x1 x2 x3 x4 x5 x6 y0 y1 y2 y3 y4 y5 y6 z0 z1 z2 z3 z4 z5 z6
  clear Q0 Bx By Bz
  have Bx : Hid (Box wC (w5.heap.size) #[.bool n0, S (dgs L0), .int .i64 e0]) := Lib.hid HH.1
  have By : Hid (Box wC (w6.heap.size) #[.bool n1, S (dgs L1), .int .i64 e1]) := Lib.hid HH.2.1
  have Bz : Hid (Box wC (w7.heap.size) #[.bool n2, S (dgs L2), .int .i64 e2]) := Lib.hid HH.2.2.1
  have b9 : Hid (Below w.heap.size w wC) := Lib.hid (HH.2.2.2)
  clear HH
  obtain ⟨x0, x1, x2, x3, x4, x5, x6⟩ := Bx.out.three
  obtain ⟨y0, y1, y2, y3, y4, y5, y6⟩ := By.out.three
  obtain ⟨z0, z1, z2, z3, z4, z5, z6⟩ := Bz.out.three
  go_wp2_with fail
  with_reducible refine (CYZ.out _).mono ?_
  rintro x w10 ⟨rfl, hb⟩
  have Cx := Lib.hid (Bx.out.below hb (by have := Bx.out.lt; simp <;> omega))
  have Cy := Lib.hid (By.out.below hb (by have := By.out.lt; simp <;> omega))
  have Cz := Lib.hid (Bz.out.below hb (by have := Bz.out.lt; simp <;> omega))
  have b10 := Lib.hid (b9.out.trans (hb.mono (B' := w.heap.size) (by have := b9.out.size; simp <;> omega)))
  clear x0 x1 x2 x3 x4 x5 x6 y0 y1 y2 y3 y4 y5 y6 z0 z1 z2 z3 z4 z5 z6
  clear hb Bx By Bz
  have Bx : Hid (Box w10 (w5.heap.size) #[.bool n0, S (dgs L0), .int .i64 e0]) := Cx
  have By : Hid (Box w10 (w6.heap.size) #[.bool n1, S (dgs L1), .int .i64 e1]) := Cy
  have Bz : Hid (Box w10 (w7.heap.size) #[.bool n2, S (dgs L2), .int .i64 e2]) := Cz
  clear Cx Cy Cz
  obtain ⟨x0, x1, x2, x3, x4, x5, x6⟩ := Bx.out.three
  obtain ⟨y0, y1, y2, y3, y4, y5, y6⟩ := By.out.three
  obtain ⟨z0, z1, z2, z3, z4, z5, z6⟩ := Bz.out.three
  go_wp2_with fail
  have Q0 : Hid (Held3 w (w5.heap.size) (.bool n0) (S (dgs L0)) (.int .i64 e0) (w6.heap.size) (.bool n1) (S (dgs L1)) (.int .i64 e1) (w7.heap.size) (.bool n2) (S (dgs L2)) (.int .i64 e2) w10) := Lib.hid ⟨Bx.out, By.out, Bz.out, b10.out⟩
  first | (go_region_held3 (fun w' => w'.cell? ⟨w5.heap.size, 0, none⟩ = some (.bool n0) ∧ w'.cell? ⟨w5.heap.size, 1, none⟩ = some (S (dgs L0)) ∧ w'.cell? ⟨w5.heap.size, 2, none⟩ = some (.int .i64 e0) ∧ w'.cell? ⟨w6.heap.size, 0, none⟩ = some (.bool n1) ∧ w'.cell? ⟨w6.heap.size, 1, none⟩ = some (S (dgs L1)) ∧ w'.cell? ⟨w6.heap.size, 2, none⟩ = some (.int .i64 e1) ∧ w'.cell? ⟨w7.heap.size, 0, none⟩ = some (.bool n2) ∧ w'.cell? ⟨w7.heap.size, 1, none⟩ = some (S (dgs L2)) ∧ w'.cell? ⟨w7.heap.size, 2, none⟩ = some (.int .i64 e2) ∧ Held3 w (w5.heap.size) (.bool n0) (S (dgs L0)) (.int .i64 e0) (w6.heap.size) (.bool n1) (S (dgs L1)) (.int .i64 e1) (w7.heap.size) (.bool n2) (S (dgs L2)) (.int .i64 e2) w')
    (first | exact Held3.all (Held3.drew Q0.out) | exact Held3.keep (by assumption) hb | assumption)
    (first | (go_at_call 36; (with_reducible refine (CBax.out _).mono ?_); rintro v wJ ⟨rfl, hb⟩) | (go_at_call 36; (with_reducible refine (CBay.out _).mono ?_); rintro v wK ⟨rfl, hb⟩) | (go_at_call 21; (with_reducible refine (CPax.out _).mono ?_); rintro v wL ⟨rfl, hb⟩) | (go_at_call 21; (with_reducible refine (CPay.out _).mono ?_); rintro v wM ⟨rfl, hb⟩) | (go_at_call 20; (with_reducible refine (CNC.out _).mono ?_); rintro v wN ⟨rfl, hb⟩))) | fail
  have HH := (‹wN.cell? ⟨w5.heap.size, 0, none⟩ = some (.bool n0) ∧ _›)
  obtain ⟨_, _, _, _, _, _, _, _, _, HH⟩ := HH
  clear x0 x1 x2 x3 x4 x5 x6 y0 y1 y2 y3 y4 y5 y6 z0 z1 z2 z3 z4 z5 z6
  clear Q0 Bx By Bz
  have Bx : Hid (Box wN (w5.heap.size) #[.bool n0, S (dgs L0), .int .i64 e0]) := Lib.hid HH.1
  have By : Hid (Box wN (w6.heap.size) #[.bool n1, S (dgs L1), .int .i64 e1]) := Lib.hid HH.2.1
  have Bz : Hid (Box wN (w7.heap.size) #[.bool n2, S (dgs L2), .int .i64 e2]) := Lib.hid HH.2.2.1
  have b11 : Hid (Below w.heap.size w wN) := Lib.hid (HH.2.2.2)
  clear HH
  obtain ⟨x0, x1, x2, x3, x4, x5, x6⟩ := Bx.out.three
  obtain ⟨y0, y1, y2, y3, y4, y5, y6⟩ := By.out.three
  obtain ⟨z0, z1, z2, z3, z4, z5, z6⟩ := Bz.out.three
  go_wp2_with fail
  have Q0 : Hid (Held3 w (w5.heap.size) (.bool n0) (S (dgs L0)) (.int .i64 e0) (w6.heap.size) (.bool n1) (S (dgs L1)) (.int .i64 e1) (w7.heap.size) (.bool n2) (S (dgs L2)) (.int .i64 e2) wN) := Lib.hid ⟨Bx.out, By.out, Bz.out, b11.out⟩
  first | (go_region_held3 (fun w' => w'.cell? ⟨w5.heap.size, 0, none⟩ = some (.bool n0) ∧ w'.cell? ⟨w5.heap.size, 1, none⟩ = some (S (dgs L0)) ∧ w'.cell? ⟨w5.heap.size, 2, none⟩ = some (.int .i64 e0) ∧ w'.cell? ⟨w6.heap.size, 0, none⟩ = some (.bool n1) ∧ w'.cell? ⟨w6.heap.size, 1, none⟩ = some (S (dgs L1)) ∧ w'.cell? ⟨w6.heap.size, 2, none⟩ = some (.int .i64 e1) ∧ w'.cell? ⟨w7.heap.size, 0, none⟩ = some (.bool n2) ∧ w'.cell? ⟨w7.heap.size, 1, none⟩ = some (S (dgs L2)) ∧ w'.cell? ⟨w7.heap.size, 2, none⟩ = some (.int .i64 e2) ∧ Held3 w (w5.heap.size) (.bool n0) (S (dgs L0)) (.int .i64 e0) (w6.heap.size) (.bool n1) (S (dgs L1)) (.int .i64 e1) (w7.heap.size) (.bool n2) (S (dgs L2)) (.int .i64 e2) w')
    (first | exact Held3.all (Held3.drew Q0.out) | exact Held3.keep (by assumption) hb | assumption)
    (first | (go_at_call 36; (with_reducible refine (CBax.out _).mono ?_); rintro v wO ⟨rfl, hb⟩) | (go_at_call 36; (with_reducible refine (CBay.out _).mono ?_); rintro v wP ⟨rfl, hb⟩) | (go_at_call 35; (with_reducible refine (CAA.out _).mono ?_); rintro v wQ ⟨rfl, hb⟩) | (go_at_call 35; (with_reducible refine (CA0.out _).mono ?_); rintro v wR ⟨rfl, hb⟩) | (go_at_call 32; (with_reducible refine (CMmx.out _).mono ?_); rintro v wS ⟨rfl, hb⟩) | (go_at_call 32; (with_reducible refine (CMX.out _).mono ?_); rintro v wT ⟨rfl, hb⟩) | (go_at_call 14; (with_reducible refine (CNdx.out _).mono ?_); rintro v wU ⟨rfl, hb⟩))) | fail
  have HH := (‹wU.cell? ⟨w5.heap.size, 0, none⟩ = some (.bool n0) ∧ _›)
  obtain ⟨_, _, _, _, _, _, _, _, _, HH⟩ := HH
  clear x0 x1 x2 x3 x4 x5 x6 y0 y1 y2 y3 y4 y5 y6 z0 z1 z2 z3 z4 z5 z6
  clear Q0 Bx By Bz
  have Bx : Hid (Box wU (w5.heap.size) #[.bool n0, S (dgs L0), .int .i64 e0]) := Lib.hid HH.1
  have By : Hid (Box wU (w6.heap.size) #[.bool n1, S (dgs L1), .int .i64 e1]) := Lib.hid HH.2.1
  have Bz : Hid (Box wU (w7.heap.size) #[.bool n2, S (dgs L2), .int .i64 e2]) := Lib.hid HH.2.2.1
  have b12 : Hid (Below w.heap.size w wU) := Lib.hid (HH.2.2.2)
  clear HH
  go_wp2
  go_ret
  exact ⟨rfl, b12.out⟩

end Go.Proofs.YtlppofjmkepceaaDoor
