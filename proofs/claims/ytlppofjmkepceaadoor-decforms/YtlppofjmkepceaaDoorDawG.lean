/- The walk of the law DecForms. -/
import Derived.Test.YtlppofjmkepceaaDoorDawC0
namespace Go.Proofs.YtlppofjmkepceaaDoor
open Go.RowKit Florin
set_option linter.unusedVariables false
set_option linter.unusedSimpArgs false

set_option maxRecDepth 100000 in
set_option maxHeartbeats 6400000 in
theorem forms_oz (n0 : Bool) (a0 : Option Addr) (len0 cap0 : Nat) (L0 : List UInt8) (e0 : Int) (odd : ByteArray) (w : World) (hin0 : InB w a0 len0 cap0 L0) (htab : Tab w) (g0 : len0 ≤ 60) (lo0 : -60 ≤ e0) (hi0 : e0 ≤ 60) (ho : odd.size ≤ 60) (X : Int) (hX : Dv 60 X ⟨n0, dgs L0, e0⟩) (bX : X.natAbs < 10 ^ 200) (vX : val (dgs L0 ++ zs (e0 + 60).toNat) = X.natAbs) (hodd : isDig odd.data.toList = true) (hz : X = 0) :
    Calls Tryd.prog 3 #[RV n0 a0 len0 cap0 e0, .string odd] w fun x w' => x = .returned (.bool true) ∧ Below w.heap.size w w' := by
  have l0 : (dgs L0).length ≤ 60 := by rw [dgs_length, hin0.1]; exact g0
  have p200 : 10 ^ 200 < 10 ^ 240 := by decide
  have fx : Fit 60 X := fit60 (by omega)
  obtain ⟨d, hd⟩ : ∃ d, nf 60 X = d := ⟨_, rfl⟩
  have md : made n0 (dgs L0) e0 = d := by rw [← hd]; exact hX.made fx
  have mdd : made d.neg d.l d.e = d := by rw [← hd]; exact nf_made fx
  have dl : d.l.length ≤ 240 := by rw [← hd]; exact nf_length (by omega)
  have de1 : -60 ≤ d.e := by rw [← hd]; exact (nf_bounds fx).1
  have de2 : d.e ≤ 30000 := by rw [← hd]; exact (nf_bounds fx).2
  have dz : d.l.isEmpty = true := by rw [← hd, (nf_l_nil fx).2 hz]; rfl
  have CNR : Hid (∀ w : World, Calls Tryd.prog 15 #[V d] w fun z w' => z = .returned (.bool true) ∧ Below w.heap.size w w') := Lib.hid fun w => normal_as d w (by omega) (by rw [← md]; exact made_nrm _ _ _)
  have CMA : Hid (∀ w : World, Calls Tryd.prog 16 #[.bool n0, S (dgs L0), .int .i64 e0] w fun z w' => z = .returned (V d) ∧ Below w.heap.size w w') := Lib.hid fun w => made_as n0 ⟨(dgs L0).toArray⟩ e0 w (by rw [arr_size]; omega) d (by rw [arr_list]; exact md)
  have CNO : Hid (∀ w : World, Calls Tryd.prog 14 #[.agg #[.bool n0, S (dgs L0), .int .i64 e0]] w fun z w' => z = .returned (V d) ∧ Below w.heap.size w w') := Lib.hid fun w => norm_as n0 ⟨(dgs L0).toArray⟩ e0 w (by rw [arr_size]; omega) d (by rw [arr_list]; exact md)
  have CND : Hid (∀ w : World, Calls Tryd.prog 14 #[V d] w fun z w' => z = .returned (V d) ∧ Below w.heap.size w w') := Lib.hid fun w => norm_as d.neg ⟨d.l.toArray⟩ d.e w (by rw [arr_size]; omega) d (by rw [arr_list]; exact mdd)
  have CZD : Hid (∀ w : World, Calls Tryd.prog 17 #[V d] w fun z w' => z = .returned (.bool true) ∧ Below w.heap.size w w') := Lib.hid fun w => zero_as d.neg ⟨d.l.toArray⟩ d.e w (by rw [arr_size]; omega) d (by rw [arr_list]; exact mdd) true dz
  have CZX : Hid (∀ w : World, Calls Tryd.prog 17 #[.agg #[.bool n0, S (dgs L0), .int .i64 e0]] w fun z w' => z = .returned (.bool true) ∧ Below w.heap.size w w') := Lib.hid fun w => zero_as n0 ⟨(dgs L0).toArray⟩ e0 w (by rw [arr_size]; omega) d (by rw [arr_list]; exact md) true dz
  obtain ⟨tb, htb⟩ : ∃ tb, bare (dgs L0) = tb := ⟨_, rfl⟩
  have CTR : Hid (∀ w : World, Calls Tryd.prog 18 #[S (dgs L0)] w fun z w' => z = .returned (S tb) ∧ w = w') := Lib.hid fun w => by have h := trim_bare ⟨(dgs L0).toArray⟩ w (by rw [arr_size]; unfold maxLen; omega); rw [arr_list, htb] at h; exact h
  have hv0 : X.natAbs = val (dgs L0) * 10 ^ (e0 + 60).toNat := by rw [← vX, val_app_zs]
  have tz : tb.isEmpty = true := by rw [← htb, bare_dig (isDig_dgs L0)]; rw [show val (dgs L0) = 0 by rw [hz] at hv0; have hp := pow_pos' (e0 + 60).toNat; rcases Nat.eq_zero_or_pos (val (dgs L0)) with h | h; exact h; have := Nat.mul_pos h hp; omega, dig_zero]; rfl
  have CPD : Hid (∀ w : World, Calls Tryd.prog 21 #[V d, .int .i64 60] w fun z w' => z = .returned (S (d.l ++ zs (d.e + 60).toNat)) ∧ Below w.heap.size w w') := Lib.hid fun w => places_any d.neg ⟨d.l.toArray⟩ d.e 60 w (by rw [arr_size]; omega) (by decide) (by omega) (by omega)
  have CPX : Hid (∀ w : World, Calls Tryd.prog 21 #[.agg #[.bool n0, S (dgs L0), .int .i64 e0], .int .i64 60] w fun z w' => z = .returned (S (dgs L0 ++ zs (e0 + 60).toNat)) ∧ Below w.heap.size w w') := Lib.hid fun w => places_any n0 ⟨(dgs L0).toArray⟩ e0 60 w (by rw [arr_size]; omega) (by decide) (by omega) (by omega)
  have IX : isDig (dgs L0 ++ zs (e0 + 60).toNat) = true := by rw [isDig_append, isDig_dgs, isDig_zs]; rfl
  have ID : isDig (d.l ++ zs (d.e + 60).toNat) = true := by rw [isDig_append, isDig_zs, ← hd, nf_isDig]; rfl
  have kx : (dgs L0 ++ zs (e0 + 60).toNat).length ≤ 200 := by rw [List.length_append, zs_length]; omega
  have kd : (d.l ++ zs (d.e + 60).toNat).length ≤ 40000 := by rw [List.length_append, zs_length]; omega
  have VD : val (d.l ++ zs (d.e + 60).toNat) = X.natAbs := by rw [← hd]; exact nf_places fx
  have CCM : Hid (∀ w : World, Calls Tryd.prog 20 #[S (d.l ++ zs (d.e + 60).toNat), S (dgs L0 ++ zs (e0 + 60).toNat)] w fun z w' => z = .returned (.int .i64 0) ∧ Below w.heap.size w w') := Lib.hid fun w => by have h := cmpS (d.l ++ zs (d.e + 60).toNat) (dgs L0 ++ zs (e0 + 60).toNat) w (by omega) (by omega) ID IX; rw [VD, vX, compareInt_self] at h; exact h
  have HO := Lib.hid hodd
  have HT := Lib.hid htab
  have HIN0 := Lib.hid hin0
  have hc0 := hin0.2.1
  have hm0 := hin0.2.2.1
  have hfl := fieldL
  clear htab hin0 hX bX vX p200 fx hd md mdd htb hv0 IX ID VD hodd hz
  go_enter Tryd.func3, Tryd.ntmps3
  go_wp2_with fail
  with_reducible refine (headD _ (HT.out.below ((Below.refl w.heap.size w).alloc (by simp <;> omega) _))).mono ?_
  rintro x w1 ⟨rfl, hb⟩
  have Cr := Lib.hid (((Box.new w #[.bool n0, .slice a0 len0 cap0, .int .i64 e0] 24).at (b' := w.heap.size) (by simp)).below hb (by simp <;> omega))
  have b1 := Lib.hid (((Below.refl w.heap.size w).alloc (by simp <;> omega) _).trans (hb.mono (B' := w.heap.size) (by simp <;> omega)))
  clear hb
  have Br : Hid (Box w1 (w.heap.size) #[.bool n0, .slice a0 len0 cap0, .int .i64 e0]) := Cr
  clear Cr
  obtain ⟨r0, r1, r2, r3, r4, r5, r6⟩ := Br.out.three
  go_wp2_with fail
  with_reducible refine (few_yes n0 a0 len0 cap0 e0 60 _ hc0 hm0 (by decide) (by decide) (by omega) lo0 hi0).mono ?_
  rintro x w2 ⟨rfl, hb⟩
  have Cr := Lib.hid (Br.out.below hb (by have := Br.out.lt; simp <;> omega))
  have b2 := Lib.hid (b1.out.trans (hb.mono (B' := w.heap.size) (by have := b1.out.size; simp <;> omega)))
  clear r0 r1 r2 r3 r4 r5 r6
  clear hb Br
  have Br : Hid (Box w2 (w.heap.size) #[.bool n0, .slice a0 len0 cap0, .int .i64 e0]) := Cr
  clear Cr
  obtain ⟨r0, r1, r2, r3, r4, r5, r6⟩ := Br.out.three
  go_wp2_with fail
  with_reducible refine (make_as n0 a0 len0 cap0 L0 e0 _ (HIN0.out.below b2.out) (by omega)).mono ?_
  rintro x w3 ⟨rfl, hb⟩
  have Cr := Lib.hid (Br.out.below hb (by have := Br.out.lt; simp <;> omega))
  have b3 := Lib.hid (b2.out.trans (hb.mono (B' := w.heap.size) (by have := b2.out.size; simp <;> omega)))
  clear r0 r1 r2 r3 r4 r5 r6
  clear hb Br
  have Br : Hid (Box w3 (w.heap.size) #[.bool n0, .slice a0 len0 cap0, .int .i64 e0]) := Cr
  clear Cr
  obtain ⟨r0, r1, r2, r3, r4, r5, r6⟩ := Br.out.three
  go_wp2_with fail
  with_reducible refine (CNO.out _).mono ?_
  rintro x w4 ⟨rfl, hb⟩
  have Cr := Lib.hid ((Br.out.alloc (.cells #[.bool n0, S (dgs L0), .int .i64 e0] 28)).below hb (by have := Br.out.lt; simp <;> omega))
  have Cx := Lib.hid (((Box.new w3 #[.bool n0, S (dgs L0), .int .i64 e0] 28).at (b' := w3.heap.size) (by simp)).below hb (by simp <;> omega))
  have b4 := Lib.hid ((b3.out.alloc (by have := b3.out.size; simp <;> omega) _).trans (hb.mono (B' := w.heap.size) (by have := b3.out.size; simp <;> omega)))
  clear r0 r1 r2 r3 r4 r5 r6
  clear hb Br
  have Br : Hid (Box w4 (w.heap.size) #[.bool n0, .slice a0 len0 cap0, .int .i64 e0]) := Cr
  have Bx : Hid (Box w4 (w3.heap.size) #[.bool n0, S (dgs L0), .int .i64 e0]) := Cx
  clear Cr Cx
  obtain ⟨r0, r1, r2, r3, r4, r5, r6⟩ := Br.out.three
  obtain ⟨x0, x1, x2, x3, x4, x5, x6⟩ := Bx.out.three
  go_wp2_with fail
  have Q0 : Hid (Held3 w (w.heap.size) (.bool n0) (.slice a0 len0 cap0) (.int .i64 e0) (w3.heap.size) (.bool n0) (S (dgs L0)) (.int .i64 e0) (w4.heap.size) (.bool d.neg) (S d.l) (.int .i64 d.e) (w4.alloc (.cells #[.bool d.neg, S d.l, .int .i64 d.e] 28))) := Lib.hid ⟨(Br.out.alloc (.cells #[.bool d.neg, S d.l, .int .i64 d.e] 28)), (Bx.out.alloc (.cells #[.bool d.neg, S d.l, .int .i64 d.e] 28)), ((Box.new w4 #[.bool d.neg, S d.l, .int .i64 d.e] 28).at (b' := w4.heap.size) (by simp)), (b4.out.alloc (by have := b4.out.size; simp <;> omega) _)⟩
  first | (go_region_held3 (fun w' => w'.cell? ⟨w.heap.size, 0, none⟩ = some (.bool n0) ∧ w'.cell? ⟨w.heap.size, 1, none⟩ = some (.slice a0 len0 cap0) ∧ w'.cell? ⟨w.heap.size, 2, none⟩ = some (.int .i64 e0) ∧ w'.cell? ⟨w3.heap.size, 0, none⟩ = some (.bool n0) ∧ w'.cell? ⟨w3.heap.size, 1, none⟩ = some (S (dgs L0)) ∧ w'.cell? ⟨w3.heap.size, 2, none⟩ = some (.int .i64 e0) ∧ w'.cell? ⟨w4.heap.size, 0, none⟩ = some (.bool d.neg) ∧ w'.cell? ⟨w4.heap.size, 1, none⟩ = some (S d.l) ∧ w'.cell? ⟨w4.heap.size, 2, none⟩ = some (.int .i64 d.e) ∧ Held3 w (w.heap.size) (.bool n0) (.slice a0 len0 cap0) (.int .i64 e0) (w3.heap.size) (.bool n0) (S (dgs L0)) (.int .i64 e0) (w4.heap.size) (.bool d.neg) (S d.l) (.int .i64 d.e) w')
    (first | exact Held3.all (Held3.drew Q0.out) | exact Held3.keep (by assumption) hb | assumption)
    (first | (go_at_call 15; (with_reducible refine (CNR.out _).mono ?_); rintro z wA ⟨rfl, hb⟩) | (go_at_call 16; (with_reducible refine (CMA.out _).mono ?_); rintro z wB ⟨rfl, hb⟩) | (go_at_call 14; (with_reducible refine (CND.out _).mono ?_); rintro z wC ⟨rfl, hb⟩) | (go_at_call 17; (with_reducible refine (CZD.out _).mono ?_); rintro z wD ⟨rfl, hb⟩) | (go_at_call 17; (with_reducible refine (CZX.out _).mono ?_); rintro z wE ⟨rfl, hb⟩) | (go_at_call 18; (with_reducible refine (CTR.out _).mono ?_); rintro z wF ⟨rfl, rfl⟩))) | fail
  have HH := (‹wD.cell? ⟨w.heap.size, 0, none⟩ = some (.bool n0) ∧ _›)
  obtain ⟨_, _, _, _, _, _, _, _, _, HH⟩ := HH
  clear r0 r1 r2 r3 r4 r5 r6 x0 x1 x2 x3 x4 x5 x6
  clear Q0 Br Bx
  have Br : Hid (Box wD (w.heap.size) #[.bool n0, .slice a0 len0 cap0, .int .i64 e0]) := Lib.hid HH.1
  have Bx : Hid (Box wD (w3.heap.size) #[.bool n0, S (dgs L0), .int .i64 e0]) := Lib.hid HH.2.1
  have Bm : Hid (Box wD (w4.heap.size) #[.bool d.neg, S d.l, .int .i64 d.e]) := Lib.hid HH.2.2.1
  have b5 : Hid (Below w.heap.size w wD) := Lib.hid (HH.2.2.2)
  clear HH
  obtain ⟨r0, r1, r2, r3, r4, r5, r6⟩ := Br.out.three
  obtain ⟨x0, x1, x2, x3, x4, x5, x6⟩ := Bx.out.three
  obtain ⟨m0, m1, m2, m3, m4, m5, m6⟩ := Bm.out.three
  go_wp2_with fail
  with_reducible refine (is_any odd _ (by unfold maxLen; omega)).mono ?_
  rintro x wz ⟨rfl, rfl⟩
  rw [HO.out]
  go_wp2_with fail
  with_reducible refine (CZD.out _).mono ?_
  rintro x w6 ⟨rfl, hb⟩
  have Cr := Lib.hid (Br.out.below hb (by have := Br.out.lt; simp <;> omega))
  have Cx := Lib.hid (Bx.out.below hb (by have := Bx.out.lt; simp <;> omega))
  have Cm := Lib.hid (Bm.out.below hb (by have := Bm.out.lt; simp <;> omega))
  have b6 := Lib.hid (b5.out.trans (hb.mono (B' := w.heap.size) (by have := b5.out.size; simp <;> omega)))
  clear r0 r1 r2 r3 r4 r5 r6 x0 x1 x2 x3 x4 x5 x6 m0 m1 m2 m3 m4 m5 m6
  clear hb Br Bx Bm
  have Br : Hid (Box w6 (w.heap.size) #[.bool n0, .slice a0 len0 cap0, .int .i64 e0]) := Cr
  have Bx : Hid (Box w6 (w3.heap.size) #[.bool n0, S (dgs L0), .int .i64 e0]) := Cx
  have Bm : Hid (Box w6 (w4.heap.size) #[.bool d.neg, S d.l, .int .i64 d.e]) := Cm
  clear Cr Cx Cm
  obtain ⟨r0, r1, r2, r3, r4, r5, r6⟩ := Br.out.three
  obtain ⟨x0, x1, x2, x3, x4, x5, x6⟩ := Bx.out.three
  obtain ⟨m0, m1, m2, m3, m4, m5, m6⟩ := Bm.out.three
  go_wp2
  go_ret
  exact ⟨rfl, b6.out⟩

set_option maxRecDepth 100000 in
set_option maxHeartbeats 6400000 in
theorem forms_os (n0 : Bool) (a0 : Option Addr) (len0 cap0 : Nat) (L0 : List UInt8) (e0 : Int) (odd : ByteArray) (w : World) (hin0 : InB w a0 len0 cap0 L0) (htab : Tab w) (g0 : len0 ≤ 60) (lo0 : -60 ≤ e0) (hi0 : e0 ≤ 60) (ho : odd.size ≤ 60) (X : Int) (hX : Dv 60 X ⟨n0, dgs L0, e0⟩) (bX : X.natAbs < 10 ^ 200) (vX : val (dgs L0 ++ zs (e0 + 60).toNat) = X.natAbs) (hodd : isDig odd.data.toList = true) (hz : X ≠ 0) :
    Calls Tryd.prog 3 #[RV n0 a0 len0 cap0 e0, .string odd] w fun x w' => x = .returned (.bool true) ∧ Below w.heap.size w w' := by
  have l0 : (dgs L0).length ≤ 60 := by rw [dgs_length, hin0.1]; exact g0
  have p200 : 10 ^ 200 < 10 ^ 240 := by decide
  have fx : Fit 60 X := fit60 (by omega)
  obtain ⟨d, hd⟩ : ∃ d, nf 60 X = d := ⟨_, rfl⟩
  have md : made n0 (dgs L0) e0 = d := by rw [← hd]; exact hX.made fx
  have mdd : made d.neg d.l d.e = d := by rw [← hd]; exact nf_made fx
  have dl : d.l.length ≤ 240 := by rw [← hd]; exact nf_length (by omega)
  have de1 : -60 ≤ d.e := by rw [← hd]; exact (nf_bounds fx).1
  have de2 : d.e ≤ 30000 := by rw [← hd]; exact (nf_bounds fx).2
  have dz : d.l.isEmpty = false := by exact ne_empty (by rw [← hd, Ne, nf_l_nil fx]; exact hz)
  have CNR : Hid (∀ w : World, Calls Tryd.prog 15 #[V d] w fun z w' => z = .returned (.bool true) ∧ Below w.heap.size w w') := Lib.hid fun w => normal_as d w (by omega) (by rw [← md]; exact made_nrm _ _ _)
  have CMA : Hid (∀ w : World, Calls Tryd.prog 16 #[.bool n0, S (dgs L0), .int .i64 e0] w fun z w' => z = .returned (V d) ∧ Below w.heap.size w w') := Lib.hid fun w => made_as n0 ⟨(dgs L0).toArray⟩ e0 w (by rw [arr_size]; omega) d (by rw [arr_list]; exact md)
  have CNO : Hid (∀ w : World, Calls Tryd.prog 14 #[.agg #[.bool n0, S (dgs L0), .int .i64 e0]] w fun z w' => z = .returned (V d) ∧ Below w.heap.size w w') := Lib.hid fun w => norm_as n0 ⟨(dgs L0).toArray⟩ e0 w (by rw [arr_size]; omega) d (by rw [arr_list]; exact md)
  have CND : Hid (∀ w : World, Calls Tryd.prog 14 #[V d] w fun z w' => z = .returned (V d) ∧ Below w.heap.size w w') := Lib.hid fun w => norm_as d.neg ⟨d.l.toArray⟩ d.e w (by rw [arr_size]; omega) d (by rw [arr_list]; exact mdd)
  have CZD : Hid (∀ w : World, Calls Tryd.prog 17 #[V d] w fun z w' => z = .returned (.bool false) ∧ Below w.heap.size w w') := Lib.hid fun w => zero_as d.neg ⟨d.l.toArray⟩ d.e w (by rw [arr_size]; omega) d (by rw [arr_list]; exact mdd) false dz
  have CZX : Hid (∀ w : World, Calls Tryd.prog 17 #[.agg #[.bool n0, S (dgs L0), .int .i64 e0]] w fun z w' => z = .returned (.bool false) ∧ Below w.heap.size w w') := Lib.hid fun w => zero_as n0 ⟨(dgs L0).toArray⟩ e0 w (by rw [arr_size]; omega) d (by rw [arr_list]; exact md) false dz
  obtain ⟨tb, htb⟩ : ∃ tb, bare (dgs L0) = tb := ⟨_, rfl⟩
  have CTR : Hid (∀ w : World, Calls Tryd.prog 18 #[S (dgs L0)] w fun z w' => z = .returned (S tb) ∧ w = w') := Lib.hid fun w => by have h := trim_bare ⟨(dgs L0).toArray⟩ w (by rw [arr_size]; unfold maxLen; omega); rw [arr_list, htb] at h; exact h
  have hv0 : X.natAbs = val (dgs L0) * 10 ^ (e0 + 60).toNat := by rw [← vX, val_app_zs]
  have tz : tb.isEmpty = false := by rw [← htb, bare_dig (isDig_dgs L0)]; exact ne_empty (by rw [Ne, dig_eq_nil]; intro h; rw [h, Nat.zero_mul] at hv0; omega)
  have CPD : Hid (∀ w : World, Calls Tryd.prog 21 #[V d, .int .i64 60] w fun z w' => z = .returned (S (d.l ++ zs (d.e + 60).toNat)) ∧ Below w.heap.size w w') := Lib.hid fun w => places_any d.neg ⟨d.l.toArray⟩ d.e 60 w (by rw [arr_size]; omega) (by decide) (by omega) (by omega)
  have CPX : Hid (∀ w : World, Calls Tryd.prog 21 #[.agg #[.bool n0, S (dgs L0), .int .i64 e0], .int .i64 60] w fun z w' => z = .returned (S (dgs L0 ++ zs (e0 + 60).toNat)) ∧ Below w.heap.size w w') := Lib.hid fun w => places_any n0 ⟨(dgs L0).toArray⟩ e0 60 w (by rw [arr_size]; omega) (by decide) (by omega) (by omega)
  have IX : isDig (dgs L0 ++ zs (e0 + 60).toNat) = true := by rw [isDig_append, isDig_dgs, isDig_zs]; rfl
  have ID : isDig (d.l ++ zs (d.e + 60).toNat) = true := by rw [isDig_append, isDig_zs, ← hd, nf_isDig]; rfl
  have kx : (dgs L0 ++ zs (e0 + 60).toNat).length ≤ 200 := by rw [List.length_append, zs_length]; omega
  have kd : (d.l ++ zs (d.e + 60).toNat).length ≤ 40000 := by rw [List.length_append, zs_length]; omega
  have VD : val (d.l ++ zs (d.e + 60).toNat) = X.natAbs := by rw [← hd]; exact nf_places fx
  have CCM : Hid (∀ w : World, Calls Tryd.prog 20 #[S (d.l ++ zs (d.e + 60).toNat), S (dgs L0 ++ zs (e0 + 60).toNat)] w fun z w' => z = .returned (.int .i64 0) ∧ Below w.heap.size w w') := Lib.hid fun w => by have h := cmpS (d.l ++ zs (d.e + 60).toNat) (dgs L0 ++ zs (e0 + 60).toNat) w (by omega) (by omega) ID IX; rw [VD, vX, compareInt_self] at h; exact h
  have hnx := hX.num
  simp only at hnx
  have sx : n0 = decide (X < 0) := by rw [← hnx]; exact (sg_neg n0 (by intro h; rw [h, sg_zero] at hnx; exact hz hnx.symm)).symm
  have hsn : (d.neg == n0) = true := by rw [← hd, nf_neg fx, sx]; simp
  clear hnx sx
  have HO := Lib.hid hodd
  have HT := Lib.hid htab
  have HIN0 := Lib.hid hin0
  have hc0 := hin0.2.1
  have hm0 := hin0.2.2.1
  have hfl := fieldL
  clear htab hin0 hX bX vX p200 fx hd md mdd htb hv0 IX ID VD hodd hz
  go_enter Tryd.func3, Tryd.ntmps3
  go_wp2_with fail
  with_reducible refine (headD _ (HT.out.below ((Below.refl w.heap.size w).alloc (by simp <;> omega) _))).mono ?_
  rintro x w1 ⟨rfl, hb⟩
  have Cr := Lib.hid (((Box.new w #[.bool n0, .slice a0 len0 cap0, .int .i64 e0] 24).at (b' := w.heap.size) (by simp)).below hb (by simp <;> omega))
  have b1 := Lib.hid (((Below.refl w.heap.size w).alloc (by simp <;> omega) _).trans (hb.mono (B' := w.heap.size) (by simp <;> omega)))
  clear hb
  have Br : Hid (Box w1 (w.heap.size) #[.bool n0, .slice a0 len0 cap0, .int .i64 e0]) := Cr
  clear Cr
  obtain ⟨r0, r1, r2, r3, r4, r5, r6⟩ := Br.out.three
  go_wp2_with fail
  with_reducible refine (few_yes n0 a0 len0 cap0 e0 60 _ hc0 hm0 (by decide) (by decide) (by omega) lo0 hi0).mono ?_
  rintro x w2 ⟨rfl, hb⟩
  have Cr := Lib.hid (Br.out.below hb (by have := Br.out.lt; simp <;> omega))
  have b2 := Lib.hid (b1.out.trans (hb.mono (B' := w.heap.size) (by have := b1.out.size; simp <;> omega)))
  clear r0 r1 r2 r3 r4 r5 r6
  clear hb Br
  have Br : Hid (Box w2 (w.heap.size) #[.bool n0, .slice a0 len0 cap0, .int .i64 e0]) := Cr
  clear Cr
  obtain ⟨r0, r1, r2, r3, r4, r5, r6⟩ := Br.out.three
  go_wp2_with fail
  with_reducible refine (make_as n0 a0 len0 cap0 L0 e0 _ (HIN0.out.below b2.out) (by omega)).mono ?_
  rintro x w3 ⟨rfl, hb⟩
  have Cr := Lib.hid (Br.out.below hb (by have := Br.out.lt; simp <;> omega))
  have b3 := Lib.hid (b2.out.trans (hb.mono (B' := w.heap.size) (by have := b2.out.size; simp <;> omega)))
  clear r0 r1 r2 r3 r4 r5 r6
  clear hb Br
  have Br : Hid (Box w3 (w.heap.size) #[.bool n0, .slice a0 len0 cap0, .int .i64 e0]) := Cr
  clear Cr
  obtain ⟨r0, r1, r2, r3, r4, r5, r6⟩ := Br.out.three
  go_wp2_with fail
  with_reducible refine (CNO.out _).mono ?_
  rintro x w4 ⟨rfl, hb⟩
  have Cr := Lib.hid ((Br.out.alloc (.cells #[.bool n0, S (dgs L0), .int .i64 e0] 28)).below hb (by have := Br.out.lt; simp <;> omega))
  have Cx := Lib.hid (((Box.new w3 #[.bool n0, S (dgs L0), .int .i64 e0] 28).at (b' := w3.heap.size) (by simp)).below hb (by simp <;> omega))
  have b4 := Lib.hid ((b3.out.alloc (by have := b3.out.size; simp <;> omega) _).trans (hb.mono (B' := w.heap.size) (by have := b3.out.size; simp <;> omega)))
  clear r0 r1 r2 r3 r4 r5 r6
  clear hb Br
  have Br : Hid (Box w4 (w.heap.size) #[.bool n0, .slice a0 len0 cap0, .int .i64 e0]) := Cr
  have Bx : Hid (Box w4 (w3.heap.size) #[.bool n0, S (dgs L0), .int .i64 e0]) := Cx
  clear Cr Cx
  obtain ⟨r0, r1, r2, r3, r4, r5, r6⟩ := Br.out.three
  obtain ⟨x0, x1, x2, x3, x4, x5, x6⟩ := Bx.out.three
  go_wp2_with fail
  have Q0 : Hid (Held3 w (w.heap.size) (.bool n0) (.slice a0 len0 cap0) (.int .i64 e0) (w3.heap.size) (.bool n0) (S (dgs L0)) (.int .i64 e0) (w4.heap.size) (.bool d.neg) (S d.l) (.int .i64 d.e) (w4.alloc (.cells #[.bool d.neg, S d.l, .int .i64 d.e] 28))) := Lib.hid ⟨(Br.out.alloc (.cells #[.bool d.neg, S d.l, .int .i64 d.e] 28)), (Bx.out.alloc (.cells #[.bool d.neg, S d.l, .int .i64 d.e] 28)), ((Box.new w4 #[.bool d.neg, S d.l, .int .i64 d.e] 28).at (b' := w4.heap.size) (by simp)), (b4.out.alloc (by have := b4.out.size; simp <;> omega) _)⟩
  first | (go_region_held3 (fun w' => w'.cell? ⟨w.heap.size, 0, none⟩ = some (.bool n0) ∧ w'.cell? ⟨w.heap.size, 1, none⟩ = some (.slice a0 len0 cap0) ∧ w'.cell? ⟨w.heap.size, 2, none⟩ = some (.int .i64 e0) ∧ w'.cell? ⟨w3.heap.size, 0, none⟩ = some (.bool n0) ∧ w'.cell? ⟨w3.heap.size, 1, none⟩ = some (S (dgs L0)) ∧ w'.cell? ⟨w3.heap.size, 2, none⟩ = some (.int .i64 e0) ∧ w'.cell? ⟨w4.heap.size, 0, none⟩ = some (.bool d.neg) ∧ w'.cell? ⟨w4.heap.size, 1, none⟩ = some (S d.l) ∧ w'.cell? ⟨w4.heap.size, 2, none⟩ = some (.int .i64 d.e) ∧ Held3 w (w.heap.size) (.bool n0) (.slice a0 len0 cap0) (.int .i64 e0) (w3.heap.size) (.bool n0) (S (dgs L0)) (.int .i64 e0) (w4.heap.size) (.bool d.neg) (S d.l) (.int .i64 d.e) w')
    (first | exact Held3.all (Held3.drew Q0.out) | exact Held3.keep (by assumption) hb | assumption)
    (first | (go_at_call 15; (with_reducible refine (CNR.out _).mono ?_); rintro z wA ⟨rfl, hb⟩) | (go_at_call 16; (with_reducible refine (CMA.out _).mono ?_); rintro z wB ⟨rfl, hb⟩) | (go_at_call 14; (with_reducible refine (CND.out _).mono ?_); rintro z wC ⟨rfl, hb⟩) | (go_at_call 17; (with_reducible refine (CZD.out _).mono ?_); rintro z wD ⟨rfl, hb⟩) | (go_at_call 17; (with_reducible refine (CZX.out _).mono ?_); rintro z wE ⟨rfl, hb⟩) | (go_at_call 18; (with_reducible refine (CTR.out _).mono ?_); rintro z wF ⟨rfl, rfl⟩))) | fail
  have HH := (‹wD.cell? ⟨w.heap.size, 0, none⟩ = some (.bool n0) ∧ _›)
  obtain ⟨_, _, _, _, _, _, _, _, _, HH⟩ := HH
  clear r0 r1 r2 r3 r4 r5 r6 x0 x1 x2 x3 x4 x5 x6
  clear Q0 Br Bx
  have Br : Hid (Box wD (w.heap.size) #[.bool n0, .slice a0 len0 cap0, .int .i64 e0]) := Lib.hid HH.1
  have Bx : Hid (Box wD (w3.heap.size) #[.bool n0, S (dgs L0), .int .i64 e0]) := Lib.hid HH.2.1
  have Bm : Hid (Box wD (w4.heap.size) #[.bool d.neg, S d.l, .int .i64 d.e]) := Lib.hid HH.2.2.1
  have b5 : Hid (Below w.heap.size w wD) := Lib.hid (HH.2.2.2)
  clear HH
  obtain ⟨r0, r1, r2, r3, r4, r5, r6⟩ := Br.out.three
  obtain ⟨x0, x1, x2, x3, x4, x5, x6⟩ := Bx.out.three
  obtain ⟨m0, m1, m2, m3, m4, m5, m6⟩ := Bm.out.three
  go_wp2_with fail
  with_reducible refine (is_any odd _ (by unfold maxLen; omega)).mono ?_
  rintro x wz ⟨rfl, rfl⟩
  rw [HO.out]
  go_wp2_with fail
  with_reducible refine (CZD.out _).mono ?_
  rintro x w6 ⟨rfl, hb⟩
  have Cr := Lib.hid (Br.out.below hb (by have := Br.out.lt; simp <;> omega))
  have Cx := Lib.hid (Bx.out.below hb (by have := Bx.out.lt; simp <;> omega))
  have Cm := Lib.hid (Bm.out.below hb (by have := Bm.out.lt; simp <;> omega))
  have b6 := Lib.hid (b5.out.trans (hb.mono (B' := w.heap.size) (by have := b5.out.size; simp <;> omega)))
  clear r0 r1 r2 r3 r4 r5 r6 x0 x1 x2 x3 x4 x5 x6 m0 m1 m2 m3 m4 m5 m6
  clear hb Br Bx Bm
  have Br : Hid (Box w6 (w.heap.size) #[.bool n0, .slice a0 len0 cap0, .int .i64 e0]) := Cr
  have Bx : Hid (Box w6 (w3.heap.size) #[.bool n0, S (dgs L0), .int .i64 e0]) := Cx
  have Bm : Hid (Box w6 (w4.heap.size) #[.bool d.neg, S d.l, .int .i64 d.e]) := Cm
  clear Cr Cx Cm
  obtain ⟨r0, r1, r2, r3, r4, r5, r6⟩ := Br.out.three
  obtain ⟨x0, x1, x2, x3, x4, x5, x6⟩ := Bx.out.three
  obtain ⟨m0, m1, m2, m3, m4, m5, m6⟩ := Bm.out.three
  go_wp2_with fail
  have Q0 : Hid (Held3 w (w.heap.size) (.bool n0) (.slice a0 len0 cap0) (.int .i64 e0) (w3.heap.size) (.bool n0) (S (dgs L0)) (.int .i64 e0) (w4.heap.size) (.bool d.neg) (S d.l) (.int .i64 d.e) w6) := Lib.hid ⟨Br.out, Bx.out, Bm.out, b6.out⟩
  first | (go_region_held3 (fun w' => w'.cell? ⟨w.heap.size, 0, none⟩ = some (.bool n0) ∧ w'.cell? ⟨w.heap.size, 1, none⟩ = some (.slice a0 len0 cap0) ∧ w'.cell? ⟨w.heap.size, 2, none⟩ = some (.int .i64 e0) ∧ w'.cell? ⟨w3.heap.size, 0, none⟩ = some (.bool n0) ∧ w'.cell? ⟨w3.heap.size, 1, none⟩ = some (S (dgs L0)) ∧ w'.cell? ⟨w3.heap.size, 2, none⟩ = some (.int .i64 e0) ∧ w'.cell? ⟨w4.heap.size, 0, none⟩ = some (.bool d.neg) ∧ w'.cell? ⟨w4.heap.size, 1, none⟩ = some (S d.l) ∧ w'.cell? ⟨w4.heap.size, 2, none⟩ = some (.int .i64 d.e) ∧ Held3 w (w.heap.size) (.bool n0) (.slice a0 len0 cap0) (.int .i64 e0) (w3.heap.size) (.bool n0) (S (dgs L0)) (.int .i64 e0) (w4.heap.size) (.bool d.neg) (S d.l) (.int .i64 d.e) w')
    (first | exact Held3.all (Held3.drew Q0.out) | exact Held3.keep (by assumption) hb | assumption)
    (first | (go_at_call 21; (with_reducible refine (CPD.out _).mono ?_); rintro z wG ⟨rfl, hb⟩) | (go_at_call 21; (with_reducible refine (CPX.out _).mono ?_); rintro z wH ⟨rfl, hb⟩) | (go_at_call 20; (with_reducible refine (CCM.out _).mono ?_); rintro z wI ⟨rfl, hb⟩))) | fail
  have HH := (‹wI.cell? ⟨w.heap.size, 0, none⟩ = some (.bool n0) ∧ _›)
  obtain ⟨_, _, _, _, _, _, _, _, _, HH⟩ := HH
  clear r0 r1 r2 r3 r4 r5 r6 x0 x1 x2 x3 x4 x5 x6 m0 m1 m2 m3 m4 m5 m6
  clear Q0 Br Bx Bm
  have Br : Hid (Box wI (w.heap.size) #[.bool n0, .slice a0 len0 cap0, .int .i64 e0]) := Lib.hid HH.1
  have Bx : Hid (Box wI (w3.heap.size) #[.bool n0, S (dgs L0), .int .i64 e0]) := Lib.hid HH.2.1
  have Bm : Hid (Box wI (w4.heap.size) #[.bool d.neg, S d.l, .int .i64 d.e]) := Lib.hid HH.2.2.1
  have b7 : Hid (Below w.heap.size w wI) := Lib.hid (HH.2.2.2)
  clear HH
  go_wp2
  go_ret
  exact ⟨rfl, b7.out⟩

end Go.Proofs.YtlppofjmkepceaaDoor
