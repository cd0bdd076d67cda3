/- The walk of the law DecParses, by what the text is. -/
import Derived.Test.YtlppofjmkepceaaDoorDawP0
import Derived.Test.YtlppofjmkepceaaDoorDawC0
namespace Go.Proofs.YtlppofjmkepceaaDoor
open Go.RowKit Florin
set_option linter.unusedVariables false
set_option linter.unusedSimpArgs false

set_option maxRecDepth 100000 in
set_option maxHeartbeats 3200000 in
theorem ps_10D (n : Bool) (aw : Option Addr) (lw cw : Nat) (LW : List UInt8) (ap : Option Addr) (lp cp : Nat) (LP : List UInt8) (e sg nt : Int) (w : World) (hw : InB w aw lw cw LW) (hp : InB w ap lp cp LP) (htab : Tab w) (h1 : lw ≤ 1100) (h2 : lp ≤ 1100) (h3 : 0 < lw) (h5 : -11000 ≤ e) (h6 : e ≤ 11000) (h4 : 0 < lp) (h7 : 1000 < lw + lp) (TX : List UInt8) (CW : ∀ w1, Below w.heap.size w w1 → Calls Tryd.prog 23 #[TV n aw lw cw ap lp cp true e sg nt false] w1 fun x w2 => x = .returned (S TX) ∧ Below w1.heap.size w1 w2) (CP : ∀ w1 : World, Calls Tryd.prog 22 #[S TX] w1 fun x w2 => x = .returned (.tuple #[V zero, .int .i64 2]) ∧ Below w1.heap.size w1 w2) :
    Calls Tryd.prog 4 #[TV n aw lw cw ap lp cp true e sg nt false] w fun x w' => x = .returned (.bool true) ∧ Below w.heap.size w w' := by
  have l1 : (dgs LW).length = lw := by rw [dgs_length, hw.1]
  have l2 : (dgs LP).length = lp := by rw [dgs_length, hp.1]
  have hc1 := hw.2.1
  have hm1 := hw.2.2.1
  have hc2 := hp.2.1
  have hm2 := hp.2.2.1
  unfold maxLen at hm1 hm2
  have HW := Lib.hid hw
  have HP := Lib.hid hp
  have HT := Lib.hid htab
  have HCW := Lib.hid CW
  have HCP := Lib.hid CP
  have hz : V zero = .agg #[.bool false, .string ⟨#[]⟩, .int .i64 0] := rfl
  have HCZ : Hid (∀ w1 : World, Calls Tryd.prog 22 #[S TX] w1 fun x w2 => x = .returned (.tuple #[.agg #[.bool false, .string ⟨#[]⟩, .int .i64 0], .int .i64 2]) ∧ Below w1.heap.size w1 w2) := Lib.hid CP
  clear hz
  clear hw hp htab CW CP
  have q1 : decide ((1100 : Int) < (lw : Int)) = false := by simp; omega
  have q2 : decide ((1100 : Int) < (lp : Int)) = false := by simp; omega
  have q3 : ((lw : Int) == 0) = false := by simp; omega
  have q4 : ((lp : Int) == 0) = false := by simp; omega
  have q5 : decide (e < -11000) = false := by simp; omega
  have q6 : decide (11000 < e) = false := by simp; omega
  go_enter Tryd.func4, Tryd.ntmps4
  go_wp2_with fail
  with_reducible refine (headD _ (HT.out.below ((Below.refl w.heap.size w).alloc (by simp <;> omega) _))).mono ?_
  rintro x w1 ⟨rfl, hb⟩
  have Ct := Lib.hid (((Box.new w #[.bool n, .slice aw lw cw, .slice ap lp cp, .bool true, .int .i64 e, .int .i64 sg, .int .i64 nt, .bool false] 38).at (b' := w.heap.size) (by simp)).below hb (by simp <;> omega))
  have b1 := Lib.hid (((Below.refl w.heap.size w).alloc (by simp <;> omega) _).trans (hb.mono (B' := w.heap.size) (by simp <;> omega)))
  clear hb
  have Bt : Hid (Box w1 (w.heap.size) #[.bool n, .slice aw lw cw, .slice ap lp cp, .bool true, .int .i64 e, .int .i64 sg, .int .i64 nt, .bool false]) := Ct
  clear Ct
  obtain ⟨t0, t1, t2, t3, t4, t5, t6, t7, t8⟩ := Bt.out.eight
  go_wp2_with fail
  with_reducible refine (HCW.out _ b1.out).mono ?_
  rintro x w2 ⟨rfl, hb⟩
  have Ct := Lib.hid (Bt.out.below hb (by have := Bt.out.lt; simp <;> omega))
  have b2 := Lib.hid (b1.out.trans (hb.mono (B' := w.heap.size) (by have := b1.out.size; simp <;> omega)))
  clear t0 t1 t2 t3 t4 t5 t6 t7 t8
  clear hb Bt
  have Bt : Hid (Box w2 (w.heap.size) #[.bool n, .slice aw lw cw, .slice ap lp cp, .bool true, .int .i64 e, .int .i64 sg, .int .i64 nt, .bool false]) := Ct
  clear Ct
  obtain ⟨t0, t1, t2, t3, t4, t5, t6, t7, t8⟩ := Bt.out.eight
  go_wp2_with fail
  with_reducible refine (HCZ.out _).mono ?_
  rintro x w3 ⟨rfl, hb⟩
  have Ct := Lib.hid (Bt.out.below hb (by have := Bt.out.lt; simp <;> omega))
  have b3 := Lib.hid (b2.out.trans (hb.mono (B' := w.heap.size) (by have := b2.out.size; simp <;> omega)))
  clear t0 t1 t2 t3 t4 t5 t6 t7 t8
  clear hb Bt
  have Bt : Hid (Box w3 (w.heap.size) #[.bool n, .slice aw lw cw, .slice ap lp cp, .bool true, .int .i64 e, .int .i64 sg, .int .i64 nt, .bool false]) := Ct
  clear Ct
  obtain ⟨t0, t1, t2, t3, t4, t5, t6, t7, t8⟩ := Bt.out.eight
  go_wp2_with fail
  with_reducible refine (digits_any aw lw cw LW _ (HW.out.below (b3.out.alloc (by have := b3.out.size; simp <;> omega) _)) (by omega)).mono ?_
  rintro x w4 ⟨rfl, hb⟩
  have Ct := Lib.hid ((Bt.out.alloc (.cells #[.bool false, .string ⟨#[]⟩, .int .i64 0] 28)).below hb (by have := Bt.out.lt; simp <;> omega))
  have Cd := Lib.hid (((Box.new w3 #[.bool false, .string ⟨#[]⟩, .int .i64 0] 28).at (b' := w3.heap.size) (by simp)).below hb (by simp <;> omega))
  have b4 := Lib.hid ((b3.out.alloc (by have := b3.out.size; simp <;> omega) _).trans (hb.mono (B' := w.heap.size) (by have := b3.out.size; simp <;> omega)))
  clear t0 t1 t2 t3 t4 t5 t6 t7 t8
  clear hb Bt
  have Bt : Hid (Box w4 (w.heap.size) #[.bool n, .slice aw lw cw, .slice ap lp cp, .bool true, .int .i64 e, .int .i64 sg, .int .i64 nt, .bool false]) := Ct
  have Bd : Hid (Box w4 (w3.heap.size) #[.bool false, .string ⟨#[]⟩, .int .i64 0]) := Cd
  clear Ct Cd
  obtain ⟨t0, t1, t2, t3, t4, t5, t6, t7, t8⟩ := Bt.out.eight
  obtain ⟨d0, d1, d2, d3, d4, d5, d6⟩ := Bd.out.three
  go_wp2_with fail
  with_reducible refine (digits_any ap lp cp LP _ (HP.out.below b4.out) (by omega)).mono ?_
  rintro x w5 ⟨rfl, hb⟩
  have Ct := Lib.hid (Bt.out.below hb (by have := Bt.out.lt; simp <;> omega))
  have Cd := Lib.hid (Bd.out.below hb (by have := Bd.out.lt; simp <;> omega))
  have b5 := Lib.hid (b4.out.trans (hb.mono (B' := w.heap.size) (by have := b4.out.size; simp <;> omega)))
  clear t0 t1 t2 t3 t4 t5 t6 t7 t8 d0 d1 d2 d3 d4 d5 d6
  clear hb Bt Bd
  have Bt : Hid (Box w5 (w.heap.size) #[.bool n, .slice aw lw cw, .slice ap lp cp, .bool true, .int .i64 e, .int .i64 sg, .int .i64 nt, .bool false]) := Ct
  have Bd : Hid (Box w5 (w3.heap.size) #[.bool false, .string ⟨#[]⟩, .int .i64 0]) := Cd
  clear Ct Cd
  obtain ⟨t0, t1, t2, t3, t4, t5, t6, t7, t8⟩ := Bt.out.eight
  obtain ⟨d0, d1, d2, d3, d4, d5, d6⟩ := Bd.out.three
  go_wp2
  go_ret
  exact ⟨rfl, b5.out⟩

set_option maxRecDepth 100000 in
set_option maxHeartbeats 3200000 in
theorem ps_10O (n : Bool) (aw : Option Addr) (lw cw : Nat) (LW : List UInt8) (ap : Option Addr) (lp cp : Nat) (LP : List UInt8) (e sg nt : Int) (w : World) (hw : InB w aw lw cw LW) (hp : InB w ap lp cp LP) (htab : Tab w) (h1 : lw ≤ 1100) (h2 : lp ≤ 1100) (h3 : 0 < lw) (h5 : -11000 ≤ e) (h6 : e ≤ 11000) (h4 : 0 < lp) (h7 : lw + lp ≤ 1000) (TX : List UInt8) (CW : ∀ w1, Below w.heap.size w w1 → Calls Tryd.prog 23 #[TV n aw lw cw ap lp cp true e sg nt false] w1 fun x w2 => x = .returned (S TX) ∧ Below w1.heap.size w1 w2) (d : Tri) (CP : ∀ w1 : World, Calls Tryd.prog 22 #[S TX] w1 fun x w2 => x = .returned (.tuple #[V d, .int .i64 0]) ∧ Below w1.heap.size w1 w2) (hd : made n (dgs LW ++ dgs LP) (-(lp : Int)) = d) :
    Calls Tryd.prog 4 #[TV n aw lw cw ap lp cp true e sg nt false] w fun x w' => x = .returned (.bool true) ∧ Below w.heap.size w w' := by
  have l1 : (dgs LW).length = lw := by rw [dgs_length, hw.1]
  have l2 : (dgs LP).length = lp := by rw [dgs_length, hp.1]
  have hc1 := hw.2.1
  have hm1 := hw.2.2.1
  have hc2 := hp.2.1
  have hm2 := hp.2.2.1
  unfold maxLen at hm1 hm2
  have HW := Lib.hid hw
  have HP := Lib.hid hp
  have HT := Lib.hid htab
  have HCW := Lib.hid CW
  have HCP := Lib.hid CP
  have HM : Hid (∀ w1 : World, Calls Tryd.prog 16 #[.bool n, .string ((⟨(dgs LW).toArray⟩ : ByteArray) ++ (⟨(dgs LP).toArray⟩ : ByteArray)), .int .i64 (-(lp : Int))] w1 fun x w2 => x = .returned (V d) ∧ Below w1.heap.size w1 w2) := Lib.hid fun w1 => by
    rw [arr_append]
    exact made_as n ⟨(dgs LW ++ dgs LP).toArray⟩ _ w1 (by rw [arr_size, List.length_append]; omega) d (by rw [arr_list]; exact hd)
  clear hd
  clear hw hp htab CW CP
  have q1 : decide ((1100 : Int) < (lw : Int)) = false := by simp; omega
  have q2 : decide ((1100 : Int) < (lp : Int)) = false := by simp; omega
  have q3 : ((lw : Int) == 0) = false := by simp; omega
  have q4 : ((lp : Int) == 0) = false := by simp; omega
  have q5 : decide (e < -11000) = false := by simp; omega
  have q6 : decide (11000 < e) = false := by simp; omega
  go_enter Tryd.func4, Tryd.ntmps4
  go_wp2_with fail
  with_reducible refine (headD _ (HT.out.below ((Below.refl w.heap.size w).alloc (by simp <;> omega) _))).mono ?_
  rintro x w1 ⟨rfl, hb⟩
  have Ct := Lib.hid (((Box.new w #[.bool n, .slice aw lw cw, .slice ap lp cp, .bool true, .int .i64 e, .int .i64 sg, .int .i64 nt, .bool false] 38).at (b' := w.heap.size) (by simp)).below hb (by simp <;> omega))
  have b1 := Lib.hid (((Below.refl w.heap.size w).alloc (by simp <;> omega) _).trans (hb.mono (B' := w.heap.size) (by simp <;> omega)))
  clear hb
  have Bt : Hid (Box w1 (w.heap.size) #[.bool n, .slice aw lw cw, .slice ap lp cp, .bool true, .int .i64 e, .int .i64 sg, .int .i64 nt, .bool false]) := Ct
  clear Ct
  obtain ⟨t0, t1, t2, t3, t4, t5, t6, t7, t8⟩ := Bt.out.eight
  go_wp2_with fail
  with_reducible refine (HCW.out _ b1.out).mono ?_
  rintro x w2 ⟨rfl, hb⟩
  have Ct := Lib.hid (Bt.out.below hb (by have := Bt.out.lt; simp <;> omega))
  have b2 := Lib.hid (b1.out.trans (hb.mono (B' := w.heap.size) (by have := b1.out.size; simp <;> omega)))
  clear t0 t1 t2 t3 t4 t5 t6 t7 t8
  clear hb Bt
  have Bt : Hid (Box w2 (w.heap.size) #[.bool n, .slice aw lw cw, .slice ap lp cp, .bool true, .int .i64 e, .int .i64 sg, .int .i64 nt, .bool false]) := Ct
  clear Ct
  obtain ⟨t0, t1, t2, t3, t4, t5, t6, t7, t8⟩ := Bt.out.eight
  go_wp2_with fail
  with_reducible refine (HCP.out _).mono ?_
  rintro x w3 ⟨rfl, hb⟩
  have Ct := Lib.hid (Bt.out.below hb (by have := Bt.out.lt; simp <;> omega))
  have b3 := Lib.hid (b2.out.trans (hb.mono (B' := w.heap.size) (by have := b2.out.size; simp <;> omega)))
  clear t0 t1 t2 t3 t4 t5 t6 t7 t8
  clear hb Bt
  have Bt : Hid (Box w3 (w.heap.size) #[.bool n, .slice aw lw cw, .slice ap lp cp, .bool true, .int .i64 e, .int .i64 sg, .int .i64 nt, .bool false]) := Ct
  clear Ct
  obtain ⟨t0, t1, t2, t3, t4, t5, t6, t7, t8⟩ := Bt.out.eight
  go_wp2_with fail
  with_reducible refine (digits_any aw lw cw LW _ (HW.out.below (b3.out.alloc (by have := b3.out.size; simp <;> omega) _)) (by omega)).mono ?_
  rintro x w4 ⟨rfl, hb⟩
  have Ct := Lib.hid ((Bt.out.alloc (.cells #[.bool d.neg, S d.l, .int .i64 d.e] 28)).below hb (by have := Bt.out.lt; simp <;> omega))
  have Cd := Lib.hid (((Box.new w3 #[.bool d.neg, S d.l, .int .i64 d.e] 28).at (b' := w3.heap.size) (by simp)).below hb (by simp <;> omega))
  have b4 := Lib.hid ((b3.out.alloc (by have := b3.out.size; simp <;> omega) _).trans (hb.mono (B' := w.heap.size) (by have := b3.out.size; simp <;> omega)))
  clear t0 t1 t2 t3 t4 t5 t6 t7 t8
  clear hb Bt
  have Bt : Hid (Box w4 (w.heap.size) #[.bool n, .slice aw lw cw, .slice ap lp cp, .bool true, .int .i64 e, .int .i64 sg, .int .i64 nt, .bool false]) := Ct
  have Bd : Hid (Box w4 (w3.heap.size) #[.bool d.neg, S d.l, .int .i64 d.e]) := Cd
  clear Ct Cd
  obtain ⟨t0, t1, t2, t3, t4, t5, t6, t7, t8⟩ := Bt.out.eight
  obtain ⟨d0, d1, d2, d3, d4, d5, d6⟩ := Bd.out.three
  go_wp2_with fail
  with_reducible refine (digits_any ap lp cp LP _ (HP.out.below b4.out) (by omega)).mono ?_
  rintro x w5 ⟨rfl, hb⟩
  have Ct := Lib.hid (Bt.out.below hb (by have := Bt.out.lt; simp <;> omega))
  have Cd := Lib.hid (Bd.out.below hb (by have := Bd.out.lt; simp <;> omega))
  have b5 := Lib.hid (b4.out.trans (hb.mono (B' := w.heap.size) (by have := b4.out.size; simp <;> omega)))
  clear t0 t1 t2 t3 t4 t5 t6 t7 t8 d0 d1 d2 d3 d4 d5 d6
  clear hb Bt Bd
  have Bt : Hid (Box w5 (w.heap.size) #[.bool n, .slice aw lw cw, .slice ap lp cp, .bool true, .int .i64 e, .int .i64 sg, .int .i64 nt, .bool false]) := Ct
  have Bd : Hid (Box w5 (w3.heap.size) #[.bool d.neg, S d.l, .int .i64 d.e]) := Cd
  clear Ct Cd
  obtain ⟨t0, t1, t2, t3, t4, t5, t6, t7, t8⟩ := Bt.out.eight
  obtain ⟨d0, d1, d2, d3, d4, d5, d6⟩ := Bd.out.three
  go_wp2_with fail
  have Q0 : Hid (HeldT w (w.heap.size) (.bool n) (.slice aw lw cw) (.slice ap lp cp) (.bool true) (.int .i64 e) (.int .i64 sg) (.int .i64 nt) (.bool false) (w3.heap.size) (.bool d.neg) (S d.l) (.int .i64 d.e) w5) := Lib.hid ⟨Bt.out, Bd.out, b5.out⟩
  first | (go_region_held3 (fun w' => w'.cell? ⟨w.heap.size, 0, none⟩ = some (.bool n) ∧ w'.cell? ⟨w3.heap.size, 0, none⟩ = some (.bool d.neg) ∧ w'.cell? ⟨w3.heap.size, 1, none⟩ = some (S d.l) ∧ w'.cell? ⟨w3.heap.size, 2, none⟩ = some (.int .i64 d.e) ∧ HeldT w (w.heap.size) (.bool n) (.slice aw lw cw) (.slice ap lp cp) (.bool true) (.int .i64 e) (.int .i64 sg) (.int .i64 nt) (.bool false) (w3.heap.size) (.bool d.neg) (S d.l) (.int .i64 d.e) w')
    (first | exact HeldT.all (HeldT.drew Q0.out) | exact HeldT.keep (by assumption) hb | assumption)
    (first | (go_at_call 16; (with_reducible refine (HM.out _).mono ?_); rintro z wA ⟨rfl, hb⟩))) | fail
  have HH := (‹wA.cell? ⟨w.heap.size, 0, none⟩ = some (.bool n) ∧ _›)
  obtain ⟨_, _, _, _, _, _, HB⟩ := HH
  go_wp2
  go_ret
  exact ⟨rfl, HB⟩

set_option maxRecDepth 100000 in
set_option maxHeartbeats 3200000 in
theorem ps_11D (n : Bool) (aw : Option Addr) (lw cw : Nat) (LW : List UInt8) (ap : Option Addr) (lp cp : Nat) (LP : List UInt8) (e sg nt : Int) (w : World) (hw : InB w aw lw cw LW) (hp : InB w ap lp cp LP) (htab : Tab w) (h1 : lw ≤ 1100) (h2 : lp ≤ 1100) (h3 : 0 < lw) (h5 : -11000 ≤ e) (h6 : e ≤ 11000) (h4 : 0 < lp) (h7 : 1000 < lw + lp) (TX : List UInt8) (CW : ∀ w1, Below w.heap.size w w1 → Calls Tryd.prog 23 #[TV n aw lw cw ap lp cp true e sg nt true] w1 fun x w2 => x = .returned (S TX) ∧ Below w1.heap.size w1 w2) (CP : ∀ w1 : World, Calls Tryd.prog 22 #[S TX] w1 fun x w2 => x = .returned (.tuple #[V zero, .int .i64 2]) ∧ Below w1.heap.size w1 w2) :
    Calls Tryd.prog 4 #[TV n aw lw cw ap lp cp true e sg nt true] w fun x w' => x = .returned (.bool true) ∧ Below w.heap.size w w' := by
  have l1 : (dgs LW).length = lw := by rw [dgs_length, hw.1]
  have l2 : (dgs LP).length = lp := by rw [dgs_length, hp.1]
  have hc1 := hw.2.1
  have hm1 := hw.2.2.1
  have hc2 := hp.2.1
  have hm2 := hp.2.2.1
  unfold maxLen at hm1 hm2
  have HW := Lib.hid hw
  have HP := Lib.hid hp
  have HT := Lib.hid htab
  have HCW := Lib.hid CW
  have HCP := Lib.hid CP
  have hz : V zero = .agg #[.bool false, .string ⟨#[]⟩, .int .i64 0] := rfl
  have HCZ : Hid (∀ w1 : World, Calls Tryd.prog 22 #[S TX] w1 fun x w2 => x = .returned (.tuple #[.agg #[.bool false, .string ⟨#[]⟩, .int .i64 0], .int .i64 2]) ∧ Below w1.heap.size w1 w2) := Lib.hid CP
  clear hz
  clear hw hp htab CW CP
  have q1 : decide ((1100 : Int) < (lw : Int)) = false := by simp; omega
  have q2 : decide ((1100 : Int) < (lp : Int)) = false := by simp; omega
  have q3 : ((lw : Int) == 0) = false := by simp; omega
  have q4 : ((lp : Int) == 0) = false := by simp; omega
  have q5 : decide (e < -11000) = false := by simp; omega
  have q6 : decide (11000 < e) = false := by simp; omega
  go_enter Tryd.func4, Tryd.ntmps4
  go_wp2_with fail
  with_reducible refine (headD _ (HT.out.below ((Below.refl w.heap.size w).alloc (by simp <;> omega) _))).mono ?_
  rintro x w1 ⟨rfl, hb⟩
  have Ct := Lib.hid (((Box.new w #[.bool n, .slice aw lw cw, .slice ap lp cp, .bool true, .int .i64 e, .int .i64 sg, .int .i64 nt, .bool true] 38).at (b' := w.heap.size) (by simp)).below hb (by simp <;> omega))
  have b1 := Lib.hid (((Below.refl w.heap.size w).alloc (by simp <;> omega) _).trans (hb.mono (B' := w.heap.size) (by simp <;> omega)))
  clear hb
  have Bt : Hid (Box w1 (w.heap.size) #[.bool n, .slice aw lw cw, .slice ap lp cp, .bool true, .int .i64 e, .int .i64 sg, .int .i64 nt, .bool true]) := Ct
  clear Ct
  obtain ⟨t0, t1, t2, t3, t4, t5, t6, t7, t8⟩ := Bt.out.eight
  go_wp2_with fail
  with_reducible refine (HCW.out _ b1.out).mono ?_
  rintro x w2 ⟨rfl, hb⟩
  have Ct := Lib.hid (Bt.out.below hb (by have := Bt.out.lt; simp <;> omega))
  have b2 := Lib.hid (b1.out.trans (hb.mono (B' := w.heap.size) (by have := b1.out.size; simp <;> omega)))
  clear t0 t1 t2 t3 t4 t5 t6 t7 t8
  clear hb Bt
  have Bt : Hid (Box w2 (w.heap.size) #[.bool n, .slice aw lw cw, .slice ap lp cp, .bool true, .int .i64 e, .int .i64 sg, .int .i64 nt, .bool true]) := Ct
  clear Ct
  obtain ⟨t0, t1, t2, t3, t4, t5, t6, t7, t8⟩ := Bt.out.eight
  go_wp2_with fail
  with_reducible refine (HCZ.out _).mono ?_
  rintro x w3 ⟨rfl, hb⟩
  have Ct := Lib.hid (Bt.out.below hb (by have := Bt.out.lt; simp <;> omega))
  have b3 := Lib.hid (b2.out.trans (hb.mono (B' := w.heap.size) (by have := b2.out.size; simp <;> omega)))
  clear t0 t1 t2 t3 t4 t5 t6 t7 t8
  clear hb Bt
  have Bt : Hid (Box w3 (w.heap.size) #[.bool n, .slice aw lw cw, .slice ap lp cp, .bool true, .int .i64 e, .int .i64 sg, .int .i64 nt, .bool true]) := Ct
  clear Ct
  obtain ⟨t0, t1, t2, t3, t4, t5, t6, t7, t8⟩ := Bt.out.eight
  go_wp2_with fail
  with_reducible refine (digits_any aw lw cw LW _ (HW.out.below (b3.out.alloc (by have := b3.out.size; simp <;> omega) _)) (by omega)).mono ?_
  rintro x w4 ⟨rfl, hb⟩
  have Ct := Lib.hid ((Bt.out.alloc (.cells #[.bool false, .string ⟨#[]⟩, .int .i64 0] 28)).below hb (by have := Bt.out.lt; simp <;> omega))
  have Cd := Lib.hid (((Box.new w3 #[.bool false, .string ⟨#[]⟩, .int .i64 0] 28).at (b' := w3.heap.size) (by simp)).below hb (by simp <;> omega))
  have b4 := Lib.hid ((b3.out.alloc (by have := b3.out.size; simp <;> omega) _).trans (hb.mono (B' := w.heap.size) (by have := b3.out.size; simp <;> omega)))
  clear t0 t1 t2 t3 t4 t5 t6 t7 t8
  clear hb Bt
  have Bt : Hid (Box w4 (w.heap.size) #[.bool n, .slice aw lw cw, .slice ap lp cp, .bool true, .int .i64 e, .int .i64 sg, .int .i64 nt, .bool true]) := Ct
  have Bd : Hid (Box w4 (w3.heap.size) #[.bool false, .string ⟨#[]⟩, .int .i64 0]) := Cd
  clear Ct Cd
  obtain ⟨t0, t1, t2, t3, t4, t5, t6, t7, t8⟩ := Bt.out.eight
  obtain ⟨d0, d1, d2, d3, d4, d5, d6⟩ := Bd.out.three
  go_wp2_with fail
  with_reducible refine (digits_any ap lp cp LP _ (HP.out.below b4.out) (by omega)).mono ?_
  rintro x w5 ⟨rfl, hb⟩
  have Ct := Lib.hid (Bt.out.below hb (by have := Bt.out.lt; simp <;> omega))
  have Cd := Lib.hid (Bd.out.below hb (by have := Bd.out.lt; simp <;> omega))
  have b5 := Lib.hid (b4.out.trans (hb.mono (B' := w.heap.size) (by have := b4.out.size; simp <;> omega)))
  clear t0 t1 t2 t3 t4 t5 t6 t7 t8 d0 d1 d2 d3 d4 d5 d6
  clear hb Bt Bd
  have Bt : Hid (Box w5 (w.heap.size) #[.bool n, .slice aw lw cw, .slice ap lp cp, .bool true, .int .i64 e, .int .i64 sg, .int .i64 nt, .bool true]) := Ct
  have Bd : Hid (Box w5 (w3.heap.size) #[.bool false, .string ⟨#[]⟩, .int .i64 0]) := Cd
  clear Ct Cd
  obtain ⟨t0, t1, t2, t3, t4, t5, t6, t7, t8⟩ := Bt.out.eight
  obtain ⟨d0, d1, d2, d3, d4, d5, d6⟩ := Bd.out.three
  go_wp2
  go_ret
  exact ⟨rfl, b5.out⟩

set_option maxRecDepth 100000 in
set_option maxHeartbeats 3200000 in
theorem ps_11P (n : Bool) (aw : Option Addr) (lw cw : Nat) (LW : List UInt8) (ap : Option Addr) (lp cp : Nat) (LP : List UInt8) (e sg nt : Int) (w : World) (hw : InB w aw lw cw LW) (hp : InB w ap lp cp LP) (htab : Tab w) (h1 : lw ≤ 1100) (h2 : lp ≤ 1100) (h3 : 0 < lw) (h5 : -11000 ≤ e) (h6 : e ≤ 11000) (h4 : 0 < lp) (h7 : lw + lp ≤ 1000) (h8 : 10000 < e) (TX : List UInt8) (CW : ∀ w1, Below w.heap.size w w1 → Calls Tryd.prog 23 #[TV n aw lw cw ap lp cp true e sg nt true] w1 fun x w2 => x = .returned (S TX) ∧ Below w1.heap.size w1 w2) (CP : ∀ w1 : World, Calls Tryd.prog 22 #[S TX] w1 fun x w2 => x = .returned (.tuple #[V zero, .int .i64 2]) ∧ Below w1.heap.size w1 w2) :
    Calls Tryd.prog 4 #[TV n aw lw cw ap lp cp true e sg nt true] w fun x w' => x = .returned (.bool true) ∧ Below w.heap.size w w' := by
  have l1 : (dgs LW).length = lw := by rw [dgs_length, hw.1]
  have l2 : (dgs LP).length = lp := by rw [dgs_length, hp.1]
  have hc1 := hw.2.1
  have hm1 := hw.2.2.1
  have hc2 := hp.2.1
  have hm2 := hp.2.2.1
  unfold maxLen at hm1 hm2
  have HW := Lib.hid hw
  have HP := Lib.hid hp
  have HT := Lib.hid htab
  have HCW := Lib.hid CW
  have HCP := Lib.hid CP
  have hz : V zero = .agg #[.bool false, .string ⟨#[]⟩, .int .i64 0] := rfl
  have HCZ : Hid (∀ w1 : World, Calls Tryd.prog 22 #[S TX] w1 fun x w2 => x = .returned (.tuple #[.agg #[.bool false, .string ⟨#[]⟩, .int .i64 0], .int .i64 2]) ∧ Below w1.heap.size w1 w2) := Lib.hid CP
  clear hz
  clear hw hp htab CW CP
  have q1 : decide ((1100 : Int) < (lw : Int)) = false := by simp; omega
  have q2 : decide ((1100 : Int) < (lp : Int)) = false := by simp; omega
  have q3 : ((lw : Int) == 0) = false := by simp; omega
  have q4 : ((lp : Int) == 0) = false := by simp; omega
  have q5 : decide (e < -11000) = false := by simp; omega
  have q6 : decide (11000 < e) = false := by simp; omega
  go_enter Tryd.func4, Tryd.ntmps4
  go_wp2_with fail
  with_reducible refine (headD _ (HT.out.below ((Below.refl w.heap.size w).alloc (by simp <;> omega) _))).mono ?_
  rintro x w1 ⟨rfl, hb⟩
  have Ct := Lib.hid (((Box.new w #[.bool n, .slice aw lw cw, .slice ap lp cp, .bool true, .int .i64 e, .int .i64 sg, .int .i64 nt, .bool true] 38).at (b' := w.heap.size) (by simp)).below hb (by simp <;> omega))
  have b1 := Lib.hid (((Below.refl w.heap.size w).alloc (by simp <;> omega) _).trans (hb.mono (B' := w.heap.size) (by simp <;> omega)))
  clear hb
  have Bt : Hid (Box w1 (w.heap.size) #[.bool n, .slice aw lw cw, .slice ap lp cp, .bool true, .int .i64 e, .int .i64 sg, .int .i64 nt, .bool true]) := Ct
  clear Ct
  obtain ⟨t0, t1, t2, t3, t4, t5, t6, t7, t8⟩ := Bt.out.eight
  go_wp2_with fail
  with_reducible refine (HCW.out _ b1.out).mono ?_
  rintro x w2 ⟨rfl, hb⟩
  have Ct := Lib.hid (Bt.out.below hb (by have := Bt.out.lt; simp <;> omega))
  have b2 := Lib.hid (b1.out.trans (hb.mono (B' := w.heap.size) (by have := b1.out.size; simp <;> omega)))
  clear t0 t1 t2 t3 t4 t5 t6 t7 t8
  clear hb Bt
  have Bt : Hid (Box w2 (w.heap.size) #[.bool n, .slice aw lw cw, .slice ap lp cp, .bool true, .int .i64 e, .int .i64 sg, .int .i64 nt, .bool true]) := Ct
  clear Ct
  obtain ⟨t0, t1, t2, t3, t4, t5, t6, t7, t8⟩ := Bt.out.eight
  go_wp2_with fail
  with_reducible refine (HCZ.out _).mono ?_
  rintro x w3 ⟨rfl, hb⟩
  have Ct := Lib.hid (Bt.out.below hb (by have := Bt.out.lt; simp <;> omega))
  have b3 := Lib.hid (b2.out.trans (hb.mono (B' := w.heap.size) (by have := b2.out.size; simp <;> omega)))
  clear t0 t1 t2 t3 t4 t5 t6 t7 t8
  clear hb Bt
  have Bt : Hid (Box w3 (w.heap.size) #[.bool n, .slice aw lw cw, .slice ap lp cp, .bool true, .int .i64 e, .int .i64 sg, .int .i64 nt, .bool true]) := Ct
  clear Ct
  obtain ⟨t0, t1, t2, t3, t4, t5, t6, t7, t8⟩ := Bt.out.eight
  go_wp2_with fail
  with_reducible refine (digits_any aw lw cw LW _ (HW.out.below (b3.out.alloc (by have := b3.out.size; simp <;> omega) _)) (by omega)).mono ?_
  rintro x w4 ⟨rfl, hb⟩
  have Ct := Lib.hid ((Bt.out.alloc (.cells #[.bool false, .string ⟨#[]⟩, .int .i64 0] 28)).below hb (by have := Bt.out.lt; simp <;> omega))
  have Cd := Lib.hid (((Box.new w3 #[.bool false, .string ⟨#[]⟩, .int .i64 0] 28).at (b' := w3.heap.size) (by simp)).below hb (by simp <;> omega))
  have b4 := Lib.hid ((b3.out.alloc (by have := b3.out.size; simp <;> omega) _).trans (hb.mono (B' := w.heap.size) (by have := b3.out.size; simp <;> omega)))
  clear t0 t1 t2 t3 t4 t5 t6 t7 t8
  clear hb Bt
  have Bt : Hid (Box w4 (w.heap.size) #[.bool n, .slice aw lw cw, .slice ap lp cp, .bool true, .int .i64 e, .int .i64 sg, .int .i64 nt, .bool true]) := Ct
  have Bd : Hid (Box w4 (w3.heap.size) #[.bool false, .string ⟨#[]⟩, .int .i64 0]) := Cd
  clear Ct Cd
  obtain ⟨t0, t1, t2, t3, t4, t5, t6, t7, t8⟩ := Bt.out.eight
  obtain ⟨d0, d1, d2, d3, d4, d5, d6⟩ := Bd.out.three
  go_wp2_with fail
  with_reducible refine (digits_any ap lp cp LP _ (HP.out.below b4.out) (by omega)).mono ?_
  rintro x w5 ⟨rfl, hb⟩
  have Ct := Lib.hid (Bt.out.below hb (by have := Bt.out.lt; simp <;> omega))
  have Cd := Lib.hid (Bd.out.below hb (by have := Bd.out.lt; simp <;> omega))
  have b5 := Lib.hid (b4.out.trans (hb.mono (B' := w.heap.size) (by have := b4.out.size; simp <;> omega)))
  clear t0 t1 t2 t3 t4 t5 t6 t7 t8 d0 d1 d2 d3 d4 d5 d6
  clear hb Bt Bd
  have Bt : Hid (Box w5 (w.heap.size) #[.bool n, .slice aw lw cw, .slice ap lp cp, .bool true, .int .i64 e, .int .i64 sg, .int .i64 nt, .bool true]) := Ct
  have Bd : Hid (Box w5 (w3.heap.size) #[.bool false, .string ⟨#[]⟩, .int .i64 0]) := Cd
  clear Ct Cd
  obtain ⟨t0, t1, t2, t3, t4, t5, t6, t7, t8⟩ := Bt.out.eight
  obtain ⟨d0, d1, d2, d3, d4, d5, d6⟩ := Bd.out.three
  go_wp2
  go_ret
  exact ⟨rfl, b5.out⟩

set_option maxRecDepth 100000 in
set_option maxHeartbeats 3200000 in
theorem ps_11M (n : Bool) (aw : Option Addr) (lw cw : Nat) (LW : List UInt8) (ap : Option Addr) (lp cp : Nat) (LP : List UInt8) (e sg nt : Int) (w : World) (hw : InB w aw lw cw LW) (hp : InB w ap lp cp LP) (htab : Tab w) (h1 : lw ≤ 1100) (h2 : lp ≤ 1100) (h3 : 0 < lw) (h5 : -11000 ≤ e) (h6 : e ≤ 11000) (h4 : 0 < lp) (h7 : lw + lp ≤ 1000) (h8 : e < -10000) (TX : List UInt8) (CW : ∀ w1, Below w.heap.size w w1 → Calls Tryd.prog 23 #[TV n aw lw cw ap lp cp true e sg nt true] w1 fun x w2 => x = .returned (S TX) ∧ Below w1.heap.size w1 w2) (CP : ∀ w1 : World, Calls Tryd.prog 22 #[S TX] w1 fun x w2 => x = .returned (.tuple #[V zero, .int .i64 2]) ∧ Below w1.heap.size w1 w2) :
    Calls Tryd.prog 4 #[TV n aw lw cw ap lp cp true e sg nt true] w fun x w' => x = .returned (.bool true) ∧ Below w.heap.size w w' := by
  have l1 : (dgs LW).length = lw := by rw [dgs_length, hw.1]
  have l2 : (dgs LP).length = lp := by rw [dgs_length, hp.1]
  have hc1 := hw.2.1
  have hm1 := hw.2.2.1
  have hc2 := hp.2.1
  have hm2 := hp.2.2.1
  unfold maxLen at hm1 hm2
  have HW := Lib.hid hw
  have HP := Lib.hid hp
  have HT := Lib.hid htab
  have HCW := Lib.hid CW
  have HCP := Lib.hid CP
  have hz : V zero = .agg #[.bool false, .string ⟨#[]⟩, .int .i64 0] := rfl
  have HCZ : Hid (∀ w1 : World, Calls Tryd.prog 22 #[S TX] w1 fun x w2 => x = .returned (.tuple #[.agg #[.bool false, .string ⟨#[]⟩, .int .i64 0], .int .i64 2]) ∧ Below w1.heap.size w1 w2) := Lib.hid CP
  clear hz
  clear hw hp htab CW CP
  have q1 : decide ((1100 : Int) < (lw : Int)) = false := by simp; omega
  have q2 : decide ((1100 : Int) < (lp : Int)) = false := by simp; omega
  have q3 : ((lw : Int) == 0) = false := by simp; omega
  have q4 : ((lp : Int) == 0) = false := by simp; omega
  have q5 : decide (e < -11000) = false := by simp; omega
  have q6 : decide (11000 < e) = false := by simp; omega
  go_enter Tryd.func4, Tryd.ntmps4
  go_wp2_with fail
  with_reducible refine (headD _ (HT.out.below ((Below.refl w.heap.size w).alloc (by simp <;> omega) _))).mono ?_
  rintro x w1 ⟨rfl, hb⟩
  have Ct := Lib.hid (((Box.new w #[.bool n, .slice aw lw cw, .slice ap lp cp, .bool true, .int .i64 e, .int .i64 sg, .int .i64 nt, .bool true] 38).at (b' := w.heap.size) (by simp)).below hb (by simp <;> omega))
  have b1 := Lib.hid (((Below.refl w.heap.size w).alloc (by simp <;> omega) _).trans (hb.mono (B' := w.heap.size) (by simp <;> omega)))
  clear hb
  have Bt : Hid (Box w1 (w.heap.size) #[.bool n, .slice aw lw cw, .slice ap lp cp, .bool true, .int .i64 e, .int .i64 sg, .int .i64 nt, .bool true]) := Ct
  clear Ct
  obtain ⟨t0, t1, t2, t3, t4, t5, t6, t7, t8⟩ := Bt.out.eight
  go_wp2_with fail
  with_reducible refine (HCW.out _ b1.out).mono ?_
  rintro x w2 ⟨rfl, hb⟩
  have Ct := Lib.hid (Bt.out.below hb (by have := Bt.out.lt; simp <;> omega))
  have b2 := Lib.hid (b1.out.trans (hb.mono (B' := w.heap.size) (by have := b1.out.size; simp <;> omega)))
  clear t0 t1 t2 t3 t4 t5 t6 t7 t8
  clear hb Bt
  have Bt : Hid (Box w2 (w.heap.size) #[.bool n, .slice aw lw cw, .slice ap lp cp, .bool true, .int .i64 e, .int .i64 sg, .int .i64 nt, .bool true]) := Ct
  clear Ct
  obtain ⟨t0, t1, t2, t3, t4, t5, t6, t7, t8⟩ := Bt.out.eight
  go_wp2_with fail
  with_reducible refine (HCZ.out _).mono ?_
  rintro x w3 ⟨rfl, hb⟩
  have Ct := Lib.hid (Bt.out.below hb (by have := Bt.out.lt; simp <;> omega))
  have b3 := Lib.hid (b2.out.trans (hb.mono (B' := w.heap.size) (by have := b2.out.size; simp <;> omega)))
  clear t0 t1 t2 t3 t4 t5 t6 t7 t8
  clear hb Bt
  have Bt : Hid (Box w3 (w.heap.size) #[.bool n, .slice aw lw cw, .slice ap lp cp, .bool true, .int .i64 e, .int .i64 sg, .int .i64 nt, .bool true]) := Ct
  clear Ct
  obtain ⟨t0, t1, t2, t3, t4, t5, t6, t7, t8⟩ := Bt.out.eight
  go_wp2_with fail
  with_reducible refine (digits_any aw lw cw LW _ (HW.out.below (b3.out.alloc (by have := b3.out.size; simp <;> omega) _)) (by omega)).mono ?_
  rintro x w4 ⟨rfl, hb⟩
  have Ct := Lib.hid ((Bt.out.alloc (.cells #[.bool false, .string ⟨#[]⟩, .int .i64 0] 28)).below hb (by have := Bt.out.lt; simp <;> omega))
  have Cd := Lib.hid (((Box.new w3 #[.bool false, .string ⟨#[]⟩, .int .i64 0] 28).at (b' := w3.heap.size) (by simp)).below hb (by simp <;> omega))
  have b4 := Lib.hid ((b3.out.alloc (by have := b3.out.size; simp <;> omega) _).trans (hb.mono (B' := w.heap.size) (by have := b3.out.size; simp <;> omega)))
  clear t0 t1 t2 t3 t4 t5 t6 t7 t8
  clear hb Bt
  have Bt : Hid (Box w4 (w.heap.size) #[.bool n, .slice aw lw cw, .slice ap lp cp, .bool true, .int .i64 e, .int .i64 sg, .int .i64 nt, .bool true]) := Ct
  have Bd : Hid (Box w4 (w3.heap.size) #[.bool false, .string ⟨#[]⟩, .int .i64 0]) := Cd
  clear Ct Cd
  obtain ⟨t0, t1, t2, t3, t4, t5, t6, t7, t8⟩ := Bt.out.eight
  obtain ⟨d0, d1, d2, d3, d4, d5, d6⟩ := Bd.out.three
  go_wp2_with fail
  with_reducible refine (digits_any ap lp cp LP _ (HP.out.below b4.out) (by omega)).mono ?_
  rintro x w5 ⟨rfl, hb⟩
  have Ct := Lib.hid (Bt.out.below hb (by have := Bt.out.lt; simp <;> omega))
  have Cd := Lib.hid (Bd.out.below hb (by have := Bd.out.lt; simp <;> omega))
  have b5 := Lib.hid (b4.out.trans (hb.mono (B' := w.heap.size) (by have := b4.out.size; simp <;> omega)))
  clear t0 t1 t2 t3 t4 t5 t6 t7 t8 d0 d1 d2 d3 d4 d5 d6
  clear hb Bt Bd
  have Bt : Hid (Box w5 (w.heap.size) #[.bool n, .slice aw lw cw, .slice ap lp cp, .bool true, .int .i64 e, .int .i64 sg, .int .i64 nt, .bool true]) := Ct
  have Bd : Hid (Box w5 (w3.heap.size) #[.bool false, .string ⟨#[]⟩, .int .i64 0]) := Cd
  clear Ct Cd
  obtain ⟨t0, t1, t2, t3, t4, t5, t6, t7, t8⟩ := Bt.out.eight
  obtain ⟨d0, d1, d2, d3, d4, d5, d6⟩ := Bd.out.three
  go_wp2
  go_ret
  exact ⟨rfl, b5.out⟩

set_option maxRecDepth 100000 in
set_option maxHeartbeats 3200000 in
theorem ps_11O (n : Bool) (aw : Option Addr) (lw cw : Nat) (LW : List UInt8) (ap : Option Addr) (lp cp : Nat) (LP : List UInt8) (e sg nt : Int) (w : World) (hw : InB w aw lw cw LW) (hp : InB w ap lp cp LP) (htab : Tab w) (h1 : lw ≤ 1100) (h2 : lp ≤ 1100) (h3 : 0 < lw) (h5 : -11000 ≤ e) (h6 : e ≤ 11000) (h4 : 0 < lp) (h7 : lw + lp ≤ 1000) (h8 : -10000 ≤ e) (h9 : e ≤ 10000) (TX : List UInt8) (CW : ∀ w1, Below w.heap.size w w1 → Calls Tryd.prog 23 #[TV n aw lw cw ap lp cp true e sg nt true] w1 fun x w2 => x = .returned (S TX) ∧ Below w1.heap.size w1 w2) (d : Tri) (CP : ∀ w1 : World, Calls Tryd.prog 22 #[S TX] w1 fun x w2 => x = .returned (.tuple #[V d, .int .i64 0]) ∧ Below w1.heap.size w1 w2) (hd : made n (dgs LW ++ dgs LP) (-(lp : Int) + e) = d) :
    Calls Tryd.prog 4 #[TV n aw lw cw ap lp cp true e sg nt true] w fun x w' => x = .returned (.bool true) ∧ Below w.heap.size w w' := by
  have l1 : (dgs LW).length = lw := by rw [dgs_length, hw.1]
  have l2 : (dgs LP).length = lp := by rw [dgs_length, hp.1]
  have hc1 := hw.2.1
  have hm1 := hw.2.2.1
  have hc2 := hp.2.1
  have hm2 := hp.2.2.1
  unfold maxLen at hm1 hm2
  have HW := Lib.hid hw
  have HP := Lib.hid hp
  have HT := Lib.hid htab
  have HCW := Lib.hid CW
  have HCP := Lib.hid CP
  have HM : Hid (∀ w1 : World, Calls Tryd.prog 16 #[.bool n, .string ((⟨(dgs LW).toArray⟩ : ByteArray) ++ (⟨(dgs LP).toArray⟩ : ByteArray)), .int .i64 (-(lp : Int) + e)] w1 fun x w2 => x = .returned (V d) ∧ Below w1.heap.size w1 w2) := Lib.hid fun w1 => by
    rw [arr_append]
    exact made_as n ⟨(dgs LW ++ dgs LP).toArray⟩ _ w1 (by rw [arr_size, List.length_append]; omega) d (by rw [arr_list]; exact hd)
  clear hd
  clear hw hp htab CW CP
  have q1 : decide ((1100 : Int) < (lw : Int)) = false := by simp; omega
  have q2 : decide ((1100 : Int) < (lp : Int)) = false := by simp; omega
  have q3 : ((lw : Int) == 0) = false := by simp; omega
  have q4 : ((lp : Int) == 0) = false := by simp; omega
  have q5 : decide (e < -11000) = false := by simp; omega
  have q6 : decide (11000 < e) = false := by simp; omega
  go_enter Tryd.func4, Tryd.ntmps4
  go_wp2_with fail
  with_reducible refine (headD _ (HT.out.below ((Below.refl w.heap.size w).alloc (by simp <;> omega) _))).mono ?_
  rintro x w1 ⟨rfl, hb⟩
  have Ct := Lib.hid (((Box.new w #[.bool n, .slice aw lw cw, .slice ap lp cp, .bool true, .int .i64 e, .int .i64 sg, .int .i64 nt, .bool true] 38).at (b' := w.heap.size) (by simp)).below hb (by simp <;> omega))
  have b1 := Lib.hid (((Below.refl w.heap.size w).alloc (by simp <;> omega) _).trans (hb.mono (B' := w.heap.size) (by simp <;> omega)))
  clear hb
  have Bt : Hid (Box w1 (w.heap.size) #[.bool n, .slice aw lw cw, .slice ap lp cp, .bool true, .int .i64 e, .int .i64 sg, .int .i64 nt, .bool true]) := Ct
  clear Ct
  obtain ⟨t0, t1, t2, t3, t4, t5, t6, t7, t8⟩ := Bt.out.eight
  go_wp2_with fail
  with_reducible refine (HCW.out _ b1.out).mono ?_
  rintro x w2 ⟨rfl, hb⟩
  have Ct := Lib.hid (Bt.out.below hb (by have := Bt.out.lt; simp <;> omega))
  have b2 := Lib.hid (b1.out.trans (hb.mono (B' := w.heap.size) (by have := b1.out.size; simp <;> omega)))
  clear t0 t1 t2 t3 t4 t5 t6 t7 t8
  clear hb Bt
  have Bt : Hid (Box w2 (w.heap.size) #[.bool n, .slice aw lw cw, .slice ap lp cp, .bool true, .int .i64 e, .int .i64 sg, .int .i64 nt, .bool true]) := Ct
  clear Ct
  obtain ⟨t0, t1, t2, t3, t4, t5, t6, t7, t8⟩ := Bt.out.eight
  go_wp2_with fail
  with_reducible refine (HCP.out _).mono ?_
  rintro x w3 ⟨rfl, hb⟩
  have Ct := Lib.hid (Bt.out.below hb (by have := Bt.out.lt; simp <;> omega))
  have b3 := Lib.hid (b2.out.trans (hb.mono (B' := w.heap.size) (by have := b2.out.size; simp <;> omega)))
  clear t0 t1 t2 t3 t4 t5 t6 t7 t8
  clear hb Bt
  have Bt : Hid (Box w3 (w.heap.size) #[.bool n, .slice aw lw cw, .slice ap lp cp, .bool true, .int .i64 e, .int .i64 sg, .int .i64 nt, .bool true]) := Ct
  clear Ct
  obtain ⟨t0, t1, t2, t3, t4, t5, t6, t7, t8⟩ := Bt.out.eight
  go_wp2_with fail
  with_reducible refine (digits_any aw lw cw LW _ (HW.out.below (b3.out.alloc (by have := b3.out.size; simp <;> omega) _)) (by omega)).mono ?_
  rintro x w4 ⟨rfl, hb⟩
  have Ct := Lib.hid ((Bt.out.alloc (.cells #[.bool d.neg, S d.l, .int .i64 d.e] 28)).below hb (by have := Bt.out.lt; simp <;> omega))
  have Cd := Lib.hid (((Box.new w3 #[.bool d.neg, S d.l, .int .i64 d.e] 28).at (b' := w3.heap.size) (by simp)).below hb (by simp <;> omega))
  have b4 := Lib.hid ((b3.out.alloc (by have := b3.out.size; simp <;> omega) _).trans (hb.mono (B' := w.heap.size) (by have := b3.out.size; simp <;> omega)))
  clear t0 t1 t2 t3 t4 t5 t6 t7 t8
  clear hb Bt
  have Bt : Hid (Box w4 (w.heap.size) #[.bool n, .slice aw lw cw, .slice ap lp cp, .bool true, .int .i64 e, .int .i64 sg, .int .i64 nt, .bool true]) := Ct
  have Bd : Hid (Box w4 (w3.heap.size) #[.bool d.neg, S d.l, .int .i64 d.e]) := Cd
  clear Ct Cd
  obtain ⟨t0, t1, t2, t3, t4, t5, t6, t7, t8⟩ := Bt.out.eight
  obtain ⟨d0, d1, d2, d3, d4, d5, d6⟩ := Bd.out.three
  go_wp2_with fail
  with_reducible refine (digits_any ap lp cp LP _ (HP.out.below b4.out) (by omega)).mono ?_
  rintro x w5 ⟨rfl, hb⟩
  have Ct := Lib.hid (Bt.out.below hb (by have := Bt.out.lt; simp <;> omega))
  have Cd := Lib.hid (Bd.out.below hb (by have := Bd.out.lt; simp <;> omega))
  have b5 := Lib.hid (b4.out.trans (hb.mono (B' := w.heap.size) (by have := b4.out.size; simp <;> omega)))
  clear t0 t1 t2 t3 t4 t5 t6 t7 t8 d0 d1 d2 d3 d4 d5 d6
  clear hb Bt Bd
  have Bt : Hid (Box w5 (w.heap.size) #[.bool n, .slice aw lw cw, .slice ap lp cp, .bool true, .int .i64 e, .int .i64 sg, .int .i64 nt, .bool true]) := Ct
  have Bd : Hid (Box w5 (w3.heap.size) #[.bool d.neg, S d.l, .int .i64 d.e]) := Cd
  clear Ct Cd
  obtain ⟨t0, t1, t2, t3, t4, t5, t6, t7, t8⟩ := Bt.out.eight
  obtain ⟨d0, d1, d2, d3, d4, d5, d6⟩ := Bd.out.three
  go_wp2_with fail
  have Q0 : Hid (HeldT w (w.heap.size) (.bool n) (.slice aw lw cw) (.slice ap lp cp) (.bool true) (.int .i64 e) (.int .i64 sg) (.int .i64 nt) (.bool true) (w3.heap.size) (.bool d.neg) (S d.l) (.int .i64 d.e) w5) := Lib.hid ⟨Bt.out, Bd.out, b5.out⟩
  first | (go_region_held3 (fun w' => w'.cell? ⟨w.heap.size, 0, none⟩ = some (.bool n) ∧ w'.cell? ⟨w3.heap.size, 0, none⟩ = some (.bool d.neg) ∧ w'.cell? ⟨w3.heap.size, 1, none⟩ = some (S d.l) ∧ w'.cell? ⟨w3.heap.size, 2, none⟩ = some (.int .i64 d.e) ∧ HeldT w (w.heap.size) (.bool n) (.slice aw lw cw) (.slice ap lp cp) (.bool true) (.int .i64 e) (.int .i64 sg) (.int .i64 nt) (.bool true) (w3.heap.size) (.bool d.neg) (S d.l) (.int .i64 d.e) w')
    (first | exact HeldT.all (HeldT.drew Q0.out) | exact HeldT.keep (by assumption) hb | assumption)
    (first | (go_at_call 16; (with_reducible refine (HM.out _).mono ?_); rintro z wA ⟨rfl, hb⟩))) | fail
  have HH := (‹wA.cell? ⟨w.heap.size, 0, none⟩ = some (.bool n) ∧ _›)
  obtain ⟨_, _, _, _, _, _, HB⟩ := HH
  go_wp2
  go_ret
  exact ⟨rfl, HB⟩

end Go.Proofs.YtlppofjmkepceaaDoor
