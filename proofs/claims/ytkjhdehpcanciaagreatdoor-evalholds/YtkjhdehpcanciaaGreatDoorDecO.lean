/- What Cmp, Add and Sub of dec return. -/
import Derived.Test.YtkjhdehpcanciaaGreatDoorDecN
import Derived.Deep.RegionWith
import Derived.Deep.DrawnRows
namespace Go.Proofs.YtkjhdehpcanciaaGreatDoor
open Go.RowKit Florin
set_option linter.unusedVariables false
attribute [local go_sem ↓] Go.wp_at_zero Go.wp_at_succ

theorem dig_add_len {a b : List UInt8} (n : Nat) (ha : isDig a = true) (hb : isDig b = true) (h1 : a.length ≤ n) (h2 : b.length ≤ n) : (dig (val a + val b)).length ≤ n + 1 := (dig_length_le _ _).2 (by
  have := val_lt a ha; have := val_lt b hb
  have := Nat.pow_le_pow_right (show 0 < 10 by decide) h1; have := Nat.pow_le_pow_right (show 0 < 10 by decide) h2
  rw [Nat.pow_succ]; omega)
theorem dig_sub_len {a b : List UInt8} (n : Nat) (ha : isDig a = true) (h1 : a.length ≤ n) : (dig (val a - val b)).length ≤ n + 1 := (dig_length_le _ _).2 (by
  have := val_lt a ha
  have := Nat.pow_le_pow_right (show 0 < 10 by decide) h1
  rw [Nat.pow_succ]; omega)
/-- Two structs of three cells, both stored anew. -/
theorem six {w wB : World} {b c : Nat} {x0 x1 x2 y0 y1 y2 : Value} (hA : Box wB b #[x0, x1, x2]) (hB : Box wB c #[y0, y1, y2]) (hW : Below w.heap.size w wB) (hb : w.heap.size ≤ b) (hc : w.heap.size ≤ c) (hn : b ≠ c) (d0 d1 d2 g0 g1 g2 : Value) :
    Box ((((((wB.setCell ⟨b, 0, none⟩ d0).setCell ⟨b, 1, none⟩ d1).setCell ⟨b, 2, none⟩ d2).setCell ⟨c, 0, none⟩ g0).setCell ⟨c, 1, none⟩ g1).setCell ⟨c, 2, none⟩ g2) b #[d0, d1, d2] ∧
    Box ((((((wB.setCell ⟨b, 0, none⟩ d0).setCell ⟨b, 1, none⟩ d1).setCell ⟨b, 2, none⟩ d2).setCell ⟨c, 0, none⟩ g0).setCell ⟨c, 1, none⟩ g1).setCell ⟨c, 2, none⟩ g2) c #[g0, g1, g2] ∧
    Below w.heap.size w ((((((wB.setCell ⟨b, 0, none⟩ d0).setCell ⟨b, 1, none⟩ d1).setCell ⟨b, 2, none⟩ d2).setCell ⟨c, 0, none⟩ g0).setCell ⟨c, 1, none⟩ g1).setCell ⟨c, 2, none⟩ g2) :=
  ⟨(((hA.store3 d0 d1 d2).other hn g0).other hn g1).other hn g2, (((hB.other (fun e => hn e.symm) d0).other (fun e => hn e.symm) d1).other (fun e => hn e.symm) d2).store3 g0 g1 g2, below_store3 (below_store3 hW hb _ _ _) hc _ _ _⟩
theorem Box.six {w wB : World} {b c r : Nat} {z0 z1 z2 : Value} (h : Box wB r #[z0, z1, z2]) (h1 : r ≠ b) (h2 : r ≠ c) (d0 d1 d2 g0 g1 g2 : Value) :
    Box ((((((wB.setCell ⟨b, 0, none⟩ d0).setCell ⟨b, 1, none⟩ d1).setCell ⟨b, 2, none⟩ d2).setCell ⟨c, 0, none⟩ g0).setCell ⟨c, 1, none⟩ g1).setCell ⟨c, 2, none⟩ g2) r #[z0, z1, z2] :=
  (((((h.other h1 d0).other h1 d1).other h1 d2).other h2 g0).other h2 g1).other h2 g2

set_option maxRecDepth 100000 in
set_option maxHeartbeats 3200000 in
theorem cmp_tf (an : Bool) (sa : ByteArray) (ae : Int) (bn : Bool) (sb : ByteArray) (be : Int) (w : World) (h1 : sa.size ≤ 100000) (h2 : sb.size ≤ 100000) (dn : Bool) (dl : List UInt8) (de : Int) (gn : Bool) (gl : List UInt8) (ge : Int)
    (hd : made an sa.data.toList ae = ⟨dn, dl, de⟩) (hg : made bn sb.data.toList be = ⟨gn, gl, ge⟩) (gdn : dn = true) (ggn : gn = false) :
    Calls Tryz.prog 48 #[.agg #[.bool an, .string sa, .int .i64 ae], .agg #[.bool bn, .string sb, .int .i64 be]] w fun x w' => x = .returned (.int .i64 (-1)) ∧ Below w.heap.size w w' := by
  subst gdn ggn
  have HD := Lib.hid hd
  have HG := Lib.hid hg
  clear hd hg
  go_enter Tryz.func48, Tryz.ntmps48
  go_wp2_with fail
  have AX : Hid (Box ((w.alloc (.cells #[.bool an, .string sa, .int .i64 ae] 90)).alloc (.cells #[.bool bn, .string sb, .int .i64 be] 90)) w.heap.size #[.bool an, .string sa, .int .i64 ae]) := Lib.hid ((Box.new w #[.bool an, .string sa, .int .i64 ae] 90).alloc (.cells #[.bool bn, .string sb, .int .i64 be] 90))
  have BX : Hid (Box ((w.alloc (.cells #[.bool an, .string sa, .int .i64 ae] 90)).alloc (.cells #[.bool bn, .string sb, .int .i64 be] 90)) (w.heap.size + 1) #[.bool bn, .string sb, .int .i64 be]) := Lib.hid (((Box.new (w.alloc (.cells #[.bool an, .string sa, .int .i64 ae] 90)) #[.bool bn, .string sb, .int .i64 be] 90).at (b' := w.heap.size + 1) (by simp)))
  have BW : Hid (Below w.heap.size w ((w.alloc (.cells #[.bool an, .string sa, .int .i64 ae] 90)).alloc (.cells #[.bool bn, .string sb, .int .i64 be] 90))) := Lib.hid (below_alloc2 w _ _)
  go_region_with (first
    | (go_at_call 69; with_reducible refine (norm_as an sa ae _ (by omega) ⟨true, dl, de⟩ HD.out).mono ?_; rintro x wA ⟨rfl, hb⟩; have A1 := AX.out.drew.below hb (by simp <;> omega); have B1 := BX.out.drew.below hb (by simp <;> omega); have W1 := BW.out.trans ((below_drew' hb).mono (by simp <;> omega)); clear hb; obtain ⟨c0, c1, c2, e0, e1, e2, lt1⟩ := A1.three; obtain ⟨q0, q1, q2, f0, f1, f2, lt2⟩ := B1.three)
    | (go_at_call 69; with_reducible refine (norm_as bn sb be _ (by omega) ⟨false, gl, ge⟩ HG.out).mono ?_; rintro x wB ⟨rfl, hb⟩; have A2 := A1.below hb A1.lt; have B2 := B1.below hb B1.lt; have W2 := W1.trans (hb.mono W1.size); clear hb c0 c1 c2 e0 e1 e2 lt1 q0 q1 q2 f0 f1 f2 lt2; obtain ⟨c0, c1, c2, e0, e1, e2, lt1⟩ := A2.three; obtain ⟨q0, q1, q2, f0, f1, f2, lt2⟩ := B2.three))
  all_goals
    have F := six A2 B2 W2 (Nat.le_refl _) (Nat.le_succ _) (by simp) (.bool true) (S dl) (.int .i64 de) (.bool false) (S gl) (.int .i64 ge)
    clear c0 c1 c2 e0 e1 e2 lt1 q0 q1 q2 f0 f1 f2 lt2 A1 B1 A2 B2 W1 W2 AX BX BW
    generalize ((((((wB.setCell ⟨w.heap.size, 0, none⟩ (.bool true)).setCell ⟨w.heap.size, 1, none⟩ (S dl)).setCell ⟨w.heap.size, 2, none⟩ (.int .i64 de)).setCell ⟨w.heap.size + 1, 0, none⟩ (.bool false)).setCell ⟨w.heap.size + 1, 1, none⟩ (S gl)).setCell ⟨w.heap.size + 1, 2, none⟩ (.int .i64 ge)) = w6 at F ⊢
    have A3 : Hid (Box w6 w.heap.size #[.bool true, S dl, .int .i64 de]) := Lib.hid F.1
    have B3 : Hid (Box w6 (w.heap.size + 1) #[.bool false, S gl, .int .i64 ge]) := Lib.hid F.2.1
    have W3 : Hid (Below w.heap.size w w6) := Lib.hid F.2.2
    clear F
    obtain ⟨c0, c1, c2, e0, e1, e2, lt1⟩ := A3.out.three
    obtain ⟨q0, q1, q2, f0, f1, f2, lt2⟩ := B3.out.three
    go_wp2
    go_ret
    exact ⟨rfl, W3.out⟩

set_option maxRecDepth 100000 in
set_option maxHeartbeats 3200000 in
theorem cmp_ft (an : Bool) (sa : ByteArray) (ae : Int) (bn : Bool) (sb : ByteArray) (be : Int) (w : World) (h1 : sa.size ≤ 100000) (h2 : sb.size ≤ 100000) (dn : Bool) (dl : List UInt8) (de : Int) (gn : Bool) (gl : List UInt8) (ge : Int)
    (hd : made an sa.data.toList ae = ⟨dn, dl, de⟩) (hg : made bn sb.data.toList be = ⟨gn, gl, ge⟩) (gdn : dn = false) (ggn : gn = true) :
    Calls Tryz.prog 48 #[.agg #[.bool an, .string sa, .int .i64 ae], .agg #[.bool bn, .string sb, .int .i64 be]] w fun x w' => x = .returned (.int .i64 1) ∧ Below w.heap.size w w' := by
  subst gdn ggn
  have HD := Lib.hid hd
  have HG := Lib.hid hg
  clear hd hg
  go_enter Tryz.func48, Tryz.ntmps48
  go_wp2_with fail
  have AX : Hid (Box ((w.alloc (.cells #[.bool an, .string sa, .int .i64 ae] 90)).alloc (.cells #[.bool bn, .string sb, .int .i64 be] 90)) w.heap.size #[.bool an, .string sa, .int .i64 ae]) := Lib.hid ((Box.new w #[.bool an, .string sa, .int .i64 ae] 90).alloc (.cells #[.bool bn, .string sb, .int .i64 be] 90))
  have BX : Hid (Box ((w.alloc (.cells #[.bool an, .string sa, .int .i64 ae] 90)).alloc (.cells #[.bool bn, .string sb, .int .i64 be] 90)) (w.heap.size + 1) #[.bool bn, .string sb, .int .i64 be]) := Lib.hid (((Box.new (w.alloc (.cells #[.bool an, .string sa, .int .i64 ae] 90)) #[.bool bn, .string sb, .int .i64 be] 90).at (b' := w.heap.size + 1) (by simp)))
  have BW : Hid (Below w.heap.size w ((w.alloc (.cells #[.bool an, .string sa, .int .i64 ae] 90)).alloc (.cells #[.bool bn, .string sb, .int .i64 be] 90))) := Lib.hid (below_alloc2 w _ _)
  go_region_with (first
    | (go_at_call 69; with_reducible refine (norm_as an sa ae _ (by omega) ⟨false, dl, de⟩ HD.out).mono ?_; rintro x wA ⟨rfl, hb⟩; have A1 := AX.out.drew.below hb (by simp <;> omega); have B1 := BX.out.drew.below hb (by simp <;> omega); have W1 := BW.out.trans ((below_drew' hb).mono (by simp <;> omega)); clear hb; obtain ⟨c0, c1, c2, e0, e1, e2, lt1⟩ := A1.three; obtain ⟨q0, q1, q2, f0, f1, f2, lt2⟩ := B1.three)
    | (go_at_call 69; with_reducible refine (norm_as bn sb be _ (by omega) ⟨true, gl, ge⟩ HG.out).mono ?_; rintro x wB ⟨rfl, hb⟩; have A2 := A1.below hb A1.lt; have B2 := B1.below hb B1.lt; have W2 := W1.trans (hb.mono W1.size); clear hb c0 c1 c2 e0 e1 e2 lt1 q0 q1 q2 f0 f1 f2 lt2; obtain ⟨c0, c1, c2, e0, e1, e2, lt1⟩ := A2.three; obtain ⟨q0, q1, q2, f0, f1, f2, lt2⟩ := B2.three))
  all_goals
    have F := six A2 B2 W2 (Nat.le_refl _) (Nat.le_succ _) (by simp) (.bool false) (S dl) (.int .i64 de) (.bool true) (S gl) (.int .i64 ge)
    clear c0 c1 c2 e0 e1 e2 lt1 q0 q1 q2 f0 f1 f2 lt2 A1 B1 A2 B2 W1 W2 AX BX BW
    generalize ((((((wB.setCell ⟨w.heap.size, 0, none⟩ (.bool false)).setCell ⟨w.heap.size, 1, none⟩ (S dl)).setCell ⟨w.heap.size, 2, none⟩ (.int .i64 de)).setCell ⟨w.heap.size + 1, 0, none⟩ (.bool true)).setCell ⟨w.heap.size + 1, 1, none⟩ (S gl)).setCell ⟨w.heap.size + 1, 2, none⟩ (.int .i64 ge)) = w6 at F ⊢
    have A3 : Hid (Box w6 w.heap.size #[.bool false, S dl, .int .i64 de]) := Lib.hid F.1
    have B3 : Hid (Box w6 (w.heap.size + 1) #[.bool true, S gl, .int .i64 ge]) := Lib.hid F.2.1
    have W3 : Hid (Below w.heap.size w w6) := Lib.hid F.2.2
    clear F
    obtain ⟨c0, c1, c2, e0, e1, e2, lt1⟩ := A3.out.three
    obtain ⟨q0, q1, q2, f0, f1, f2, lt2⟩ := B3.out.three
    go_wp2
    go_ret
    exact ⟨rfl, W3.out⟩

set_option maxRecDepth 100000 in
set_option maxHeartbeats 3200000 in
theorem cmp_ff (an : Bool) (sa : ByteArray) (ae : Int) (bn : Bool) (sb : ByteArray) (be : Int) (w : World) (h1 : sa.size ≤ 100000) (h2 : sb.size ≤ 100000) (dn : Bool) (dl : List UInt8) (de : Int) (gn : Bool) (gl : List UInt8) (ge : Int)
    (hd : made an sa.data.toList ae = ⟨dn, dl, de⟩) (hg : made bn sb.data.toList be = ⟨gn, gl, ge⟩) (gdn : dn = false) (ggn : gn = false) (m : Int) (hm : min de ge = m) :
    Calls Tryz.prog 48 #[.agg #[.bool an, .string sa, .int .i64 ae], .agg #[.bool bn, .string sb, .int .i64 be]] w fun x w' => x = .returned (.int .i64 (Lib.compareInt (val (dl ++ zs (de - m).toNat)) (val (gl ++ zs (ge - m).toNat)))) ∧ Below w.heap.size w w' := by
  have l1 : dl.length ≤ 100000 := by have := made_length an sa.data.toList ae; rw [hd, size_list] at this; simp only at this; omega
  have l2 : gl.length ≤ 100000 := by have := made_length bn sb.data.toList be; rw [hg, size_list] at this; simp only at this; omega
  have x1 := made_exp an sa.data.toList ae
  have x2 := made_exp bn sb.data.toList be
  rw [hd] at x1
  rw [hg] at x2
  simp only at x1 x2
  obtain ⟨x1, x1'⟩ := x1
  obtain ⟨x2, x2'⟩ := x2
  have i1 : isDig dl = true := by have := made_isDig an sa.data.toList ae; rw [hd] at this; exact this
  have i2 : isDig gl = true := by have := made_isDig bn sb.data.toList be; rw [hg] at this; exact this
  have I1 : Hid (isDig (dl ++ zs (de - m).toNat) = true) := Lib.hid (by rw [isDig_append, i1, isDig_zs]; rfl)
  have I2 : Hid (isDig (gl ++ zs (ge - m).toNat) = true) := Lib.hid (by rw [isDig_append, i2, isDig_zs]; rfl)
  have g1 : (dl ++ zs (de - m).toNat).length ≤ 200000 := by rw [List.length_append, zs_length]; omega
  have g2 : (gl ++ zs (ge - m).toNat).length ≤ 200000 := by rw [List.length_append, zs_length]; omega
  have HM := Lib.hid hm
  clear hm i1 i2
  subst gdn ggn
  have HD := Lib.hid hd
  have HG := Lib.hid hg
  clear hd hg
  go_enter Tryz.func48, Tryz.ntmps48
  go_wp2_with fail
  have AX : Hid (Box ((w.alloc (.cells #[.bool an, .string sa, .int .i64 ae] 90)).alloc (.cells #[.bool bn, .string sb, .int .i64 be] 90)) w.heap.size #[.bool an, .string sa, .int .i64 ae]) := Lib.hid ((Box.new w #[.bool an, .string sa, .int .i64 ae] 90).alloc (.cells #[.bool bn, .string sb, .int .i64 be] 90))
  have BX : Hid (Box ((w.alloc (.cells #[.bool an, .string sa, .int .i64 ae] 90)).alloc (.cells #[.bool bn, .string sb, .int .i64 be] 90)) (w.heap.size + 1) #[.bool bn, .string sb, .int .i64 be]) := Lib.hid (((Box.new (w.alloc (.cells #[.bool an, .string sa, .int .i64 ae] 90)) #[.bool bn, .string sb, .int .i64 be] 90).at (b' := w.heap.size + 1) (by simp)))
  have BW : Hid (Below w.heap.size w ((w.alloc (.cells #[.bool an, .string sa, .int .i64 ae] 90)).alloc (.cells #[.bool bn, .string sb, .int .i64 be] 90))) := Lib.hid (below_alloc2 w _ _)
  go_region_with (first
    | (go_at_call 69; with_reducible refine (norm_as an sa ae _ (by omega) ⟨false, dl, de⟩ HD.out).mono ?_; rintro x wA ⟨rfl, hb⟩; have A1 := AX.out.drew.below hb (by simp <;> omega); have B1 := BX.out.drew.below hb (by simp <;> omega); have W1 := BW.out.trans ((below_drew' hb).mono (by simp <;> omega)); clear hb; obtain ⟨c0, c1, c2, e0, e1, e2, lt1⟩ := A1.three; obtain ⟨q0, q1, q2, f0, f1, f2, lt2⟩ := B1.three)
    | (go_at_call 69; with_reducible refine (norm_as bn sb be _ (by omega) ⟨false, gl, ge⟩ HG.out).mono ?_; rintro x wB ⟨rfl, hb⟩; have A2 := A1.below hb A1.lt; have B2 := B1.below hb B1.lt; have W2 := W1.trans (hb.mono W1.size); clear hb c0 c1 c2 e0 e1 e2 lt1 q0 q1 q2 f0 f1 f2 lt2; obtain ⟨c0, c1, c2, e0, e1, e2, lt1⟩ := A2.three; obtain ⟨q0, q1, q2, f0, f1, f2, lt2⟩ := B2.three))
  all_goals
    have F := six A2 B2 W2 (Nat.le_refl _) (Nat.le_succ _) (by simp) (.bool false) (S dl) (.int .i64 de) (.bool false) (S gl) (.int .i64 ge)
    clear c0 c1 c2 e0 e1 e2 lt1 q0 q1 q2 f0 f1 f2 lt2 A1 B1 A2 B2 W1 W2 AX BX BW
    generalize ((((((wB.setCell ⟨w.heap.size, 0, none⟩ (.bool false)).setCell ⟨w.heap.size, 1, none⟩ (S dl)).setCell ⟨w.heap.size, 2, none⟩ (.int .i64 de)).setCell ⟨w.heap.size + 1, 0, none⟩ (.bool false)).setCell ⟨w.heap.size + 1, 1, none⟩ (S gl)).setCell ⟨w.heap.size + 1, 2, none⟩ (.int .i64 ge)) = w6 at F ⊢
    have A3 : Hid (Box w6 w.heap.size #[.bool false, S dl, .int .i64 de]) := Lib.hid F.1
    have B3 : Hid (Box w6 (w.heap.size + 1) #[.bool false, S gl, .int .i64 ge]) := Lib.hid F.2.1
    have W3 : Hid (Below w.heap.size w w6) := Lib.hid F.2.2
    clear F
    obtain ⟨c0, c1, c2, e0, e1, e2, lt1⟩ := A3.out.three
    obtain ⟨q0, q1, q2, f0, f1, f2, lt2⟩ := B3.out.three
    go_wp2_with fail
    with_reducible refine (aligned_as false dl de false gl ge m _ HM.out l1 l2 x1 x1' x2 x2').mono ?_
    rintro x w7 ⟨rfl, hb⟩
    have A4 := Lib.hid (A3.out.below hb A3.out.lt)
    have B4 := Lib.hid (B3.out.below hb B3.out.lt)
    have W4 := Lib.hid (W3.out.trans (hb.mono (B' := w.heap.size) W3.out.size))
    clear hb A3 B3 W3 c0 c1 c2 e0 e1 e2 lt1 q0 q1 q2 f0 f1 f2 lt2
    obtain ⟨c0, c1, c2, e0, e1, e2, lt1⟩ := A4.out.three
    obtain ⟨q0, q1, q2, f0, f1, f2, lt2⟩ := B4.out.three
    go_wp2_with fail
    with_reducible refine (cmpS (dl ++ zs (de - m).toNat) (gl ++ zs (ge - m).toNat) _ (by omega) (by omega) I1.out I2.out).mono ?_
    rintro x w8 ⟨rfl, hb⟩
    have W5 := Lib.hid (W4.out.trans (hb.mono (B' := w.heap.size) W4.out.size))
    clear hb
    go_wp2
    go_ret
    exact ⟨rfl, W5.out⟩

set_option maxRecDepth 100000 in
set_option maxHeartbeats 3200000 in
theorem cmp_tt (an : Bool) (sa : ByteArray) (ae : Int) (bn : Bool) (sb : ByteArray) (be : Int) (w : World) (h1 : sa.size ≤ 100000) (h2 : sb.size ≤ 100000) (dn : Bool) (dl : List UInt8) (de : Int) (gn : Bool) (gl : List UInt8) (ge : Int)
    (hd : made an sa.data.toList ae = ⟨dn, dl, de⟩) (hg : made bn sb.data.toList be = ⟨gn, gl, ge⟩) (gdn : dn = true) (ggn : gn = true) (m : Int) (hm : min de ge = m) :
    Calls Tryz.prog 48 #[.agg #[.bool an, .string sa, .int .i64 ae], .agg #[.bool bn, .string sb, .int .i64 be]] w fun x w' => x = .returned (.int .i64 (Lib.compareInt (val (gl ++ zs (ge - m).toNat)) (val (dl ++ zs (de - m).toNat)))) ∧ Below w.heap.size w w' := by
  have l1 : dl.length ≤ 100000 := by have := made_length an sa.data.toList ae; rw [hd, size_list] at this; simp only at this; omega
  have l2 : gl.length ≤ 100000 := by have := made_length bn sb.data.toList be; rw [hg, size_list] at this; simp only at this; omega
  have x1 := made_exp an sa.data.toList ae
  have x2 := made_exp bn sb.data.toList be
  rw [hd] at x1
  rw [hg] at x2
  simp only at x1 x2
  obtain ⟨x1, x1'⟩ := x1
  obtain ⟨x2, x2'⟩ := x2
  have i1 : isDig dl = true := by have := made_isDig an sa.data.toList ae; rw [hd] at this; exact this
  have i2 : isDig gl = true := by have := made_isDig bn sb.data.toList be; rw [hg] at this; exact this
  have I1 : Hid (isDig (dl ++ zs (de - m).toNat) = true) := Lib.hid (by rw [isDig_append, i1, isDig_zs]; rfl)
  have I2 : Hid (isDig (gl ++ zs (ge - m).toNat) = true) := Lib.hid (by rw [isDig_append, i2, isDig_zs]; rfl)
  have g1 : (dl ++ zs (de - m).toNat).length ≤ 200000 := by rw [List.length_append, zs_length]; omega
  have g2 : (gl ++ zs (ge - m).toNat).length ≤ 200000 := by rw [List.length_append, zs_length]; omega
  have HM := Lib.hid hm
  clear hm i1 i2
  subst gdn ggn
  have HD := Lib.hid hd
  have HG := Lib.hid hg
  clear hd hg
  go_enter Tryz.func48, Tryz.ntmps48
  go_wp2_with fail
  have AX : Hid (Box ((w.alloc (.cells #[.bool an, .string sa, .int .i64 ae] 90)).alloc (.cells #[.bool bn, .string sb, .int .i64 be] 90)) w.heap.size #[.bool an, .string sa, .int .i64 ae]) := Lib.hid ((Box.new w #[.bool an, .string sa, .int .i64 ae] 90).alloc (.cells #[.bool bn, .string sb, .int .i64 be] 90))
  have BX : Hid (Box ((w.alloc (.cells #[.bool an, .string sa, .int .i64 ae] 90)).alloc (.cells #[.bool bn, .string sb, .int .i64 be] 90)) (w.heap.size + 1) #[.bool bn, .string sb, .int .i64 be]) := Lib.hid (((Box.new (w.alloc (.cells #[.bool an, .string sa, .int .i64 ae] 90)) #[.bool bn, .string sb, .int .i64 be] 90).at (b' := w.heap.size + 1) (by simp)))
  have BW : Hid (Below w.heap.size w ((w.alloc (.cells #[.bool an, .string sa, .int .i64 ae] 90)).alloc (.cells #[.bool bn, .string sb, .int .i64 be] 90))) := Lib.hid (below_alloc2 w _ _)
  go_region_with (first
    | (go_at_call 69; with_reducible refine (norm_as an sa ae _ (by omega) ⟨true, dl, de⟩ HD.out).mono ?_; rintro x wA ⟨rfl, hb⟩; have A1 := AX.out.drew.below hb (by simp <;> omega); have B1 := BX.out.drew.below hb (by simp <;> omega); have W1 := BW.out.trans ((below_drew' hb).mono (by simp <;> omega)); clear hb; obtain ⟨c0, c1, c2, e0, e1, e2, lt1⟩ := A1.three; obtain ⟨q0, q1, q2, f0, f1, f2, lt2⟩ := B1.three)
    | (go_at_call 69; with_reducible refine (norm_as bn sb be _ (by omega) ⟨true, gl, ge⟩ HG.out).mono ?_; rintro x wB ⟨rfl, hb⟩; have A2 := A1.below hb A1.lt; have B2 := B1.below hb B1.lt; have W2 := W1.trans (hb.mono W1.size); clear hb c0 c1 c2 e0 e1 e2 lt1 q0 q1 q2 f0 f1 f2 lt2; obtain ⟨c0, c1, c2, e0, e1, e2, lt1⟩ := A2.three; obtain ⟨q0, q1, q2, f0, f1, f2, lt2⟩ := B2.three))
  all_goals
    have F := six A2 B2 W2 (Nat.le_refl _) (Nat.le_succ _) (by simp) (.bool true) (S dl) (.int .i64 de) (.bool true) (S gl) (.int .i64 ge)
    clear c0 c1 c2 e0 e1 e2 lt1 q0 q1 q2 f0 f1 f2 lt2 A1 B1 A2 B2 W1 W2 AX BX BW
    generalize ((((((wB.setCell ⟨w.heap.size, 0, none⟩ (.bool true)).setCell ⟨w.heap.size, 1, none⟩ (S dl)).setCell ⟨w.heap.size, 2, none⟩ (.int .i64 de)).setCell ⟨w.heap.size + 1, 0, none⟩ (.bool true)).setCell ⟨w.heap.size + 1, 1, none⟩ (S gl)).setCell ⟨w.heap.size + 1, 2, none⟩ (.int .i64 ge)) = w6 at F ⊢
    have A3 : Hid (Box w6 w.heap.size #[.bool true, S dl, .int .i64 de]) := Lib.hid F.1
    have B3 : Hid (Box w6 (w.heap.size + 1) #[.bool true, S gl, .int .i64 ge]) := Lib.hid F.2.1
    have W3 : Hid (Below w.heap.size w w6) := Lib.hid F.2.2
    clear F
    obtain ⟨c0, c1, c2, e0, e1, e2, lt1⟩ := A3.out.three
    obtain ⟨q0, q1, q2, f0, f1, f2, lt2⟩ := B3.out.three
    go_wp2_with fail
    with_reducible refine (aligned_as true dl de true gl ge m _ HM.out l1 l2 x1 x1' x2 x2').mono ?_
    rintro x w7 ⟨rfl, hb⟩
    have A4 := Lib.hid (A3.out.below hb A3.out.lt)
    have B4 := Lib.hid (B3.out.below hb B3.out.lt)
    have W4 := Lib.hid (W3.out.trans (hb.mono (B' := w.heap.size) W3.out.size))
    clear hb A3 B3 W3 c0 c1 c2 e0 e1 e2 lt1 q0 q1 q2 f0 f1 f2 lt2
    obtain ⟨c0, c1, c2, e0, e1, e2, lt1⟩ := A4.out.three
    obtain ⟨q0, q1, q2, f0, f1, f2, lt2⟩ := B4.out.three
    go_wp2_with fail
    with_reducible refine (cmpS (gl ++ zs (ge - m).toNat) (dl ++ zs (de - m).toNat) _ (by omega) (by omega) I2.out I1.out).mono ?_
    rintro x w8 ⟨rfl, hb⟩
    have W5 := Lib.hid (W4.out.trans (hb.mono (B' := w.heap.size) W4.out.size))
    clear hb
    go_wp2
    go_ret
    exact ⟨rfl, W5.out⟩

set_option maxRecDepth 100000 in
set_option maxHeartbeats 3200000 in
theorem add_same (an : Bool) (sa : ByteArray) (ae : Int) (bn : Bool) (sb : ByteArray) (be : Int) (w : World) (h1 : sa.size ≤ 100000) (h2 : sb.size ≤ 100000) (dn : Bool) (dl : List UInt8) (de : Int) (gn : Bool) (gl : List UInt8) (ge : Int)
    (hd : made an sa.data.toList ae = ⟨dn, dl, de⟩) (hg : made bn sb.data.toList be = ⟨gn, gl, ge⟩) (m : Int) (hm : min de ge = m) (hs : (dn == gn) = true) (r : Tri) (hr : made dn (dig (val (dl ++ zs (de - m).toNat) + val (gl ++ zs (ge - m).toNat))) m = r) :
    Calls Tryz.prog 68 #[.agg #[.bool an, .string sa, .int .i64 ae], .agg #[.bool bn, .string sb, .int .i64 be]] w fun x w' => x = .returned (V r) ∧ Below w.heap.size w w' := by
  have l1 : dl.length ≤ 100000 := by have := made_length an sa.data.toList ae; rw [hd, size_list] at this; simp only at this; omega
  have l2 : gl.length ≤ 100000 := by have := made_length bn sb.data.toList be; rw [hg, size_list] at this; simp only at this; omega
  have x1 := made_exp an sa.data.toList ae
  have x2 := made_exp bn sb.data.toList be
  rw [hd] at x1
  rw [hg] at x2
  simp only at x1 x2
  obtain ⟨x1, x1'⟩ := x1
  obtain ⟨x2, x2'⟩ := x2
  have i1 : isDig dl = true := by have := made_isDig an sa.data.toList ae; rw [hd] at this; exact this
  have i2 : isDig gl = true := by have := made_isDig bn sb.data.toList be; rw [hg] at this; exact this
  have I1 : Hid (isDig (dl ++ zs (de - m).toNat) = true) := Lib.hid (by rw [isDig_append, i1, isDig_zs]; rfl)
  have I2 : Hid (isDig (gl ++ zs (ge - m).toNat) = true) := Lib.hid (by rw [isDig_append, i2, isDig_zs]; rfl)
  have g1 : (dl ++ zs (de - m).toNat).length ≤ 200000 := by rw [List.length_append, zs_length]; omega
  have g2 : (gl ++ zs (ge - m).toNat).length ≤ 200000 := by rw [List.length_append, zs_length]; omega
  have HM := Lib.hid hm
  clear hm i1 i2
  have HR := Lib.hid hr
  have gd : (dig (val (dl ++ zs (de - m).toNat) + val (gl ++ zs (ge - m).toNat))).length ≤ 200001 := dig_add_len 200000 I1.out I2.out g1 g2
  clear hr
  have HD := Lib.hid hd
  have HG := Lib.hid hg
  clear hd hg
  go_enter Tryz.func68, Tryz.ntmps68
  go_wp2_with fail
  have AX : Hid (Box (((w.alloc (.cells #[.bool an, .string sa, .int .i64 ae] 90)).alloc (.cells #[.bool bn, .string sb, .int .i64 be] 90)).alloc (.cells zc 90)) w.heap.size #[.bool an, .string sa, .int .i64 ae]) := Lib.hid (((Box.new w #[.bool an, .string sa, .int .i64 ae] 90).alloc (.cells #[.bool bn, .string sb, .int .i64 be] 90)).alloc (.cells zc 90))
  have BX : Hid (Box (((w.alloc (.cells #[.bool an, .string sa, .int .i64 ae] 90)).alloc (.cells #[.bool bn, .string sb, .int .i64 be] 90)).alloc (.cells zc 90)) (w.heap.size + 1) #[.bool bn, .string sb, .int .i64 be]) := Lib.hid (((Box.new (w.alloc (.cells #[.bool an, .string sa, .int .i64 ae] 90)) #[.bool bn, .string sb, .int .i64 be] 90).at (b' := w.heap.size + 1) (by simp)).alloc (.cells zc 90))
  have RX : Hid (Box (((w.alloc (.cells #[.bool an, .string sa, .int .i64 ae] 90)).alloc (.cells #[.bool bn, .string sb, .int .i64 be] 90)).alloc (.cells zc 90)) (w.heap.size + 1 + 1) zc) := Lib.hid ((Box.new ((w.alloc (.cells #[.bool an, .string sa, .int .i64 ae] 90)).alloc (.cells #[.bool bn, .string sb, .int .i64 be] 90)) zc 90).at (b' := w.heap.size + 1 + 1) (by simp))
  have BW : Hid (Below w.heap.size w (((w.alloc (.cells #[.bool an, .string sa, .int .i64 ae] 90)).alloc (.cells #[.bool bn, .string sb, .int .i64 be] 90)).alloc (.cells zc 90))) := Lib.hid (below_alloc3 w _ _ _)
  go_region_with (first
    | (go_at_call 69; with_reducible refine (norm_as an sa ae _ (by omega) ⟨dn, dl, de⟩ HD.out).mono ?_; rintro x wA ⟨rfl, hb⟩; have A1 := AX.out.drew.below hb (by simp <;> omega); have B1 := BX.out.drew.below hb (by simp <;> omega); have R1 := RX.out.drew.below hb (by simp <;> omega); have W1 := BW.out.trans ((below_drew' hb).mono (by simp <;> omega)); clear hb; obtain ⟨c0, c1, c2, e0, e1, e2, lt1⟩ := A1.three; obtain ⟨q0, q1, q2, f0, f1, f2, lt2⟩ := B1.three)
    | (go_at_call 69; with_reducible refine (norm_as bn sb be _ (by omega) ⟨gn, gl, ge⟩ HG.out).mono ?_; rintro x wB ⟨rfl, hb⟩; have A2 := A1.below hb A1.lt; have B2 := B1.below hb B1.lt; have R2 := R1.below hb R1.lt; have W2 := W1.trans (hb.mono W1.size); clear hb c0 c1 c2 e0 e1 e2 lt1 q0 q1 q2 f0 f1 f2 lt2; obtain ⟨c0, c1, c2, e0, e1, e2, lt1⟩ := A2.three; obtain ⟨q0, q1, q2, f0, f1, f2, lt2⟩ := B2.three))
  all_goals
    have F := six A2 B2 W2 (Nat.le_refl _) (Nat.le_succ _) (by simp) (.bool dn) (S dl) (.int .i64 de) (.bool gn) (S gl) (.int .i64 ge)
    have G := R2.six (w := w) (b := w.heap.size) (c := w.heap.size + 1) (by simp <;> omega) (by simp <;> omega) (.bool dn) (S dl) (.int .i64 de) (.bool gn) (S gl) (.int .i64 ge)
    clear c0 c1 c2 e0 e1 e2 lt1 q0 q1 q2 f0 f1 f2 lt2 A1 B1 A2 B2 W1 W2 AX BX BW R1 R2 RX
    generalize ((((((wB.setCell ⟨w.heap.size, 0, none⟩ (.bool dn)).setCell ⟨w.heap.size, 1, none⟩ (S dl)).setCell ⟨w.heap.size, 2, none⟩ (.int .i64 de)).setCell ⟨w.heap.size + 1, 0, none⟩ (.bool gn)).setCell ⟨w.heap.size + 1, 1, none⟩ (S gl)).setCell ⟨w.heap.size + 1, 2, none⟩ (.int .i64 ge)) = w6 at F G ⊢
    have A3 : Hid (Box w6 w.heap.size #[.bool dn, S dl, .int .i64 de]) := Lib.hid F.1
    have B3 : Hid (Box w6 (w.heap.size + 1) #[.bool gn, S gl, .int .i64 ge]) := Lib.hid F.2.1
    have W3 : Hid (Below w.heap.size w w6) := Lib.hid F.2.2
    have R3 : Hid (Box w6 (w.heap.size + 1 + 1) zc) := Lib.hid G
    clear F G
    obtain ⟨c0, c1, c2, e0, e1, e2, lt1⟩ := A3.out.three
    obtain ⟨q0, q1, q2, f0, f1, f2, lt2⟩ := B3.out.three
    go_wp2_with fail
    with_reducible refine (aligned_as dn dl de gn gl ge m _ HM.out l1 l2 x1 x1' x2 x2').mono ?_
    rintro x w7 ⟨rfl, hb⟩
    have A4 := Lib.hid (A3.out.below hb A3.out.lt)
    have B4 := Lib.hid (B3.out.below hb B3.out.lt)
    have W4 := Lib.hid (W3.out.trans (hb.mono (B' := w.heap.size) W3.out.size))
    have R4 := Lib.hid (R3.out.below hb R3.out.lt)
    clear hb A3 B3 W3 R3 c0 c1 c2 e0 e1 e2 lt1 q0 q1 q2 f0 f1 f2 lt2
    obtain ⟨c0, c1, c2, e0, e1, e2, lt1⟩ := A4.out.three
    obtain ⟨q0, q1, q2, f0, f1, f2, lt2⟩ := B4.out.three
    go_wp2_with fail
    go_region_with (first
      | (go_at_call 26; (with_reducible refine (addS (dl ++ zs (de - m).toNat) (gl ++ zs (ge - m).toNat) _ (by omega) (by omega) I1.out I2.out).mono ?_); rintro x wC ⟨rfl, hb⟩; have A5 := A4.out.drew.below hb A4.out.lt; have R5 := R4.out.drew.below hb R4.out.lt; have W5 := W4.out.trans ((below_drew' hb).mono (B' := w.heap.size) W4.out.size); clear hb c0 c1 c2 e0 e1 e2 lt1; obtain ⟨c0, c1, c2, e0, e1, e2, lt1⟩ := A5.three)
      | (go_at_call 47; (with_reducible refine (made_as dn ⟨(dig (val (dl ++ zs (de - m).toNat) + val (gl ++ zs (ge - m).toNat))).toArray⟩ m _ (by rw [arr_size]; omega) r (by rw [arr_list]; exact HR.out)).mono ?_); rintro x wD ⟨rfl, hb⟩; have R6 := R5.below hb R5.lt; have W6 := Lib.hid (W5.trans (hb.mono (B' := w.heap.size) W5.size)); clear hb; obtain ⟨p0, p1, p2, s0, s1, s2, lt3⟩ := R6.three))
    all_goals
      go_wp2
      exact bodyPost_ret (v := V r) (by simp [results, Tryz.results68, go_sem, p0, p1, p2]) rfl ⟨rfl, below_store3 W6.out (by omega) _ _ _⟩

set_option maxRecDepth 100000 in
set_option maxHeartbeats 3200000 in
theorem add_ge (an : Bool) (sa : ByteArray) (ae : Int) (bn : Bool) (sb : ByteArray) (be : Int) (w : World) (h1 : sa.size ≤ 100000) (h2 : sb.size ≤ 100000) (dn : Bool) (dl : List UInt8) (de : Int) (gn : Bool) (gl : List UInt8) (ge : Int)
    (hd : made an sa.data.toList ae = ⟨dn, dl, de⟩) (hg : made bn sb.data.toList be = ⟨gn, gl, ge⟩) (m : Int) (hm : min de ge = m) (hs : (dn == gn) = false) (hc : val (gl ++ zs (ge - m).toNat) ≤ val (dl ++ zs (de - m).toNat)) (r : Tri) (hr : made dn (dig (val (dl ++ zs (de - m).toNat) - val (gl ++ zs (ge - m).toNat))) m = r) :
    Calls Tryz.prog 68 #[.agg #[.bool an, .string sa, .int .i64 ae], .agg #[.bool bn, .string sb, .int .i64 be]] w fun x w' => x = .returned (V r) ∧ Below w.heap.size w w' := by
  have l1 : dl.length ≤ 100000 := by have := made_length an sa.data.toList ae; rw [hd, size_list] at this; simp only at this; omega
  have l2 : gl.length ≤ 100000 := by have := made_length bn sb.data.toList be; rw [hg, size_list] at this; simp only at this; omega
  have x1 := made_exp an sa.data.toList ae
  have x2 := made_exp bn sb.data.toList be
  rw [hd] at x1
  rw [hg] at x2
  simp only at x1 x2
  obtain ⟨x1, x1'⟩ := x1
  obtain ⟨x2, x2'⟩ := x2
  have i1 : isDig dl = true := by have := made_isDig an sa.data.toList ae; rw [hd] at this; exact this
  have i2 : isDig gl = true := by have := made_isDig bn sb.data.toList be; rw [hg] at this; exact this
  have I1 : Hid (isDig (dl ++ zs (de - m).toNat) = true) := Lib.hid (by rw [isDig_append, i1, isDig_zs]; rfl)
  have I2 : Hid (isDig (gl ++ zs (ge - m).toNat) = true) := Lib.hid (by rw [isDig_append, i2, isDig_zs]; rfl)
  have g1 : (dl ++ zs (de - m).toNat).length ≤ 200000 := by rw [List.length_append, zs_length]; omega
  have g2 : (gl ++ zs (ge - m).toNat).length ≤ 200000 := by rw [List.length_append, zs_length]; omega
  have HM := Lib.hid hm
  clear hm i1 i2
  have HR := Lib.hid hr
  have HC := Lib.hid hc
  have gd : (dig (val (dl ++ zs (de - m).toNat) - val (gl ++ zs (ge - m).toNat))).length ≤ 200001 := dig_sub_len 200000 I1.out g1
  clear hr hc
  have HD := Lib.hid hd
  have HG := Lib.hid hg
  clear hd hg
  go_enter Tryz.func68, Tryz.ntmps68
  go_wp2_with fail
  have AX : Hid (Box (((w.alloc (.cells #[.bool an, .string sa, .int .i64 ae] 90)).alloc (.cells #[.bool bn, .string sb, .int .i64 be] 90)).alloc (.cells zc 90)) w.heap.size #[.bool an, .string sa, .int .i64 ae]) := Lib.hid (((Box.new w #[.bool an, .string sa, .int .i64 ae] 90).alloc (.cells #[.bool bn, .string sb, .int .i64 be] 90)).alloc (.cells zc 90))
  have BX : Hid (Box (((w.alloc (.cells #[.bool an, .string sa, .int .i64 ae] 90)).alloc (.cells #[.bool bn, .string sb, .int .i64 be] 90)).alloc (.cells zc 90)) (w.heap.size + 1) #[.bool bn, .string sb, .int .i64 be]) := Lib.hid (((Box.new (w.alloc (.cells #[.bool an, .string sa, .int .i64 ae] 90)) #[.bool bn, .string sb, .int .i64 be] 90).at (b' := w.heap.size + 1) (by simp)).alloc (.cells zc 90))
  have RX : Hid (Box (((w.alloc (.cells #[.bool an, .string sa, .int .i64 ae] 90)).alloc (.cells #[.bool bn, .string sb, .int .i64 be] 90)).alloc (.cells zc 90)) (w.heap.size + 1 + 1) zc) := Lib.hid ((Box.new ((w.alloc (.cells #[.bool an, .string sa, .int .i64 ae] 90)).alloc (.cells #[.bool bn, .string sb, .int .i64 be] 90)) zc 90).at (b' := w.heap.size + 1 + 1) (by simp))
  have BW : Hid (Below w.heap.size w (((w.alloc (.cells #[.bool an, .string sa, .int .i64 ae] 90)).alloc (.cells #[.bool bn, .string sb, .int .i64 be] 90)).alloc (.cells zc 90))) := Lib.hid (below_alloc3 w _ _ _)
  go_region_with (first
    | (go_at_call 69; with_reducible refine (norm_as an sa ae _ (by omega) ⟨dn, dl, de⟩ HD.out).mono ?_; rintro x wA ⟨rfl, hb⟩; have A1 := AX.out.drew.below hb (by simp <;> omega); have B1 := BX.out.drew.below hb (by simp <;> omega); have R1 := RX.out.drew.below hb (by simp <;> omega); have W1 := BW.out.trans ((below_drew' hb).mono (by simp <;> omega)); clear hb; obtain ⟨c0, c1, c2, e0, e1, e2, lt1⟩ := A1.three; obtain ⟨q0, q1, q2, f0, f1, f2, lt2⟩ := B1.three)
    | (go_at_call 69; with_reducible refine (norm_as bn sb be _ (by omega) ⟨gn, gl, ge⟩ HG.out).mono ?_; rintro x wB ⟨rfl, hb⟩; have A2 := A1.below hb A1.lt; have B2 := B1.below hb B1.lt; have R2 := R1.below hb R1.lt; have W2 := W1.trans (hb.mono W1.size); clear hb c0 c1 c2 e0 e1 e2 lt1 q0 q1 q2 f0 f1 f2 lt2; obtain ⟨c0, c1, c2, e0, e1, e2, lt1⟩ := A2.three; obtain ⟨q0, q1, q2, f0, f1, f2, lt2⟩ := B2.three))
  all_goals
    have F := six A2 B2 W2 (Nat.le_refl _) (Nat.le_succ _) (by simp) (.bool dn) (S dl) (.int .i64 de) (.bool gn) (S gl) (.int .i64 ge)
    have G := R2.six (w := w) (b := w.heap.size) (c := w.heap.size + 1) (by simp <;> omega) (by simp <;> omega) (.bool dn) (S dl) (.int .i64 de) (.bool gn) (S gl) (.int .i64 ge)
    clear c0 c1 c2 e0 e1 e2 lt1 q0 q1 q2 f0 f1 f2 lt2 A1 B1 A2 B2 W1 W2 AX BX BW R1 R2 RX
    generalize ((((((wB.setCell ⟨w.heap.size, 0, none⟩ (.bool dn)).setCell ⟨w.heap.size, 1, none⟩ (S dl)).setCell ⟨w.heap.size, 2, none⟩ (.int .i64 de)).setCell ⟨w.heap.size + 1, 0, none⟩ (.bool gn)).setCell ⟨w.heap.size + 1, 1, none⟩ (S gl)).setCell ⟨w.heap.size + 1, 2, none⟩ (.int .i64 ge)) = w6 at F G ⊢
    have A3 : Hid (Box w6 w.heap.size #[.bool dn, S dl, .int .i64 de]) := Lib.hid F.1
    have B3 : Hid (Box w6 (w.heap.size + 1) #[.bool gn, S gl, .int .i64 ge]) := Lib.hid F.2.1
    have W3 : Hid (Below w.heap.size w w6) := Lib.hid F.2.2
    have R3 : Hid (Box w6 (w.heap.size + 1 + 1) zc) := Lib.hid G
    clear F G
    obtain ⟨c0, c1, c2, e0, e1, e2, lt1⟩ := A3.out.three
    obtain ⟨q0, q1, q2, f0, f1, f2, lt2⟩ := B3.out.three
    go_wp2_with fail
    with_reducible refine (aligned_as dn dl de gn gl ge m _ HM.out l1 l2 x1 x1' x2 x2').mono ?_
    rintro x w7 ⟨rfl, hb⟩
    have A4 := Lib.hid (A3.out.below hb A3.out.lt)
    have B4 := Lib.hid (B3.out.below hb B3.out.lt)
    have W4 := Lib.hid (W3.out.trans (hb.mono (B' := w.heap.size) W3.out.size))
    have R4 := Lib.hid (R3.out.below hb R3.out.lt)
    clear hb A3 B3 W3 R3 c0 c1 c2 e0 e1 e2 lt1 q0 q1 q2 f0 f1 f2 lt2
    obtain ⟨c0, c1, c2, e0, e1, e2, lt1⟩ := A4.out.three
    obtain ⟨q0, q1, q2, f0, f1, f2, lt2⟩ := B4.out.three
    go_wp2_with fail
    with_reducible refine (subS (dl ++ zs (de - m).toNat) (gl ++ zs (ge - m).toNat) _ (by omega) (by omega) I1.out I2.out HC.out).mono ?_
    rintro x wC ⟨rfl, hb⟩
    have A5 := Lib.hid (A4.out.below hb A4.out.lt)
    have B5 := Lib.hid (B4.out.below hb B4.out.lt)
    have R5 := Lib.hid (R4.out.below hb R4.out.lt)
    have W5 := Lib.hid (W4.out.trans (hb.mono (B' := w.heap.size) W4.out.size))
    clear hb c0 c1 c2 e0 e1 e2 lt1 q0 q1 q2 f0 f1 f2 lt2 A4 B4 R4 W4
    obtain ⟨c0, c1, c2, e0, e1, e2, lt1⟩ := A5.out.three
    obtain ⟨q0, q1, q2, f0, f1, f2, lt2⟩ := B5.out.three
    go_wp2_with fail
    with_reducible refine (made_as dn ⟨(dig (val (dl ++ zs (de - m).toNat) - val (gl ++ zs (ge - m).toNat))).toArray⟩ m _ (by rw [arr_size]; omega) r (by rw [arr_list]; exact HR.out)).mono ?_
    rintro x wD ⟨rfl, hb⟩
    have R6 := Lib.hid (R5.out.below hb R5.out.lt)
    have W6 := Lib.hid (W5.out.trans (hb.mono (B' := w.heap.size) W5.out.size))
    clear hb c0 c1 c2 e0 e1 e2 lt1 q0 q1 q2 f0 f1 f2 lt2
    obtain ⟨p0, p1, p2, s0, s1, s2, lt3⟩ := R6.out.three
    go_wp2
    exact bodyPost_ret (v := V r) (by simp [results, Tryz.results68, go_sem, p0, p1, p2]) rfl ⟨rfl, below_store3 W6.out (by omega) _ _ _⟩

set_option maxRecDepth 100000 in
set_option maxHeartbeats 3200000 in
theorem add_lt (an : Bool) (sa : ByteArray) (ae : Int) (bn : Bool) (sb : ByteArray) (be : Int) (w : World) (h1 : sa.size ≤ 100000) (h2 : sb.size ≤ 100000) (dn : Bool) (dl : List UInt8) (de : Int) (gn : Bool) (gl : List UInt8) (ge : Int)
    (hd : made an sa.data.toList ae = ⟨dn, dl, de⟩) (hg : made bn sb.data.toList be = ⟨gn, gl, ge⟩) (m : Int) (hm : min de ge = m) (hs : (dn == gn) = false) (hc : val (dl ++ zs (de - m).toNat) < val (gl ++ zs (ge - m).toNat)) (r : Tri) (hr : made gn (dig (val (gl ++ zs (ge - m).toNat) - val (dl ++ zs (de - m).toNat))) m = r) :
    Calls Tryz.prog 68 #[.agg #[.bool an, .string sa, .int .i64 ae], .agg #[.bool bn, .string sb, .int .i64 be]] w fun x w' => x = .returned (V r) ∧ Below w.heap.size w w' := by
  have l1 : dl.length ≤ 100000 := by have := made_length an sa.data.toList ae; rw [hd, size_list] at this; simp only at this; omega
  have l2 : gl.length ≤ 100000 := by have := made_length bn sb.data.toList be; rw [hg, size_list] at this; simp only at this; omega
  have x1 := made_exp an sa.data.toList ae
  have x2 := made_exp bn sb.data.toList be
  rw [hd] at x1
  rw [hg] at x2
  simp only at x1 x2
  obtain ⟨x1, x1'⟩ := x1
  obtain ⟨x2, x2'⟩ := x2
  have i1 : isDig dl = true := by have := made_isDig an sa.data.toList ae; rw [hd] at this; exact this
  have i2 : isDig gl = true := by have := made_isDig bn sb.data.toList be; rw [hg] at this; exact this
  have I1 : Hid (isDig (dl ++ zs (de - m).toNat) = true) := Lib.hid (by rw [isDig_append, i1, isDig_zs]; rfl)
  have I2 : Hid (isDig (gl ++ zs (ge - m).toNat) = true) := Lib.hid (by rw [isDig_append, i2, isDig_zs]; rfl)
  have g1 : (dl ++ zs (de - m).toNat).length ≤ 200000 := by rw [List.length_append, zs_length]; omega
  have g2 : (gl ++ zs (ge - m).toNat).length ≤ 200000 := by rw [List.length_append, zs_length]; omega
  have HM := Lib.hid hm
  clear hm i1 i2
  have HR := Lib.hid hr
  have HC := Lib.hid hc
  have gd : (dig (val (gl ++ zs (ge - m).toNat) - val (dl ++ zs (de - m).toNat))).length ≤ 200001 := dig_sub_len 200000 I2.out g2
  clear hr hc
  have HD := Lib.hid hd
  have HG := Lib.hid hg
  clear hd hg
  go_enter Tryz.func68, Tryz.ntmps68
  go_wp2_with fail
  have AX : Hid (Box (((w.alloc (.cells #[.bool an, .string sa, .int .i64 ae] 90)).alloc (.cells #[.bool bn, .string sb, .int .i64 be] 90)).alloc (.cells zc 90)) w.heap.size #[.bool an, .string sa, .int .i64 ae]) := Lib.hid (((Box.new w #[.bool an, .string sa, .int .i64 ae] 90).alloc (.cells #[.bool bn, .string sb, .int .i64 be] 90)).alloc (.cells zc 90))
  have BX : Hid (Box (((w.alloc (.cells #[.bool an, .string sa, .int .i64 ae] 90)).alloc (.cells #[.bool bn, .string sb, .int .i64 be] 90)).alloc (.cells zc 90)) (w.heap.size + 1) #[.bool bn, .string sb, .int .i64 be]) := Lib.hid (((Box.new (w.alloc (.cells #[.bool an, .string sa, .int .i64 ae] 90)) #[.bool bn, .string sb, .int .i64 be] 90).at (b' := w.heap.size + 1) (by simp)).alloc (.cells zc 90))
  have RX : Hid (Box (((w.alloc (.cells #[.bool an, .string sa, .int .i64 ae] 90)).alloc (.cells #[.bool bn, .string sb, .int .i64 be] 90)).alloc (.cells zc 90)) (w.heap.size + 1 + 1) zc) := Lib.hid ((Box.new ((w.alloc (.cells #[.bool an, .string sa, .int .i64 ae] 90)).alloc (.cells #[.bool bn, .string sb, .int .i64 be] 90)) zc 90).at (b' := w.heap.size + 1 + 1) (by simp))
  have BW : Hid (Below w.heap.size w (((w.alloc (.cells #[.bool an, .string sa, .int .i64 ae] 90)).alloc (.cells #[.bool bn, .string sb, .int .i64 be] 90)).alloc (.cells zc 90))) := Lib.hid (below_alloc3 w _ _ _)
  go_region_with (first
    | (go_at_call 69; with_reducible refine (norm_as an sa ae _ (by omega) ⟨dn, dl, de⟩ HD.out).mono ?_; rintro x wA ⟨rfl, hb⟩; have A1 := AX.out.drew.below hb (by simp <;> omega); have B1 := BX.out.drew.below hb (by simp <;> omega); have R1 := RX.out.drew.below hb (by simp <;> omega); have W1 := BW.out.trans ((below_drew' hb).mono (by simp <;> omega)); clear hb; obtain ⟨c0, c1, c2, e0, e1, e2, lt1⟩ := A1.three; obtain ⟨q0, q1, q2, f0, f1, f2, lt2⟩ := B1.three)
    | (go_at_call 69; with_reducible refine (norm_as bn sb be _ (by omega) ⟨gn, gl, ge⟩ HG.out).mono ?_; rintro x wB ⟨rfl, hb⟩; have A2 := A1.below hb A1.lt; have B2 := B1.below hb B1.lt; have R2 := R1.below hb R1.lt; have W2 := W1.trans (hb.mono W1.size); clear hb c0 c1 c2 e0 e1 e2 lt1 q0 q1 q2 f0 f1 f2 lt2; obtain ⟨c0, c1, c2, e0, e1, e2, lt1⟩ := A2.three; obtain ⟨q0, q1, q2, f0, f1, f2, lt2⟩ := B2.three))
  all_goals
    have F := six A2 B2 W2 (Nat.le_refl _) (Nat.le_succ _) (by simp) (.bool dn) (S dl) (.int .i64 de) (.bool gn) (S gl) (.int .i64 ge)
    have G := R2.six (w := w) (b := w.heap.size) (c := w.heap.size + 1) (by simp <;> omega) (by simp <;> omega) (.bool dn) (S dl) (.int .i64 de) (.bool gn) (S gl) (.int .i64 ge)
    clear c0 c1 c2 e0 e1 e2 lt1 q0 q1 q2 f0 f1 f2 lt2 A1 B1 A2 B2 W1 W2 AX BX BW R1 R2 RX
    generalize ((((((wB.setCell ⟨w.heap.size, 0, none⟩ (.bool dn)).setCell ⟨w.heap.size, 1, none⟩ (S dl)).setCell ⟨w.heap.size, 2, none⟩ (.int .i64 de)).setCell ⟨w.heap.size + 1, 0, none⟩ (.bool gn)).setCell ⟨w.heap.size + 1, 1, none⟩ (S gl)).setCell ⟨w.heap.size + 1, 2, none⟩ (.int .i64 ge)) = w6 at F G ⊢
    have A3 : Hid (Box w6 w.heap.size #[.bool dn, S dl, .int .i64 de]) := Lib.hid F.1
    have B3 : Hid (Box w6 (w.heap.size + 1) #[.bool gn, S gl, .int .i64 ge]) := Lib.hid F.2.1
    have W3 : Hid (Below w.heap.size w w6) := Lib.hid F.2.2
    have R3 : Hid (Box w6 (w.heap.size + 1 + 1) zc) := Lib.hid G
    clear F G
    obtain ⟨c0, c1, c2, e0, e1, e2, lt1⟩ := A3.out.three
    obtain ⟨q0, q1, q2, f0, f1, f2, lt2⟩ := B3.out.three
    go_wp2_with fail
    with_reducible refine (aligned_as dn dl de gn gl ge m _ HM.out l1 l2 x1 x1' x2 x2').mono ?_
    rintro x w7 ⟨rfl, hb⟩
    have A4 := Lib.hid (A3.out.below hb A3.out.lt)
    have B4 := Lib.hid (B3.out.below hb B3.out.lt)
    have W4 := Lib.hid (W3.out.trans (hb.mono (B' := w.heap.size) W3.out.size))
    have R4 := Lib.hid (R3.out.below hb R3.out.lt)
    clear hb A3 B3 W3 R3 c0 c1 c2 e0 e1 e2 lt1 q0 q1 q2 f0 f1 f2 lt2
    obtain ⟨c0, c1, c2, e0, e1, e2, lt1⟩ := A4.out.three
    obtain ⟨q0, q1, q2, f0, f1, f2, lt2⟩ := B4.out.three
    go_wp2_with fail
    with_reducible refine (subS_less (dl ++ zs (de - m).toNat) (gl ++ zs (ge - m).toNat) _ (by omega) (by omega) I1.out I2.out HC.out).mono ?_
    rintro x wC ⟨rfl, hb⟩
    have A5 := Lib.hid (A4.out.below hb A4.out.lt)
    have B5 := Lib.hid (B4.out.below hb B4.out.lt)
    have R5 := Lib.hid (R4.out.below hb R4.out.lt)
    have W5 := Lib.hid (W4.out.trans (hb.mono (B' := w.heap.size) W4.out.size))
    clear hb c0 c1 c2 e0 e1 e2 lt1 q0 q1 q2 f0 f1 f2 lt2 A4 B4 R4 W4
    go_wp2_with fail
    with_reducible refine (subS (gl ++ zs (ge - m).toNat) (dl ++ zs (de - m).toNat) _ (by omega) (by omega) I2.out I1.out (Nat.le_of_lt HC.out)).mono ?_
    rintro x wE ⟨rfl, hb⟩
    have A5' := Lib.hid (A5.out.below hb A5.out.lt)
    have B5' := Lib.hid (B5.out.below hb B5.out.lt)
    have R5' := Lib.hid (R5.out.below hb R5.out.lt)
    have W5' := Lib.hid (W5.out.trans (hb.mono (B' := w.heap.size) W5.out.size))
    clear hb A5 B5 R5 W5
    have A5 := A5'
    have B5 := B5'
    have R5 := R5'
    have W5 := W5'
    clear A5' B5' R5' W5'
    obtain ⟨c0, c1, c2, e0, e1, e2, lt1⟩ := A5.out.three
    obtain ⟨q0, q1, q2, f0, f1, f2, lt2⟩ := B5.out.three
    go_wp2_with fail
    with_reducible refine (made_as gn ⟨(dig (val (gl ++ zs (ge - m).toNat) - val (dl ++ zs (de - m).toNat))).toArray⟩ m _ (by rw [arr_size]; omega) r (by rw [arr_list]; exact HR.out)).mono ?_
    rintro x wD ⟨rfl, hb⟩
    have R6 := Lib.hid (R5.out.below hb R5.out.lt)
    have W6 := Lib.hid (W5.out.trans (hb.mono (B' := w.heap.size) W5.out.size))
    clear hb c0 c1 c2 e0 e1 e2 lt1 q0 q1 q2 f0 f1 f2 lt2
    obtain ⟨p0, p1, p2, s0, s1, s2, lt3⟩ := R6.out.three
    go_wp2
    exact bodyPost_ret (v := V r) (by simp [results, Tryz.results68, go_sem, p0, p1, p2]) rfl ⟨rfl, below_store3 W6.out (by omega) _ _ _⟩

/-- The order of two decimals at k places. -/
theorem cmpD (an : Bool) (sa : ByteArray) (ae : Int) (bn : Bool) (sb : ByteArray) (be : Int) (w : World) (h1 : sa.size ≤ 100000) (h2 : sb.size ≤ 100000) (k : Nat) (x y : Int) (hx : Fit k x) (hy : Fit k y)
    (hd : made an sa.data.toList ae = nf k x) (hg : made bn sb.data.toList be = nf k y) (c : Int) (hc : Lib.compareInt x y = c) :
    Calls Tryz.prog 48 #[.agg #[.bool an, .string sa, .int .i64 ae], .agg #[.bool bn, .string sb, .int .i64 be]] w fun z w' => z = .returned (.int .i64 c) ∧ Below w.heap.size w w' := by
  subst hc
  obtain ⟨j, j1, j2, j3⟩ := align (nf_dv hx) (nf_dv hy)
  have nx := nf_neg hx
  have ny := nf_neg hy
  have hp := pow_pos' j
  cases dx : nf k x with
  | mk dn dl de =>
  cases dy : nf k y with
  | mk gn gl ge =>
  rw [dx] at hd j1 j2 j3 nx
  rw [dy] at hg j1 j2 j3 ny
  simp only at j1 j2 j3 nx ny
  cases dn with
  | true =>
    have x0 : x < 0 := by simpa using nx.symm
    cases gn with
    | false =>
      have y0 : ¬ y < 0 := by simpa using ny.symm
      rw [compareInt_of_lt (by omega)]
      exact cmp_tf an sa ae bn sb be w h1 h2 true dl de false gl ge hd hg rfl rfl
    | true =>
      have e : Lib.compareInt x y = Lib.compareInt (val (gl ++ zs (ge - min de ge).toNat)) (val (dl ++ zs (de - min de ge).toNat)) := by
        rw [j2, j3]
        unfold sg Lib.compareInt
        simp only [if_true]
        generalize val (gl ++ zs (ge - min de ge).toNat) = Y
        generalize val (dl ++ zs (de - min de ge).toNat) = X
        rcases Nat.lt_trichotomy X Y with h | h | h
        · have := Nat.mul_lt_mul_of_pos_right h hp
          rw [if_neg (by omega), if_pos (by omega), if_neg (by omega), if_pos (by omega)]
        · subst h; rw [if_neg (by omega), if_neg (by omega), if_neg (by omega), if_neg (by omega)]
        · have := Nat.mul_lt_mul_of_pos_right h hp
          rw [if_pos (by omega), if_pos (by omega)]
      rw [e]
      exact cmp_tt an sa ae bn sb be w h1 h2 true dl de true gl ge hd hg rfl rfl _ rfl
  | false =>
    have x0 : ¬ x < 0 := by simpa using nx.symm
    cases gn with
    | true =>
      have y0 : y < 0 := by simpa using ny.symm
      rw [compareInt_of_gt (by omega)]
      exact cmp_ft an sa ae bn sb be w h1 h2 false dl de true gl ge hd hg rfl rfl
    | false =>
      have e : Lib.compareInt x y = Lib.compareInt (val (dl ++ zs (de - min de ge).toNat)) (val (gl ++ zs (ge - min de ge).toNat)) := by
        rw [j2, j3]
        unfold sg Lib.compareInt
        simp only [Bool.false_eq_true, if_false]
        generalize val (gl ++ zs (ge - min de ge).toNat) = Y
        generalize val (dl ++ zs (de - min de ge).toNat) = X
        rcases Nat.lt_trichotomy X Y with h | h | h
        · have := Nat.mul_lt_mul_of_pos_right h hp
          rw [if_pos (by omega), if_pos (by omega)]
        · subst h; rw [if_neg (by omega), if_neg (by omega), if_neg (by omega), if_neg (by omega)]
        · have := Nat.mul_lt_mul_of_pos_right h hp
          rw [if_neg (by omega), if_pos (by omega), if_neg (by omega), if_pos (by omega)]
      rw [e]
      exact cmp_ff an sa ae bn sb be w h1 h2 false dl de false gl ge hd hg rfl rfl _ rfl
/-- The sum of two decimals at k places. -/
theorem addD (an : Bool) (sa : ByteArray) (ae : Int) (bn : Bool) (sb : ByteArray) (be : Int) (w : World) (h1 : sa.size ≤ 100000) (h2 : sb.size ≤ 100000) (k : Nat) (x y : Int) (hx : Fit k x) (hy : Fit k y) (hs : Fit k (x + y))
    (hd : made an sa.data.toList ae = nf k x) (hg : made bn sb.data.toList be = nf k y) :
    Calls Tryz.prog 68 #[.agg #[.bool an, .string sa, .int .i64 ae], .agg #[.bool bn, .string sb, .int .i64 be]] w fun z w' => z = .returned (V (nf k (x + y))) ∧ Below w.heap.size w w' := by
  obtain ⟨j, j1, j2, j3⟩ := align (nf_dv hx) (nf_dv hy)
  cases dx : nf k x with
  | mk dn dl de =>
  cases dy : nf k y with
  | mk gn gl ge =>
  rw [dx] at hd j1 j2 j3
  rw [dy] at hg j1 j2 j3
  simp only at j1 j2 j3
  have key : ∀ (b : Bool) (N : Nat), sg b (N * 10 ^ j) = x + y → made b (dig N) (min de ge) = nf k (x + y) := by
    intro b N h
    refine (Dv.made (d := ⟨b, dig N, min de ge⟩) ⟨isDig_dig N, by simp only; omega, ?_⟩ hs)
    simp only
    rw [val_dig, show (min de ge + (k : Int)).toNat = j by omega]
    exact h
  generalize hX : val (dl ++ zs (de - min de ge).toNat) = X at j2
  generalize hY : val (gl ++ zs (ge - min de ge).toNat) = Y at j3
  by_cases he : (dn == gn) = true
  · have he' : dn = gn := by simpa using he
    refine add_same an sa ae bn sb be w h1 h2 dn dl de gn gl ge hd hg _ rfl he _ (key _ _ ?_)
    rw [hX, hY, j2, j3, ← he', Nat.add_mul]
    unfold sg; split <;> simp <;> omega
  · have he' : (dn == gn) = false := by simpa using he
    have hn : gn = !dn := by cases dn <;> cases gn <;> simp_all
    by_cases hc : Y ≤ X
    · refine add_ge an sa ae bn sb be w h1 h2 dn dl de gn gl ge hd hg _ rfl he' (by rw [hX, hY]; exact hc) _ (key _ _ ?_)
      have := Nat.mul_le_mul_right (10 ^ j) hc
      rw [hX, hY, j2, j3, hn, Nat.sub_mul]
      clear j2 j3 key
      generalize X * 10 ^ j = P at *
      generalize Y * 10 ^ j = Q at *
      unfold sg; cases dn <;> simp <;> omega
    · refine add_lt an sa ae bn sb be w h1 h2 dn dl de gn gl ge hd hg _ rfl he' (by rw [hX, hY]; omega) _ (key _ _ ?_)
      have := Nat.mul_le_mul_right (10 ^ j) (show X ≤ Y by omega)
      rw [hX, hY, j2, j3, hn, Nat.sub_mul]
      clear j2 j3 key
      generalize X * 10 ^ j = P at *
      generalize Y * 10 ^ j = Q at *
      unfold sg; cases dn <;> simp <;> omega
end Go.Proofs.YtkjhdehpcanciaaGreatDoor
