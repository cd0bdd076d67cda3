/- What multiple of round returns. -/
import Derived.Test.YtegekkifgdakgaaDoorRndB
import Derived.Test.YtegekkifgdakgaaDoorHold
namespace Go.Proofs.YtegekkifgdakgaaDoor
open Go.RowKit Florin
set_option linter.unusedVariables false
set_option linter.unusedSimpArgs false
attribute [local go_sem ↓] Go.wp_at_zero Go.wp_at_succ

theorem add1 (q : Nat) (w : World) (h : (dig q).length ≤ 1000000) :
    Calls Tryd.prog 87 #[S (dig q), .string ⟨#[49]⟩] w fun e w' => e = .returned (S (dig (q + 1))) ∧ Below w.heap.size w w' :=
  (addS (dig q) [49] w h (by decide) (isDig_dig q) (by decide)).mono fun e w' ⟨he, hw⟩ => ⟨by rw [he, val_dig]; rfl, hw⟩
theorem cut_div (d : Tri) (p : Int) (F : Nat) (hd : isDig d.l = true) (a b : List UInt8) (hc : cutT d p = (a, b)) :
    nN d p / uU d F p = val a / F ∧ nN d p % uU d F p = (val a % F) * 10 ^ b.length + val b ∧ uU d F p = F * 10 ^ b.length := by
  obtain ⟨h1, h2, h3, h4, h5⟩ := cutT_val d p hd a b hc
  have hv := val_lt b h2
  have hp := pow_pos' b.length
  have hu : uU d F p = F * 10 ^ b.length := by unfold uU; rw [h4]
  rw [hu, ← h5]
  have e1 : (val a * 10 ^ b.length + val b) / 10 ^ b.length = val a := by rw [Nat.add_comm, Nat.add_mul_div_right _ _ hp, Nat.div_eq_of_lt hv]; omega
  have e2 : (val a * 10 ^ b.length + val b) % 10 ^ b.length = val b := by rw [Nat.add_comm, Nat.add_mul_mod_self_right, Nat.mod_eq_of_lt hv]
  refine ⟨?_, ?_, rfl⟩
  · rw [Nat.mul_comm F, ← Nat.div_div_eq_div_mul, e1]
  · rw [Nat.mul_comm F, Nat.mod_mul, e1, e2, Nat.mul_comm]; omega

set_option maxRecDepth 100000 in
set_option maxHeartbeats 3200000 in
theorem multiple_bad (n : Bool) (s : ByteArray) (e : Int) (F : Nat) (p m : Int) (w : World) (hs : s.size ≤ 100000) (dn : Bool) (dl : List UInt8) (de : Int) (hd : made n s.data.toList e = ⟨dn, dl, de⟩) (hl : dl.length ≤ 100000) (hp1 : -30000 ≤ p) (hp2 : p ≤ 30000) (hm : m < 0 ∨ 6 < m) :
    Calls Tryd.prog 63 #[.agg #[.bool n, .string s, .int .i64 e], .agg #[.int .i64 F, .int .i64 p], .int .i64 m] w fun x w' => x = .returned (V ⟨dn, dl, de⟩) ∧ Below w.heap.size w w' := by
  have HD := Lib.hid hd
  have de1 : -30000 ≤ de := by have := (made_exp n s.data.toList e).1; rw [hd] at this; exact this
  have de2 : de ≤ 30000 := by have := (made_exp n s.data.toList e).2; rw [hd] at this; exact this
  clear hd
  go_enter Tryd.func63, Tryd.ntmps63
  go_wp2_with fail
  with_reducible refine (norm_as n s e _ (by omega) ⟨dn, dl, de⟩ HD.out).mono ?_
  rintro x w1 ⟨rfl, hb⟩
  have H1 : Hid (HeldL w [(w.heap.size + 1 + 1, #[.bool false, .string ⟨#[]⟩, .int .i64 0]), (w.heap.size + 1, #[.int .i64 F, .int .i64 p]), (w.heap.size, #[.bool n, .string s, .int .i64 e])] w1) := Lib.hid (HeldL.keep (HeldL.alloc (HeldL.alloc (HeldL.alloc (HeldL.refl w) (w.heap.size) #[.bool n, .string s, .int .i64 e] 31 (by simp)) (w.heap.size + 1) #[.int .i64 F, .int .i64 p] 85 (by simp)) (w.heap.size + 1 + 1) #[.bool false, .string ⟨#[]⟩, .int .i64 0] 31 (by simp)) hb)
  clear hb
  have x0 : w1.cell? ⟨w.heap.size, 0, none⟩ = some (.bool n) := (H1.out.f (List.Mem.tail _ (List.Mem.tail _ (List.Mem.head _)))).cell 0
  have xz0 : w1.frozen? ⟨w.heap.size, 0, none⟩ = false := (H1.out.f (List.Mem.tail _ (List.Mem.tail _ (List.Mem.head _)))).frozen 0
  have x1 : w1.cell? ⟨w.heap.size, 1, none⟩ = some (.string s) := (H1.out.f (List.Mem.tail _ (List.Mem.tail _ (List.Mem.head _)))).cell 1
  have xz1 : w1.frozen? ⟨w.heap.size, 1, none⟩ = false := (H1.out.f (List.Mem.tail _ (List.Mem.tail _ (List.Mem.head _)))).frozen 1
  have x2 : w1.cell? ⟨w.heap.size, 2, none⟩ = some (.int .i64 e) := (H1.out.f (List.Mem.tail _ (List.Mem.tail _ (List.Mem.head _)))).cell 2
  have xz2 : w1.frozen? ⟨w.heap.size, 2, none⟩ = false := (H1.out.f (List.Mem.tail _ (List.Mem.tail _ (List.Mem.head _)))).frozen 2
  have xl : w.heap.size < w1.heap.size := (H1.out.f (List.Mem.tail _ (List.Mem.tail _ (List.Mem.head _)))).lt
  go_wp2_with fail
  clear x0 xz0 x1 xz1 x2 xz2 xl
  have H2 : Hid (HeldL w [(w.heap.size + 1 + 1, #[.bool false, .string ⟨#[]⟩, .int .i64 0]), (w.heap.size + 1, #[.int .i64 F, .int .i64 p]), (w.heap.size, #[.bool dn, S dl, .int .i64 de])] (((w1.setCell ⟨w.heap.size, 0, none⟩ (.bool dn)).setCell ⟨w.heap.size, 1, none⟩ (S dl)).setCell ⟨w.heap.size, 2, none⟩ (.int .i64 de))) := Lib.hid (HeldL.store3 [(w.heap.size + 1 + 1, #[.bool false, .string ⟨#[]⟩, .int .i64 0]), (w.heap.size + 1, #[.int .i64 F, .int .i64 p])] [] (H1.out) (.bool dn) (S dl) (.int .i64 de))
  generalize (((w1.setCell ⟨w.heap.size, 0, none⟩ (.bool dn)).setCell ⟨w.heap.size, 1, none⟩ (S dl)).setCell ⟨w.heap.size, 2, none⟩ (.int .i64 de)) = w2 at *
  clear H1
  have x0 : w2.cell? ⟨w.heap.size, 0, none⟩ = some (.bool dn) := (H2.out.f (List.Mem.tail _ (List.Mem.tail _ (List.Mem.head _)))).cell 0
  have x1 : w2.cell? ⟨w.heap.size, 1, none⟩ = some (S dl) := (H2.out.f (List.Mem.tail _ (List.Mem.tail _ (List.Mem.head _)))).cell 1
  have x2 : w2.cell? ⟨w.heap.size, 2, none⟩ = some (.int .i64 de) := (H2.out.f (List.Mem.tail _ (List.Mem.tail _ (List.Mem.head _)))).cell 2
  have xl : w.heap.size < w2.heap.size := (H2.out.f (List.Mem.tail _ (List.Mem.tail _ (List.Mem.head _)))).lt
  have r0 : w2.cell? ⟨w.heap.size + 1 + 1, 0, none⟩ = some (.bool false) := (H2.out.f (List.Mem.head _)).cell 0
  have rz0 : w2.frozen? ⟨w.heap.size + 1 + 1, 0, none⟩ = false := (H2.out.f (List.Mem.head _)).frozen 0
  have r1 : w2.cell? ⟨w.heap.size + 1 + 1, 1, none⟩ = some (.string ⟨#[]⟩) := (H2.out.f (List.Mem.head _)).cell 1
  have rz1 : w2.frozen? ⟨w.heap.size + 1 + 1, 1, none⟩ = false := (H2.out.f (List.Mem.head _)).frozen 1
  have r2 : w2.cell? ⟨w.heap.size + 1 + 1, 2, none⟩ = some (.int .i64 0) := (H2.out.f (List.Mem.head _)).cell 2
  have rz2 : w2.frozen? ⟨w.heap.size + 1 + 1, 2, none⟩ = false := (H2.out.f (List.Mem.head _)).frozen 2
  have rl : w.heap.size + 1 + 1 < w2.heap.size := (H2.out.f (List.Mem.head _)).lt
  with_reducible refine (modeValid_no m _ hm).mono ?_
  rintro x wz ⟨rfl, rfl⟩
  go_wp2
  exact bodyPost_ret (v := V ⟨dn, dl, de⟩) (by simp [results, Tryd.results63, go_sem, r0, r1, r2]) rfl ⟨rfl, (HeldL.store3 [] [(w.heap.size + 1, #[.int .i64 F, .int .i64 p]), (w.heap.size, #[.bool dn, S dl, .int .i64 de])] H2.out (.bool dn) (S dl) (.int .i64 de)).bel⟩

set_option maxRecDepth 100000 in
set_option maxHeartbeats 3200000 in
theorem multiple_same (n : Bool) (s : ByteArray) (e : Int) (F : Nat) (p m : Int) (w : World) (hs : s.size ≤ 100000) (dn : Bool) (dl : List UInt8) (de : Int) (hd : made n s.data.toList e = ⟨dn, dl, de⟩) (hl : dl.length ≤ 100000) (hp1 : -30000 ≤ p) (hp2 : p ≤ 30000) (m0 : 0 ≤ m) (m6 : m ≤ 6) (hF1 : 1 ≤ F) (hF2 : F ≤ 1000000000) (a b : List UInt8) (hc : cutT ⟨dn, dl, de⟩ p = (a, b)) (hda : isDig a = true) (hdb : isDig b = true) (ha : a.length ≤ 200000) (hb : b.length ≤ 60000) (hr : val a % F = 0) (hv : val b = 0) :
    Calls Tryd.prog 63 #[.agg #[.bool n, .string s, .int .i64 e], .agg #[.int .i64 F, .int .i64 p], .int .i64 m] w fun x w' => x = .returned (V ⟨dn, dl, de⟩) ∧ Below w.heap.size w w' := by
  have HD := Lib.hid hd
  have de1 : -30000 ≤ de := by have := (made_exp n s.data.toList e).1; rw [hd] at this; exact this
  have de2 : de ≤ 30000 := by have := (made_exp n s.data.toList e).2; rw [hd] at this; exact this
  clear hd
  have HC := Lib.hid hc
  have HDA := Lib.hid hda
  have HDB := Lib.hid hdb
  have hb60 := hb
  clear hb
  have HR : Hid (((val a % F : Nat) : Int) = 0) := Lib.hid (by rw [hr]; rfl)
  have HQ : Hid (val a / F = val a / F) := Lib.hid rfl
  have HB : Hid (bare b = []) := Lib.hid (by rw [bare_dig hdb, hv, dig_zero])
  clear hc hda hdb hr hv
  go_enter Tryd.func63, Tryd.ntmps63
  go_wp2_with fail
  with_reducible refine (norm_as n s e _ (by omega) ⟨dn, dl, de⟩ HD.out).mono ?_
  rintro x w1 ⟨rfl, hb⟩
  have H1 : Hid (HeldL w [(w.heap.size + 1 + 1, #[.bool false, .string ⟨#[]⟩, .int .i64 0]), (w.heap.size + 1, #[.int .i64 F, .int .i64 p]), (w.heap.size, #[.bool n, .string s, .int .i64 e])] w1) := Lib.hid (HeldL.keep (HeldL.alloc (HeldL.alloc (HeldL.alloc (HeldL.refl w) (w.heap.size) #[.bool n, .string s, .int .i64 e] 31 (by simp)) (w.heap.size + 1) #[.int .i64 F, .int .i64 p] 85 (by simp)) (w.heap.size + 1 + 1) #[.bool false, .string ⟨#[]⟩, .int .i64 0] 31 (by simp)) hb)
  clear hb
  have x0 : w1.cell? ⟨w.heap.size, 0, none⟩ = some (.bool n) := (H1.out.f (List.Mem.tail _ (List.Mem.tail _ (List.Mem.head _)))).cell 0
  have xz0 : w1.frozen? ⟨w.heap.size, 0, none⟩ = false := (H1.out.f (List.Mem.tail _ (List.Mem.tail _ (List.Mem.head _)))).frozen 0
  have x1 : w1.cell? ⟨w.heap.size, 1, none⟩ = some (.string s) := (H1.out.f (List.Mem.tail _ (List.Mem.tail _ (List.Mem.head _)))).cell 1
  have xz1 : w1.frozen? ⟨w.heap.size, 1, none⟩ = false := (H1.out.f (List.Mem.tail _ (List.Mem.tail _ (List.Mem.head _)))).frozen 1
  have x2 : w1.cell? ⟨w.heap.size, 2, none⟩ = some (.int .i64 e) := (H1.out.f (List.Mem.tail _ (List.Mem.tail _ (List.Mem.head _)))).cell 2
  have xz2 : w1.frozen? ⟨w.heap.size, 2, none⟩ = false := (H1.out.f (List.Mem.tail _ (List.Mem.tail _ (List.Mem.head _)))).frozen 2
  have xl : w.heap.size < w1.heap.size := (H1.out.f (List.Mem.tail _ (List.Mem.tail _ (List.Mem.head _)))).lt
  go_wp2_with fail
  clear x0 xz0 x1 xz1 x2 xz2 xl
  have H2 : Hid (HeldL w [(w.heap.size + 1 + 1, #[.bool false, .string ⟨#[]⟩, .int .i64 0]), (w.heap.size + 1, #[.int .i64 F, .int .i64 p]), (w.heap.size, #[.bool dn, S dl, .int .i64 de])] (((w1.setCell ⟨w.heap.size, 0, none⟩ (.bool dn)).setCell ⟨w.heap.size, 1, none⟩ (S dl)).setCell ⟨w.heap.size, 2, none⟩ (.int .i64 de))) := Lib.hid (HeldL.store3 [(w.heap.size + 1 + 1, #[.bool false, .string ⟨#[]⟩, .int .i64 0]), (w.heap.size + 1, #[.int .i64 F, .int .i64 p])] [] (H1.out) (.bool dn) (S dl) (.int .i64 de))
  generalize (((w1.setCell ⟨w.heap.size, 0, none⟩ (.bool dn)).setCell ⟨w.heap.size, 1, none⟩ (S dl)).setCell ⟨w.heap.size, 2, none⟩ (.int .i64 de)) = w2 at *
  clear H1
  have x0 : w2.cell? ⟨w.heap.size, 0, none⟩ = some (.bool dn) := (H2.out.f (List.Mem.tail _ (List.Mem.tail _ (List.Mem.head _)))).cell 0
  have x1 : w2.cell? ⟨w.heap.size, 1, none⟩ = some (S dl) := (H2.out.f (List.Mem.tail _ (List.Mem.tail _ (List.Mem.head _)))).cell 1
  have x2 : w2.cell? ⟨w.heap.size, 2, none⟩ = some (.int .i64 de) := (H2.out.f (List.Mem.tail _ (List.Mem.tail _ (List.Mem.head _)))).cell 2
  have xl : w.heap.size < w2.heap.size := (H2.out.f (List.Mem.tail _ (List.Mem.tail _ (List.Mem.head _)))).lt
  have u0 : w2.cell? ⟨w.heap.size + 1, 0, none⟩ = some (.int .i64 F) := (H2.out.f (List.Mem.tail _ (List.Mem.head _))).cell 0
  have u1 : w2.cell? ⟨w.heap.size + 1, 1, none⟩ = some (.int .i64 p) := (H2.out.f (List.Mem.tail _ (List.Mem.head _))).cell 1
  have ul : w.heap.size + 1 < w2.heap.size := (H2.out.f (List.Mem.tail _ (List.Mem.head _))).lt
  with_reducible refine (modeValid_yes m _ m0 m6).mono ?_
  rintro x wz ⟨rfl, rfl⟩
  go_wp2_with fail
  with_reducible refine (rcut_as dn dl de p _ hl de1 de2 hp1 hp2 a b HC.out).mono ?_
  rintro x w3 ⟨rfl, hb⟩
  clear x0 x1 x2 xl u0 u1 ul
  have H3 : Hid (HeldL w [(w.heap.size + 1 + 1, #[.bool false, .string ⟨#[]⟩, .int .i64 0]), (w.heap.size + 1, #[.int .i64 F, .int .i64 p]), (w.heap.size, #[.bool dn, S dl, .int .i64 de])] w3) := Lib.hid (HeldL.keep H2.out hb)
  clear H2
  clear hb
  have x0 : w3.cell? ⟨w.heap.size, 0, none⟩ = some (.bool dn) := (H3.out.f (List.Mem.tail _ (List.Mem.tail _ (List.Mem.head _)))).cell 0
  have x1 : w3.cell? ⟨w.heap.size, 1, none⟩ = some (S dl) := (H3.out.f (List.Mem.tail _ (List.Mem.tail _ (List.Mem.head _)))).cell 1
  have x2 : w3.cell? ⟨w.heap.size, 2, none⟩ = some (.int .i64 de) := (H3.out.f (List.Mem.tail _ (List.Mem.tail _ (List.Mem.head _)))).cell 2
  have xl : w.heap.size < w3.heap.size := (H3.out.f (List.Mem.tail _ (List.Mem.tail _ (List.Mem.head _)))).lt
  have u0 : w3.cell? ⟨w.heap.size + 1, 0, none⟩ = some (.int .i64 F) := (H3.out.f (List.Mem.tail _ (List.Mem.head _))).cell 0
  have u1 : w3.cell? ⟨w.heap.size + 1, 1, none⟩ = some (.int .i64 p) := (H3.out.f (List.Mem.tail _ (List.Mem.head _))).cell 1
  have ul : w.heap.size + 1 < w3.heap.size := (H3.out.f (List.Mem.tail _ (List.Mem.head _))).lt
  go_wp2_with fail
  with_reducible refine (divS a F _ (by omega) HDA.out hF1 hF2).mono ?_
  rintro x w4 ⟨rfl, hb⟩
  clear x0 x1 x2 xl u0 u1 ul
  have H4 : Hid (HeldL w [(w.heap.size + 1 + 1, #[.bool false, .string ⟨#[]⟩, .int .i64 0]), (w.heap.size + 1, #[.int .i64 F, .int .i64 p]), (w.heap.size, #[.bool dn, S dl, .int .i64 de])] w4) := Lib.hid (HeldL.keep H3.out hb)
  clear H3
  clear hb
  have x0 : w4.cell? ⟨w.heap.size, 0, none⟩ = some (.bool dn) := (H4.out.f (List.Mem.tail _ (List.Mem.tail _ (List.Mem.head _)))).cell 0
  have x1 : w4.cell? ⟨w.heap.size, 1, none⟩ = some (S dl) := (H4.out.f (List.Mem.tail _ (List.Mem.tail _ (List.Mem.head _)))).cell 1
  have x2 : w4.cell? ⟨w.heap.size, 2, none⟩ = some (.int .i64 de) := (H4.out.f (List.Mem.tail _ (List.Mem.tail _ (List.Mem.head _)))).cell 2
  have xl : w.heap.size < w4.heap.size := (H4.out.f (List.Mem.tail _ (List.Mem.tail _ (List.Mem.head _)))).lt
  have u0 : w4.cell? ⟨w.heap.size + 1, 0, none⟩ = some (.int .i64 F) := (H4.out.f (List.Mem.tail _ (List.Mem.head _))).cell 0
  have u1 : w4.cell? ⟨w.heap.size + 1, 1, none⟩ = some (.int .i64 p) := (H4.out.f (List.Mem.tail _ (List.Mem.head _))).cell 1
  have ul : w.heap.size + 1 < w4.heap.size := (H4.out.f (List.Mem.tail _ (List.Mem.head _))).lt
  have r0 : w4.cell? ⟨w.heap.size + 1 + 1, 0, none⟩ = some (.bool false) := (H4.out.f (List.Mem.head _)).cell 0
  have rz0 : w4.frozen? ⟨w.heap.size + 1 + 1, 0, none⟩ = false := (H4.out.f (List.Mem.head _)).frozen 0
  have r1 : w4.cell? ⟨w.heap.size + 1 + 1, 1, none⟩ = some (.string ⟨#[]⟩) := (H4.out.f (List.Mem.head _)).cell 1
  have rz1 : w4.frozen? ⟨w.heap.size + 1 + 1, 1, none⟩ = false := (H4.out.f (List.Mem.head _)).frozen 1
  have r2 : w4.cell? ⟨w.heap.size + 1 + 1, 2, none⟩ = some (.int .i64 0) := (H4.out.f (List.Mem.head _)).cell 2
  have rz2 : w4.frozen? ⟨w.heap.size + 1 + 1, 2, none⟩ = false := (H4.out.f (List.Mem.head _)).frozen 2
  have rl : w.heap.size + 1 + 1 < w4.heap.size := (H4.out.f (List.Mem.head _)).lt
  rw [HR.out]
  clear HQ
  go_wp2_with fail
  with_reducible refine (trim_bare_nil ⟨b.toArray⟩ _ (by rw [arr_size]; unfold maxLen; omega) (by rw [arr_list]; exact HB.out)).mono ?_
  rintro x wz ⟨rfl, rfl⟩
  go_wp2
  exact bodyPost_ret (v := V ⟨dn, dl, de⟩) (by simp [results, Tryd.results63, go_sem, r0, r1, r2]) rfl ⟨rfl, (HeldL.store3 [] [(w.heap.size + 1, #[.int .i64 F, .int .i64 p]), (w.heap.size, #[.bool dn, S dl, .int .i64 de])] H4.out (.bool dn) (S dl) (.int .i64 de)).bel⟩

theorem half_0 (r : Nat) (below : List UInt8) (F : Nat) (w : World) (hr : (r : Int) = 0) (hF : F ≤ 1000000000) (hl : below.length ≤ 60000) (hd : isDig below = true) (ht : Tab w) (c : Int) (hc : Lib.compareInt (((r * 10 ^ below.length + val below) * 2 : Nat) : Int) ((F * 10 ^ below.length : Nat) : Int) = c) :
    Calls Tryd.prog 85 #[.int .i64 0, S below, .int .i64 F] w fun x w' => x = .returned (.int .i64 c) ∧ Below w.heap.size w w' := by
  have := half_as r below F w (by omega) hF hl hd ht c hc
  rw [hr] at this; exact this
end Go.Proofs.YtegekkifgdakgaaDoor
