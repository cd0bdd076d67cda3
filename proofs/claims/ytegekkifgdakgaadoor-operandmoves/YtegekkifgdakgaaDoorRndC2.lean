/- What multiple of round returns between two multiples (nothing is left). -/
import Derived.Test.YtegekkifgdakgaaDoorRndC
namespace Go.Proofs.YtegekkifgdakgaaDoor
open Go.RowKit Florin
set_option linter.unusedVariables false
set_option linter.unusedSimpArgs false
attribute [local go_sem ↓] Go.wp_at_zero Go.wp_at_succ

set_option maxRecDepth 100000 in
set_option maxHeartbeats 3200000 in
theorem multiple_zt (n : Bool) (s : ByteArray) (e : Int) (F : Nat) (p m : Int) (w : World) (hs : s.size ≤ 100000) (dn : Bool) (dl : List UInt8) (de : Int) (hd : made n s.data.toList e = ⟨dn, dl, de⟩) (hl : dl.length ≤ 100000) (hp1 : -30000 ≤ p) (hp2 : p ≤ 30000) (m0 : 0 ≤ m) (m6 : m ≤ 6) (hF1 : 1 ≤ F) (hF2 : F ≤ 1000000000) (a b : List UInt8) (hc : cutT ⟨dn, dl, de⟩ p = (a, b)) (hda : isDig a = true) (hdb : isDig b = true) (ha : a.length ≤ 200000) (hb : b.length ≤ 60000) (hz : val a % F = 0) (hvb : val b ≠ 0) (hv : Int) (hhv : Lib.compareInt ((((val a % F) * 10 ^ b.length + val b) * 2 : Nat) : Int) ((F * 10 ^ b.length : Nat) : Int) = hv) (od : Bool) (hod : (val a / F % 2 == 1) = od) (haw : away m dn hv od = true) (g : Tri) (hg : made dn (dig ((val a / F + 1) * F)) p = g) (htab : Tab w) :
    Calls Tryd.prog 63 #[.agg #[.bool n, .string s, .int .i64 e], .agg #[.int .i64 F, .int .i64 p], .int .i64 m] w fun x w' => x = .returned (V g) ∧ Below w.heap.size w w' := by
  have HD := Lib.hid hd
  have de1 : -30000 ≤ de := by have := (made_exp n s.data.toList e).1; rw [hd] at this; exact this
  have de2 : de ≤ 30000 := by have := (made_exp n s.data.toList e).2; rw [hd] at this; exact this
  clear hd
  have HC := Lib.hid hc
  have HDA := Lib.hid hda
  have HDB := Lib.hid hdb
  have hb60 := hb
  clear hb
  obtain ⟨q, hq⟩ : ∃ q : Nat, val a / F = q := ⟨_, rfl⟩
  obtain ⟨r, hr⟩ : ∃ r : Nat, val a % F = r := ⟨_, rfl⟩
  have rF : r < F := by rw [← hr]; exact Nat.mod_lt _ (by omega)
  have ql : (dig q).length ≤ 200000 := by
    have h1 := val_lt a hda
    have h2 : q ≤ val a := by rw [← hq]; exact Nat.div_le_self _ _
    have h3 := (dig_length_le q a.length).2 (by omega)
    omega
  have q1l : (dig (q + 1)).length ≤ 200001 := by
    have h1 : q < 10 ^ (dig q).length := (dig_length_le _ _).1 (Nat.le_refl _)
    have h3 := (dig_length_le (q + 1) ((dig q).length + 1)).2 (by rw [Nat.pow_succ]; omega)
    omega
  have HQ := Lib.hid hq
  have HR := Lib.hid hr
  have HH0 : Hid (Lib.compareInt (((r * 10 ^ b.length + val b) * 2 : Nat) : Int) ((F * 10 ^ b.length : Nat) : Int) = hv) := Lib.hid (by rw [← hr]; exact hhv)
  have HOD : Hid ((val (dig q) % 2 == 1) = od) := Lib.hid (by rw [val_dig, ← hq]; exact hod)
  have HAW : Hid (away m dn hv od = true) := Lib.hid haw
  have HG : Hid (made dn (dig ((q + 1) * F)) p = g) := Lib.hid (by rw [← hq]; exact hg)
  have tl : (dig ((q + 1) * F)).length ≤ 1000000 := by
    have h1 : (q + 1) < 10 ^ (dig (q + 1)).length := (dig_length_le _ _).1 (Nat.le_refl _)
    have h2 : F < 10 ^ 10 := Nat.lt_of_le_of_lt hF2 (by decide)
    have h3 : (q + 1) * F < 10 ^ ((dig (q + 1)).length + 10) := by rw [Nat.pow_add]; exact Nat.mul_lt_mul_of_lt_of_le h1 (Nat.le_of_lt h2) (by decide)
    have h4 := (dig_length_le _ _).2 h3
    omega
  have HR0 : Hid ((r : Int) = 0) := Lib.hid (by rw [← hr, hz]; rfl)
  obtain ⟨t, ht⟩ := bytes_of (bare b)
  have HB : Hid (t.data.toList = bare (⟨b.toArray⟩ : ByteArray).data.toList) := Lib.hid (by rw [arr_list]; exact ht)
  have hte : t.toList.isEmpty = false := isEmpty_of (by rw [ht, bare_dig hdb, Ne, dig_eq_nil]; exact hvb)
  have HT := Lib.hid htab
  clear hc hda hdb hq hr hhv hod haw hg htab hz hvb ht
  go_enter Tryd.func63, Tryd.ntmps63
  go_wp2_with fail
  with_reducible refine (norm_as n s e _ (by omega) ⟨dn, dl, de⟩ HD.out).mono ?_
  rintro x w1 ⟨rfl, hb⟩
  have H1 : Hid (HeldL w [(w.heap.size + 1 + 1, #[.bool false, .string ⟨#[]⟩, .int .i64 0]), (w.heap.size + 1, #[.int .i64 F, .int .i64 p]), (w.heap.size, #[.bool n, .string s, .int .i64 e])] w1) := Lib.hid (HeldL.keep (HeldL.alloc (HeldL.alloc (HeldL.alloc (HeldL.refl w) (w.heap.size) #[.bool n, .string s, .int .i64 e] 31 (by simp)) (w.heap.size + 1) #[.int .i64 F, .int .i64 p] 85 (by simp)) (w.heap.size + 1 + 1) #[.bool false, .string ⟨#[]⟩, .int .i64 0] 31 (by simp)) hb)
  clear hb
  have x0 : w1.cell? ⟨w.heap.size, 0, none⟩ = some (.bool n) := (H1.out.f (List.Mem.tail _ (List.Mem.tail _ (List.Mem.head _)))).cell 0
  have xz0 : w1.frozen? ⟨w.heap.size, 0, none⟩ = false := (H1.out.f (List.Mem.tail _ (List.Mem.tail _ (List.Mem.head _)))).frozen 0
  have x1 : w1.cell? ⟨w.heap.size, 1, none⟩ = some (.string s) := (H1.out.f (List.Mem.tail _ (List.Mem.tail _ (List.Mem.head _)))).cell 1
  have xz1 : w1.frozen? ⟨w.heap.size, 1, none⟩ = false := (H1.out.f (List.Mem.tail _ (List.Mem.tail _ (List.Mem.head _)))).frozen 1
  have x2 : w1.cell? ⟨w.heap.size, 2, none⟩ = some (.int .i64 e) := (H1.out.f (List.Mem.tail _ (List.Mem.tail _ (List.Mem.head _)))).cell 2
  have xz2 : w1.frozen? ⟨w.heap.size, 2, none⟩ = false := (H1.out.f (List.Mem.tail _ (List.Mem.tail _ (List.Mem.head _)))).frozen 2
  have xl : w.heap.size < w1.heap.size := (H1.out.f (List.Mem.tail _ (List.Mem.tail _ (List.Mem.head _)))).lt
  go_wp2_with fail
  clear x0 xz0 x1 xz1 x2 xz2 xl
  have H2 : Hid (HeldL w [(w.heap.size + 1 + 1, #[.bool false, .string ⟨#[]⟩, .int .i64 0]), (w.heap.size + 1, #[.int .i64 F, .int .i64 p]), (w.heap.size, #[.bool dn, S dl, .int .i64 de])] (((w1.setCell ⟨w.heap.size, 0, none⟩ (.bool dn)).setCell ⟨w.heap.size, 1, none⟩ (S dl)).setCell ⟨w.heap.size, 2, none⟩ (.int .i64 de))) := Lib.hid (HeldL.store3 [(w.heap.size + 1 + 1, #[.bool false, .string ⟨#[]⟩, .int .i64 0]), (w.heap.size + 1, #[.int .i64 F, .int .i64 p])] [] (H1.out) (.bool dn) (S dl) (.int .i64 de))
  generalize (((w1.setCell ⟨w.heap.size, 0, none⟩ (.bool dn)).setCell ⟨w.heap.size, 1, none⟩ (S dl)).setCell ⟨w.heap.size, 2, none⟩ (.int .i64 de)) = w2 at *
  clear H1
  have x0 : w2.cell? ⟨w.heap.size, 0, none⟩ = some (.bool dn) := (H2.out.f (List.Mem.tail _ (List.Mem.tail _ (List.Mem.head _)))).cell 0
  have x1 : w2.cell? ⟨w.heap.size, 1, none⟩ = some (S dl) := (H2.out.f (List.Mem.tail _ (List.Mem.tail _ (List.Mem.head _)))).cell 1
  have x2 : w2.cell? ⟨w.heap.size, 2, none⟩ = some (.int .i64 de) := (H2.out.f (List.Mem.tail _ (List.Mem.tail _ (List.Mem.head _)))).cell 2
  have xl : w.heap.size < w2.heap.size := (H2.out.f (List.Mem.tail _ (List.Mem.tail _ (List.Mem.head _)))).lt
  have u0 : w2.cell? ⟨w.heap.size + 1, 0, none⟩ = some (.int .i64 F) := (H2.out.f (List.Mem.tail _ (List.Mem.head _))).cell 0
  have u1 : w2.cell? ⟨w.heap.size + 1, 1, none⟩ = some (.int .i64 p) := (H2.out.f (List.Mem.tail _ (List.Mem.head _))).cell 1
  have ul : w.heap.size + 1 < w2.heap.size := (H2.out.f (List.Mem.tail _ (List.Mem.head _))).lt
  with_reducible refine (modeValid_yes m _ m0 m6).mono ?_
  rintro x wz ⟨rfl, rfl⟩
  go_wp2_with fail
  with_reducible refine (rcut_as dn dl de p _ hl de1 de2 hp1 hp2 a b HC.out).mono ?_
  rintro x w3 ⟨rfl, hb⟩
  clear x0 x1 x2 xl u0 u1 ul
  have H3 : Hid (HeldL w [(w.heap.size + 1 + 1, #[.bool false, .string ⟨#[]⟩, .int .i64 0]), (w.heap.size + 1, #[.int .i64 F, .int .i64 p]), (w.heap.size, #[.bool dn, S dl, .int .i64 de])] w3) := Lib.hid (HeldL.keep H2.out hb)
  clear H2
  clear hb
  have x0 : w3.cell? ⟨w.heap.size, 0, none⟩ = some (.bool dn) := (H3.out.f (List.Mem.tail _ (List.Mem.tail _ (List.Mem.head _)))).cell 0
  have x1 : w3.cell? ⟨w.heap.size, 1, none⟩ = some (S dl) := (H3.out.f (List.Mem.tail _ (List.Mem.tail _ (List.Mem.head _)))).cell 1
  have x2 : w3.cell? ⟨w.heap.size, 2, none⟩ = some (.int .i64 de) := (H3.out.f (List.Mem.tail _ (List.Mem.tail _ (List.Mem.head _)))).cell 2
  have xl : w.heap.size < w3.heap.size := (H3.out.f (List.Mem.tail _ (List.Mem.tail _ (List.Mem.head _)))).lt
  have u0 : w3.cell? ⟨w.heap.size + 1, 0, none⟩ = some (.int .i64 F) := (H3.out.f (List.Mem.tail _ (List.Mem.head _))).cell 0
  have u1 : w3.cell? ⟨w.heap.size + 1, 1, none⟩ = some (.int .i64 p) := (H3.out.f (List.Mem.tail _ (List.Mem.head _))).cell 1
  have ul : w.heap.size + 1 < w3.heap.size := (H3.out.f (List.Mem.tail _ (List.Mem.head _))).lt
  go_wp2_with fail
  with_reducible refine (divS a F _ (by omega) HDA.out hF1 hF2).mono ?_
  rintro x w4 ⟨rfl, hb⟩
  clear x0 x1 x2 xl u0 u1 ul
  have H4 : Hid (HeldL w [(w.heap.size + 1 + 1, #[.bool false, .string ⟨#[]⟩, .int .i64 0]), (w.heap.size + 1, #[.int .i64 F, .int .i64 p]), (w.heap.size, #[.bool dn, S dl, .int .i64 de])] w4) := Lib.hid (HeldL.keep H3.out hb)
  clear H3
  clear hb
  have x0 : w4.cell? ⟨w.heap.size, 0, none⟩ = some (.bool dn) := (H4.out.f (List.Mem.tail _ (List.Mem.tail _ (List.Mem.head _)))).cell 0
  have x1 : w4.cell? ⟨w.heap.size, 1, none⟩ = some (S dl) := (H4.out.f (List.Mem.tail _ (List.Mem.tail _ (List.Mem.head _)))).cell 1
  have x2 : w4.cell? ⟨w.heap.size, 2, none⟩ = some (.int .i64 de) := (H4.out.f (List.Mem.tail _ (List.Mem.tail _ (List.Mem.head _)))).cell 2
  have xl : w.heap.size < w4.heap.size := (H4.out.f (List.Mem.tail _ (List.Mem.tail _ (List.Mem.head _)))).lt
  have u0 : w4.cell? ⟨w.heap.size + 1, 0, none⟩ = some (.int .i64 F) := (H4.out.f (List.Mem.tail _ (List.Mem.head _))).cell 0
  have u1 : w4.cell? ⟨w.heap.size + 1, 1, none⟩ = some (.int .i64 p) := (H4.out.f (List.Mem.tail _ (List.Mem.head _))).cell 1
  have ul : w.heap.size + 1 < w4.heap.size := (H4.out.f (List.Mem.tail _ (List.Mem.head _))).lt
  have r0 : w4.cell? ⟨w.heap.size + 1 + 1, 0, none⟩ = some (.bool false) := (H4.out.f (List.Mem.head _)).cell 0
  have rz0 : w4.frozen? ⟨w.heap.size + 1 + 1, 0, none⟩ = false := (H4.out.f (List.Mem.head _)).frozen 0
  have r1 : w4.cell? ⟨w.heap.size + 1 + 1, 1, none⟩ = some (.string ⟨#[]⟩) := (H4.out.f (List.Mem.head _)).cell 1
  have rz1 : w4.frozen? ⟨w.heap.size + 1 + 1, 1, none⟩ = false := (H4.out.f (List.Mem.head _)).frozen 1
  have r2 : w4.cell? ⟨w.heap.size + 1 + 1, 2, none⟩ = some (.int .i64 0) := (H4.out.f (List.Mem.head _)).cell 2
  have rz2 : w4.frozen? ⟨w.heap.size + 1 + 1, 2, none⟩ = false := (H4.out.f (List.Mem.head _)).frozen 2
  have rl : w.heap.size + 1 + 1 < w4.heap.size := (H4.out.f (List.Mem.head _)).lt
  rw [HR.out, HQ.out]
  rw [HR0.out]
  go_wp2_with fail
  with_reducible refine (trim_bare_some ⟨b.toArray⟩ _ (by rw [arr_size]; unfold maxLen; omega) t HB.out).mono ?_
  rintro x wz ⟨rfl, rfl⟩
  go_wp2_with fail
  have ALL1 : Hid (∀ w' : World, HeldL w [(w.heap.size + 1 + 1, #[.bool false, .string ⟨#[]⟩, .int .i64 0]), (w.heap.size + 1, #[.int .i64 F, .int .i64 p]), (w.heap.size, #[.bool dn, S dl, .int .i64 de])] w' → w'.cell? ⟨w.heap.size, 0, none⟩ = some (.bool dn) ∧ w'.cell? ⟨w.heap.size, 1, none⟩ = some (S dl) ∧ w'.cell? ⟨w.heap.size, 2, none⟩ = some (.int .i64 de) ∧ w'.cell? ⟨w.heap.size + 1, 0, none⟩ = some (.int .i64 F) ∧ w'.cell? ⟨w.heap.size + 1, 1, none⟩ = some (.int .i64 p) ∧ HeldL w [(w.heap.size + 1 + 1, #[.bool false, .string ⟨#[]⟩, .int .i64 0]), (w.heap.size + 1, #[.int .i64 F, .int .i64 p]), (w.heap.size, #[.bool dn, S dl, .int .i64 de])] w') := Lib.hid (fun w' h => ⟨(h.f (List.Mem.tail _ (List.Mem.tail _ (List.Mem.head _)))).cell 0, (h.f (List.Mem.tail _ (List.Mem.tail _ (List.Mem.head _)))).cell 1, (h.f (List.Mem.tail _ (List.Mem.tail _ (List.Mem.head _)))).cell 2, (h.f (List.Mem.tail _ (List.Mem.head _))).cell 0, (h.f (List.Mem.tail _ (List.Mem.head _))).cell 1, h⟩)
  have KEEP1 : Hid (∀ w' w'' : World, (w'.cell? ⟨w.heap.size, 0, none⟩ = some (.bool dn) ∧ w'.cell? ⟨w.heap.size, 1, none⟩ = some (S dl) ∧ w'.cell? ⟨w.heap.size, 2, none⟩ = some (.int .i64 de) ∧ w'.cell? ⟨w.heap.size + 1, 0, none⟩ = some (.int .i64 F) ∧ w'.cell? ⟨w.heap.size + 1, 1, none⟩ = some (.int .i64 p) ∧ HeldL w [(w.heap.size + 1 + 1, #[.bool false, .string ⟨#[]⟩, .int .i64 0]), (w.heap.size + 1, #[.int .i64 F, .int .i64 p]), (w.heap.size, #[.bool dn, S dl, .int .i64 de])] w') → Below w'.heap.size w' w'' → (w''.cell? ⟨w.heap.size, 0, none⟩ = some (.bool dn) ∧ w''.cell? ⟨w.heap.size, 1, none⟩ = some (S dl) ∧ w''.cell? ⟨w.heap.size, 2, none⟩ = some (.int .i64 de) ∧ w''.cell? ⟨w.heap.size + 1, 0, none⟩ = some (.int .i64 F) ∧ w''.cell? ⟨w.heap.size + 1, 1, none⟩ = some (.int .i64 p) ∧ HeldL w [(w.heap.size + 1 + 1, #[.bool false, .string ⟨#[]⟩, .int .i64 0]), (w.heap.size + 1, #[.int .i64 F, .int .i64 p]), (w.heap.size, #[.bool dn, S dl, .int .i64 de])] w'')) := Lib.hid (fun w' w'' h hb => ALL1.out _ (HeldL.keep (h.2.2.2.2.2) hb))
  have HS1 : Hid (HeldL w [(w.heap.size + 1 + 1, #[.bool false, .string ⟨#[]⟩, .int .i64 0]), (w.heap.size + 1, #[.int .i64 F, .int .i64 p]), (w.heap.size, #[.bool dn, S dl, .int .i64 de])] _) := Lib.hid H4.out
  go_region_held3 (fun w' => w'.cell? ⟨w.heap.size, 0, none⟩ = some (.bool dn) ∧ w'.cell? ⟨w.heap.size, 1, none⟩ = some (S dl) ∧ w'.cell? ⟨w.heap.size, 2, none⟩ = some (.int .i64 de) ∧ w'.cell? ⟨w.heap.size + 1, 0, none⟩ = some (.int .i64 F) ∧ w'.cell? ⟨w.heap.size + 1, 1, none⟩ = some (.int .i64 p) ∧ HeldL w [(w.heap.size + 1 + 1, #[.bool false, .string ⟨#[]⟩, .int .i64 0]), (w.heap.size + 1, #[.int .i64 F, .int .i64 p]), (w.heap.size, #[.bool dn, S dl, .int .i64 de])] w')
    (first | exact ALL1.out _ (HeldL.drew HS1.out) | exact KEEP1.out _ _ (by assumption) hb | assumption)
    (first | (go_at_call 85; (with_reducible refine (half_0 r b F _ HR0.out hF2 hb60 HDB.out (HT.out.below HS1.out.bel.drew) hv HH0.out).mono ?_); rintro x wA ⟨rfl, hb⟩) | (go_at_call 86; (with_reducible refine (odd_as (dig q) _ (by omega) (isDig_dig q) od HOD.out).mono ?_); rintro x wB ⟨rfl, hb⟩) | (go_at_call 84; (with_reducible refine (away_as m dn hv od _ m0 m6 true HAW.out).mono ?_); rintro x wC ⟨rfl, rfl⟩))
  have HH : HeldL w [(w.heap.size + 1 + 1, #[.bool false, .string ⟨#[]⟩, .int .i64 0]), (w.heap.size + 1, #[.int .i64 F, .int .i64 p]), (w.heap.size, #[.bool dn, S dl, .int .i64 de])] wB := (‹wB.cell? ⟨w.heap.size, 0, none⟩ = some (.bool dn) ∧ wB.cell? ⟨w.heap.size, 1, none⟩ = some (S dl) ∧ wB.cell? ⟨w.heap.size, 2, none⟩ = some (.int .i64 de) ∧ wB.cell? ⟨w.heap.size + 1, 0, none⟩ = some (.int .i64 F) ∧ wB.cell? ⟨w.heap.size + 1, 1, none⟩ = some (.int .i64 p) ∧ HeldL w [(w.heap.size + 1 + 1, #[.bool false, .string ⟨#[]⟩, .int .i64 0]), (w.heap.size + 1, #[.int .i64 F, .int .i64 p]), (w.heap.size, #[.bool dn, S dl, .int .i64 de])] wB›).2.2.2.2.2
  clear x0 x1 x2 xl u0 u1 ul r0 rz0 r1 rz1 r2 rz2 rl
  have H5 : Hid (HeldL w [(w.heap.size + 1 + 1, #[.bool false, .string ⟨#[]⟩, .int .i64 0]), (w.heap.size + 1, #[.int .i64 F, .int .i64 p]), (w.heap.size, #[.bool dn, S dl, .int .i64 de])] wB) := Lib.hid HH
  clear HH ALL1 KEEP1 HS1 H4
  have x0 : wB.cell? ⟨w.heap.size, 0, none⟩ = some (.bool dn) := (H5.out.f (List.Mem.tail _ (List.Mem.tail _ (List.Mem.head _)))).cell 0
  have x1 : wB.cell? ⟨w.heap.size, 1, none⟩ = some (S dl) := (H5.out.f (List.Mem.tail _ (List.Mem.tail _ (List.Mem.head _)))).cell 1
  have x2 : wB.cell? ⟨w.heap.size, 2, none⟩ = some (.int .i64 de) := (H5.out.f (List.Mem.tail _ (List.Mem.tail _ (List.Mem.head _)))).cell 2
  have xl : w.heap.size < wB.heap.size := (H5.out.f (List.Mem.tail _ (List.Mem.tail _ (List.Mem.head _)))).lt
  have u0 : wB.cell? ⟨w.heap.size + 1, 0, none⟩ = some (.int .i64 F) := (H5.out.f (List.Mem.tail _ (List.Mem.head _))).cell 0
  have u1 : wB.cell? ⟨w.heap.size + 1, 1, none⟩ = some (.int .i64 p) := (H5.out.f (List.Mem.tail _ (List.Mem.head _))).cell 1
  have ul : w.heap.size + 1 < wB.heap.size := (H5.out.f (List.Mem.tail _ (List.Mem.head _))).lt
  have r0 : wB.cell? ⟨w.heap.size + 1 + 1, 0, none⟩ = some (.bool false) := (H5.out.f (List.Mem.head _)).cell 0
  have rz0 : wB.frozen? ⟨w.heap.size + 1 + 1, 0, none⟩ = false := (H5.out.f (List.Mem.head _)).frozen 0
  have r1 : wB.cell? ⟨w.heap.size + 1 + 1, 1, none⟩ = some (.string ⟨#[]⟩) := (H5.out.f (List.Mem.head _)).cell 1
  have rz1 : wB.frozen? ⟨w.heap.size + 1 + 1, 1, none⟩ = false := (H5.out.f (List.Mem.head _)).frozen 1
  have r2 : wB.cell? ⟨w.heap.size + 1 + 1, 2, none⟩ = some (.int .i64 0) := (H5.out.f (List.Mem.head _)).cell 2
  have rz2 : wB.frozen? ⟨w.heap.size + 1 + 1, 2, none⟩ = false := (H5.out.f (List.Mem.head _)).frozen 2
  have rl : w.heap.size + 1 + 1 < wB.heap.size := (H5.out.f (List.Mem.head _)).lt
  go_wp2_with fail
  with_reducible refine (add1 q _ (by omega)).mono ?_
  rintro x w6 ⟨rfl, hb⟩
  clear x0 x1 x2 xl u0 u1 ul r0 rz0 r1 rz1 r2 rz2 rl
  have H6 : Hid (HeldL w [(w.heap.size + 1 + 1, #[.bool false, .string ⟨#[]⟩, .int .i64 0]), (w.heap.size + 1, #[.int .i64 F, .int .i64 p]), (w.heap.size, #[.bool dn, S dl, .int .i64 de])] w6) := Lib.hid (HeldL.keep H5.out hb)
  clear H5
  clear hb
  have x0 : w6.cell? ⟨w.heap.size, 0, none⟩ = some (.bool dn) := (H6.out.f (List.Mem.tail _ (List.Mem.tail _ (List.Mem.head _)))).cell 0
  have x1 : w6.cell? ⟨w.heap.size, 1, none⟩ = some (S dl) := (H6.out.f (List.Mem.tail _ (List.Mem.tail _ (List.Mem.head _)))).cell 1
  have x2 : w6.cell? ⟨w.heap.size, 2, none⟩ = some (.int .i64 de) := (H6.out.f (List.Mem.tail _ (List.Mem.tail _ (List.Mem.head _)))).cell 2
  have xl : w.heap.size < w6.heap.size := (H6.out.f (List.Mem.tail _ (List.Mem.tail _ (List.Mem.head _)))).lt
  have u0 : w6.cell? ⟨w.heap.size + 1, 0, none⟩ = some (.int .i64 F) := (H6.out.f (List.Mem.tail _ (List.Mem.head _))).cell 0
  have u1 : w6.cell? ⟨w.heap.size + 1, 1, none⟩ = some (.int .i64 p) := (H6.out.f (List.Mem.tail _ (List.Mem.head _))).cell 1
  have ul : w.heap.size + 1 < w6.heap.size := (H6.out.f (List.Mem.tail _ (List.Mem.head _))).lt
  have r0 : w6.cell? ⟨w.heap.size + 1 + 1, 0, none⟩ = some (.bool false) := (H6.out.f (List.Mem.head _)).cell 0
  have rz0 : w6.frozen? ⟨w.heap.size + 1 + 1, 0, none⟩ = false := (H6.out.f (List.Mem.head _)).frozen 0
  have r1 : w6.cell? ⟨w.heap.size + 1 + 1, 1, none⟩ = some (.string ⟨#[]⟩) := (H6.out.f (List.Mem.head _)).cell 1
  have rz1 : w6.frozen? ⟨w.heap.size + 1 + 1, 1, none⟩ = false := (H6.out.f (List.Mem.head _)).frozen 1
  have r2 : w6.cell? ⟨w.heap.size + 1 + 1, 2, none⟩ = some (.int .i64 0) := (H6.out.f (List.Mem.head _)).cell 2
  have rz2 : w6.frozen? ⟨w.heap.size + 1 + 1, 2, none⟩ = false := (H6.out.f (List.Mem.head _)).frozen 2
  have rl : w.heap.size + 1 + 1 < w6.heap.size := (H6.out.f (List.Mem.head _)).lt
  go_wp2_with fail
  have HS2 : Hid (HeldL w [(w.heap.size + 1 + 1, #[.bool false, .string ⟨#[]⟩, .int .i64 0]), (w.heap.size + 1, #[.int .i64 F, .int .i64 p]), (w.heap.size, #[.bool dn, S dl, .int .i64 de])] _) := Lib.hid H6.out
  go_region_with (first | (go_at_call 33; (with_reducible refine (timesN (q + 1) F _ (by omega) hF2 (HT.out.below HS2.out.bel.drew)).mono ?_); rintro x wD ⟨rfl, hb⟩; have HKwD : Hid (HeldL w [(w.heap.size + 1 + 1, #[.bool false, .string ⟨#[]⟩, .int .i64 0]), (w.heap.size + 1, #[.int .i64 F, .int .i64 p]), (w.heap.size, #[.bool dn, S dl, .int .i64 de])] wD) := Lib.hid (HeldL.keep (HeldL.drew HS2.out) hb); clear hb; have xwD0 : wD.cell? ⟨w.heap.size, 0, none⟩ = some (.bool dn) := (HKwD.out.f (List.Mem.tail _ (List.Mem.tail _ (List.Mem.head _)))).cell 0; have xwD1 : wD.cell? ⟨w.heap.size, 1, none⟩ = some (S dl) := (HKwD.out.f (List.Mem.tail _ (List.Mem.tail _ (List.Mem.head _)))).cell 1; have xwD2 : wD.cell? ⟨w.heap.size, 2, none⟩ = some (.int .i64 de) := (HKwD.out.f (List.Mem.tail _ (List.Mem.tail _ (List.Mem.head _)))).cell 2; have xwDl : w.heap.size < wD.heap.size := (HKwD.out.f (List.Mem.tail _ (List.Mem.tail _ (List.Mem.head _)))).lt; have uwD0 : wD.cell? ⟨w.heap.size + 1, 0, none⟩ = some (.int .i64 F) := (HKwD.out.f (List.Mem.tail _ (List.Mem.head _))).cell 0; have uwD1 : wD.cell? ⟨w.heap.size + 1, 1, none⟩ = some (.int .i64 p) := (HKwD.out.f (List.Mem.tail _ (List.Mem.head _))).cell 1; have uwDl : w.heap.size + 1 < wD.heap.size := (HKwD.out.f (List.Mem.tail _ (List.Mem.head _))).lt; have rwD0 : wD.cell? ⟨w.heap.size + 1 + 1, 0, none⟩ = some (.bool false) := (HKwD.out.f (List.Mem.head _)).cell 0; have rzwD0 : wD.frozen? ⟨w.heap.size + 1 + 1, 0, none⟩ = false := (HKwD.out.f (List.Mem.head _)).frozen 0; have rwD1 : wD.cell? ⟨w.heap.size + 1 + 1, 1, none⟩ = some (.string ⟨#[]⟩) := (HKwD.out.f (List.Mem.head _)).cell 1; have rzwD1 : wD.frozen? ⟨w.heap.size + 1 + 1, 1, none⟩ = false := (HKwD.out.f (List.Mem.head _)).frozen 1; have rwD2 : wD.cell? ⟨w.heap.size + 1 + 1, 2, none⟩ = some (.int .i64 0) := (HKwD.out.f (List.Mem.head _)).cell 2; have rzwD2 : wD.frozen? ⟨w.heap.size + 1 + 1, 2, none⟩ = false := (HKwD.out.f (List.Mem.head _)).frozen 2; have rwDl : w.heap.size + 1 + 1 < wD.heap.size := (HKwD.out.f (List.Mem.head _)).lt) | (go_at_call 25; (with_reducible refine (made_as dn ⟨(dig ((q + 1) * F)).toArray⟩ p _ (by rw [arr_size]; exact tl) g (by rw [arr_list]; exact HG.out)).mono ?_); rintro x wE ⟨rfl, hb⟩; have HKwE : Hid (HeldL w [(w.heap.size + 1 + 1, #[.bool false, .string ⟨#[]⟩, .int .i64 0]), (w.heap.size + 1, #[.int .i64 F, .int .i64 p]), (w.heap.size, #[.bool dn, S dl, .int .i64 de])] wE) := Lib.hid (HeldL.keep HKwD.out hb); clear hb; have r0 : wE.cell? ⟨w.heap.size + 1 + 1, 0, none⟩ = some (.bool false) := (HKwE.out.f (List.Mem.head _)).cell 0; have rz0 : wE.frozen? ⟨w.heap.size + 1 + 1, 0, none⟩ = false := (HKwE.out.f (List.Mem.head _)).frozen 0; have r1 : wE.cell? ⟨w.heap.size + 1 + 1, 1, none⟩ = some (.string ⟨#[]⟩) := (HKwE.out.f (List.Mem.head _)).cell 1; have rz1 : wE.frozen? ⟨w.heap.size + 1 + 1, 1, none⟩ = false := (HKwE.out.f (List.Mem.head _)).frozen 1; have r2 : wE.cell? ⟨w.heap.size + 1 + 1, 2, none⟩ = some (.int .i64 0) := (HKwE.out.f (List.Mem.head _)).cell 2; have rz2 : wE.frozen? ⟨w.heap.size + 1 + 1, 2, none⟩ = false := (HKwE.out.f (List.Mem.head _)).frozen 2; have rl : w.heap.size + 1 + 1 < wE.heap.size := (HKwE.out.f (List.Mem.head _)).lt))
  all_goals
    have H7 : Hid (HeldL w [(w.heap.size + 1 + 1, #[.bool false, .string ⟨#[]⟩, .int .i64 0]), (w.heap.size + 1, #[.int .i64 F, .int .i64 p]), (w.heap.size, #[.bool dn, S dl, .int .i64 de])] wE) := HKwE
    clear HS2 HKwD HKwE H6
    go_wp2
    exact bodyPost_ret (v := V g) (by simp [results, Tryd.results63, go_sem, r0, r1, r2]) rfl ⟨rfl, (HeldL.store3 [] [(w.heap.size + 1, #[.int .i64 F, .int .i64 p]), (w.heap.size, #[.bool dn, S dl, .int .i64 de])] H7.out (.bool g.neg) (S g.l) (.int .i64 g.e)).bel⟩

set_option maxRecDepth 100000 in
set_option maxHeartbeats 3200000 in
theorem multiple_zf (n : Bool) (s : ByteArray) (e : Int) (F : Nat) (p m : Int) (w : World) (hs : s.size ≤ 100000) (dn : Bool) (dl : List UInt8) (de : Int) (hd : made n s.data.toList e = ⟨dn, dl, de⟩) (hl : dl.length ≤ 100000) (hp1 : -30000 ≤ p) (hp2 : p ≤ 30000) (m0 : 0 ≤ m) (m6 : m ≤ 6) (hF1 : 1 ≤ F) (hF2 : F ≤ 1000000000) (a b : List UInt8) (hc : cutT ⟨dn, dl, de⟩ p = (a, b)) (hda : isDig a = true) (hdb : isDig b = true) (ha : a.length ≤ 200000) (hb : b.length ≤ 60000) (hz : val a % F = 0) (hvb : val b ≠ 0) (hv : Int) (hhv : Lib.compareInt ((((val a % F) * 10 ^ b.length + val b) * 2 : Nat) : Int) ((F * 10 ^ b.length : Nat) : Int) = hv) (od : Bool) (hod : (val a / F % 2 == 1) = od) (haw : away m dn hv od = false) (g : Tri) (hg : made dn (dig (val a / F * F)) p = g) (htab : Tab w) :
    Calls Tryd.prog 63 #[.agg #[.bool n, .string s, .int .i64 e], .agg #[.int .i64 F, .int .i64 p], .int .i64 m] w fun x w' => x = .returned (V g) ∧ Below w.heap.size w w' := by
  have HD := Lib.hid hd
  have de1 : -30000 ≤ de := by have := (made_exp n s.data.toList e).1; rw [hd] at this; exact this
  have de2 : de ≤ 30000 := by have := (made_exp n s.data.toList e).2; rw [hd] at this; exact this
  clear hd
  have HC := Lib.hid hc
  have HDA := Lib.hid hda
  have HDB := Lib.hid hdb
  have hb60 := hb
  clear hb
  obtain ⟨q, hq⟩ : ∃ q : Nat, val a / F = q := ⟨_, rfl⟩
  obtain ⟨r, hr⟩ : ∃ r : Nat, val a % F = r := ⟨_, rfl⟩
  have rF : r < F := by rw [← hr]; exact Nat.mod_lt _ (by omega)
  have ql : (dig q).length ≤ 200000 := by
    have h1 := val_lt a hda
    have h2 : q ≤ val a := by rw [← hq]; exact Nat.div_le_self _ _
    have h3 := (dig_length_le q a.length).2 (by omega)
    omega
  have q1l : (dig (q + 1)).length ≤ 200001 := by
    have h1 : q < 10 ^ (dig q).length := (dig_length_le _ _).1 (Nat.le_refl _)
    have h3 := (dig_length_le (q + 1) ((dig q).length + 1)).2 (by rw [Nat.pow_succ]; omega)
    omega
  have HQ := Lib.hid hq
  have HR := Lib.hid hr
  have HH0 : Hid (Lib.compareInt (((r * 10 ^ b.length + val b) * 2 : Nat) : Int) ((F * 10 ^ b.length : Nat) : Int) = hv) := Lib.hid (by rw [← hr]; exact hhv)
  have HOD : Hid ((val (dig q) % 2 == 1) = od) := Lib.hid (by rw [val_dig, ← hq]; exact hod)
  have HAW : Hid (away m dn hv od = false) := Lib.hid haw
  have HG : Hid (made dn (dig (q * F)) p = g) := Lib.hid (by rw [← hq]; exact hg)
  have tl : (dig (q * F)).length ≤ 1000000 := by
    have h1 : q < 10 ^ (dig q).length := (dig_length_le _ _).1 (Nat.le_refl _)
    have h2 : F < 10 ^ 10 := Nat.lt_of_le_of_lt hF2 (by decide)
    have h3 : q * F < 10 ^ ((dig q).length + 10) := by rw [Nat.pow_add]; exact Nat.mul_lt_mul_of_lt_of_le h1 (Nat.le_of_lt h2) (by decide)
    have h4 := (dig_length_le _ _).2 h3
    omega
  have HR0 : Hid ((r : Int) = 0) := Lib.hid (by rw [← hr, hz]; rfl)
  obtain ⟨t, ht⟩ := bytes_of (bare b)
  have HB : Hid (t.data.toList = bare (⟨b.toArray⟩ : ByteArray).data.toList) := Lib.hid (by rw [arr_list]; exact ht)
  have hte : t.toList.isEmpty = false := isEmpty_of (by rw [ht, bare_dig hdb, Ne, dig_eq_nil]; exact hvb)
  have HT := Lib.hid htab
  clear hc hda hdb hq hr hhv hod haw hg htab hz hvb ht
  go_enter Tryd.func63, Tryd.ntmps63
  go_wp2_with fail
  with_reducible refine (norm_as n s e _ (by omega) ⟨dn, dl, de⟩ HD.out).mono ?_
  rintro x w1 ⟨rfl, hb⟩
  have H1 : Hid (HeldL w [(w.heap.size + 1 + 1, #[.bool false, .string ⟨#[]⟩, .int .i64 0]), (w.heap.size + 1, #[.int .i64 F, .int .i64 p]), (w.heap.size, #[.bool n, .string s, .int .i64 e])] w1) := Lib.hid (HeldL.keep (HeldL.alloc (HeldL.alloc (HeldL.alloc (HeldL.refl w) (w.heap.size) #[.bool n, .string s, .int .i64 e] 31 (by simp)) (w.heap.size + 1) #[.int .i64 F, .int .i64 p] 85 (by simp)) (w.heap.size + 1 + 1) #[.bool false, .string ⟨#[]⟩, .int .i64 0] 31 (by simp)) hb)
  clear hb
  have x0 : w1.cell? ⟨w.heap.size, 0, none⟩ = some (.bool n) := (H1.out.f (List.Mem.tail _ (List.Mem.tail _ (List.Mem.head _)))).cell 0
  have xz0 : w1.frozen? ⟨w.heap.size, 0, none⟩ = false := (H1.out.f (List.Mem.tail _ (List.Mem.tail _ (List.Mem.head _)))).frozen 0
  have x1 : w1.cell? ⟨w.heap.size, 1, none⟩ = some (.string s) := (H1.out.f (List.Mem.tail _ (List.Mem.tail _ (List.Mem.head _)))).cell 1
  have xz1 : w1.frozen? ⟨w.heap.size, 1, none⟩ = false := (H1.out.f (List.Mem.tail _ (List.Mem.tail _ (List.Mem.head _)))).frozen 1
  have x2 : w1.cell? ⟨w.heap.size, 2, none⟩ = some (.int .i64 e) := (H1.out.f (List.Mem.tail _ (List.Mem.tail _ (List.Mem.head _)))).cell 2
  have xz2 : w1.frozen? ⟨w.heap.size, 2, none⟩ = false := (H1.out.f (List.Mem.tail _ (List.Mem.tail _ (List.Mem.head _)))).frozen 2
  have xl : w.heap.size < w1.heap.size := (H1.out.f (List.Mem.tail _ (List.Mem.tail _ (List.Mem.head _)))).lt
  go_wp2_with fail
  clear x0 xz0 x1 xz1 x2 xz2 xl
  have H2 : Hid (HeldL w [(w.heap.size + 1 + 1, #[.bool false, .string ⟨#[]⟩, .int .i64 0]), (w.heap.size + 1, #[.int .i64 F, .int .i64 p]), (w.heap.size, #[.bool dn, S dl, .int .i64 de])] (((w1.setCell ⟨w.heap.size, 0, none⟩ (.bool dn)).setCell ⟨w.heap.size, 1, none⟩ (S dl)).setCell ⟨w.heap.size, 2, none⟩ (.int .i64 de))) := Lib.hid (HeldL.store3 [(w.heap.size + 1 + 1, #[.bool false, .string ⟨#[]⟩, .int .i64 0]), (w.heap.size + 1, #[.int .i64 F, .int .i64 p])] [] (H1.out) (.bool dn) (S dl) (.int .i64 de))
  generalize (((w1.setCell ⟨w.heap.size, 0, none⟩ (.bool dn)).setCell ⟨w.heap.size, 1, none⟩ (S dl)).setCell ⟨w.heap.size, 2, none⟩ (.int .i64 de)) = w2 at *
  clear H1
  have x0 : w2.cell? ⟨w.heap.size, 0, none⟩ = some (.bool dn) := (H2.out.f (List.Mem.tail _ (List.Mem.tail _ (List.Mem.head _)))).cell 0
  have x1 : w2.cell? ⟨w.heap.size, 1, none⟩ = some (S dl) := (H2.out.f (List.Mem.tail _ (List.Mem.tail _ (List.Mem.head _)))).cell 1
  have x2 : w2.cell? ⟨w.heap.size, 2, none⟩ = some (.int .i64 de) := (H2.out.f (List.Mem.tail _ (List.Mem.tail _ (List.Mem.head _)))).cell 2
  have xl : w.heap.size < w2.heap.size := (H2.out.f (List.Mem.tail _ (List.Mem.tail _ (List.Mem.head _)))).lt
  have u0 : w2.cell? ⟨w.heap.size + 1, 0, none⟩ = some (.int .i64 F) := (H2.out.f (List.Mem.tail _ (List.Mem.head _))).cell 0
  have u1 : w2.cell? ⟨w.heap.size + 1, 1, none⟩ = some (.int .i64 p) := (H2.out.f (List.Mem.tail _ (List.Mem.head _))).cell 1
  have ul : w.heap.size + 1 < w2.heap.size := (H2.out.f (List.Mem.tail _ (List.Mem.head _))).lt
  with_reducible refine (modeValid_yes m _ m0 m6).mono ?_
  rintro x wz ⟨rfl, rfl⟩
  go_wp2_with fail
  with_reducible refine (rcut_as dn dl de p _ hl de1 de2 hp1 hp2 a b HC.out).mono ?_
  rintro x w3 ⟨rfl, hb⟩
  clear x0 x1 x2 xl u0 u1 ul
  have H3 : Hid (HeldL w [(w.heap.size + 1 + 1, #[.bool false, .string ⟨#[]⟩, .int .i64 0]), (w.heap.size + 1, #[.int .i64 F, .int .i64 p]), (w.heap.size, #[.bool dn, S dl, .int .i64 de])] w3) := Lib.hid (HeldL.keep H2.out hb)
  clear H2
  clear hb
  have x0 : w3.cell? ⟨w.heap.size, 0, none⟩ = some (.bool dn) := (H3.out.f (List.Mem.tail _ (List.Mem.tail _ (List.Mem.head _)))).cell 0
  have x1 : w3.cell? ⟨w.heap.size, 1, none⟩ = some (S dl) := (H3.out.f (List.Mem.tail _ (List.Mem.tail _ (List.Mem.head _)))).cell 1
  have x2 : w3.cell? ⟨w.heap.size, 2, none⟩ = some (.int .i64 de) := (H3.out.f (List.Mem.tail _ (List.Mem.tail _ (List.Mem.head _)))).cell 2
  have xl : w.heap.size < w3.heap.size := (H3.out.f (List.Mem.tail _ (List.Mem.tail _ (List.Mem.head _)))).lt
  have u0 : w3.cell? ⟨w.heap.size + 1, 0, none⟩ = some (.int .i64 F) := (H3.out.f (List.Mem.tail _ (List.Mem.head _))).cell 0
  have u1 : w3.cell? ⟨w.heap.size + 1, 1, none⟩ = some (.int .i64 p) := (H3.out.f (List.Mem.tail _ (List.Mem.head _))).cell 1
  have ul : w.heap.size + 1 < w3.heap.size := (H3.out.f (List.Mem.tail _ (List.Mem.head _))).lt
  go_wp2_with fail
  with_reducible refine (divS a F _ (by omega) HDA.out hF1 hF2).mono ?_
  rintro x w4 ⟨rfl, hb⟩
  clear x0 x1 x2 xl u0 u1 ul
  have H4 : Hid (HeldL w [(w.heap.size + 1 + 1, #[.bool false, .string ⟨#[]⟩, .int .i64 0]), (w.heap.size + 1, #[.int .i64 F, .int .i64 p]), (w.heap.size, #[.bool dn, S dl, .int .i64 de])] w4) := Lib.hid (HeldL.keep H3.out hb)
  clear H3
  clear hb
  have x0 : w4.cell? ⟨w.heap.size, 0, none⟩ = some (.bool dn) := (H4.out.f (List.Mem.tail _ (List.Mem.tail _ (List.Mem.head _)))).cell 0
  have x1 : w4.cell? ⟨w.heap.size, 1, none⟩ = some (S dl) := (H4.out.f (List.Mem.tail _ (List.Mem.tail _ (List.Mem.head _)))).cell 1
  have x2 : w4.cell? ⟨w.heap.size, 2, none⟩ = some (.int .i64 de) := (H4.out.f (List.Mem.tail _ (List.Mem.tail _ (List.Mem.head _)))).cell 2
  have xl : w.heap.size < w4.heap.size := (H4.out.f (List.Mem.tail _ (List.Mem.tail _ (List.Mem.head _)))).lt
  have u0 : w4.cell? ⟨w.heap.size + 1, 0, none⟩ = some (.int .i64 F) := (H4.out.f (List.Mem.tail _ (List.Mem.head _))).cell 0
  have u1 : w4.cell? ⟨w.heap.size + 1, 1, none⟩ = some (.int .i64 p) := (H4.out.f (List.Mem.tail _ (List.Mem.head _))).cell 1
  have ul : w.heap.size + 1 < w4.heap.size := (H4.out.f (List.Mem.tail _ (List.Mem.head _))).lt
  have r0 : w4.cell? ⟨w.heap.size + 1 + 1, 0, none⟩ = some (.bool false) := (H4.out.f (List.Mem.head _)).cell 0
  have rz0 : w4.frozen? ⟨w.heap.size + 1 + 1, 0, none⟩ = false := (H4.out.f (List.Mem.head _)).frozen 0
  have r1 : w4.cell? ⟨w.heap.size + 1 + 1, 1, none⟩ = some (.string ⟨#[]⟩) := (H4.out.f (List.Mem.head _)).cell 1
  have rz1 : w4.frozen? ⟨w.heap.size + 1 + 1, 1, none⟩ = false := (H4.out.f (List.Mem.head _)).frozen 1
  have r2 : w4.cell? ⟨w.heap.size + 1 + 1, 2, none⟩ = some (.int .i64 0) := (H4.out.f (List.Mem.head _)).cell 2
  have rz2 : w4.frozen? ⟨w.heap.size + 1 + 1, 2, none⟩ = false := (H4.out.f (List.Mem.head _)).frozen 2
  have rl : w.heap.size + 1 + 1 < w4.heap.size := (H4.out.f (List.Mem.head _)).lt
  rw [HR.out, HQ.out]
  rw [HR0.out]
  go_wp2_with fail
  with_reducible refine (trim_bare_some ⟨b.toArray⟩ _ (by rw [arr_size]; unfold maxLen; omega) t HB.out).mono ?_
  rintro x wz ⟨rfl, rfl⟩
  go_wp2_with fail
  have ALL1 : Hid (∀ w' : World, HeldL w [(w.heap.size + 1 + 1, #[.bool false, .string ⟨#[]⟩, .int .i64 0]), (w.heap.size + 1, #[.int .i64 F, .int .i64 p]), (w.heap.size, #[.bool dn, S dl, .int .i64 de])] w' → w'.cell? ⟨w.heap.size, 0, none⟩ = some (.bool dn) ∧ w'.cell? ⟨w.heap.size, 1, none⟩ = some (S dl) ∧ w'.cell? ⟨w.heap.size, 2, none⟩ = some (.int .i64 de) ∧ w'.cell? ⟨w.heap.size + 1, 0, none⟩ = some (.int .i64 F) ∧ w'.cell? ⟨w.heap.size + 1, 1, none⟩ = some (.int .i64 p) ∧ HeldL w [(w.heap.size + 1 + 1, #[.bool false, .string ⟨#[]⟩, .int .i64 0]), (w.heap.size + 1, #[.int .i64 F, .int .i64 p]), (w.heap.size, #[.bool dn, S dl, .int .i64 de])] w') := Lib.hid (fun w' h => ⟨(h.f (List.Mem.tail _ (List.Mem.tail _ (List.Mem.head _)))).cell 0, (h.f (List.Mem.tail _ (List.Mem.tail _ (List.Mem.head _)))).cell 1, (h.f (List.Mem.tail _ (List.Mem.tail _ (List.Mem.head _)))).cell 2, (h.f (List.Mem.tail _ (List.Mem.head _))).cell 0, (h.f (List.Mem.tail _ (List.Mem.head _))).cell 1, h⟩)
  have KEEP1 : Hid (∀ w' w'' : World, (w'.cell? ⟨w.heap.size, 0, none⟩ = some (.bool dn) ∧ w'.cell? ⟨w.heap.size, 1, none⟩ = some (S dl) ∧ w'.cell? ⟨w.heap.size, 2, none⟩ = some (.int .i64 de) ∧ w'.cell? ⟨w.heap.size + 1, 0, none⟩ = some (.int .i64 F) ∧ w'.cell? ⟨w.heap.size + 1, 1, none⟩ = some (.int .i64 p) ∧ HeldL w [(w.heap.size + 1 + 1, #[.bool false, .string ⟨#[]⟩, .int .i64 0]), (w.heap.size + 1, #[.int .i64 F, .int .i64 p]), (w.heap.size, #[.bool dn, S dl, .int .i64 de])] w') → Below w'.heap.size w' w'' → (w''.cell? ⟨w.heap.size, 0, none⟩ = some (.bool dn) ∧ w''.cell? ⟨w.heap.size, 1, none⟩ = some (S dl) ∧ w''.cell? ⟨w.heap.size, 2, none⟩ = some (.int .i64 de) ∧ w''.cell? ⟨w.heap.size + 1, 0, none⟩ = some (.int .i64 F) ∧ w''.cell? ⟨w.heap.size + 1, 1, none⟩ = some (.int .i64 p) ∧ HeldL w [(w.heap.size + 1 + 1, #[.bool false, .string ⟨#[]⟩, .int .i64 0]), (w.heap.size + 1, #[.int .i64 F, .int .i64 p]), (w.heap.size, #[.bool dn, S dl, .int .i64 de])] w'')) := Lib.hid (fun w' w'' h hb => ALL1.out _ (HeldL.keep (h.2.2.2.2.2) hb))
  have HS1 : Hid (HeldL w [(w.heap.size + 1 + 1, #[.bool false, .string ⟨#[]⟩, .int .i64 0]), (w.heap.size + 1, #[.int .i64 F, .int .i64 p]), (w.heap.size, #[.bool dn, S dl, .int .i64 de])] _) := Lib.hid H4.out
  go_region_held3 (fun w' => w'.cell? ⟨w.heap.size, 0, none⟩ = some (.bool dn) ∧ w'.cell? ⟨w.heap.size, 1, none⟩ = some (S dl) ∧ w'.cell? ⟨w.heap.size, 2, none⟩ = some (.int .i64 de) ∧ w'.cell? ⟨w.heap.size + 1, 0, none⟩ = some (.int .i64 F) ∧ w'.cell? ⟨w.heap.size + 1, 1, none⟩ = some (.int .i64 p) ∧ HeldL w [(w.heap.size + 1 + 1, #[.bool false, .string ⟨#[]⟩, .int .i64 0]), (w.heap.size + 1, #[.int .i64 F, .int .i64 p]), (w.heap.size, #[.bool dn, S dl, .int .i64 de])] w')
    (first | exact ALL1.out _ (HeldL.drew HS1.out) | exact KEEP1.out _ _ (by assumption) hb | assumption)
    (first | (go_at_call 85; (with_reducible refine (half_0 r b F _ HR0.out hF2 hb60 HDB.out (HT.out.below HS1.out.bel.drew) hv HH0.out).mono ?_); rintro x wA ⟨rfl, hb⟩) | (go_at_call 86; (with_reducible refine (odd_as (dig q) _ (by omega) (isDig_dig q) od HOD.out).mono ?_); rintro x wB ⟨rfl, hb⟩) | (go_at_call 84; (with_reducible refine (away_as m dn hv od _ m0 m6 false HAW.out).mono ?_); rintro x wC ⟨rfl, rfl⟩))
  have HH : HeldL w [(w.heap.size + 1 + 1, #[.bool false, .string ⟨#[]⟩, .int .i64 0]), (w.heap.size + 1, #[.int .i64 F, .int .i64 p]), (w.heap.size, #[.bool dn, S dl, .int .i64 de])] wB := (‹wB.cell? ⟨w.heap.size, 0, none⟩ = some (.bool dn) ∧ wB.cell? ⟨w.heap.size, 1, none⟩ = some (S dl) ∧ wB.cell? ⟨w.heap.size, 2, none⟩ = some (.int .i64 de) ∧ wB.cell? ⟨w.heap.size + 1, 0, none⟩ = some (.int .i64 F) ∧ wB.cell? ⟨w.heap.size + 1, 1, none⟩ = some (.int .i64 p) ∧ HeldL w [(w.heap.size + 1 + 1, #[.bool false, .string ⟨#[]⟩, .int .i64 0]), (w.heap.size + 1, #[.int .i64 F, .int .i64 p]), (w.heap.size, #[.bool dn, S dl, .int .i64 de])] wB›).2.2.2.2.2
  clear x0 x1 x2 xl u0 u1 ul r0 rz0 r1 rz1 r2 rz2 rl
  have H5 : Hid (HeldL w [(w.heap.size + 1 + 1, #[.bool false, .string ⟨#[]⟩, .int .i64 0]), (w.heap.size + 1, #[.int .i64 F, .int .i64 p]), (w.heap.size, #[.bool dn, S dl, .int .i64 de])] wB) := Lib.hid HH
  clear HH ALL1 KEEP1 HS1 H4
  have x0 : wB.cell? ⟨w.heap.size, 0, none⟩ = some (.bool dn) := (H5.out.f (List.Mem.tail _ (List.Mem.tail _ (List.Mem.head _)))).cell 0
  have x1 : wB.cell? ⟨w.heap.size, 1, none⟩ = some (S dl) := (H5.out.f (List.Mem.tail _ (List.Mem.tail _ (List.Mem.head _)))).cell 1
  have x2 : wB.cell? ⟨w.heap.size, 2, none⟩ = some (.int .i64 de) := (H5.out.f (List.Mem.tail _ (List.Mem.tail _ (List.Mem.head _)))).cell 2
  have xl : w.heap.size < wB.heap.size := (H5.out.f (List.Mem.tail _ (List.Mem.tail _ (List.Mem.head _)))).lt
  have u0 : wB.cell? ⟨w.heap.size + 1, 0, none⟩ = some (.int .i64 F) := (H5.out.f (List.Mem.tail _ (List.Mem.head _))).cell 0
  have u1 : wB.cell? ⟨w.heap.size + 1, 1, none⟩ = some (.int .i64 p) := (H5.out.f (List.Mem.tail _ (List.Mem.head _))).cell 1
  have ul : w.heap.size + 1 < wB.heap.size := (H5.out.f (List.Mem.tail _ (List.Mem.head _))).lt
  have r0 : wB.cell? ⟨w.heap.size + 1 + 1, 0, none⟩ = some (.bool false) := (H5.out.f (List.Mem.head _)).cell 0
  have rz0 : wB.frozen? ⟨w.heap.size + 1 + 1, 0, none⟩ = false := (H5.out.f (List.Mem.head _)).frozen 0
  have r1 : wB.cell? ⟨w.heap.size + 1 + 1, 1, none⟩ = some (.string ⟨#[]⟩) := (H5.out.f (List.Mem.head _)).cell 1
  have rz1 : wB.frozen? ⟨w.heap.size + 1 + 1, 1, none⟩ = false := (H5.out.f (List.Mem.head _)).frozen 1
  have r2 : wB.cell? ⟨w.heap.size + 1 + 1, 2, none⟩ = some (.int .i64 0) := (H5.out.f (List.Mem.head _)).cell 2
  have rz2 : wB.frozen? ⟨w.heap.size + 1 + 1, 2, none⟩ = false := (H5.out.f (List.Mem.head _)).frozen 2
  have rl : w.heap.size + 1 + 1 < wB.heap.size := (H5.out.f (List.Mem.head _)).lt
  go_wp2_with fail
  have HS2 : Hid (HeldL w [(w.heap.size + 1 + 1, #[.bool false, .string ⟨#[]⟩, .int .i64 0]), (w.heap.size + 1, #[.int .i64 F, .int .i64 p]), (w.heap.size, #[.bool dn, S dl, .int .i64 de])] _) := Lib.hid H5.out
  go_region_with (first | (go_at_call 33; (with_reducible refine (timesN q F _ (by omega) hF2 (HT.out.below HS2.out.bel.drew)).mono ?_); rintro x wD ⟨rfl, hb⟩; have HKwD : Hid (HeldL w [(w.heap.size + 1 + 1, #[.bool false, .string ⟨#[]⟩, .int .i64 0]), (w.heap.size + 1, #[.int .i64 F, .int .i64 p]), (w.heap.size, #[.bool dn, S dl, .int .i64 de])] wD) := Lib.hid (HeldL.keep (HeldL.drew HS2.out) hb); clear hb; have xwD0 : wD.cell? ⟨w.heap.size, 0, none⟩ = some (.bool dn) := (HKwD.out.f (List.Mem.tail _ (List.Mem.tail _ (List.Mem.head _)))).cell 0; have xwD1 : wD.cell? ⟨w.heap.size, 1, none⟩ = some (S dl) := (HKwD.out.f (List.Mem.tail _ (List.Mem.tail _ (List.Mem.head _)))).cell 1; have xwD2 : wD.cell? ⟨w.heap.size, 2, none⟩ = some (.int .i64 de) := (HKwD.out.f (List.Mem.tail _ (List.Mem.tail _ (List.Mem.head _)))).cell 2; have xwDl : w.heap.size < wD.heap.size := (HKwD.out.f (List.Mem.tail _ (List.Mem.tail _ (List.Mem.head _)))).lt; have uwD0 : wD.cell? ⟨w.heap.size + 1, 0, none⟩ = some (.int .i64 F) := (HKwD.out.f (List.Mem.tail _ (List.Mem.head _))).cell 0; have uwD1 : wD.cell? ⟨w.heap.size + 1, 1, none⟩ = some (.int .i64 p) := (HKwD.out.f (List.Mem.tail _ (List.Mem.head _))).cell 1; have uwDl : w.heap.size + 1 < wD.heap.size := (HKwD.out.f (List.Mem.tail _ (List.Mem.head _))).lt; have rwD0 : wD.cell? ⟨w.heap.size + 1 + 1, 0, none⟩ = some (.bool false) := (HKwD.out.f (List.Mem.head _)).cell 0; have rzwD0 : wD.frozen? ⟨w.heap.size + 1 + 1, 0, none⟩ = false := (HKwD.out.f (List.Mem.head _)).frozen 0; have rwD1 : wD.cell? ⟨w.heap.size + 1 + 1, 1, none⟩ = some (.string ⟨#[]⟩) := (HKwD.out.f (List.Mem.head _)).cell 1; have rzwD1 : wD.frozen? ⟨w.heap.size + 1 + 1, 1, none⟩ = false := (HKwD.out.f (List.Mem.head _)).frozen 1; have rwD2 : wD.cell? ⟨w.heap.size + 1 + 1, 2, none⟩ = some (.int .i64 0) := (HKwD.out.f (List.Mem.head _)).cell 2; have rzwD2 : wD.frozen? ⟨w.heap.size + 1 + 1, 2, none⟩ = false := (HKwD.out.f (List.Mem.head _)).frozen 2; have rwDl : w.heap.size + 1 + 1 < wD.heap.size := (HKwD.out.f (List.Mem.head _)).lt) | (go_at_call 25; (with_reducible refine (made_as dn ⟨(dig (q * F)).toArray⟩ p _ (by rw [arr_size]; exact tl) g (by rw [arr_list]; exact HG.out)).mono ?_); rintro x wE ⟨rfl, hb⟩; have HKwE : Hid (HeldL w [(w.heap.size + 1 + 1, #[.bool false, .string ⟨#[]⟩, .int .i64 0]), (w.heap.size + 1, #[.int .i64 F, .int .i64 p]), (w.heap.size, #[.bool dn, S dl, .int .i64 de])] wE) := Lib.hid (HeldL.keep HKwD.out hb); clear hb; have r0 : wE.cell? ⟨w.heap.size + 1 + 1, 0, none⟩ = some (.bool false) := (HKwE.out.f (List.Mem.head _)).cell 0; have rz0 : wE.frozen? ⟨w.heap.size + 1 + 1, 0, none⟩ = false := (HKwE.out.f (List.Mem.head _)).frozen 0; have r1 : wE.cell? ⟨w.heap.size + 1 + 1, 1, none⟩ = some (.string ⟨#[]⟩) := (HKwE.out.f (List.Mem.head _)).cell 1; have rz1 : wE.frozen? ⟨w.heap.size + 1 + 1, 1, none⟩ = false := (HKwE.out.f (List.Mem.head _)).frozen 1; have r2 : wE.cell? ⟨w.heap.size + 1 + 1, 2, none⟩ = some (.int .i64 0) := (HKwE.out.f (List.Mem.head _)).cell 2; have rz2 : wE.frozen? ⟨w.heap.size + 1 + 1, 2, none⟩ = false := (HKwE.out.f (List.Mem.head _)).frozen 2; have rl : w.heap.size + 1 + 1 < wE.heap.size := (HKwE.out.f (List.Mem.head _)).lt))
  all_goals
    have H6 : Hid (HeldL w [(w.heap.size + 1 + 1, #[.bool false, .string ⟨#[]⟩, .int .i64 0]), (w.heap.size + 1, #[.int .i64 F, .int .i64 p]), (w.heap.size, #[.bool dn, S dl, .int .i64 de])] wE) := HKwE
    clear HS2 HKwD HKwE H5
    go_wp2
    exact bodyPost_ret (v := V g) (by simp [results, Tryd.results63, go_sem, r0, r1, r2]) rfl ⟨rfl, (HeldL.store3 [] [(w.heap.size + 1, #[.int .i64 F, .int .i64 p]), (w.heap.size, #[.bool dn, S dl, .int .i64 de])] H6.out (.bool g.neg) (S g.l) (.int .i64 g.e)).bel⟩

end Go.Proofs.YtegekkifgdakgaaDoor
