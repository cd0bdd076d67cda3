/- What cut of round returns: the digits from a place upward, and those below it. -/
import Derived.Test.YtegekkifgdakgaaDoorRndA
import Derived.Deep.QuietTactic
namespace Go.Proofs.YtegekkifgdakgaaDoor
open Go.RowKit Florin
set_option linter.unusedVariables false
set_option linter.unusedSimpArgs false

set_option maxRecDepth 100000 in
set_option maxHeartbeats 3200000 in
theorem cut_up (dn : Bool) (dl : List UInt8) (de p : Int) (w : World) (h1 : dl.length ≤ 100000) (h2 : -30000 ≤ de) (h3 : de ≤ 30000) (h4 : -30000 ≤ p) (h5 : p ≤ 30000) (he : p ≤ de) :
    Calls Tryd.prog 82 #[.agg #[.bool dn, S dl, .int .i64 de], .int .i64 p] w fun x w' => x = .returned (.tuple #[S (dl ++ zs (de - p).toNat), S []]) ∧ Below w.heap.size w w' := by
  have hz : (zs (de - p).toNat).length ≤ 60000 := by rw [zs_length]; omega
  have hcat : ¬ 9223372036854775807 < dl.length + (zs (de - p).toNat).length := by omega
  have hw1 : IntKind.i64.wrap (de - p) = de - p := by rw [IntKind.wrap_i64]; omega
  go_enter Tryd.func82, Tryd.ntmps82
  go_wp2_with fail
  go_region_held3 (fun w' => w'.cell? ⟨w.heap.size, 0, none⟩ = some (.bool dn) ∧ w'.cell? ⟨w.heap.size, 1, none⟩ = some (S dl) ∧ w'.cell? ⟨w.heap.size, 2, none⟩ = some (.int .i64 de))
    (first | go_keep | exact ⟨(hb.cell (p := ⟨w.heap.size, 0, none⟩) (by simp)).trans (by simp [*]), (hb.cell (p := ⟨w.heap.size, 1, none⟩) (by simp)).trans (by simp [*]), (hb.cell (p := ⟨w.heap.size, 2, none⟩) (by simp)).trans (by simp [*])⟩)
    (first | (go_at_call 42; refine (zeros_as (de - p) _ (by omega)).mono ?_; rintro e w3 ⟨rfl, hb⟩))
  have HB3 := Lib.hid ((below_alloc w _).trans ((below_drew' hb).mono (B' := w.heap.size) (by simp)))
  clear hb
  go_wp2
  go_ret2
  exact ⟨ret_cat2, HB3.out⟩

set_option maxRecDepth 100000 in
set_option maxHeartbeats 3200000 in
theorem cut_down (dn : Bool) (dl : List UInt8) (de p : Int) (w : World) (h1 : dl.length ≤ 100000) (h2 : -30000 ≤ de) (h3 : de ≤ 30000) (h4 : -30000 ≤ p) (h5 : p ≤ 30000) (he : de < p) (hm : 0 < p - de - (dl.length : Int)) :
    Calls Tryd.prog 82 #[.agg #[.bool dn, S dl, .int .i64 de], .int .i64 p] w fun x w' => x = .returned (.tuple #[S [], S (zs (p - de - (dl.length : Int)).toNat ++ dl)]) ∧ Below w.heap.size w w' := by
  obtain ⟨Q, hQ⟩ : ∃ Q : Nat, p - de - (dl.length : Int) = (Q : Int) := ⟨(p - de - (dl.length : Int)).toNat, by omega⟩
  have hz : (zs Q).length ≤ 60000 := by rw [zs_length]; omega
  have hcat : ¬ 9223372036854775807 < (zs Q).length + dl.length := by omega
  have hQ1 : (Q : Int) ≤ 60000 := by omega
  have HQ := Lib.hid hQ
  rw [hQ]
  simp only [Int.toNat_natCast]
  clear hQ
  go_enter Tryd.func82, Tryd.ntmps82
  go_wp2_with fail
  rw [HQ.out]
  go_region_held3 (fun w' => w'.cell? ⟨w.heap.size, 0, none⟩ = some (.bool dn) ∧ w'.cell? ⟨w.heap.size, 1, none⟩ = some (S dl) ∧ w'.cell? ⟨w.heap.size, 2, none⟩ = some (.int .i64 de))
    (first | go_keep | exact ⟨(hb.cell (p := ⟨w.heap.size, 0, none⟩) (by simp)).trans (by simp [*]), (hb.cell (p := ⟨w.heap.size, 1, none⟩) (by simp)).trans (by simp [*]), (hb.cell (p := ⟨w.heap.size, 2, none⟩) (by simp)).trans (by simp [*])⟩)
    (first | (go_at_call 42; refine (zeros_as Q _ hQ1).mono ?_; rintro e w3 ⟨rfl, hb⟩; simp only [Int.toNat_natCast]))
  have HB3 := Lib.hid ((below_alloc w _).trans ((below_drew' hb).mono (B' := w.heap.size) (by simp)))
  clear hb
  go_wp2
  go_ret2
  exact ⟨ret_cat2', HB3.out⟩

set_option maxRecDepth 100000 in
set_option maxHeartbeats 3200000 in
theorem cut_mid (dn : Bool) (dl : List UInt8) (de p : Int) (w : World) (h1 : dl.length ≤ 100000) (h2 : -30000 ≤ de) (h3 : de ≤ 30000) (h4 : -30000 ≤ p) (h5 : p ≤ 30000) (he : de < p) (hm : p - de - (dl.length : Int) ≤ 0) (q : Nat) (hq : (dl.length : Int) - (p - de) = q) :
    Calls Tryd.prog 82 #[.agg #[.bool dn, S dl, .int .i64 de], .int .i64 p] w fun x w' => x = .returned (.tuple #[S (dl.take q), S (dl.drop q)]) ∧ Below w.heap.size w w' := by
  have c1 : (0 : Int) ≤ (dl.length : Int) - (p - de) := by omega
  have c2 : (dl.length : Int) - (p - de) ≤ (dl.length : Int) := by omega
  have HP := Lib.hid hq
  clear hq
  go_enter Tryd.func82, Tryd.ntmps82
  go_wp2_with fail
  go_quiet (fail)
  go_wp2
  go_ret2
  exact ⟨ret_parts _ _ _ (by have := HP.out; omega), (below_alloc w _).trans (Joins.below_draws _ _ _)⟩

/-- The digits from a place upward, and those below it. -/
def cutT (d : Tri) (p : Int) : List UInt8 × List UInt8 :=
  if p ≤ d.e then (d.l ++ zs (d.e - p).toNat, []) else if 0 < p - d.e - (d.l.length : Int) then ([], zs (p - d.e - (d.l.length : Int)).toNat ++ d.l) else (d.l.take ((d.l.length : Int) - (p - d.e)).toNat, d.l.drop ((d.l.length : Int) - (p - d.e)).toNat)
theorem rcut_as (dn : Bool) (dl : List UInt8) (de p : Int) (w : World) (h1 : dl.length ≤ 100000) (h2 : -30000 ≤ de) (h3 : de ≤ 30000) (h4 : -30000 ≤ p) (h5 : p ≤ 30000) (a b : List UInt8) (hc : cutT ⟨dn, dl, de⟩ p = (a, b)) :
    Calls Tryd.prog 82 #[.agg #[.bool dn, S dl, .int .i64 de], .int .i64 p] w fun x w' => x = .returned (.tuple #[S a, S b]) ∧ Below w.heap.size w w' := by
  unfold cutT at hc
  simp only at hc
  split at hc
  · rename_i he
    simp only [Prod.mk.injEq] at hc
    obtain ⟨rfl, rfl⟩ := hc
    exact cut_up dn dl de p w h1 h2 h3 h4 h5 he
  · rename_i he
    split at hc
    · rename_i hm
      simp only [Prod.mk.injEq] at hc
      obtain ⟨rfl, rfl⟩ := hc
      exact cut_down dn dl de p w h1 h2 h3 h4 h5 (by omega) hm
    · rename_i hm
      simp only [Prod.mk.injEq] at hc
      obtain ⟨rfl, rfl⟩ := hc
      exact cut_mid dn dl de p w h1 h2 h3 h4 h5 (by omega) (by omega) _ (by omega)
/-- What cut tells: a whole number, what is left of it, and how many places that has. -/
theorem cutT_val (d : Tri) (p : Int) (hd : isDig d.l = true) (a b : List UInt8) (hc : cutT d p = (a, b)) :
    isDig a = true ∧ isDig b = true ∧ a.length ≤ d.l.length + (d.e - p).toNat ∧ b.length = (p - d.e).toNat ∧ val a * 10 ^ b.length + val b = nN d p := by
  unfold cutT at hc
  unfold nN
  split at hc
  · rename_i he
    simp only [Prod.mk.injEq] at hc
    obtain ⟨rfl, rfl⟩ := hc
    refine ⟨by rw [isDig_append, hd, isDig_zs]; rfl, rfl, by rw [List.length_append, zs_length]; omega, by simp; omega, ?_⟩
    rw [val_app_zs, val_nil]; simp
  · rename_i he
    split at hc
    · rename_i hm
      simp only [Prod.mk.injEq] at hc
      obtain ⟨rfl, rfl⟩ := hc
      refine ⟨rfl, by rw [isDig_append, hd, isDig_zs]; rfl, by simp, by rw [List.length_append, zs_length]; omega, ?_⟩
      rw [val_nil, val_append, val_zs, show (d.e - p).toNat = 0 by omega]; simp
    · rename_i hm
      simp only [Prod.mk.injEq] at hc
      obtain ⟨rfl, rfl⟩ := hc
      have hs : d.l = d.l.take ((d.l.length : Int) - (p - d.e)).toNat ++ d.l.drop ((d.l.length : Int) - (p - d.e)).toNat := (List.take_append_drop _ _).symm
      have hd2 := hd
      rw [hs, isDig_append] at hd2
      simp only [Bool.and_eq_true] at hd2
      refine ⟨hd2.1, hd2.2, by rw [List.length_take]; omega, by rw [List.length_drop]; omega, ?_⟩
      rw [← val_append, ← hs, show (d.e - p).toNat = 0 by omega]; simp
end Go.Proofs.YtegekkifgdakgaaDoor
