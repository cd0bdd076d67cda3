/- What cut of round returns: the digits from a place upward, and those below it. -/
import Derived.Test.YtjobccgpejbchaaDoorRndA
import Derived.Deep.QuietTactic
namespace Go.Proofs.YtjobccgpejbchaaDoor
open Go.RowKit Florin
set_option linter.unusedVariables false
set_option linter.unusedSimpArgs false

/-- The digits from a place upward, and those below it. -/
def cutT (d : Tri) (p : Int) : List UInt8 × List UInt8 :=
  if p ≤ d.e then (d.l ++ zs (d.e - p).toNat, []) else if 0 < p - d.e - (d.l.length : Int) then ([], zs (p - d.e - (d.l.length : Int)).toNat ++ d.l) else (d.l.take ((d.l.length : Int) - (p - d.e)).toNat, d.l.drop ((d.l.length : Int) - (p - d.e)).toNat)
/-- What cut tells: a whole number, what is left of it, and how many places that has. -/
theorem cutT_val (d : Tri) (p : Int) (hd : isDig d.l = true) (a b : List UInt8) (hc : cutT d p = (a, b)) :
    isDig a = true ∧ isDig b = true ∧ a.length ≤ d.l.length + (d.e - p).toNat ∧ b.length = (p - d.e).toNat ∧ val a * 10 ^ b.length + val b = nN d p := by
  unfold cutT at hc
  unfold nN
  split at hc
  · rename_i he
    simp only [Prod.mk.injEq] at hc
    obtain ⟨rfl, rfl⟩ := hc
    refine ⟨by rw [isDig_append, hd, isDig_zs]; rfl, rfl, by rw [List.length_append, zs_length]; omega, by simp; omega, ?_⟩
    rw [val_app_zs, val_nil]; simp
  · rename_i he
    split at hc
    · rename_i hm
      simp only [Prod.mk.injEq] at hc
      obtain ⟨rfl, rfl⟩ := hc
      refine ⟨rfl, by rw [isDig_append, hd, isDig_zs]; rfl, by simp, by rw [List.length_append, zs_length]; omega, ?_⟩
      rw [val_nil, val_append, val_zs, show (d.e - p).toNat = 0 by omega]; simp
    · rename_i hm
      simp only [Prod.mk.injEq] at hc
      obtain ⟨rfl, rfl⟩ := hc
      have hs : d.l = d.l.take ((d.l.length : Int) - (p - d.e)).toNat ++ d.l.drop ((d.l.length : Int) - (p - d.e)).toNat := (List.take_append_drop _ _).symm
      have hd2 := hd
      rw [hs, isDig_append] at hd2
      simp only [Bool.and_eq_true] at hd2
      refine ⟨hd2.1, hd2.2, by rw [List.length_take]; omega, by rw [List.length_drop]; omega, ?_⟩
      rw [← val_append, ← hs, show (d.e - p).toNat = 0 by omega]; simp
end Go.Proofs.YtjobccgpejbchaaDoor
