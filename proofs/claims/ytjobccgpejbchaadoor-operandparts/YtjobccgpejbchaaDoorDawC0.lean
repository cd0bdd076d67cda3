/- Raw decimals of the laws at sixty places. -/
import Derived.Test.YtjobccgpejbchaaDoorDecP
namespace Go.Proofs.YtjobccgpejbchaaDoor
open Go.RowKit Florin
set_option linter.unusedVariables false
set_option linter.unusedSimpArgs false

theorem fit60 {z : Int} (h : z.natAbs < 10 ^ 240) : Fit 60 z := Fit.of (m := 240) (by decide) h (by decide)
theorem raw60 (n : Bool) (L : List UInt8) (e : Int) (h1 : L.length ≤ 60) (h2 : -60 ≤ e) (h3 : e ≤ 60) : ∃ X : Int, Dv 60 X ⟨n, dgs L, e⟩ ∧ X.natAbs < 10 ^ 200 ∧ val (dgs L ++ zs (e + 60).toNat) = X.natAbs := by
  refine ⟨_, raw_dv n (isDig_dgs L) (by omega), ?_, ?_⟩
  · rw [sg_natAbs]
    have h4 := val_lt _ (isDig_dgs L)
    rw [dgs_length] at h4
    have h5 : 10 ^ L.length ≤ 10 ^ 60 := Nat.pow_le_pow_right (by decide) h1
    have h6 : 10 ^ (e + 60).toNat ≤ 10 ^ 120 := Nat.pow_le_pow_right (by decide) (by omega)
    have h7 : val (dgs L) * 10 ^ (e + ((60 : Nat) : Int)).toNat ≤ 10 ^ 60 * 10 ^ 120 := Nat.mul_le_mul (by omega) h6
    have h8 : 10 ^ 60 * 10 ^ 120 < 10 ^ 200 := by decide
    omega
  · rw [sg_natAbs, val_app_zs]; rfl
theorem gd_of {a b : Nat} (h1 : a < 10 ^ 200) (h2 : b < 10 ^ 200) : (dig (a + b)).length ≤ 1000000 ∧ (dig (a - b)).length ≤ 1000000 ∧ (dig (b - a)).length ≤ 1000000 := by
  have p200 : 10 ^ 200 + 10 ^ 200 < 10 ^ 240 := by decide
  exact ⟨dig_len (k := 240) (by omega) (by decide), dig_len (k := 240) (by omega) (by decide), dig_len (k := 240) (by omega) (by decide)⟩
theorem nf_places {k : Nat} {z : Int} (h : Fit k z) : val ((nf k z).l ++ zs ((nf k z).e + k).toNat) = z.natAbs := by
  have := congrArg Int.natAbs (nf_dv h).num
  rw [sg_natAbs] at this
  rw [val_app_zs]; exact this

end Go.Proofs.YtjobccgpejbchaaDoor
