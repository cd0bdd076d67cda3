/- Rounded decimals of the laws at sixty places. -/
import Derived.Test.YtfbfjkacaadbpaaGreatDoorRndG
namespace Go.Proofs.YtfbfjkacaadbpaaGreatDoor
open Go.RowKit Florin
set_option linter.unusedVariables false

theorem place60 (k : Int) : -30 ≤ wrap64 (k.tmod 60 - wrap64 ((k.tmod 60).tdiv 2)) ∧ wrap64 (k.tmod 60 - wrap64 ((k.tmod 60).tdiv 2)) ≤ 30 := by
  have t1 := Int.tmod_lt_of_pos k (show (0 : Int) < 60 by decide)
  have t2 := Int.lt_tmod_of_pos k (show (0 : Int) < 60 by decide)
  generalize k.tmod 60 = t at *
  have t3 := Int.tdiv_eq_ediv (a := t) (b := 2)
  have t4 : (0 ≤ t → t.tdiv 2 = t / 2) ∧ (t < 0 → t / 2 ≤ t.tdiv 2 ∧ t.tdiv 2 ≤ t / 2 + 1) ∧ (t < 0 → 2 * t.tdiv 2 ≥ t ∧ 2 * t.tdiv 2 ≤ t + 1) := by
    refine ⟨fun h => ?_, fun h => ?_, fun h => ?_⟩
    · rw [t3, if_pos (.inl h)]; omega
    · rw [t3]; split
      · omega
      · rw [show Int.sign 2 = 1 from rfl]; omega
    · rw [t3]; split
      · omega
      · rw [show Int.sign 2 = 1 from rfl]; omega
  clear t3
  generalize t.tdiv 2 = u at *
  unfold wrap64
  omega
/-- Ten to the power of a place, at sixty places. -/
def un (P : Int) : Nat := 10 ^ (P + 60).toNat
theorem un_pos (P : Int) : 0 < un P := pow_pos' _
theorem un_le {P : Int} {N : Nat} (h : P + 60 ≤ N) : un P ≤ 10 ^ N := Nat.pow_le_pow_right (by decide) (by omega)
theorem rz_lt {m U X : Int} {N : Nat} (hU : 0 < U) (hX : X.natAbs < 10 ^ N) (hU2 : U.natAbs ≤ 10 ^ N) : (rz m U X).natAbs < 10 ^ (N + 1) := by
  have := rz_abs m U X hU
  rw [Nat.pow_succ]; omega
/-- At of a decimal at sixty places. -/
theorem at60 {X m P : Int} (N : Nat) (hN : N ≤ 230) (hX : X.natAbs < 10 ^ N) (hP : -60 ≤ P) (hP2 : P + 60 ≤ N) (h0 : 0 ≤ m) (h6 : m ≤ 6) :
    mulT (nf 60 X) 1 (hld P) m = nf 60 (rz m (un P) X) ∧ (rz m (un P) X).natAbs < 10 ^ (N + 1) ∧ Fit 60 (rz m (un P) X) ∧ Fit 60 X := by
  have hR := rz_lt (m := m) (U := (un P : Int)) (X := X) (N := N) (by have := un_pos P; omega) hX (by rw [Int.natAbs_natCast]; exact un_le hP2)
  have f1 : Fit 60 (rz m (un P) X) := fit60 (Nat.lt_of_lt_of_le hR (Nat.pow_le_pow_right (by decide) (by omega)))
  have f2 : Fit 60 X := fit60 (Nat.lt_of_lt_of_le hX (Nat.pow_le_pow_right (by decide) (by omega)))
  refine ⟨?_, hR, f1, f2⟩
  rw [hld_of (by omega) (by omega)]
  exact mulT_nf f2 1 (by decide) P m (by omega) h0 h6 (un P) (by unfold un; rw [Nat.one_mul]; rfl) f1
/-- .. and Step: a unit of some digits. -/
theorem step60 {X m : Int} {F : Nat} {p : Int} (N : Nat) (hN : N ≤ 230) (hX : X.natAbs < 10 ^ N) (hF : 0 < F) (hp : -60 ≤ p) (U : Nat) (hU : U = F * 10 ^ (p + 60).toNat) (hU2 : U ≤ 10 ^ N) (h0 : 0 ≤ m) (h6 : m ≤ 6) :
    mulT (nf 60 X) F p m = nf 60 (rz m U X) ∧ (rz m U X).natAbs < 10 ^ (N + 1) ∧ Fit 60 (rz m U X) ∧ Fit 60 X ∧ 0 < U := by
  have hU0 : 0 < U := by rw [hU]; exact Nat.mul_pos hF (pow_pos' _)
  have hR := rz_lt (m := m) (U := (U : Int)) (X := X) (N := N) (by omega) hX (by rw [Int.natAbs_natCast]; exact hU2)
  have f1 : Fit 60 (rz m U X) := fit60 (Nat.lt_of_lt_of_le hR (Nat.pow_le_pow_right (by decide) (by omega)))
  have f2 : Fit 60 X := fit60 (Nat.lt_of_lt_of_le hX (Nat.pow_le_pow_right (by decide) (by omega)))
  exact ⟨mulT_nf f2 F hF p m (by omega) h0 h6 U (by rw [hU]; rfl) f1, hR, f1, f2, hU0⟩
theorem nf_len {k : Nat} {z : Int} {N : Nat} (h : z.natAbs < 10 ^ N) (hN : N ≤ 100000) : (nf k z).l.length ≤ 100000 := Nat.le_trans (nf_length h) hN
/-- The unit itself. -/
theorem unit60 {P : Int} (h1 : -60 ≤ P) (h2 : P ≤ 150) : made false [49] P = nf 60 (un P : Int) ∧ Fit 60 (un P : Int) := by
  have hf : Fit 60 (un P : Int) := fit60 (by rw [Int.natAbs_natCast]; exact Nat.lt_of_le_of_lt (un_le (N := 210) (by omega)) ((Nat.pow_lt_pow_iff_right (by decide)).2 (by decide)))
  refine ⟨?_, hf⟩
  have hd : Dv 60 (un P : Int) ⟨false, [49], P⟩ := ⟨rfl, by simp only; omega, by
    simp only
    rw [show val [49] = 1 from rfl, Nat.one_mul]; rfl⟩
  exact hd.made hf
end Go.Proofs.YtfbfjkacaadbpaaGreatDoor
