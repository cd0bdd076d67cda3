/- The walk of the law RoundAgain, whatever came in. -/
import Derived.Test.YtfbfjkacaadbpaaDoorLawR2
namespace Go.Proofs.YtfbfjkacaadbpaaDoor
open Go.RowKit Florin
set_option linter.unusedVariables false

theorem cmpIs_nf {k : Nat} {x y : Int} (hx : Fit k x) (hy : Fit k y) {c : Int} (h : Lib.compareInt x y = c) : CmpIs (nf k x) (nf k y) c := ⟨k, x, y, hx, hy, nf_made hx, nf_made hy, h⟩
theorem sign_mono {X Y R S : Int} (h1 : X ≤ Y → R ≤ S) (h2 : Y ≤ X → S ≤ R) : 0 ≤ Lib.compareInt R S * Lib.compareInt X Y ∧ -1 ≤ Lib.compareInt R S * Lib.compareInt X Y ∧ Lib.compareInt R S * Lib.compareInt X Y ≤ 1 := by
  rcases ci_cases X Y with ⟨a1, a2⟩ | ⟨a1, a2⟩ | ⟨a1, a2⟩
  · have := h1 (by omega)
    rcases ci_cases R S with ⟨b1, b2⟩ | ⟨b1, b2⟩ | ⟨b1, b2⟩ <;> rw [a2, b2] <;> omega
  · rw [a2]; omega
  · have := h2 (by omega)
    rcases ci_cases R S with ⟨b1, b2⟩ | ⟨b1, b2⟩ | ⟨b1, b2⟩ <;> rw [a2, b2] <;> omega
theorem roundAgain_walk (n : Bool) (a : Option Addr) (len cap : Nat) (e : Int) (L : List UInt8) (n1 : Bool) (a1 : Option Addr) (len1 cap1 : Nat) (e1 : Int) (L1 : List UInt8) (pl mo : Int) (w : World) (hin : InB w a len cap L) (hin1 : InB w a1 len1 cap1 L1) (_ : (Lit.int .i64 pl).wf = true) (_ : (Lit.int .i64 mo).wf = true) (htab : Tab w) :
    Calls Tryd.prog 4 #[RV n a len cap e, RV n1 a1 len1 cap1 e1, .int .i64 pl, .int .i64 mo] w fun x w' => x = .returned (.bool true) ∧ Below w.heap.size w w' := by
  by_cases hf : (len : Int) ≤ 40 ∧ -40 ≤ e ∧ e ≤ 40
  · obtain ⟨h1, h2, h3⟩ := hf
    by_cases hf1 : (len1 : Int) ≤ 40 ∧ -40 ≤ e1 ∧ e1 ≤ 40
    · obtain ⟨k1, k2, k3⟩ := hf1
      obtain ⟨X, x1, x2, x3⟩ := raw60 n L e (by rw [hin.1]; omega) (by omega) (by omega)
      obtain ⟨Y, y1, y2, y3⟩ := raw60 n1 L1 e1 (by rw [hin1.1]; omega) (by omega) (by omega)
      have hp := place60 pl
      obtain ⟨P, hP⟩ : ∃ P, wrap64 (pl.tmod 60 - wrap64 ((pl.tmod 60).tdiv 2)) = P := ⟨_, rfl⟩
      rw [hP] at hp
      obtain ⟨M, m0, m6, hM⟩ := mode_as mo
      have hfx : Fit 60 X := fit60 (Nat.lt_trans x2 (by decide))
      have hfy : Fit 60 Y := fit60 (Nat.lt_trans y2 (by decide))
      have hd : made n (dgs L) e = nf 60 X := x1.made hfx
      have hg : made n1 (dgs L1) e1 = nf 60 Y := y1.made hfy
      obtain ⟨U, hU⟩ : ∃ U : Nat, U = 25 * 10 ^ (P + 60).toNat := ⟨_, rfl⟩
      have hUb : U ≤ 10 ^ 200 := by
        rw [hU]
        have : 10 ^ (P + 60).toNat ≤ 10 ^ 90 := Nat.pow_le_pow_right (by decide) (by omega)
        have h9 : 25 * 10 ^ 90 ≤ 10 ^ 200 := by decide
        omega
      have hUb1 : U ≤ 10 ^ 201 := Nat.le_trans hUb (Nat.pow_le_pow_right (by decide) (by decide))
      obtain ⟨a1', a2, a3, a4⟩ := at60 (X := X) (m := M) (P := P) 200 (by decide) x2 (by omega) (by omega) m0 m6
      obtain ⟨b1, b2, b3, b4⟩ := at60 (X := Y) (m := M) (P := P) 200 (by decide) y2 (by omega) (by omega) m0 m6
      obtain ⟨c1, c2, c3, c4⟩ := at60 (X := rz M (un P) X) (m := M) (P := P) 201 (by decide) a2 (by omega) (by omega) m0 m6
      obtain ⟨d1, d2, d3, d4, d5⟩ := step60 (X := X) (m := M) (F := 25) (p := P) 200 (by decide) x2 (by decide) (by omega) U hU hUb m0 m6
      obtain ⟨e1', e2, e3, e4, e5⟩ := step60 (X := Y) (m := M) (F := 25) (p := P) 200 (by decide) y2 (by decide) (by omega) U hU hUb m0 m6
      obtain ⟨f1, f2, f3, f4, f5⟩ := step60 (X := rz M U X) (m := M) (F := 25) (p := P) 201 (by decide) d2 (by decide) (by omega) U hU hUb1 m0 m6
      have up := un_pos P
      rw [rz_again M (un P) X (by omega)] at c1
      rw [rz_again M U X (by omega)] at f1
      have hc : ∀ c, Lib.compareInt X Y = c → CmpIs ⟨n, dgs L, e⟩ ⟨n1, dgs L1, e1⟩ c := fun c h => ⟨60, X, Y, hfx, hfy, hd, hg, h⟩
      by_cases hxy : X = Y
      · subst hxy
        exact again_eq n a len cap L e n1 a1 len1 cap1 L1 e1 pl mo w hin hin1 htab (by omega) h2 h3 (by omega) k2 k3 P M hP hp.1 hp.2 hM (nf 60 (rz M (un P) X)) (nf 60 (rz M U X)) (by rw [hd]; exact a1') (by rw [hg]; exact b1) (by rw [hd]; exact d1) (by rw [hg]; exact e1')
          (by rw [nf_made a3]; exact c1) (by rw [nf_made d3]; exact f1) (nf_len a2 (by decide)) (nf_len d2 (by decide)) (hc 0 (ci_eq rfl))
      · have s1 := sign_mono (X := X) (Y := Y) (R := rz M (un P) X) (S := rz M (un P) Y) (rz_mono M _ (by omega)) (rz_mono M _ (by omega))
        have s2 := sign_mono (X := X) (Y := Y) (R := rz M U X) (S := rz M U Y) (rz_mono M _ (by omega)) (rz_mono M _ (by omega))
        have cb := ci_bounds X Y
        have cz : ¬ Lib.compareInt X Y = 0 := fun h => hxy ((ci_zero X Y).1 h)
        exact again_ne n a len cap L e n1 a1 len1 cap1 L1 e1 pl mo w hin hin1 htab (by omega) h2 h3 (by omega) k2 k3 P M hP hp.1 hp.2 hM (nf 60 (rz M (un P) X)) (nf 60 (rz M (un P) Y)) (nf 60 (rz M U X)) (nf 60 (rz M U Y)) (by rw [hd]; exact a1') (by rw [hg]; exact b1) (by rw [hd]; exact d1) (by rw [hg]; exact e1')
          (by rw [nf_made a3]; exact c1) (by rw [nf_made d3]; exact f1) (nf_len a2 (by decide)) (nf_len b2 (by decide)) (nf_len d2 (by decide)) (nf_len e2 (by decide)) _ _ _ (hc _ rfl) cz cb.1 cb.2 (cmpIs_nf a3 b3 rfl) (cmpIs_nf d3 e3 rfl) s1.1 s2.1 s1.2 s2.2
    · exact again_no2 n a len cap e n1 a1 len1 cap1 e1 pl mo w hin.2.1 hin.2.2.1 hin1.2.1 hin1.2.2.1 htab h1 h2 h3 hf1
  · exact again_no1 n a len cap e n1 a1 len1 cap1 e1 pl mo w hin.2.1 hin.2.2.1 htab hf
end Go.Proofs.YtfbfjkacaadbpaaDoor
