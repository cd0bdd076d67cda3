/- The walk of the law RoundSigns, whatever came in. -/
import Derived.Test.YtfbfjkacaadbpaaDoorLawR4
import Derived.Test.YtfbfjkacaadbpaaDoorLawR4hl
import Derived.Test.YtfbfjkacaadbpaaDoorLawR4hh
import Derived.Test.YtfbfjkacaadbpaaDoorLawR4nl
import Derived.Test.YtfbfjkacaadbpaaDoorLawR4nh
namespace Go.Proofs.YtfbfjkacaadbpaaDoor
open Go.RowKit Florin
set_option linter.unusedVariables false

theorem ci_neg_iff (x y : Int) : Lib.compareInt x y < 0 ↔ x < y := by rcases ci_cases x y with ⟨a, b⟩ | ⟨a, b⟩ | ⟨a, b⟩ <;> rw [b] <;> omega
theorem roundSigns_walk (n : Bool) (a : Option Addr) (len cap : Nat) (e : Int) (L : List UInt8) (pl mo : Int) (w : World) (hin : InB w a len cap L) (_ : (Lit.int .i64 pl).wf = true) (_ : (Lit.int .i64 mo).wf = true) (htab : Tab w) :
    Calls Tryd.prog 5 #[RV n a len cap e, .int .i64 pl, .int .i64 mo] w fun x w' => x = .returned (.bool true) ∧ Below w.heap.size w w' := by
  by_cases hf : (len : Int) ≤ 40 ∧ -40 ≤ e ∧ e ≤ 40
  · obtain ⟨h1, h2, h3⟩ := hf
    obtain ⟨X, x1, x2, x3⟩ := raw60 n L e (by rw [hin.1]; omega) (by omega) (by omega)
    have hp := place60 pl
    obtain ⟨P, hP⟩ : ∃ P, wrap64 (pl.tmod 60 - wrap64 ((pl.tmod 60).tdiv 2)) = P := ⟨_, rfl⟩
    rw [hP] at hp
    obtain ⟨M, m0, m6, hM⟩ := mode_as mo
    have hfx : Fit 60 X := fit60 (Nat.lt_trans x2 (by decide))
    have hd : made n (dgs L) e = nf 60 X := x1.made hfx
    have hy : made (!n) (dgs L) e = nf 60 (-X) := (dv_neg x1).made (fit_neg hfx)
    have up := un_pos P
    have uI : (0 : Int) < un P := by omega
    obtain ⟨u1, u2⟩ := unit60 (P := P) (by omega) (by omega)
    have t0 : 0 ≤ turn M := by unfold turn; split; omega; split <;> omega
    have t6 : turn M ≤ 6 := by unfold turn; split; omega; split <;> omega
    obtain ⟨a1, a2, a3, a4⟩ := at60 (X := X) (m := M) (P := P) 200 (by decide) x2 (by omega) (by omega) m0 m6
    obtain ⟨b1, b2, b3, b4⟩ := at60 (X := X) (m := 6) (P := P) 200 (by decide) x2 (by omega) (by omega) (by decide) (by decide)
    obtain ⟨c1, c2, c3, c4⟩ := at60 (X := X) (m := 5) (P := P) 200 (by decide) x2 (by omega) (by omega) (by decide) (by decide)
    obtain ⟨d1, d2, d3, d4⟩ := at60 (X := -X) (m := turn M) (P := P) 200 (by decide) (by rw [Int.natAbs_neg]; exact x2) (by omega) (by omega) t0 t6
    rw [rz_neg M (un P) X uI m0 m6] at d1 d2 d3
    have near := rz_near M (un P) X uI
    obtain ⟨lh1, lh2, lh3⟩ := rz_lo_hi M (un P) X uI
    have hhalf := rz_half M (un P) X uI m0
    generalize hR : rz M (un P) X = R at *
    generalize hLo : rz 6 (un P) X = lo at *
    generalize hHi : rz 5 (un P) X = hi at *
    have p201 : 10 ^ 200 + 10 ^ 201 < 10 ^ 210 := by decide
    have p240 : 10 ^ 210 + 10 ^ 210 < 10 ^ 240 := by decide
    have fd : Fit 60 (X - R) := fit60 (by omega)
    have fda : Fit 60 ((X - R).natAbs : Int) := fit_abs fd
    have fd2 : Fit 60 (((X - R).natAbs : Int) + ((X - R).natAbs : Int)) := fit60 (by omega)
    have hdd : made false (nf 60 (X - R)).l (nf 60 (X - R)).e = nf 60 ((X - R).natAbs : Int) := nf_abs (nf_dv fd) fd
    have hsub : SubIs ⟨n, dgs L, e⟩ (nf 60 R) (nf 60 (X - R)) := ⟨60, X, R, hfx, a3, fd, hd, nf_dv a3, rfl⟩
    have hadd : AddIs (nf 60 ((X - R).natAbs : Int)) (nf 60 ((X - R).natAbs : Int)) (nf 60 (((X - R).natAbs : Int) + ((X - R).natAbs : Int))) := ⟨60, _, _, fda, fda, fd2, nf_made fda, nf_made fda, rfl⟩
    have hc2 : CmpIs (nf 60 ((X - R).natAbs : Int)) (nf 60 (un P : Int)) (Lib.compareInt ((X - R).natAbs : Int) (un P)) := ⟨60, _, _, fda, u2, nf_made fda, nf_made u2, rfl⟩
    have hc1 : CmpIs (nf 60 (((X - R).natAbs : Int) + ((X - R).natAbs : Int))) (nf 60 (un P : Int)) (Lib.compareInt (((X - R).natAbs : Int) + ((X - R).natAbs : Int)) (un P)) := ⟨60, _, _, fd2, u2, nf_made fd2, nf_made u2, rfl⟩
    have hc3 : CmpIs (nf 60 lo) ⟨n, dgs L, e⟩ (Lib.compareInt lo X) := ⟨60, lo, X, b3, hfx, nf_made b3, hd, rfl⟩
    have hc4 : CmpIs ⟨n, dgs L, e⟩ (nf 60 hi) (Lib.compareInt X hi) := ⟨60, X, hi, hfx, c3, hd, nf_made c3, rfl⟩
    have n2 : Lib.compareInt ((X - R).natAbs : Int) (un P) < 0 := (ci_neg_iff _ _).2 (by omega)
    have n3 : Lib.compareInt lo X ≤ 0 := (ci_le _ _).2 lh1
    have n4 : Lib.compareInt X hi ≤ 0 := (ci_le _ _).2 lh2
    have e1 : mulT (made n (dgs L) e) 1 (hld P) M = nf 60 R := by rw [hd]; exact a1
    have e2 : mulT (made n (dgs L) e) 1 (hld P) 6 = nf 60 lo := by rw [hd]; exact b1
    have e3 : mulT (made n (dgs L) e) 1 (hld P) 5 = nf 60 hi := by rw [hd]; exact c1
    have e4 : mulT (made (nf 60 (-X)).neg (nf 60 (-X)).l (nf 60 (-X)).e) 1 (hld P) (turn M) = nf 60 (-R) := by rw [nf_made (fit_neg hfx)]; exact d1
    have e5 : made (!(nf 60 R).neg) (nf 60 R).l (nf 60 R).e = nf 60 (-R) := nf_minus a3
    have l1 : (nf 60 R).l.length ≤ 100000 := nf_len a2 (by decide)
    have l2 : (nf 60 (X - R)).l.length ≤ 100000 := nf_len (N := 210) (by omega) (by decide)
    have l3 : (nf 60 ((X - R).natAbs : Int)).l.length ≤ 100000 := nf_len (N := 210) (by omega) (by decide)
    have l4 : (nf 60 (un P : Int)).l.length ≤ 100000 := nf_len (N := 240) (by have := u2.hz; rw [Int.natAbs_natCast]; exact Nat.lt_of_le_of_lt (un_le (N := 210) (by omega)) ((Nat.pow_lt_pow_iff_right (by decide)).2 (by decide))) (by decide)
    have l5 : (nf 60 lo).l.length ≤ 100000 := nf_len b2 (by decide)
    have l6 : (nf 60 hi).l.length ≤ 100000 := nf_len c2 (by decide)
    have l7 : (nf 60 (-X)).l.length ≤ 100000 := nf_len (N := 200) (by rw [Int.natAbs_neg]; exact x2) (by decide)
    have l8 : (nf 60 (((X - R).natAbs : Int) + ((X - R).natAbs : Int))).l.length ≤ 100000 := nf_len (N := 240) (by omega) (by decide)
    by_cases m2 : M ≤ 2
    · have hb := hhalf m2
      have n1 : Lib.compareInt (((X - R).natAbs : Int) + ((X - R).natAbs : Int)) (un P) ≤ 0 := (ci_le _ _).2 (by omega)
      by_cases hl : nf 60 R = nf 60 lo
      · exact signs_hl n a len cap L e pl mo w hin htab (by omega) h2 h3 P M hP m0 m6 hM _ _ _ _ _ _ _ _ _ e1 hsub hdd u1 _ _ hc2 n2 e2 e3 hy e4 e5 _ _ hc3 n3 hc4 n4 l1 l2 l3 l4 l5 l6 l7 m2 hadd l8 hc1 n1 hl
      · have hh : nf 60 R = nf 60 hi := by rcases lh3 with h | h; exact absurd (by rw [h]) hl; rw [h]
        exact signs_hh n a len cap L e pl mo w hin htab (by omega) h2 h3 P M hP m0 m6 hM _ _ _ _ _ _ _ _ _ e1 hsub hdd u1 _ _ hc2 n2 e2 e3 hy e4 e5 _ _ hc3 n3 hc4 n4 l1 l2 l3 l4 l5 l6 l7 m2 hadd l8 hc1 n1 hl hh
    · by_cases hl : nf 60 R = nf 60 lo
      · exact signs_nl n a len cap L e pl mo w hin htab (by omega) h2 h3 P M hP m0 m6 hM _ _ _ zero _ _ _ _ _ e1 hsub hdd u1 0 _ hc2 n2 e2 e3 hy e4 e5 _ _ hc3 n3 hc4 n4 l1 l2 l3 l4 l5 l6 l7 (by omega) hl
      · have hh : nf 60 R = nf 60 hi := by rcases lh3 with h | h; exact absurd (by rw [h]) hl; rw [h]
        exact signs_nh n a len cap L e pl mo w hin htab (by omega) h2 h3 P M hP m0 m6 hM _ _ _ zero _ _ _ _ _ e1 hsub hdd u1 0 _ hc2 n2 e2 e3 hy e4 e5 _ _ hc3 n3 hc4 n4 l1 l2 l3 l4 l5 l6 l7 (by omega) hl hh
  · exact signs_no n a len cap e pl mo w hin.2.1 hin.2.2.1 htab hf
end Go.Proofs.YtfbfjkacaadbpaaDoor
