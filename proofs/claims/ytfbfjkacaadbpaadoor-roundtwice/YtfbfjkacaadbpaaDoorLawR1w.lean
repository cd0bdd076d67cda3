/- The walk of the law RoundTwice, whatever came in. -/
import Derived.Test.YtfbfjkacaadbpaaDoorLawR1
import Derived.Test.YtfbfjkacaadbpaaDoorRndP
namespace Go.Proofs.YtfbfjkacaadbpaaDoor
open Go.RowKit Florin
set_option linter.unusedVariables false

set_option maxRecDepth 100000 in
set_option maxHeartbeats 1600000 in
theorem twice_no (n0 : Bool) (a0 : Option Addr) (len0 cap0 : Nat) (e0 : Int) (pl more mo : Int) (w : World) (hc0 : len0 ≤ cap0) (hm0 : cap0 ≤ maxLen) (htab : Tab w) (h : ¬ ((len0 : Int) ≤ 40 ∧ -40 ≤ e0 ∧ e0 ≤ 40)) :
    Calls Tryd.prog 6 #[RV n0 a0 len0 cap0 e0, .int .i64 pl, .int .i64 more, .int .i64 mo] w fun x w' => x = .returned (.bool true) ∧ Below w.heap.size w w' := by
  have HT := Lib.hid htab
  have H := Lib.hid h
  clear htab h
  go_enter Tryd.func6, Tryd.ntmps6
  go_wp2_with fail
  with_reducible refine (head3 _ (HT.out.below (HeldL.alloc (HeldL.refl w) (w.heap.size) #[.bool n0, .slice a0 len0 cap0, .int .i64 e0] 24 (by simp)).bel)).mono ?_
  rintro x w1 ⟨rfl, hb⟩
  have H1 : Hid (HeldL w [(w.heap.size, #[.bool n0, .slice a0 len0 cap0, .int .i64 e0])] w1) := Lib.hid (HeldL.keep (HeldL.alloc (HeldL.refl w) (w.heap.size) #[.bool n0, .slice a0 len0 cap0, .int .i64 e0] 24 (by simp)) hb)
  clear hb
  have r0 : w1.cell? ⟨w.heap.size, 0, none⟩ = some (.bool n0) := (H1.out.f (List.Mem.head _)).cell 0
  have r1 : w1.cell? ⟨w.heap.size, 1, none⟩ = some (.slice a0 len0 cap0) := (H1.out.f (List.Mem.head _)).cell 1
  have r2 : w1.cell? ⟨w.heap.size, 2, none⟩ = some (.int .i64 e0) := (H1.out.f (List.Mem.head _)).cell 2
  have rl : w.heap.size < w1.heap.size := (H1.out.f (List.Mem.head _)).lt
  go_wp2_with fail
  with_reducible refine (few_no n0 a0 len0 cap0 e0 40 _ hc0 hm0 (by decide) (by decide) H.out).mono ?_
  rintro x w2 ⟨rfl, hb⟩
  clear r0 r1 r2 rl
  have H2 : Hid (HeldL w [(w.heap.size, #[.bool n0, .slice a0 len0 cap0, .int .i64 e0])] w2) := Lib.hid (HeldL.keep H1.out hb)
  clear H1
  clear hb
  go_wp2
  go_ret
  exact ⟨rfl, H2.out.bel⟩

theorem roundTwice_walk (n : Bool) (a : Option Addr) (len cap : Nat) (e : Int) (L : List UInt8) (pl more mo : Int) (w : World) (hin : InB w a len cap L) (_ : (Lit.int .i64 pl).wf = true) (_ : (Lit.int .i64 more).wf = true) (_ : (Lit.int .i64 mo).wf = true) (htab : Tab w) :
    Calls Tryd.prog 6 #[RV n a len cap e, .int .i64 pl, .int .i64 more, .int .i64 mo] w fun x w' => x = .returned (.bool true) ∧ Below w.heap.size w w' := by
  by_cases hf : (len : Int) ≤ 40 ∧ -40 ≤ e ∧ e ≤ 40
  · obtain ⟨h1, h2, h3⟩ := hf
    obtain ⟨X, x1, x2, x3⟩ := raw60 n L e (by rw [hin.1]; omega) (by omega) (by omega)
    have hp := place60 pl
    obtain ⟨P, hP⟩ : ∃ P, wrap64 (pl.tmod 60 - wrap64 ((pl.tmod 60).tdiv 2)) = P := ⟨_, rfl⟩
    rw [hP] at hp
    have hmb := u64_mod mo 4 (by decide) (by decide)
    obtain ⟨M, hM⟩ : ∃ M, wrap64 (3 + wrap64 ((IntKind.u64.wrap mo).tmod 4)) = M := ⟨_, rfl⟩
    have hM' : M = 3 + wrap64 ((IntKind.u64.wrap mo).tmod 4) := by
      rw [← hM]; generalize wrap64 ((IntKind.u64.wrap mo).tmod 4) = t at *
      unfold wrap64; omega
    have m3 : 3 ≤ M := by omega
    have m6 : M ≤ 6 := by omega
    obtain ⟨j, hj2, hj⟩ := and_mask more 15 (by decide)
    have hfx : Fit 60 X := fit60 (Nat.lt_trans x2 (by decide))
    have hd : made n (dgs L) e = nf 60 X := x1.made hfx
    obtain ⟨a1, a2, a3, a4⟩ := at60 (X := X) (m := M) (P := P) 200 (by decide) x2 (by omega) (by omega) (by omega) m6
    obtain ⟨b1, b2, b3, b4⟩ := at60 (X := rz M (un P) X) (m := M) (P := P + j) 201 (by decide) a2 (by omega) (by omega) (by omega) m6
    obtain ⟨c1, c2, c3, c4⟩ := at60 (X := X) (m := M) (P := P + j) 200 (by decide) x2 (by omega) (by omega) (by omega) m6
    have hu : ((un (P + j) : Nat) : Int) = (un P : Int) * ((10 ^ j : Nat) : Int) := by
      rw [← Int.natCast_mul]; unfold un
      rw [← Nat.pow_add, show (P + (j : Int) + 60).toNat = (P + 60).toNat + j by omega]
    have htw := rz_twice M (un P) ((10 ^ j : Nat) : Int) X (by have := un_pos P; omega) (by have := pow_pos' j; omega) m3 m6
    rw [← hu] at htw
    refine twice_w n a len cap L e pl more mo w hin htab (by omega) h2 h3 P M (P + j) hP hM j hj hj2 rfl hp.1 hp.2 (nf 60 (rz M (un P) X)) (nf 60 (rz M (un (P + j)) X)) ?_ ?_ ?_ (nf_len a2 (by decide))
    · rw [hd]; exact a1
    · rw [nf_made a3, b1, htw]
    · rw [hd]; exact c1
  · exact twice_no n a len cap e pl more mo w hin.2.1 hin.2.2.1 htab hf
end Go.Proofs.YtfbfjkacaadbpaaDoor
