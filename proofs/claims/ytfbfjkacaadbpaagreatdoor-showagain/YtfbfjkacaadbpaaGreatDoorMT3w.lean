/- AskX, LawT3n, LawT3w, in one text. -/
import Derived.Test.YtfbfjkacaadbpaaGreatDoorMT3
import Derived.Test.YtfbfjkacaadbpaaGreatDoorDecJ
import Derived.ProofKit
import Derived.OpenShut
import Derived.Lib.SmallJoins
import Derived.Test.YtfbfjkacaadbpaaGreatDoorMShw
import Derived.Test.YtfbfjkacaadbpaaGreatDoorRndP
namespace Go.Proofs.YtfbfjkacaadbpaaGreatDoor
open Go.ChangeShapes Go.WideShapes Go.ChangeAt Go.RowKit Go.Joins Go.Deep
section
variable {H : Type} {enc : TypeId × Value → H} {P : Program} {w : World} {base : Nat} {spare : Nat → Bool} {held : Bool}
theorem open_agg7 {r : Reach} {b0 : Nat} {t : TypeId} {f0 f1 f2 f3 f4 f5 f6 : Field} {v : Value} {d : DataW H} {p : List MemPlace} (hs : P.underlying t = some (.struct #[f0, f1, f2, f3, f4, f5, f6])) (hone : oneCellFields P #[f0, f1, f2, f3, f4, f5, f6] = true) (hC : P.cellsOf t = 7)
    (hv : Value.okWide P w r b0 t v) (h : DataW.Trod enc P w base spare held t v d p) :
    ∃ (v0 v1 v2 v3 v4 v5 v6 : Value) (y0 y1 y2 y3 y4 y5 y6 : DataW H × List MemPlace) (n : Nat), v = .agg #[v0, v1, v2, v3, v4, v5, v6] ∧
      DataW.trod enc P w base spare held n f0.type [v0] = some y0 ∧ DataW.trod enc P w base spare held n f1.type [v1] = some y1 ∧ DataW.trod enc P w base spare held n f2.type [v2] = some y2 ∧ DataW.trod enc P w base spare held n f3.type [v3] = some y3 ∧ DataW.trod enc P w base spare held n f4.type [v4] = some y4 ∧ DataW.trod enc P w base spare held n f5.type [v5] = some y5 ∧ DataW.trod enc P w base spare held n f6.type [v6] = some y6 := by
  obtain ⟨cs, rfl, hsz⟩ := okWide_struct hs hv
  obtain ⟨l⟩ := cs
  match l, hsz.trans hC with
  | [c0, c1, c2, c3, c4, c5, c6], _ =>
    obtain ⟨fuel, hf⟩ := h
    obtain ⟨xs, n, _, hx, _, hlen, hg⟩ := DataW.trod_struct hs hf
    obtain ⟨o0, k0⟩ := hone_of hone 0 f0 rfl
    obtain ⟨o1, k1⟩ := hone_of hone 1 f1 rfl
    obtain ⟨o2, k2⟩ := hone_of hone 2 f2 rfl
    obtain ⟨o3, k3⟩ := hone_of hone 3 f3 rfl
    obtain ⟨o4, k4⟩ := hone_of hone 4 f4 rfl
    obtain ⟨o5, k5⟩ := hone_of hone 5 f5 rfl
    obtain ⟨o6, k6⟩ := hone_of hone 6 f6 rfl
    match xs, hlen with
    | [y0, y1, y2, y3, y4, y5, y6], _ =>
      exact ⟨c0, c1, c2, c3, c4, c5, c6, y0, y1, y2, y3, y4, y5, y6, n, rfl, by simpa [Value.cells, o0, k0] using hg 0 f0 rfl, by simpa [Value.cells, o1, k1] using hg 1 f1 rfl, by simpa [Value.cells, o2, k2] using hg 2 f2 rfl, by simpa [Value.cells, o3, k3] using hg 3 f3 rfl, by simpa [Value.cells, o4, k4] using hg 4 f4 rfl, by simpa [Value.cells, o5, k5] using hg 5 f5 rfl, by simpa [Value.cells, o6, k6] using hg 6 f6 rfl⟩
end
set_option maxRecDepth 1000000 in
theorem open_ask {H : Type} {enc : TypeId × Value → H} {W : World} {r : Reach} {b0 : Nat} {v : Value} {d : DataW H} {p : List MemPlace} (hv : Value.okWide Tryz.prog W r b0 43 v)
    (h : DataW.Trod enc Tryz.prog W 0 (fun _ => true) true 43 v d p) : ∃ k0 k1 k2 k3 k4 k5 k6 : Int, v = .agg #[.int .i64 k0, .int .i64 k1, .int .i64 k2, .int .i64 k3, .int .i64 k4, .int .i64 k5, .int .i64 k6] := by
  obtain ⟨c0, c1, c2, c3, c4, c5, c6, y0, y1, y2, y3, y4, y5, y6, m, rfl, h0, h1, h2, h3, h4, h5, h6⟩ := open_agg7 Tryz.underlying43 (by kernel_rfl) (by kernel_rfl) hv h
  obtain ⟨k0, e0, _, _⟩ := DataW.trod_int Tryz.underlying3 h0
  obtain ⟨k1, e1, _, _⟩ := DataW.trod_int Tryz.underlying3 h1
  obtain ⟨k2, e2, _, _⟩ := DataW.trod_int Tryz.underlying3 h2
  obtain ⟨k3, e3, _, _⟩ := DataW.trod_int Tryz.underlying3 h3
  obtain ⟨k4, e4, _, _⟩ := DataW.trod_int Tryz.underlying3 h4
  obtain ⟨k5, e5, _, _⟩ := DataW.trod_int Tryz.underlying3 h5
  obtain ⟨k6, e6, _, _⟩ := DataW.trod_int Tryz.underlying3 h6
  simp at e0 e1 e2 e3 e4 e5 e6
  subst e0 e1 e2 e3 e4 e5 e6
  exact ⟨k0, k1, k2, k3, k4, k5, k6, rfl⟩
end Go.Proofs.YtfbfjkacaadbpaaGreatDoor

namespace Go.Proofs.YtfbfjkacaadbpaaGreatDoor
open Go.RowKit Florin
set_option linter.unusedVariables false
set_option linter.unusedSimpArgs false
attribute [local go_sem ↓] Go.wp_at_zero Go.wp_at_succ

set_option maxRecDepth 100000 in
set_option maxHeartbeats 1600000 in
theorem again4_no1 (n : Bool) (a : Option Addr) (len cap : Nat) (e : Int) (n1 : Bool) (a1 : Option Addr) (len1 cap1 : Nat) (e1 : Int) (k0 k1 k2 k3 k4 k5 k6 : Int) (w : World) (hc0 : len ≤ cap) (hm0 : cap ≤ maxLen) (htab : Tab w) (h : ¬ ((len : Int) ≤ 30 ∧ -30 ≤ e ∧ e ≤ 30)) :
    Calls Tryz.prog 8 #[RV n a len cap e, RV n1 a1 len1 cap1 e1, .agg #[.int .i64 k0, .int .i64 k1, .int .i64 k2, .int .i64 k3, .int .i64 k4, .int .i64 k5, .int .i64 k6]] w fun x w' => x = .returned (.bool true) ∧ Below w.heap.size w w' := by
  have HT := Lib.hid htab
  have H := Lib.hid h
  clear htab h
  go_enter Tryz.func8, Tryz.ntmps8
  go_wp2_with fail
  with_reducible refine (head4 _ (HT.out.below (HeldL.alloc (HeldL.alloc (HeldL.alloc (HeldL.refl w) (w.heap.size) #[.bool n, .slice a len cap, .int .i64 e] 24 (by simp)) (w.heap.size + 1) #[.bool n1, .slice a1 len1 cap1, .int .i64 e1] 24 (by simp)) (w.heap.size + 1 + 1) #[.int .i64 k0, .int .i64 k1, .int .i64 k2, .int .i64 k3, .int .i64 k4, .int .i64 k5, .int .i64 k6] 43 (by simp)).bel)).mono ?_
  rintro x w1 ⟨rfl, hb⟩
  have H1 : Hid (HeldL w [(w.heap.size + 1 + 1, #[.int .i64 k0, .int .i64 k1, .int .i64 k2, .int .i64 k3, .int .i64 k4, .int .i64 k5, .int .i64 k6]), (w.heap.size + 1, #[.bool n1, .slice a1 len1 cap1, .int .i64 e1]), (w.heap.size, #[.bool n, .slice a len cap, .int .i64 e])] w1) := Lib.hid (HeldL.keep (HeldL.alloc (HeldL.alloc (HeldL.alloc (HeldL.refl w) (w.heap.size) #[.bool n, .slice a len cap, .int .i64 e] 24 (by simp)) (w.heap.size + 1) #[.bool n1, .slice a1 len1 cap1, .int .i64 e1] 24 (by simp)) (w.heap.size + 1 + 1) #[.int .i64 k0, .int .i64 k1, .int .i64 k2, .int .i64 k3, .int .i64 k4, .int .i64 k5, .int .i64 k6] 43 (by simp)) hb)
  clear hb
  have q0 : w1.cell? ⟨w.heap.size, 0, none⟩ = some (.bool n) := (H1.out.f (List.Mem.tail _ (List.Mem.tail _ (List.Mem.head _)))).cell 0
  have q1 : w1.cell? ⟨w.heap.size, 1, none⟩ = some (.slice a len cap) := (H1.out.f (List.Mem.tail _ (List.Mem.tail _ (List.Mem.head _)))).cell 1
  have q2 : w1.cell? ⟨w.heap.size, 2, none⟩ = some (.int .i64 e) := (H1.out.f (List.Mem.tail _ (List.Mem.tail _ (List.Mem.head _)))).cell 2
  have ql : w.heap.size < w1.heap.size := (H1.out.f (List.Mem.tail _ (List.Mem.tail _ (List.Mem.head _)))).lt
  have r0 : w1.cell? ⟨w.heap.size + 1, 0, none⟩ = some (.bool n1) := (H1.out.f (List.Mem.tail _ (List.Mem.head _))).cell 0
  have r1 : w1.cell? ⟨w.heap.size + 1, 1, none⟩ = some (.slice a1 len1 cap1) := (H1.out.f (List.Mem.tail _ (List.Mem.head _))).cell 1
  have r2 : w1.cell? ⟨w.heap.size + 1, 2, none⟩ = some (.int .i64 e1) := (H1.out.f (List.Mem.tail _ (List.Mem.head _))).cell 2
  have rl : w.heap.size + 1 < w1.heap.size := (H1.out.f (List.Mem.tail _ (List.Mem.head _))).lt
  go_wp2_with fail
  with_reducible refine (few_no n a len cap e 30 _ hc0 hm0 (by decide) (by decide) H.out).mono ?_
  rintro x w2 ⟨rfl, hb⟩
  clear q0 q1 q2 ql r0 r1 r2 rl
  have H2 : Hid (HeldL w [(w.heap.size + 1 + 1, #[.int .i64 k0, .int .i64 k1, .int .i64 k2, .int .i64 k3, .int .i64 k4, .int .i64 k5, .int .i64 k6]), (w.heap.size + 1, #[.bool n1, .slice a1 len1 cap1, .int .i64 e1]), (w.heap.size, #[.bool n, .slice a len cap, .int .i64 e])] w2) := Lib.hid (HeldL.keep H1.out hb)
  clear H1
  clear hb
  go_wp2
  go_ret
  exact ⟨rfl, H2.out.bel⟩

set_option maxRecDepth 100000 in
set_option maxHeartbeats 1600000 in
theorem again4_no2 (n : Bool) (a : Option Addr) (len cap : Nat) (e : Int) (n1 : Bool) (a1 : Option Addr) (len1 cap1 : Nat) (e1 : Int) (k0 k1 k2 k3 k4 k5 k6 : Int) (w : World) (hc0 : len ≤ cap) (hm0 : cap ≤ maxLen) (hc1 : len1 ≤ cap1) (hm1 : cap1 ≤ maxLen) (htab : Tab w) (y1 : (len : Int) ≤ 30) (y2 : -30 ≤ e) (y3 : e ≤ 30) (h : ¬ ((len1 : Int) ≤ 30 ∧ -30 ≤ e1 ∧ e1 ≤ 30)) :
    Calls Tryz.prog 8 #[RV n a len cap e, RV n1 a1 len1 cap1 e1, .agg #[.int .i64 k0, .int .i64 k1, .int .i64 k2, .int .i64 k3, .int .i64 k4, .int .i64 k5, .int .i64 k6]] w fun x w' => x = .returned (.bool true) ∧ Below w.heap.size w w' := by
  have HT := Lib.hid htab
  have H := Lib.hid h
  clear htab h
  go_enter Tryz.func8, Tryz.ntmps8
  go_wp2_with fail
  with_reducible refine (head4 _ (HT.out.below (HeldL.alloc (HeldL.alloc (HeldL.alloc (HeldL.refl w) (w.heap.size) #[.bool n, .slice a len cap, .int .i64 e] 24 (by simp)) (w.heap.size + 1) #[.bool n1, .slice a1 len1 cap1, .int .i64 e1] 24 (by simp)) (w.heap.size + 1 + 1) #[.int .i64 k0, .int .i64 k1, .int .i64 k2, .int .i64 k3, .int .i64 k4, .int .i64 k5, .int .i64 k6] 43 (by simp)).bel)).mono ?_
  rintro x w1 ⟨rfl, hb⟩
  have H1 : Hid (HeldL w [(w.heap.size + 1 + 1, #[.int .i64 k0, .int .i64 k1, .int .i64 k2, .int .i64 k3, .int .i64 k4, .int .i64 k5, .int .i64 k6]), (w.heap.size + 1, #[.bool n1, .slice a1 len1 cap1, .int .i64 e1]), (w.heap.size, #[.bool n, .slice a len cap, .int .i64 e])] w1) := Lib.hid (HeldL.keep (HeldL.alloc (HeldL.alloc (HeldL.alloc (HeldL.refl w) (w.heap.size) #[.bool n, .slice a len cap, .int .i64 e] 24 (by simp)) (w.heap.size + 1) #[.bool n1, .slice a1 len1 cap1, .int .i64 e1] 24 (by simp)) (w.heap.size + 1 + 1) #[.int .i64 k0, .int .i64 k1, .int .i64 k2, .int .i64 k3, .int .i64 k4, .int .i64 k5, .int .i64 k6] 43 (by simp)) hb)
  clear hb
  have q0 : w1.cell? ⟨w.heap.size, 0, none⟩ = some (.bool n) := (H1.out.f (List.Mem.tail _ (List.Mem.tail _ (List.Mem.head _)))).cell 0
  have q1 : w1.cell? ⟨w.heap.size, 1, none⟩ = some (.slice a len cap) := (H1.out.f (List.Mem.tail _ (List.Mem.tail _ (List.Mem.head _)))).cell 1
  have q2 : w1.cell? ⟨w.heap.size, 2, none⟩ = some (.int .i64 e) := (H1.out.f (List.Mem.tail _ (List.Mem.tail _ (List.Mem.head _)))).cell 2
  have ql : w.heap.size < w1.heap.size := (H1.out.f (List.Mem.tail _ (List.Mem.tail _ (List.Mem.head _)))).lt
  have r0 : w1.cell? ⟨w.heap.size + 1, 0, none⟩ = some (.bool n1) := (H1.out.f (List.Mem.tail _ (List.Mem.head _))).cell 0
  have r1 : w1.cell? ⟨w.heap.size + 1, 1, none⟩ = some (.slice a1 len1 cap1) := (H1.out.f (List.Mem.tail _ (List.Mem.head _))).cell 1
  have r2 : w1.cell? ⟨w.heap.size + 1, 2, none⟩ = some (.int .i64 e1) := (H1.out.f (List.Mem.tail _ (List.Mem.head _))).cell 2
  have rl : w.heap.size + 1 < w1.heap.size := (H1.out.f (List.Mem.tail _ (List.Mem.head _))).lt
  go_wp2_with fail
  with_reducible refine (few_yes n a len cap e 30 _ hc0 hm0 (by decide) (by decide) y1 y2 y3).mono ?_
  rintro x w2 ⟨rfl, hb⟩
  clear q0 q1 q2 ql r0 r1 r2 rl
  have H2 : Hid (HeldL w [(w.heap.size + 1 + 1, #[.int .i64 k0, .int .i64 k1, .int .i64 k2, .int .i64 k3, .int .i64 k4, .int .i64 k5, .int .i64 k6]), (w.heap.size + 1, #[.bool n1, .slice a1 len1 cap1, .int .i64 e1]), (w.heap.size, #[.bool n, .slice a len cap, .int .i64 e])] w2) := Lib.hid (HeldL.keep H1.out hb)
  clear H1
  clear hb
  have q0 : w2.cell? ⟨w.heap.size, 0, none⟩ = some (.bool n) := (H2.out.f (List.Mem.tail _ (List.Mem.tail _ (List.Mem.head _)))).cell 0
  have q1 : w2.cell? ⟨w.heap.size, 1, none⟩ = some (.slice a len cap) := (H2.out.f (List.Mem.tail _ (List.Mem.tail _ (List.Mem.head _)))).cell 1
  have q2 : w2.cell? ⟨w.heap.size, 2, none⟩ = some (.int .i64 e) := (H2.out.f (List.Mem.tail _ (List.Mem.tail _ (List.Mem.head _)))).cell 2
  have ql : w.heap.size < w2.heap.size := (H2.out.f (List.Mem.tail _ (List.Mem.tail _ (List.Mem.head _)))).lt
  have r0 : w2.cell? ⟨w.heap.size + 1, 0, none⟩ = some (.bool n1) := (H2.out.f (List.Mem.tail _ (List.Mem.head _))).cell 0
  have r1 : w2.cell? ⟨w.heap.size + 1, 1, none⟩ = some (.slice a1 len1 cap1) := (H2.out.f (List.Mem.tail _ (List.Mem.head _))).cell 1
  have r2 : w2.cell? ⟨w.heap.size + 1, 2, none⟩ = some (.int .i64 e1) := (H2.out.f (List.Mem.tail _ (List.Mem.head _))).cell 2
  have rl : w.heap.size + 1 < w2.heap.size := (H2.out.f (List.Mem.tail _ (List.Mem.head _))).lt
  go_wp2_with fail
  with_reducible refine (few_no n1 a1 len1 cap1 e1 30 _ hc1 hm1 (by decide) (by decide) H.out).mono ?_
  rintro x w3 ⟨rfl, hb⟩
  clear q0 q1 q2 ql r0 r1 r2 rl
  have H3 : Hid (HeldL w [(w.heap.size + 1 + 1, #[.int .i64 k0, .int .i64 k1, .int .i64 k2, .int .i64 k3, .int .i64 k4, .int .i64 k5, .int .i64 k6]), (w.heap.size + 1, #[.bool n1, .slice a1 len1 cap1, .int .i64 e1]), (w.heap.size, #[.bool n, .slice a len cap, .int .i64 e])] w3) := Lib.hid (HeldL.keep H2.out hb)
  clear H2
  clear hb
  go_wp2
  go_ret
  exact ⟨rfl, H3.out.bel⟩

end Go.Proofs.YtfbfjkacaadbpaaGreatDoor

namespace Go.Proofs.YtfbfjkacaadbpaaGreatDoor
open Go.RowKit Florin
set_option linter.unusedVariables false

theorem fitM {M : Nat} {z : Int} (hM : M ≤ 20000) (h : z.natAbs < 10 ^ M) : Fit 200 z := Fit.of (m := M) (by decide) h (by omega)
theorem nfNrm {z : Int} (hf : Fit 200 z) (h : z ≠ 0) : Nrm (nf 200 z) := by
  unfold nf
  rcases made_nrm (decide (z < 0)) (dig z.natAbs) (-((200 : Nat) : Int)) with h1 | h1
  · exact absurd ((nf_l_nil hf).1 (by unfold nf; rw [h1]; rfl)) h
  · exact h1
theorem nfOr {z : Int} (hf : Fit 200 z) : nf 200 z = zero ∨ Nrm (nf 200 z) := by
  by_cases h : z = 0
  · subst h; exact .inl (nf_zero 200)
  · exact .inr (nfNrm hf h)
/-- Where a number's first digit stands. -/
theorem nf_first {z : Int} (hf : Fit 200 z) (h : z ≠ 0) : ∃ s : Nat, ((s : Int) = (nf 200 z).e + ((nf 200 z).l.length : Int) - 1 + 200) ∧ 10 ^ s ≤ z.natAbs ∧ z.natAbs < 10 ^ (s + 1) := by
  obtain ⟨t, h1, h2, h3, h4⟩ := nf_pos hf h
  have nr := nfNrm hf h
  have hp := List.length_pos_iff.2 nr.ne
  have hl : (nf 200 z).l.length = (rt (dig z.natAbs)).length := by rw [h1]
  have he : (nf 200 z).e = (t : Int) - 200 := by rw [h1]; rfl
  refine ⟨(dig z.natAbs).length - 1, by omega, ?_, ?_⟩
  · rcases Nat.lt_or_ge z.natAbs (10 ^ ((dig z.natAbs).length - 1)) with hlt | hge
    · have := (dig_length_le z.natAbs ((dig z.natAbs).length - 1)).2 hlt; omega
    · exact hge
  · rw [show (dig z.natAbs).length - 1 + 1 = (dig z.natAbs).length by omega]
    exact (dig_length_le _ _).1 (Nat.le_refl _)
/-- A power of ten that a unit of so many digits less divides. -/
theorem sig_between (m : Int) {X : Int} {U s : Nat} (hU : 0 < U) (hd : U ∣ 10 ^ s) (h1 : 10 ^ s ≤ X.natAbs) (h2 : X.natAbs < 10 ^ (s + 1)) :
    (0 < X → (10 ^ s : Nat) ≤ rz m U X ∧ rz m U X ≤ (10 ^ (s + 1) : Nat)) ∧ (X < 0 → rz m U X ≤ -((10 ^ s : Nat) : Int) ∧ -((10 ^ (s + 1) : Nat) : Int) ≤ rz m U X) := by
  have hd2 : U ∣ 10 ^ (s + 1) := Nat.dvd_trans hd (by rw [Nat.pow_succ]; exact Nat.dvd_mul_right _ _)
  have e1 : ((10 ^ s : Nat) : Int) % (U : Int) = 0 := Int.emod_eq_zero_of_dvd (Int.natCast_dvd_natCast.2 hd)
  have e2 : ((10 ^ (s + 1) : Nat) : Int) % (U : Int) = 0 := Int.emod_eq_zero_of_dvd (Int.natCast_dvd_natCast.2 hd2)
  have e3 : -((10 ^ s : Nat) : Int) % (U : Int) = 0 := Int.emod_eq_zero_of_dvd (Int.dvd_neg.2 (Int.natCast_dvd_natCast.2 hd))
  have e4 : -((10 ^ (s + 1) : Nat) : Int) % (U : Int) = 0 := Int.emod_eq_zero_of_dvd (Int.dvd_neg.2 (Int.natCast_dvd_natCast.2 hd2))
  have hu : (0 : Int) < U := by omega
  generalize hA : 10 ^ s = A at *
  generalize hB : 10 ^ (s + 1) = B at *
  constructor
  · intro hx
    have a := rz_mono m U (X := (A : Int)) (Y := X) hu (by omega)
    have b := rz_mono m U (X := X) (Y := (B : Int)) hu (by omega)
    rw [rz_self e1] at a
    rw [rz_self e2] at b
    exact ⟨a, b⟩
  · intro hx
    have a := rz_mono m U (X := X) (Y := -(A : Int)) hu (by omega)
    have b := rz_mono m U (X := -(B : Int)) (Y := X) hu (by omega)
    rw [rz_self e3] at a
    rw [rz_self e4] at b
    exact ⟨a, b⟩
/-- Of Frac and Step one unit serves all numbers. -/
theorem one_unit (p : Prc) (hp : Asked p) (hk : ¬ p.kind = 1) (N : Nat) (hN : N = 400) : ∃ U : Nat, 0 < U ∧ U < 10 ^ N ∧ ∀ X : Int, X.natAbs < 10 ^ (N + 2) → roundP p (nf 200 X) = nf 200 (rz p.mode U X) := by
  obtain ⟨⟨m0, m6⟩, _, _, hkk⟩ := validP_parts hp.ok
  have x0 := hp.mx0
  have x15 := hp.mx15
  have fit : ∀ (U : Nat) (X : Int), 0 < U → U < 10 ^ N → X.natAbs < 10 ^ (N + 2) → Fit 200 (rz p.mode U X) := fun U X h0 h hX => fitM (M := N + 3) (by omega) (rz_lt (U := (U : Int)) (by omega) hX (by rw [Int.natAbs_natCast]; exact Nat.le_of_lt (Nat.lt_of_lt_of_le h (Nat.pow_le_pow_right (by decide) (by omega)))))
  rcases hkk with ⟨k, b1, b2⟩ | ⟨k, _⟩ | ⟨k, b⟩
  · refine ⟨1 * 10 ^ (-p.mx + ((200 : Nat) : Int)).toNat, Nat.mul_pos (by decide) (pow_pos' _), ?_, fun X hX => ?_⟩
    · rw [Nat.one_mul]; exact (Nat.pow_lt_pow_iff_right (by decide)).2 (by omega)
    · unfold roundP
      rw [if_pos k, hld_of (by omega) (by omega)]
      refine mulT_nf (fitM (M := N + 2) (by omega) hX) 1 (by decide) (-p.mx) p.mode (by omega) m0 m6 _ rfl (fit _ X (Nat.mul_pos (by decide) (pow_pos' _)) ?_ hX)
      rw [Nat.one_mul]; exact (Nat.pow_lt_pow_iff_right (by decide)).2 (by omega)
  · exact absurd k hk
  · obtain ⟨i1, i2, i3, i4, i5, i6⟩ := hp.inn k
    have u1 : val p.inc.l * 10 ^ (p.inc.e + ((200 : Nat) : Int)).toNat < 10 ^ N := by
      have a1 : val p.inc.l < 10 ^ 10 := Nat.lt_of_le_of_lt i6 (by decide)
      have a2 : val p.inc.l * 10 ^ (p.inc.e + ((200 : Nat) : Int)).toNat < 10 ^ 10 * 10 ^ (p.inc.e + ((200 : Nat) : Int)).toNat := Nat.mul_lt_mul_of_pos_right a1 (pow_pos' _)
      rw [← Nat.pow_add] at a2
      exact Nat.lt_of_lt_of_le a2 (Nat.pow_le_pow_right (by decide) (by omega))
    refine ⟨val p.inc.l * 10 ^ (p.inc.e + ((200 : Nat) : Int)).toNat, Nat.mul_pos (by omega) (pow_pos' _), u1, fun X hX => ?_⟩
    unfold roundP
    rw [if_neg (by omega), if_neg (by omega), i1]
    exact mulT_nf (fitM (M := N + 2) (by omega) hX) _ (by omega) _ p.mode (by omega) m0 m6 _ rfl (fit _ X (Nat.mul_pos (by omega) (pow_pos' _)) u1 hX)
/-- Of Sig the unit hangs on the first digit. -/
theorem sig_unit (p : Prc) (hp : Asked p) (hk : p.kind = 1) (N : Nat) (hN : N = 400) (X : Int) (hX : X.natAbs < 10 ^ (N + 2)) (h0 : X ≠ 0) (s : Nat) (hs : (s : Int) = (nf 200 X).e + ((nf 200 X).l.length : Int) - 1 + 200) (s1 : 100 ≤ s) (s2 : s ≤ 401) : ∃ U : Nat, 0 < U ∧ U = 10 ^ (s + 1 - p.mx.toNat) ∧ U ∣ 10 ^ s ∧ roundP p (nf 200 X) = nf 200 (rz p.mode U X) := by
  obtain ⟨⟨m0, m6⟩, _, _, hkk⟩ := validP_parts hp.ok
  have x15 := hp.mx15
  have hb : 1 ≤ p.mn ∧ p.mn ≤ p.mx := by rcases hkk with ⟨k, _⟩ | ⟨k, a, b, c⟩ | ⟨k, _⟩; omega; exact ⟨a, b⟩; omega
  have fX := fitM (M := N + 2) (by omega) hX
  have nr := nfNrm fX h0
  refine ⟨10 ^ (s + 1 - p.mx.toNat), pow_pos' _, rfl, Nat.pow_dvd_pow 10 (by omega), ?_⟩
  unfold roundP sigT
  rw [if_neg (by omega), if_pos hk, if_neg nr.ne, show min (max p.mx 1) 30000 = p.mx by omega, hld_of (by omega) (by omega)]
  refine mulT_nf fX 1 (by decide) _ p.mode (by omega) m0 m6 _ ?_ ?_
  · rw [Nat.one_mul]; congr 1; omega
  · refine fitM (M := N + 3) (by omega) (rz_lt (N := N + 2) (by have := pow_pos' (s + 1 - p.mx.toNat); omega) hX ?_)
    rw [Int.natAbs_natCast]; exact Nat.pow_le_pow_right (by decide) (by omega)
/-- What is shown of a number; of it the same is shown. -/
theorem shown_again (p : Prc) (hp : Asked p) (N : Nat) (hN : N = 400) (X : Int) (hX : X.natAbs < 10 ^ N) (hG : X ≠ 0 → 10 ^ 100 ≤ X.natAbs) : ∃ R : Int, R.natAbs < 10 ^ (N + 1) ∧ roundP p (nf 200 X) = nf 200 R ∧ roundP p (nf 200 R) = nf 200 R := by
  have hX2 : X.natAbs < 10 ^ (N + 2) := Nat.lt_of_lt_of_le hX (Nat.pow_le_pow_right (by decide) (by omega))
  have up : ∀ R : Int, R.natAbs < 10 ^ (N + 1) → R.natAbs < 10 ^ (N + 2) := fun R h => Nat.lt_of_lt_of_le h (Nat.pow_le_pow_right (by decide) (by omega))
  by_cases hk : p.kind = 1
  · by_cases h0 : X = 0
    · subst h0
      have hz : roundP p (nf 200 0) = nf 200 0 := by rw [nf_zero]; unfold roundP; rw [if_neg (by omega), if_pos hk]; rfl
      exact ⟨0, by have := pow_pos' (N + 1); simpa using this, hz, hz⟩
    · obtain ⟨s, hs, l1, l2⟩ := nf_first (fitM (M := N) (by omega) hX) h0
      have s1 : 100 ≤ s := by
        have := Nat.lt_of_le_of_lt (hG h0) l2
        have := (Nat.pow_lt_pow_iff_right (by decide : 1 < 10)).1 this
        omega
      have s2 : s < N := (Nat.pow_lt_pow_iff_right (by decide : 1 < 10)).1 (Nat.lt_of_le_of_lt l1 hX)
      obtain ⟨U, u0, hU, hd, hr⟩ := sig_unit p hp hk N hN X hX2 h0 s hs s1 (by omega)
      have bt := sig_between p.mode u0 hd l1 l2
      have hRb : 10 ^ s ≤ (rz p.mode U X).natAbs ∧ (rz p.mode U X).natAbs ≤ 10 ^ (s + 1) := by
        generalize 10 ^ s = A at *
        generalize 10 ^ (s + 1) = B at *
        rcases Int.lt_or_gt_of_ne h0 with h | h
        · have := bt.2 h; omega
        · have := bt.1 h; omega
      have hR0 : rz p.mode U X ≠ 0 := by intro h; rw [h] at hRb; simp at hRb
      have hR1 : (rz p.mode U X).natAbs < 10 ^ (N + 1) := Nat.lt_of_le_of_lt hRb.2 ((Nat.pow_lt_pow_iff_right (by decide)).2 (by omega))
      refine ⟨_, hR1, hr, ?_⟩
      have hdv := rz_dvd p.mode U X (by omega)
      have hag := rz_again p.mode U X (by omega)
      generalize rz p.mode U X = R at *
      obtain ⟨s', hs', l1', l2'⟩ := nf_first (fitM (M := N + 1) (by omega) hR1) hR0
      have hge : s ≤ s' := by
        have := (Nat.pow_lt_pow_iff_right (by decide : 1 < 10)).1 (Nat.lt_of_le_of_lt hRb.1 l2'); omega
      have hle : s' ≤ s + 1 := (Nat.pow_le_pow_iff_right (by decide : 1 < 10)).1 (Nat.le_trans l1' hRb.2)
      obtain ⟨U', u0', hU', hd', hr'⟩ := sig_unit p hp hk N hN R (up R hR1) hR0 s' hs' (by omega) (by omega)
      rw [hr']
      congr 1
      by_cases he : s' = s
      · have : U' = U := by rw [hU', hU, he]
        rw [this]; exact hag
      · have hs1 : s' = s + 1 := by omega
        have hRe : R.natAbs = 10 ^ s' := by rw [hs1] at l1' ⊢; exact Nat.le_antisymm hRb.2 l1'
        refine rz_self (Int.emod_eq_zero_of_dvd ?_)
        rw [← Int.dvd_natAbs, hRe]
        exact Int.natCast_dvd_natCast.2 hd'
  · obtain ⟨U, u0, u1, hu⟩ := one_unit p hp hk N hN
    have hR := rz_lt (m := p.mode) (U := (U : Int)) (X := X) (N := N) (by omega) hX (by rw [Int.natAbs_natCast]; exact Nat.le_of_lt u1)
    refine ⟨_, hR, hu X hX2, ?_⟩
    rw [hu _ (up _ hR), rz_again _ _ _ (by omega)]
/-- The order stays. -/
theorem shown_mono (p : Prc) (hp : Asked p) (N : Nat) (hN : N = 400) (X Y : Int) (hX : X.natAbs < 10 ^ N) (hGX : X ≠ 0 → 10 ^ 100 ≤ X.natAbs) (hY : Y.natAbs < 10 ^ N) (hGY : Y ≠ 0 → 10 ^ 100 ≤ Y.natAbs) (R T : Int) (fR : Fit 200 R) (fT : Fit 200 T) (hR : roundP p (nf 200 X) = nf 200 R) (hT : roundP p (nf 200 Y) = nf 200 T) (hxy : X ≤ Y) : R ≤ T := by
  have big : ∀ X : Int, X.natAbs < 10 ^ N → X.natAbs < 10 ^ (N + 2) := fun X h => Nat.lt_of_lt_of_le h (Nat.pow_le_pow_right (by decide) (by omega))
  have fz : ∀ (U : Nat) (X : Int), 0 < U → U ≤ 10 ^ (N + 2) → X.natAbs < 10 ^ (N + 2) → Fit 200 (rz p.mode U X) := fun U X h0 h hX => fitM (M := N + 3) (by omega) (rz_lt (U := (U : Int)) (by omega) hX (by rw [Int.natAbs_natCast]; exact h))
  by_cases hk : p.kind = 1
  · -- each number's own
    have one : ∀ (X R : Int), X.natAbs < 10 ^ N → (X ≠ 0 → 10 ^ 100 ≤ X.natAbs) → Fit 200 R → roundP p (nf 200 X) = nf 200 R → (X = 0 ∧ R = 0) ∨ (X ≠ 0 ∧ ∃ (s U : Nat), 10 ^ s ≤ X.natAbs ∧ X.natAbs < 10 ^ (s + 1) ∧ 0 < U ∧ U = 10 ^ (s + 1 - p.mx.toNat) ∧ U ∣ 10 ^ s ∧ R = rz p.mode U X) := by
      intro X R hX hG fR hR
      by_cases h0 : X = 0
      · subst h0
        have hz : roundP p (nf 200 0) = nf 200 0 := by rw [nf_zero]; unfold roundP; rw [if_neg (by omega), if_pos hk]; rfl
        rw [hz] at hR
        exact .inl ⟨rfl, (nf_inj (fitM (M := 1) (by decide) (by decide)) fR hR).symm⟩
      · obtain ⟨s, hs, l1, l2⟩ := nf_first (fitM (M := N) (by omega) hX) h0
        have s1 : 100 ≤ s := by
          have := (Nat.pow_lt_pow_iff_right (by decide : 1 < 10)).1 (Nat.lt_of_le_of_lt (hG h0) l2); omega
        have s2 : s < N := (Nat.pow_lt_pow_iff_right (by decide : 1 < 10)).1 (Nat.lt_of_le_of_lt l1 hX)
        obtain ⟨U, u0, hU, hd, hr⟩ := sig_unit p hp hk N hN X (big X hX) h0 s hs s1 (by omega)
        refine .inr ⟨h0, s, U, l1, l2, u0, hU, hd, ?_⟩
        rw [hr] at hR
        exact (nf_inj (fz U X u0 (by rw [hU]; exact Nat.pow_le_pow_right (by decide) (by omega)) (big X hX)) fR hR).symm
    have a := one X R hX hGX fR hR
    have b := one Y T hY hGY fT hT
    have sgn : ∀ (X R : Int), ((X = 0 ∧ R = 0) ∨ (X ≠ 0 ∧ ∃ (s U : Nat), 10 ^ s ≤ X.natAbs ∧ X.natAbs < 10 ^ (s + 1) ∧ 0 < U ∧ U = 10 ^ (s + 1 - p.mx.toNat) ∧ U ∣ 10 ^ s ∧ R = rz p.mode U X)) → (0 ≤ X → 0 ≤ R) ∧ (X ≤ 0 → R ≤ 0) := by
      intro X R h
      rcases h with ⟨h1, h2⟩ | ⟨h1, s, U, _, _, u0, _, _, h2⟩
      · omega
      · rw [h2]; exact ⟨rz_nonneg _ _ (by omega), rz_nonpos _ _ (by omega)⟩
    have sa := sgn X R a
    have sb := sgn Y T b
    rcases a with ⟨a1, a2⟩ | ⟨a1, s, U, l1, l2, u0, hU, hd, a2⟩
    · have := sb.1 (by omega); omega
    · rcases b with ⟨b1, b2⟩ | ⟨b1, s', U', l1', l2', u0', hU', hd', b2⟩
      · have := sa.2 (by omega); omega
      · by_cases hs : s = s'
        · have hUU : U' = U := by rw [hU', hU, hs]
          rw [a2, b2, hUU]; exact rz_mono _ _ (by omega) hxy
        · have btX := sig_between p.mode u0 hd l1 l2
          have btY := sig_between p.mode u0' hd' l1' l2'
          rw [← a2] at btX
          rw [← b2] at btY
          rcases Int.lt_or_gt_of_ne a1 with hx | hx
          · rcases Int.lt_or_gt_of_ne b1 with hy | hy
            · -- both below nought
              have hlt : s' < s := by
                rcases Nat.lt_or_ge s' s with h | h
                · exact h
                · exfalso
                  have : 10 ^ (s + 1) ≤ 10 ^ s' := Nat.pow_le_pow_right (by decide) (by omega)
                  omega
              have hpw : 10 ^ (s' + 1) ≤ 10 ^ s := Nat.pow_le_pow_right (by decide) (by omega)
              have p1 := (btX.2 hx).1
              have p2 := (btY.2 hy).2
              have : ((10 ^ (s' + 1) : Nat) : Int) ≤ ((10 ^ s : Nat) : Int) := Int.ofNat_le.2 hpw
              omega
            · have := sa.2 (by omega); have := sb.1 (by omega); omega
          · have hy : 0 < Y := by omega
            have hlt : s < s' := by
              rcases Nat.lt_or_ge s s' with h | h
              · exact h
              · exfalso
                have : 10 ^ (s' + 1) ≤ 10 ^ s := Nat.pow_le_pow_right (by decide) (by omega)
                omega
            have hpw : 10 ^ (s + 1) ≤ 10 ^ s' := Nat.pow_le_pow_right (by decide) (by omega)
            have p1 := (btX.1 hx).2
            have p2 := (btY.1 hy).1
            have : ((10 ^ (s + 1) : Nat) : Int) ≤ ((10 ^ s' : Nat) : Int) := Int.ofNat_le.2 hpw
            omega
  · obtain ⟨U, u0, u1, hu⟩ := one_unit p hp hk N hN
    have ub : U ≤ 10 ^ (N + 2) := Nat.le_of_lt (Nat.lt_of_lt_of_le u1 (Nat.pow_le_pow_right (by decide) (by omega)))
    rw [hu X (big X hX)] at hR
    rw [hu Y (big Y hY)] at hT
    rw [← nf_inj (fz U X u0 ub (big X hX)) fR hR, ← nf_inj (fz U Y u0 ub (big Y hY)) fT hT]
    exact rz_mono _ _ (by omega) hxy
theorem rawG (n : Bool) (L : List UInt8) (e : Int) (h1 : L.length ≤ 30) (h2 : -30 ≤ e) (h3 : e ≤ 30) (N : Nat) (hN : 280 ≤ N) (hN2 : N ≤ 20000) : ∃ X : Int, made n (dgs L) e = nf 200 X ∧ X.natAbs < 10 ^ N ∧ (X ≠ 0 → 10 ^ 100 ≤ X.natAbs) := by
  have hdv := raw_dv n (k := 200) (isDig_dgs L) (e := e) (by omega)
  have hlt : (sg n (val (dgs L) * 10 ^ (e + ((200 : Nat) : Int)).toNat)).natAbs < 10 ^ N := by
    rw [sg_natAbs]
    have h4 := val_lt _ (isDig_dgs L)
    rw [dgs_length] at h4
    have h7 : val (dgs L) * 10 ^ (e + ((200 : Nat) : Int)).toNat < 10 ^ L.length * 10 ^ (e + ((200 : Nat) : Int)).toNat := Nat.mul_lt_mul_of_pos_right h4 (pow_pos' _)
    rw [← Nat.pow_add] at h7
    exact Nat.lt_of_lt_of_le h7 (Nat.pow_le_pow_right (by decide) (by omega))
  refine ⟨_, ?_, hlt, fun h0 => ?_⟩
  · exact hdv.made (fitM (M := N) (by omega) hlt)
  · rw [sg_natAbs]
    have hv : 1 ≤ val (dgs L) := by
      rcases Nat.eq_zero_or_pos (val (dgs L)) with h | h
      · exfalso; apply h0; rw [h, Nat.zero_mul, sg_zero]
      · exact h
    have h5 : 10 ^ 100 ≤ 10 ^ (e + ((200 : Nat) : Int)).toNat := Nat.pow_le_pow_right (by decide) (by omega)
    exact Nat.le_trans h5 (Nat.le_mul_of_pos_left _ hv)
theorem showAgain_walk (n : Bool) (a : Option Addr) (len cap : Nat) (e : Int) (L : List UInt8) (n1 : Bool) (a1 : Option Addr) (len1 cap1 : Nat) (e1 : Int) (L1 : List UInt8) (k0 k1 k2 k3 k4 k5 k6 : Int) (w : World) (hin : InB w a len cap L) (hin1 : InB w a1 len1 cap1 L1) (htab : Tab w) :
    Calls Tryz.prog 8 #[RV n a len cap e, RV n1 a1 len1 cap1 e1, .agg #[.int .i64 k0, .int .i64 k1, .int .i64 k2, .int .i64 k3, .int .i64 k4, .int .i64 k5, .int .i64 k6]] w fun x w' => x = .returned (.bool true) ∧ Below w.heap.size w w' := by
  by_cases hf : (len : Int) ≤ 30 ∧ -30 ≤ e ∧ e ≤ 30
  · obtain ⟨h1, h2, h3⟩ := hf
    by_cases hf1 : (len1 : Int) ≤ 30 ∧ -30 ≤ e1 ∧ e1 ≤ 30
    · obtain ⟨i1, i2, i3⟩ := hf1
      obtain ⟨p, hp, hpr⟩ := prec_any k0 k1 k2 k3 k4 k5 k6
      obtain ⟨N, hN⟩ : ∃ N : Nat, N = 400 := ⟨_, rfl⟩
      have hL : L.length ≤ 30 := by rw [hin.1]; omega
      have hL1 : L1.length ≤ 30 := by rw [hin1.1]; omega
      obtain ⟨X, dX, bX, gX⟩ := rawG n L e hL h2 h3 N (by omega) (by omega)
      obtain ⟨Y, dY, bY, gY⟩ := rawG n1 L1 e1 hL1 i2 i3 N (by omega) (by omega)
      obtain ⟨R, rb, hr, hrr⟩ := shown_again p hp N hN X bX gX
      obtain ⟨T, tb, ht, htt⟩ := shown_again p hp N hN Y bY gY
      have fX := fitM (M := N) (by omega) bX
      have fY := fitM (M := N) (by omega) bY
      have fR := fitM (M := N + 1) (by omega) rb
      have fT := fitM (M := N + 1) (by omega) tb
      have pl : p.inc.l.length ≤ 100000 := by have := hp.il; omega
      have lR : (nf 200 R).l.length ≤ 1000 := Nat.le_trans (nf_length rb) (by omega)
      have lT : (nf 200 T).l.length ≤ 1000 := Nat.le_trans (nf_length tb) (by omega)
      have eb : ∀ R : Int, R.natAbs < 10 ^ (N + 1) → -200 ≤ (nf 200 R).e ∧ (nf 200 R).e ≤ 1000 := by
        intro R rb
        have fR := fitM (M := N + 1) (by omega) rb
        have hlo := (nf_dv fR).lo
        by_cases h0 : R = 0
        · subst h0; rw [nf_zero]; decide
        · obtain ⟨t, q1, q2, q3, q4⟩ := nf_pos fR h0
          have := tz_lt (n := R.natAbs) (by omega) q2 rb
          have he : (nf 200 R).e = (t : Int) - 200 := by rw [q1]; rfl
          omega
      have vR := vis_len p hp (nf 200 R) lR (by have := (eb R rb).1; omega) (eb R rb).2
      have vT := vis_len p hp (nf 200 T) lT (by have := (eb T tb).1; omega) (eb T tb).2
      have ll : (dgs L).length ≤ 100000 := by rw [dgs_length]; omega
      have ll1 : (dgs L1).length ≤ 100000 := by rw [dgs_length]; omega
      have A1 : ∀ w : World, Tab w → Calls Tryz.prog 24 #[PV p, V ⟨n, dgs L, e⟩] w fun z w' => z = .returned (.tuple #[VV (visP p (nf 200 R)), .int .i64 0]) ∧ Below w.heap.size w w' :=
        fun w hw => apply_as p ⟨n, dgs L, e⟩ w pl ll hp.ok hw _ (by show roundP p (made n (dgs L) e) = _; rw [dX]; exact hr) (by omega) (nf_made fR) _ rfl
      have A2 : ∀ w : World, Tab w → Calls Tryz.prog 24 #[PV p, V ⟨n1, dgs L1, e1⟩] w fun z w' => z = .returned (.tuple #[VV (visP p (nf 200 T)), .int .i64 0]) ∧ Below w.heap.size w w' :=
        fun w hw => apply_as p ⟨n1, dgs L1, e1⟩ w pl ll1 hp.ok hw _ (by show roundP p (made n1 (dgs L1) e1) = _; rw [dY]; exact ht) (by omega) (nf_made fT) _ rfl
      have A3 : ∀ w : World, Tab w → Calls Tryz.prog 24 #[PV p, V (nf 200 R)] w fun z w' => z = .returned (.tuple #[VV (visP p (nf 200 R)), .int .i64 0]) ∧ Below w.heap.size w w' :=
        fun w hw => apply_as p (nf 200 R) w pl (by omega) hp.ok hw _ (by rw [nf_made fR]; exact hrr) (by omega) (nf_made fR) _ rfl
      have V1 : ∀ w : World, Tab w → Calls Tryz.prog 26 #[VV (visP p (nf 200 R))] w fun z w' => z = .returned (V (nf 200 R)) ∧ Below w.heap.size w w' := fun w hw => value_as _ _ w (by omega) vR.2 (value_vis p _ (nfOr fR))
      have V2 : ∀ w : World, Tab w → Calls Tryz.prog 26 #[VV (visP p (nf 200 T))] w fun z w' => z = .returned (V (nf 200 T)) ∧ Below w.heap.size w w' := fun w hw => value_as _ _ w (by omega) vT.2 (value_vis p _ (nfOr fT))
      have hc : ∀ c, Lib.compareInt X Y = c → CmpIs ⟨n, dgs L, e⟩ ⟨n1, dgs L1, e1⟩ c := fun c h => ⟨200, X, Y, fX, fY, dX, dY, h⟩
      by_cases hxy : X = Y
      · subst hxy
        have hRT : R = T := nf_inj fR fT (by rw [← hr, ← ht])
        subst hRT
        exact again4_eq n a len cap L e n1 a1 len1 cap1 L1 e1 k0 k1 k2 k3 k4 k5 k6 w hin hin1 htab (by omega) h2 h3 (by omega) i2 i3 p hpr _ (by omega) _ A1 A2 V1 V2 A3 _ (hc 0 (ci_eq rfl)) ⟨200, R, R, fR, fR, nf_made fR, nf_made fR, rfl⟩
      · have cb := ci_bounds X Y
        have cz : ¬ Lib.compareInt X Y = 0 := fun h => hxy ((ci_zero X Y).1 h)
        have m1 := shown_mono p hp N hN X Y bX gX bY gY R T fR fT hr ht
        have m2 := shown_mono p hp N hN Y X bY gY bX gX T R fT fR ht hr
        have sm : 0 ≤ Lib.compareInt R T * Lib.compareInt X Y ∧ Lib.compareInt R T * Lib.compareInt X Y ≤ 1 := by
          rcases ci_cases X Y with ⟨q1, q2⟩ | ⟨q1, q2⟩ | ⟨q1, q2⟩
          · have := m1 (by omega)
            rcases ci_cases R T with ⟨b1, b2⟩ | ⟨b1, b2⟩ | ⟨b1, b2⟩ <;> rw [q2, b2] <;> omega
          · exact absurd q1 hxy
          · have := m2 (by omega)
            rcases ci_cases R T with ⟨b1, b2⟩ | ⟨b1, b2⟩ | ⟨b1, b2⟩ <;> rw [q2, b2] <;> omega
        exact again4_ne n a len cap L e n1 a1 len1 cap1 L1 e1 k0 k1 k2 k3 k4 k5 k6 w hin hin1 htab (by omega) h2 h3 (by omega) i2 i3 p hpr _ _ (by omega) (by omega) _ _ A1 A2 V1 V2 A3 _ _ (hc _ rfl) cz cb.1 cb.2 ⟨200, R, T, fR, fT, nf_made fR, nf_made fT, rfl⟩ sm.1 sm.2
    · exact again4_no2 n a len cap e n1 a1 len1 cap1 e1 k0 k1 k2 k3 k4 k5 k6 w hin.2.1 hin.2.2.1 hin1.2.1 hin1.2.2.1 htab h1 h2 h3 hf1
  · exact again4_no1 n a len cap e n1 a1 len1 cap1 e1 k0 k1 k2 k3 k4 k5 k6 w hin.2.1 hin.2.2.1 htab hf
end Go.Proofs.YtfbfjkacaadbpaaGreatDoor
