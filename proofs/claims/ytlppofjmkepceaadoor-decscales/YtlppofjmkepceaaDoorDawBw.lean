/- The walk of the law DecScales, whatever came in. -/
import Derived.Test.YtlppofjmkepceaaDoorDawB
namespace Go.Proofs.YtlppofjmkepceaaDoor
open Go.RowKit Florin
set_option linter.unusedVariables false

set_option maxRecDepth 100000 in
set_option maxHeartbeats 1600000 in
theorem scales_no (n0 : Bool) (a0 : Option Addr) (len0 cap0 : Nat) (e0 : Int) (k far : Int) (w : World) (hc0 : len0 ≤ cap0) (hm0 : cap0 ≤ maxLen) (htab : Tab w) (h : ¬ ((len0 : Int) ≤ 60 ∧ -60 ≤ e0 ∧ e0 ≤ 60)) :
    Calls Tryd.prog 9 #[RV n0 a0 len0 cap0 e0, .int .i64 k, .int .i64 far] w fun x w' => x = .returned (.bool true) ∧ Below w.heap.size w w' := by
  have HT := Lib.hid htab
  have H := Lib.hid h
  clear htab h
  go_enter Tryd.func9, Tryd.ntmps9
  go_wp2_with fail
  with_reducible refine (headD _ (HT.out.below ((Below.refl w.heap.size w).alloc (by simp <;> omega) _))).mono ?_
  rintro x w1 ⟨rfl, hb⟩
  have Cr0 := Lib.hid (((Box.new w #[.bool n0, .slice a0 len0 cap0, .int .i64 e0] 24).at (b' := w.heap.size) (by simp)).below hb (by simp <;> omega))
  have b1 := Lib.hid (((Below.refl w.heap.size w).alloc (by simp <;> omega) _).trans (hb.mono (B' := w.heap.size) (by simp <;> omega)))
  clear hb
  have Br0 : Hid (Box w1 (w.heap.size) #[.bool n0, .slice a0 len0 cap0, .int .i64 e0]) := Cr0
  clear Cr0
  obtain ⟨r00, r01, r02, r03, r04, r05, r06⟩ := Br0.out.three
  go_wp2_with fail
  with_reducible refine (few_no n0 a0 len0 cap0 e0 60 _ hc0 hm0 (by decide) (by decide) H.out).mono ?_
  rintro x w2 ⟨rfl, hb⟩
  have Cr0 := Lib.hid (Br0.out.below hb (by have := Br0.out.lt; simp <;> omega))
  have b2 := Lib.hid (b1.out.trans (hb.mono (B' := w.heap.size) (by have := b1.out.size; simp <;> omega)))
  clear r00 r01 r02 r03 r04 r05 r06
  clear hb Br0
  have Br0 : Hid (Box w2 (w.heap.size) #[.bool n0, .slice a0 len0 cap0, .int .i64 e0]) := Cr0
  clear Cr0
  go_wp2
  go_ret
  exact ⟨rfl, b2.out⟩

theorem decScales_walk (n : Bool) (a : Option Addr) (len cap : Nat) (e : Int) (L : List UInt8) (k far : Int) (w : World) (hin : InB w a len cap L) (_ : (Lit.int .i64 k).wf = true) (_ : (Lit.int .i64 far).wf = true) (htab : Tab w) :
    Calls Tryd.prog 9 #[RV n a len cap e, .int .i64 k, .int .i64 far] w fun x w' => x = .returned (.bool true) ∧ Below w.heap.size w w' := by
  by_cases hf : (len : Int) ≤ 60 ∧ -60 ≤ e ∧ e ≤ 60
  · obtain ⟨h1, h2, h3⟩ := hf
    have LL : (dgs L).length ≤ 60 := by rw [dgs_length, hin.1]; omega
    have hb := made_e_le n (dgs L) e (by omega) (by omega) (by omega)
    have hl := made_length n (dgs L) e
    have hK : -1000 ≤ wrap64 (k.tmod 1000 - wrap64 ((k.tmod 1000).tdiv 2)) ∧ wrap64 (k.tmod 1000 - wrap64 ((k.tmod 1000).tdiv 2)) ≤ 1000 := by
      have t1 := Int.tmod_lt_of_pos k (show (0 : Int) < 1000 by decide)
      have t2 := Int.lt_tmod_of_pos k (show (0 : Int) < 1000 by decide)
      generalize k.tmod 1000 = t at *
      have t3 := Int.tdiv_eq_ediv (a := t) (b := 2)
      have t4 : t / 2 ≤ t.tdiv 2 ∧ t.tdiv 2 ≤ t / 2 + 1 := by
        rw [t3]; split
        · omega
        · rw [show Int.sign 2 = 1 from rfl]; omega
      clear t3
      generalize t.tdiv 2 = u at *
      unfold wrap64
      omega
    rcases made_nrm n (dgs L) e with hz | hn
    · exact scales_z n a len cap L e k far _ w hin htab (by omega) h2 h3 rfl hK.1 hK.2 hz
    · obtain ⟨d, hd⟩ : ∃ d, made n (dgs L) e = d := ⟨_, rfl⟩
      rw [hd] at hb hl hn
      obtain ⟨dn, dl, de⟩ := d
      have hne : dl ≠ [] := hn.ne
      have hll : dl.length ≤ 60 := by simp only at hl; omega
      simp only at hb
      exact scales_s n a len cap L e k far _ w hin htab (by omega) h2 h3 rfl hK.1 hK.2 dn dl de hne hll (by omega) (by omega) hd
  · exact scales_no n a len cap e k far w hin.2.1 hin.2.2.1 htab hf
end Go.Proofs.YtlppofjmkepceaaDoor
