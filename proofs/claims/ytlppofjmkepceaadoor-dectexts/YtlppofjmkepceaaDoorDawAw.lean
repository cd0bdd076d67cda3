/- The walk of the law DecTexts, whatever decimal came in. -/
import Derived.Test.YtlppofjmkepceaaDoorDawA
namespace Go.Proofs.YtlppofjmkepceaaDoor
open Go.RowKit Florin
set_option linter.unusedVariables false

set_option maxRecDepth 100000 in
set_option maxHeartbeats 1600000 in
theorem texts_no (n : Bool) (a : Option Addr) (len cap : Nat) (e : Int) (w : World) (hc1 : len ≤ cap) (hm1 : cap ≤ maxLen) (htab : Tab w) (h : ¬ ((len : Int) ≤ 60 ∧ -60 ≤ e ∧ e ≤ 60)) :
    Calls Tryd.prog 10 #[RV n a len cap e] w fun x w' => x = .returned (.bool true) ∧ Below w.heap.size w w' := by
  have HT := Lib.hid htab
  have H := Lib.hid h
  clear htab h
  go_enter Tryd.func10, Tryd.ntmps10
  go_wp2_with fail
  with_reducible refine (headD _ (HT.out.below (below_alloc w _))).mono ?_
  rintro x w1 ⟨rfl, hb⟩
  have B1 := Lib.hid ((Box.new w #[.bool n, .slice a len cap, .int .i64 e] 24).below hb (by simp))
  have HB1 := Lib.hid ((below_alloc w _).trans (hb.mono (B' := w.heap.size) (by simp)))
  obtain ⟨q0, q1, q2, f0, f1, f2, lt⟩ := B1.out.three
  clear hb
  go_wp2_with fail
  with_reducible refine (few_no n a len cap e 60 _ hc1 hm1 (by decide) (by decide) H.out).mono ?_
  rintro x w2 ⟨rfl, hb⟩
  have HB2 := Lib.hid (HB1.out.trans (hb.mono (B' := w.heap.size) HB1.out.size))
  clear hb
  go_wp2
  go_ret
  exact ⟨rfl, HB2.out⟩

theorem decTexts_walk (n : Bool) (a : Option Addr) (len cap : Nat) (e : Int) (L : List UInt8) (w : World) (hin : InB w a len cap L) (htab : Tab w) :
    Calls Tryd.prog 10 #[RV n a len cap e] w fun x w' => x = .returned (.bool true) ∧ Below w.heap.size w w' := by
  by_cases hf : (len : Int) ≤ 60 ∧ -60 ≤ e ∧ e ≤ 60
  · obtain ⟨h1, h2, h3⟩ := hf
    have LL : (dgs L).length ≤ 60 := by rw [dgs_length, hin.1]; omega
    have hb := made_e_le n (dgs L) e (by omega) (by omega) (by omega)
    have hl := made_length n (dgs L) e
    rcases made_nrm n (dgs L) e with hz | hn
    · exact texts_z n a len cap L e w hin htab (by omega) h2 h3 hz
    · obtain ⟨d, hd⟩ : ∃ d, made n (dgs L) e = d := ⟨_, rfl⟩
      rw [hd] at hb hl hn
      obtain ⟨dn, dl, de⟩ := d
      have hne : dl ≠ [] := hn.ne
      have hll : dl.length ≤ 60 := by simp only at hl; omega
      simp only at hb
      rcases Int.lt_trichotomy de 0 with h0 | h0 | h0
      · obtain ⟨k, rfl⟩ : ∃ k : Nat, de = -(k : Int) := ⟨(-de).toNat, by omega⟩
        cases dn with
        | false => exact texts_pm n a len cap L e w hin htab (by omega) h2 h3 dl hne hll k (by omega) (by omega) hd
        | true => exact texts_nm n a len cap L e w hin htab (by omega) h2 h3 dl hne hll k (by omega) (by omega) hd
      · subst h0
        cases dn with
        | false => exact texts_p0 n a len cap L e w hin htab (by omega) h2 h3 dl hne hll hd
        | true => exact texts_n0 n a len cap L e w hin htab (by omega) h2 h3 dl hne hll hd
      · obtain ⟨k, rfl⟩ : ∃ k : Nat, de = (k : Int) := ⟨de.toNat, by omega⟩
        cases dn with
        | false => exact texts_pp n a len cap L e w hin htab (by omega) h2 h3 dl hne hll k (by omega) (by omega) hd
        | true => exact texts_np n a len cap L e w hin htab (by omega) h2 h3 dl hne hll k (by omega) (by omega) hd
  · exact texts_no n a len cap e w hin.2.1 hin.2.2.1 htab hf
end Go.Proofs.YtlppofjmkepceaaDoor
