/- What multiple of round returns, whatever comes in. -/
import Derived.Test.YtegekkifgdakgaaDoorRndC1
import Derived.Test.YtegekkifgdakgaaDoorRndC2
namespace Go.Proofs.YtegekkifgdakgaaDoor
open Go.RowKit Florin
set_option linter.unusedVariables false

theorem multiple_as (n : Bool) (s : ByteArray) (e : Int) (F : Nat) (p m : Int) (w : World) (hs : s.size ≤ 100000) (d : Tri) (hd : made n s.data.toList e = d) (hp1 : -30000 ≤ p) (hp2 : p ≤ 30000) (hF1 : 1 ≤ F) (hF2 : F ≤ 1000000000) (htab : Tab w) (g : Tri) (hg : mulT d F p m = g) :
    Calls Tryd.prog 63 #[.agg #[.bool n, .string s, .int .i64 e], .agg #[.int .i64 F, .int .i64 p], .int .i64 m] w fun x w' => x = .returned (V g) ∧ Below w.heap.size w w' := by
  have hdg : isDig d.l = true := by rw [← hd]; exact made_isDig _ _ _
  have hl : d.l.length ≤ 100000 := by rw [← hd]; have := made_length n s.data.toList e; rw [size_list] at this; omega
  have he := made_exp n s.data.toList e
  rw [hd] at he
  obtain ⟨dn, dl, de⟩ := d
  simp only at hdg hl he
  unfold mulT at hg
  by_cases hm : 0 ≤ m ∧ m ≤ 6
  · rw [if_pos hm] at hg
    obtain ⟨m0, m6⟩ := hm
    cases hc : cutT ⟨dn, dl, de⟩ p with
    | mk a b =>
    obtain ⟨c1, c2, c3, c4, c5⟩ := cutT_val ⟨dn, dl, de⟩ p hdg a b hc
    obtain ⟨q1, q2, q3⟩ := cut_div ⟨dn, dl, de⟩ p F hdg a b hc
    simp only at c3 c4
    have ha : a.length ≤ 200000 := by omega
    have hb : b.length ≤ 60000 := by omega
    have hpw := pow_pos' b.length
    have hz : nN ⟨dn, dl, de⟩ p % uU ⟨dn, dl, de⟩ F p = 0 ↔ val a % F = 0 ∧ val b = 0 := by
      rw [q2]
      constructor
      · intro h
        have h1 : val a % F * 10 ^ b.length = 0 := by omega
        rcases Nat.mul_eq_zero.1 h1 with h2 | h2
        · exact ⟨h2, by omega⟩
        · omega
      · rintro ⟨h1, h2⟩; rw [h1, h2, Nat.zero_mul]
    by_cases hzz : nN ⟨dn, dl, de⟩ p % uU ⟨dn, dl, de⟩ F p = 0
    · rw [if_pos hzz] at hg
      subst hg
      exact multiple_same n s e F p m w hs dn dl de hd hl hp1 hp2 m0 m6 hF1 hF2 a b hc c1 c2 ha hb (hz.1 hzz).1 (hz.1 hzz).2
    · rw [if_neg hzz] at hg
      obtain ⟨hv, hhv⟩ : ∃ hv, Lib.compareInt ((((val a % F) * 10 ^ b.length + val b) * 2 : Nat) : Int) ((F * 10 ^ b.length : Nat) : Int) = hv := ⟨_, rfl⟩
      obtain ⟨od, hod⟩ : ∃ od, (val a / F % 2 == 1) = od := ⟨_, rfl⟩
      have hcn : cnt m dn (uU ⟨dn, dl, de⟩ F p) (nN ⟨dn, dl, de⟩ p) = val a / F + (if away m dn hv od then 1 else 0) := by
        unfold cnt hf
        rw [q1, q2, q3, hhv, hod]
      simp only at hg
      rw [hcn] at hg
      cases haw : away m dn hv od with
      | true =>
        rw [haw] at hg
        simp only [if_true] at hg
        by_cases h0 : val a % F = 0
        · exact multiple_zt n s e F p m w hs dn dl de hd hl hp1 hp2 m0 m6 hF1 hF2 a b hc c1 c2 ha hb h0 (fun h => hzz (hz.2 ⟨h0, h⟩)) hv hhv od hod haw g hg htab
        · exact multiple_nt n s e F p m w hs dn dl de hd hl hp1 hp2 m0 m6 hF1 hF2 a b hc c1 c2 ha hb h0 hv hhv od hod haw g hg htab
      | false =>
        rw [haw] at hg
        simp only [Bool.false_eq_true, if_false, Nat.add_zero] at hg
        by_cases h0 : val a % F = 0
        · exact multiple_zf n s e F p m w hs dn dl de hd hl hp1 hp2 m0 m6 hF1 hF2 a b hc c1 c2 ha hb h0 (fun h => hzz (hz.2 ⟨h0, h⟩)) hv hhv od hod haw g hg htab
        · exact multiple_nf n s e F p m w hs dn dl de hd hl hp1 hp2 m0 m6 hF1 hF2 a b hc c1 c2 ha hb h0 hv hhv od hod haw g hg htab
  · rw [if_neg hm] at hg
    subst hg
    exact multiple_bad n s e F p m w hs dn dl de hd hl hp1 hp2 (by omega)
end Go.Proofs.YtegekkifgdakgaaDoor
