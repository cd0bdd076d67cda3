/- A decimal's own texts are read as the decimal. No walk here. -/
import Derived.Test.YtlppofjmkepceaaDoorDawK0
import Derived.Test.YtlppofjmkepceaaDoorDawPw
namespace Go.Proofs.YtlppofjmkepceaaDoor
open Go.RowKit Florin
set_option linter.unusedVariables false
set_option linter.unusedSimpArgs false

theorem made_nrm0 {b : Bool} {l : List UInt8} {e : Int} (h : Nrm ⟨b, l, e⟩) (z : Nat) : made b (zs z ++ l) e = ⟨b, l, e⟩ := by
  have := made_nrm_of h 0 z (by have := h.lo; simp at this ⊢; omega) (by have := h.hi; simp at this ⊢; omega)
  simpa [zs] using this
theorem Nrm.sdig {d : Tri} (h : Nrm d) : sdig d.l = true := (sdig_iff _).2 ⟨h.ne, h.dg⟩
/-- The text with a power. -/
theorem text_ren {d : Tri} (h : d = zero ∨ Nrm d) : ∃ (W : List UInt8) (ex : Bool) (sgn Q : List UInt8), textT d = render d.neg W false [] ex 101 sgn Q ∧ Wf W false [] ex 101 sgn Q ∧ (if sgn == [45] then -(val Q : Int) else val Q) = d.e ∧ made d.neg (W ++ []) d.e = d ∧ W.length ≤ d.l.length + 1 ∧ Q = (if d.e = 0 then [] else dig d.e.natAbs) := by
  rcases h with rfl | h
  · exact ⟨[48], false, [], [], rfl, ⟨rfl, rfl, ⟨rfl, rfl⟩⟩, rfl, by decide, by decide, rfl⟩
  · obtain ⟨b, l, e⟩ := d
    have hm : made b (l ++ []) e = ⟨b, l, e⟩ := by rw [List.append_nil]; exact made_nrm0 h 0
    have hW := h.sdig
    simp only at hW hm ⊢
    unfold textT
    simp only [if_neg h.ne]
    by_cases h0 : e = 0
    · subst h0
      exact ⟨l, false, [], [], by simp [render, signL, sgnL], ⟨hW, rfl, ⟨rfl, rfl⟩⟩, rfl, hm, by omega, by simp⟩
    · rw [if_neg h0]
      have hq : sdig (dig e.natAbs) = true := (sdig_iff _).2 ⟨by rw [Ne, dig_eq_nil]; omega, isDig_dig _⟩
      by_cases h1 : e < 0
      · refine ⟨l, true, [45], dig e.natAbs, ?_, ⟨hW, rfl, ?_⟩, ?_, hm, by omega, by simp [h0]⟩
        · unfold numT; simp [render, signL, sgnL, h1]
        · simp; exact ⟨by decide, hq⟩
        · rw [val_dig]; simp; omega
      · refine ⟨l, true, [], dig e.natAbs, ?_, ⟨hW, rfl, ?_⟩, ?_, hm, by omega, by simp [h0]⟩
        · unfold numT; simp [render, signL, sgnL, h1]
        · simp; exact ⟨by decide, hq⟩
        · rw [val_dig]; simp; omega
/-- The text without one. -/
theorem plain_ren {d : Tri} (h : d = zero ∨ Nrm d) : ∃ (W : List UInt8) (pt : Bool) (P : List UInt8), plainT d = render d.neg W pt P false 101 [] [] ∧ Wf W pt P false 101 [] [] ∧ made d.neg (W ++ P) (-(P.length : Int)) = d := by
  rcases h with rfl | h
  · exact ⟨[48], false, [], rfl, ⟨rfl, rfl, ⟨rfl, rfl⟩⟩, by decide⟩
  · obtain ⟨b, l, e⟩ := d
    have hlo := h.lo
    have hhi := h.hi
    have hdg := h.dg
    have hne := h.ne
    simp only at hlo hhi hdg hne ⊢
    unfold plainT partsT
    simp only
    have hl0 : 0 < l.length := List.length_pos_iff.2 hne
    by_cases h0 : 0 ≤ e
    · simp only [if_pos h0]
      have hne2 : l ++ zs e.toNat ≠ [] := by simp [hne]
      refine ⟨l ++ zs e.toNat, false, [], by simp [render, signL, sgnL, hne], ⟨(sdig_iff _).2 ⟨hne2, by rw [isDig_append, hdg, isDig_zs]; rfl⟩, rfl, ⟨rfl, rfl⟩⟩, ?_⟩
      have := made_nrm_of h e.toNat 0 (by omega) (by omega)
      rw [List.append_nil]
      have e0 : e - (e.toNat : Int) = 0 := by omega
      rw [e0] at this
      simpa [zs] using this
    · simp only [if_neg h0]
      by_cases h1 : (l.length : Int) + e ≤ 0
      · simp only [if_pos h1]
        obtain ⟨k, hk⟩ : ∃ k : Nat, (-((l.length : Int) + e)).toNat = k := ⟨_, rfl⟩
        rw [hk]
        have hp : sdig (zs k ++ l) = true := sdig_zs k hdg hne
        have hne2 : zs k ++ l ≠ [] := by simp [hne]
        refine ⟨[48], true, zs k ++ l, by simp [render, signL, sgnL, hne], ⟨rfl, by simp; exact hp, ⟨rfl, rfl⟩⟩, ?_⟩
        have hz : [48] ++ (zs k ++ l) = zs (k + 1) ++ l := by rw [← List.append_assoc]; congr 1
        have hlen : -(((zs k ++ l).length : Nat) : Int) = e := by rw [List.length_append, zs_length]; omega
        rw [hz, hlen]
        exact made_nrm0 h (k + 1)
      · simp only [if_neg h1]
        obtain ⟨k, hk⟩ : ∃ k : Nat, ((l.length : Int) + e).toNat = k := ⟨_, rfl⟩
        rw [hk]
        have hk1 : 0 < k := by omega
        have hk2 : k < l.length := by omega
        have t1 : l.take k ≠ [] := by intro hh; have := congrArg List.length hh; rw [List.length_take, List.length_nil] at this; omega
        have t2 : l.drop k ≠ [] := by intro hh; have := congrArg List.length hh; rw [List.length_drop, List.length_nil] at this; omega
        have dd : isDig (l.take k) = true ∧ isDig (l.drop k) = true := by
          have := hdg; rw [← List.take_append_drop k l, isDig_append] at this; simpa using this
        rw [if_neg t1, if_neg t2]
        refine ⟨l.take k, true, l.drop k, by simp [render, signL, sgnL], ⟨(sdig_iff _).2 ⟨t1, dd.1⟩, by simp; exact (sdig_iff _).2 ⟨t2, dd.2⟩, ⟨rfl, rfl⟩⟩, ?_⟩
        rw [List.take_append_drop]
        have hlen : -(((l.drop k).length : Nat) : Int) = e := by rw [List.length_drop]; omega
        rw [hlen]
        exact made_nrm0 h 0
end Go.Proofs.YtlppofjmkepceaaDoor
