/- What the laws' own helpers return: normal and Places. -/
import Derived.Test.YtkjhdehpcanciaaGreatDoorDecI
namespace Go.Proofs.YtkjhdehpcanciaaGreatDoor
open Go.RowKit Florin
set_option linter.unusedVariables false

/-- A decimal in its normal form. -/
structure Nrm (d : Tri) : Prop where
  dg : isDig d.l = true
  ne : d.l ≠ []
  hd : ∀ c t, d.l = c :: t → c ≠ 48
  lst : ∀ t c, d.l = t ++ [c] → c ≠ 48
  lo : -30000 ≤ d.e
  hi : d.e ≤ 30000
theorem made_nrm (neg : Bool) (l : List UInt8) (e : Int) : made neg l e = zero ∨ Nrm (made neg l e) := by
  by_cases h : bare l = []
  · exact .inl (made_zero _ _ h)
  · right
    have hd : isDig l = true := by
      cases hh : isDig l with
      | true => rfl
      | false => exact absurd (bare_no hh) h
    have h0 : val l ≠ 0 := by rw [bare_dig hd, dig_eq_nil] at h; exact h
    obtain ⟨t, p1, p2, p3, p4, p5, p6, p7⟩ := dig_parts h0
    have hb := made_exp neg l e
    rw [made_pos _ _ h] at hb ⊢
    rw [bare_dig hd] at hb ⊢
    refine ⟨p5, p4, fun c t hc => ?_, p7, hb.1, hb.2⟩
    simp only at hc
    rw [hc] at p6
    intro e0
    subst e0
    rw [trim_cons_zero] at p6
    have h1 := congrArg List.length p6
    have h2 := trim_length_le t
    simp at h1; omega

theorem arr_get (l : List UInt8) (i : Nat) (h : i < (⟨l.toArray⟩ : ByteArray).size) : (⟨l.toArray⟩ : ByteArray)[i] = l[i]'(by rw [arr_size] at h; exact h) := by simp [ByteArray.getElem_eq_getElem_data]
end Go.Proofs.YtkjhdehpcanciaaGreatDoor
