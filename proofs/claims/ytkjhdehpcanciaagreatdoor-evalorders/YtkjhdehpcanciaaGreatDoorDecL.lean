/- A decimal in its normal form stays; what the raw decimals of the laws are. -/
import Derived.Test.YtkjhdehpcanciaaGreatDoorDecK
import Derived.Test.YtkjhdehpcanciaaGreatDoorDecJ
namespace Go.Proofs.YtkjhdehpcanciaaGreatDoor
open Go.RowKit Florin

theorem rt_last {l : List UInt8} (h : ∀ t c, l = t ++ [c] → c ≠ 48) : rt l = l := by
  rcases List.eq_nil_or_concat l with rfl | ⟨a, c, rfl⟩
  · rfl
  · rw [List.concat_eq_append] at *
    exact rt_snoc a (h a c rfl)
theorem trim_head {l : List UInt8} (h : ∀ c t, l = c :: t → c ≠ 48) : trim l = l := by
  cases l with
  | nil => rfl
  | cons c t => exact trim_cons t (h c t rfl)
theorem Nrm.made {d : Tri} (h : Nrm d) : made d.neg d.l d.e = d := by
  have hb : bare d.l = d.l := by unfold bare; rw [if_pos h.dg, trim_head h.hd]
  rw [made_pos _ _ (by rw [hb]; exact h.ne), hb, rt_last h.lst, Int.sub_self, Int.add_zero, hld_of h.lo h.hi, hld_of h.lo h.hi]
theorem made_idem (neg : Bool) (l : List UInt8) (e : Int) : made (made neg l e).neg (made neg l e).l (made neg l e).e = made neg l e := by
  rcases made_nrm neg l e with h | h
  · rw [h]; rfl
  · exact h.made
theorem idem_of {neg : Bool} {l : List UInt8} {e : Int} {d : Tri} (h : Florin.made neg l e = d) : Florin.made d.neg d.l d.e = d := by subst h; exact made_idem neg l e
theorem made_e_le (neg : Bool) (l : List UInt8) (e : Int) (h1 : -20000 ≤ e) (h2 : e ≤ 20000) (h3 : l.length ≤ 10000) : min e 0 ≤ (Florin.made neg l e).e ∧ (Florin.made neg l e).e ≤ max 0 (e + l.length) := by
  have hb := bare_length_le l
  have hr := rt_length_le (bare l)
  unfold Florin.made; split
  · simp [zero]; omega
  · simp only
    rw [hld_of (e := e) (by omega) (by omega), hld_of (by omega) (by omega)]
    omega
end Go.Proofs.YtkjhdehpcanciaaGreatDoor
