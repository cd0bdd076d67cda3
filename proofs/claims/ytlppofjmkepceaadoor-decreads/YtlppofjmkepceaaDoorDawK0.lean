/- Parts and Plain once more, over texts as they lie; plain facts on the parts of a decimal. -/
import Derived.Test.YtlppofjmkepceaaDoorDecM
namespace Go.Proofs.YtlppofjmkepceaaDoor
open Go.RowKit Florin
set_option linter.unusedVariables false

theorem ne_of_size {u : ByteArray} (h : 0 < u.size) : u.data.toList ≠ [] := by intro e; have := congrArg List.length e; rw [size_list, List.length_nil] at this; omega
theorem app_data (a b : ByteArray) : (a ++ b).data.toList = a.data.toList ++ b.data.toList := by simp [ByteArray.data_append]
theorem parts_u (neg : Bool) (s : ByteArray) (e : Int) (w : World) (hs : s.size ≤ 1000000) (d : Tri) (hd : made neg s.data.toList e = d) (uw up : ByteArray) (hp : partsT d = (uw.data.toList, up.data.toList)) :
    Calls Tryd.prog 28 #[.agg #[.bool neg, .string s, .int .i64 e]] w fun x w' => x = .returned (.tuple #[.string uw, .string up]) ∧ Below w.heap.size w w' :=
  (parts_as neg s e w hs d hd _ _ hp).mono fun x w' ⟨hx, hb⟩ => ⟨by rw [hx], hb⟩
theorem plain_u (neg : Bool) (s : ByteArray) (e : Int) (w : World) (hs : s.size ≤ 1000000) (d : Tri) (hd : made neg s.data.toList e = d) (hid : made d.neg d.l d.e = d) (T : ByteArray) (hT : T.data.toList = plainT d) :
    Calls Tryd.prog 27 #[.agg #[.bool neg, .string s, .int .i64 e]] w fun x w' => x = .returned (.string T) ∧ Below w.heap.size w w' :=
  (plain_as neg s e w hs d hd hid).mono fun x w' ⟨hx, hb⟩ => ⟨by rw [hx, ← hT], hb⟩
theorem made_nrm_of {b : Bool} {l : List UInt8} {e : Int} (h : Nrm ⟨b, l, e⟩) (t z : Nat) (h1 : -30000 ≤ e - t) (h2 : e - t ≤ 30000) : made b (zs z ++ l ++ zs t) (e - t) = ⟨b, l, e⟩ := by
  have hd : isDig (zs z ++ l ++ zs t) = true := by rw [isDig_append, isDig_append, isDig_zs, isDig_zs, h.dg]; rfl
  have hz : ∀ z, trim (zs z ++ l ++ zs t) = l ++ zs t := by
    intro z
    induction z with
    | zero =>
      cases hl : l with
      | nil => exact absurd hl h.ne
      | cons c r => exact trim_cons _ (h.hd c r hl)
    | succ z ih => rw [show zs (z + 1) ++ l ++ zs t = 48 :: (zs z ++ l ++ zs t) by simp [zs, List.replicate_succ], trim_cons_zero, ih]
  have hb : bare (zs z ++ l ++ zs t) = l ++ zs t := by unfold bare; rw [if_pos hd, hz]
  have hr : rt (l ++ zs t) = l := by rw [rt_app_zs]; exact rt_last h.lst
  have lo := h.lo
  have hi := h.hi
  simp only at lo hi
  rw [made_pos _ _ (by rw [hb]; simp [h.ne]), hb, hr, hld_of (e := e - t) (by omega) (by omega)]
  rw [hld_of (by rw [List.length_append, zs_length]; omega) (by rw [List.length_append, zs_length]; omega)]
  congr 1
  rw [List.length_append, zs_length]; omega
theorem bare_self {l : List UInt8} (hd : isDig l = true) (h : ∀ c t, l = c :: t → c ≠ 48) : bare l = l := by unfold bare; rw [if_pos hd, trim_head h]
theorem last_ne {u : ByteArray} (h0 : 0 < u.size) (h : ∀ t c, u.data.toList = t ++ [c] → c ≠ 48) : ((u[u.size - 1].toNat : Int) == 48) = false := by
  have hne : u.data.toList ≠ [] := by intro e; have := congrArg List.length e; rw [size_list, List.length_nil] at this; omega
  have h2 : u[u.size - 1] ≠ 48 := by
    refine h u.data.toList.dropLast _ ?_
    have hl : u[u.size - 1] = u.data.toList.getLast hne := by
      rw [List.getLast_eq_getElem]
      simp [ByteArray.getElem_eq_getElem_data]
    rw [hl, List.dropLast_concat_getLast]
  have h3 : u[u.size - 1].toNat ≠ 48 := fun e => h2 (UInt8.toNat_inj.1 (by simpa using e))
  simp; omega
theorem at_zs {u : ByteArray} {k : Nat} {l : List UInt8} (hu : u.data.toList = zs k ++ l) (j : Nat) (hj : j < k) (h : j < u.size) : ((u[j].toNat : Int) == 48) = true := by
  have : u[j] = 48 := by
    have e : u[j] = u.data.toList[j]'(by rw [size_list]; exact h) := by simp [ByteArray.getElem_eq_getElem_data]
    rw [e]
    simp only [hu]
    rw [List.getElem_append_left (by rw [zs_length]; exact hj)]
    simp [zs]
  rw [this]; rfl
theorem at_hd {u : ByteArray} {k : Nat} {l : List UInt8} (hu : u.data.toList = zs k ++ l) (hl : ∀ c t, l = c :: t → c ≠ 48) (h : k < u.size) : ((u[k].toNat : Int) == 48) = false := by
  have : u[k] ≠ 48 := by
    have e : u[k] = u.data.toList[k]'(by rw [size_list]; exact h) := by simp [ByteArray.getElem_eq_getElem_data]
    rw [e]
    simp only [hu]
    rw [List.getElem_append_right (by rw [zs_length]; omega)]
    simp only [zs_length, Nat.sub_self]
    have hlen : 0 < l.length := by have := congrArg List.length hu; rw [size_list, List.length_append, zs_length] at this; omega
    exact hl _ _ (List.drop_eq_getElem_cons (i := 0) hlen)
  have h3 : u[k].toNat ≠ 48 := fun e => this (UInt8.toNat_inj.1 (by simpa using e))
  simp; omega
end Go.Proofs.YtlppofjmkepceaaDoor
