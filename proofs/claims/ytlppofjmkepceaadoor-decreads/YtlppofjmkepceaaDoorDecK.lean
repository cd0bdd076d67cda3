/- What the laws' own helpers return: normal and Places. -/
import Derived.Test.YtlppofjmkepceaaDoorDecI
namespace Go.Proofs.YtlppofjmkepceaaDoor
open Go.RowKit Florin
set_option linter.unusedVariables false

set_option maxRecDepth 100000 in
set_option maxHeartbeats 1600000 in
theorem places_any (n : Bool) (s : ByteArray) (e : Int) (k : Nat) (w : World) (hs : s.size ≤ 100000) (hk : k ≤ 100000) (he : e ≤ 100000) (he0 : -100000 ≤ e) :
    Calls Tryd.prog 21 #[.agg #[.bool n, .string s, .int .i64 e], .int .i64 k] w fun x w' => x = .returned (S (s.data.toList ++ zs (e + k).toNat)) ∧ Below w.heap.size w w' := by
  go_enter Tryd.func21, Tryd.ntmps21
  go_wp2
  go_loop [5, 6] (fun v i => ∃ j : Nat, j ≤ (e + k).toNat ∧ i = .int .i64 ((j : Int) - k) ∧ v = S (s.data.toList ++ zs j)) (fun _ i => (e - intOf i).toNat)
  case atStart => exact ⟨0, Nat.zero_le _, by simp, by simp [zs]⟩
  case round =>
    obtain ⟨j, hj, rfl, rfl⟩ := hrel
    have hl : (s.data.toList ++ zs j).length ≤ 300000 := by rw [List.length_append, size_list, zs_length]; omega
    have hcat : ¬ 9223372036854775807 < (s.data.toList ++ zs j).length + 1 := by omega
    by_cases hlt : (j : Int) - k < e
    · have HZ : Hid ((⟨(s.data.toList ++ zs j).toArray⟩ : ByteArray) ++ (⟨#[48]⟩ : ByteArray) = ⟨(s.data.toList ++ zs (j + 1)).toArray⟩) := Lib.hid (by
        rw [show (⟨#[48]⟩ : ByteArray) = ⟨[48].toArray⟩ from rfl, arr_append, zs_succ, List.append_assoc])
      generalize s.data.toList ++ zs j = l at *
      go_wp2
      go_round
      case rel => exact ⟨j + 1, by omega, by go_num, by rw [HZ.out]⟩
      case measure => simp [intOf]; omega
    · have HJ : Hid (j = (e + k).toNat) := Lib.hid (by omega)
      generalize hL : s.data.toList ++ zs j = l at *
      have HL := Lib.hid hL
      clear hL
      go_wp2
      go_ret
      exact ⟨ret_S (by rw [← HL.out, HJ.out]), below_alloc w _⟩

/-- A decimal in its normal form. -/
structure Nrm (d : Tri) : Prop where
  dg : isDig d.l = true
  ne : d.l ≠ []
  hd : ∀ c t, d.l = c :: t → c ≠ 48
  lst : ∀ t c, d.l = t ++ [c] → c ≠ 48
  lo : -30000 ≤ d.e
  hi : d.e ≤ 30000
theorem made_nrm (neg : Bool) (l : List UInt8) (e : Int) : made neg l e = zero ∨ Nrm (made neg l e) := by
  by_cases h : bare l = []
  · exact .inl (made_zero _ _ h)
  · right
    have hd : isDig l = true := by
      cases hh : isDig l with
      | true => rfl
      | false => exact absurd (bare_no hh) h
    have h0 : val l ≠ 0 := by rw [bare_dig hd, dig_eq_nil] at h; exact h
    obtain ⟨t, p1, p2, p3, p4, p5, p6, p7⟩ := dig_parts h0
    have hb := made_exp neg l e
    rw [made_pos _ _ h] at hb ⊢
    rw [bare_dig hd] at hb ⊢
    refine ⟨p5, p4, fun c t hc => ?_, p7, hb.1, hb.2⟩
    simp only at hc
    rw [hc] at p6
    intro e0
    subst e0
    rw [trim_cons_zero] at p6
    have h1 := congrArg List.length p6
    have h2 := trim_length_le t
    simp at h1; omega

set_option maxRecDepth 100000 in
set_option maxHeartbeats 1600000 in
theorem normal_u (n : Bool) (u : ByteArray) (e : Int) (w : World) (h0 : 0 < u.size) (hs : u.size ≤ 1000000) (hd : isDig u.data.toList = true) (hf : ((u[0].toNat : Int) != 48) = true) (hl : ((u[u.size - 1].toNat : Int) != 48) = true) (h1 : -30000 ≤ e) (h2 : e ≤ 30000) :
    Calls Tryd.prog 15 #[.agg #[.bool n, .string u, .int .i64 e]] w fun x w' => x = .returned (.bool true) ∧ Below w.heap.size w w' := by
  have he : u.toList.isEmpty = false := isEmpty_of (by intro hx; have := congrArg List.length hx; rw [size_list, List.length_nil] at this; omega)
  have HD := Lib.hid hd
  clear hd
  go_enter Tryd.func15, Tryd.ntmps15
  go_wp2_with fail
  with_reducible refine (is_yes u _ (by unfold maxLen; omega) HD.out).mono ?_
  rintro x w' ⟨rfl, rfl⟩
  go_wp2
  go_ret
  exact ⟨rfl, below_alloc w _⟩
set_option maxRecDepth 100000 in
set_option maxHeartbeats 1600000 in
theorem normal_z (w : World) : Calls Tryd.prog 15 #[V zero] w fun x w' => x = .returned (.bool true) ∧ Below w.heap.size w w' := by
  have hz : V zero = .agg #[.bool false, .string ⟨#[]⟩, .int .i64 0] := rfl
  rw [hz]
  go_enter Tryd.func15, Tryd.ntmps15
  go_wp2
  go_ret
  exact ⟨rfl, below_alloc w _⟩
theorem arr_get (l : List UInt8) (i : Nat) (h : i < (⟨l.toArray⟩ : ByteArray).size) : (⟨l.toArray⟩ : ByteArray)[i] = l[i]'(by rw [arr_size] at h; exact h) := by simp [ByteArray.getElem_eq_getElem_data]
theorem normal_as (d : Tri) (w : World) (hs : d.l.length ≤ 1000000) (h : d = zero ∨ Nrm d) :
    Calls Tryd.prog 15 #[V d] w fun x w' => x = .returned (.bool true) ∧ Below w.heap.size w w' := by
  rcases h with rfl | h
  · exact normal_z w
  · have hp : 0 < (⟨d.l.toArray⟩ : ByteArray).size := by rw [arr_size]; exact List.length_pos_iff.2 h.ne
    refine normal_u d.neg ⟨d.l.toArray⟩ d.e w hp (by rw [arr_size]; exact hs) (by rw [arr_list]; exact h.dg) ?_ ?_ h.lo h.hi
    · have h2 : ((⟨d.l.toArray⟩ : ByteArray)[0]'hp) ≠ 48 := by
        rw [arr_get]
        have := List.drop_eq_getElem_cons (l := d.l) (i := 0) (by rw [arr_size] at hp; exact hp)
        exact h.hd _ _ this
      have h3 : ((⟨d.l.toArray⟩ : ByteArray)[0]'hp).toNat ≠ 48 := fun e => h2 (UInt8.toNat_inj.1 (by simpa using e))
      simp only [bne_iff_ne, ne_eq]; omega
    · have h2 : ((⟨d.l.toArray⟩ : ByteArray)[(⟨d.l.toArray⟩ : ByteArray).size - 1]'(by omega)) ≠ 48 := by
        refine h.lst d.l.dropLast _ ?_
        have hl : (⟨d.l.toArray⟩ : ByteArray)[(⟨d.l.toArray⟩ : ByteArray).size - 1]'(by omega) = d.l.getLast h.ne := by
          rw [List.getLast_eq_getElem, arr_get]
          simp only [arr_size]
        rw [hl, List.dropLast_concat_getLast]
      have h3 : ((⟨d.l.toArray⟩ : ByteArray)[(⟨d.l.toArray⟩ : ByteArray).size - 1]'(by omega)).toNat ≠ 48 := fun e => h2 (UInt8.toNat_inj.1 (by simpa using e))
      simp only [bne_iff_ne, ne_eq]; omega
end Go.Proofs.YtlppofjmkepceaaDoor
