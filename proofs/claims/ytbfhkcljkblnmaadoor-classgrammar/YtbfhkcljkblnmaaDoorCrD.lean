/- Numbers behind a backslash. -/
import Derived.Test.YtbfhkcljkblnmaaDoorCrC
namespace Go.Proofs.YtbfhkcljkblnmaaDoor
open Go.RowKit Florin
set_option linter.unusedVariables false
set_option linter.unusedSimpArgs false
attribute [local go_sem ↓] Go.wp_at_zero Go.wp_at_succ
def hexI (c : UInt8) : Int := match hexD c with
  | some v => (v : Int)
  | none => -1
set_option maxRecDepth 100000 in
theorem hexI_fin : ∀ n : Fin 256, Lib.indexByte [48, 49, 50, 51, 52, 53, 54, 55, 56, 57, 97, 98, 99, 100, 101, 102] (UInt8.ofNat n.val) = hexI (UInt8.ofNat n.val) := by decide
theorem hexI_eq (c : UInt8) : Lib.indexByte [48, 49, 50, 51, 52, 53, 54, 55, 56, 57, 97, 98, 99, 100, 101, 102] c = hexI c := by
  have h := hexI_fin ⟨c.toNat, c.toNat_lt⟩
  simpa using h
theorem hexIx (c : UInt8) (v : Int) (w : World) (h : hexI c = v) : Calls Tryd.prog 92 #[.string ⟨#[48, 49, 50, 51, 52, 53, 54, 55, 56, 57, 97, 98, 99, 100, 101, 102]⟩, .int .u8 (c.toNat : Int)] w fun e w' => e = .returned (.int .i64 v) ∧ w = w' :=
  (Tryd.strings_IndexByte _ _ w).mono fun e w' ⟨he, hw⟩ => ⟨by
    rw [he]
    have e1 : (c.toNat : Int).toNat.toUInt8 = c := by simp
    rw [e1, ← h, ← hexI_eq], hw.symm⟩
theorem hexN_snoc (l : List UInt8) (c : UInt8) : hexN (l ++ [c]) = hexN l * 16 + (hexD c).getD 0 := by simp [hexN]
theorem hexD_lt {c : UInt8} {v : Nat} (h : hexD c = some v) : v < 16 := by
  unfold hexD at h
  split at h
  · simp at h; omega
  · split at h
    · simp at h; omega
    · cases h
theorem hexG_lt (c : UInt8) : (hexD c).getD 0 < 16 := by
  cases h : hexD c with
  | none => decide
  | some v => exact hexD_lt h
theorem hexF_lt : ∀ (l : List UInt8) (a : Nat), l.foldl (fun n c => n * 16 + (hexD c).getD 0) a < (a + 1) * 16 ^ l.length
  | [], a => by simp
  | c :: t, a => by
    have h1 := hexF_lt t (a * 16 + (hexD c).getD 0)
    have h2 := hexG_lt c
    rw [List.foldl_cons, List.length_cons, Nat.pow_succ]
    refine Nat.lt_of_lt_of_le h1 ?_
    rw [Nat.mul_comm (16 ^ t.length) 16, ← Nat.mul_assoc]
    exact Nat.mul_le_mul_right _ (by omega)
theorem hexN_lt (l : List UInt8) (h : l.length ≤ 6) : hexN l < 16777216 := by
  have h1 := hexF_lt l 0
  have h2 : 16 ^ l.length ≤ 16 ^ 6 := Nat.pow_le_pow_right (by decide) h
  unfold hexN
  omega
theorem hex_some {l : List UInt8} {k v : Nat} (hk : k < l.length) (h6 : k < 6) (h : hexRun 6 l = l.take k ++ hexRun (6 - k) (l.drop k)) (hv : hexD l[k] = some v) :
    hexRun 6 l = l.take (k + 1) ++ hexRun (6 - (k + 1)) (l.drop (k + 1)) ∧ hexN (l.take (k + 1)) = hexN (l.take k) * 16 + v := by
  rw [List.take_succ_eq_append_getElem hk, hexN_snoc, hv]
  refine ⟨?_, rfl⟩
  rw [h, List.drop_eq_getElem_cons hk, show 6 - k = (6 - (k + 1)) + 1 by omega]
  conv => lhs; unfold hexRun
  rw [if_pos (by rw [hv]; rfl), List.append_assoc]
  rfl
theorem hex_end {l : List UInt8} {k : Nat} (h : hexRun 6 l = l.take k ++ hexRun (6 - k) (l.drop k)) (hk : k ≤ l.length) (he : k = 6 ∨ k = l.length ∨ ∃ h : k < l.length, hexD l[k] = none) : hexRun 6 l = l.take k := by
  rw [h]
  conv => rhs; rw [← List.append_nil (l.take k)]
  congr 1
  rcases he with rfl | rfl | ⟨h1, h2⟩
  · rfl
  · rw [List.drop_length]; cases 6 - l.length <;> rfl
  · rw [List.drop_eq_getElem_cons h1]
    cases 6 - k with
    | zero => rfl
    | succ f => unfold hexRun; rw [h2]; rfl
theorem coded_end {l : List UInt8} {k : Nat} (h : hexRun 6 l = l.take k) (hk : k ≤ l.length) {n z : Nat} (hq : codedP l = (n, z)) :
    (k = 0 ∧ n = 0 ∧ z = 0) ∨ (k ≠ 0 ∧ 1114111 < hexN (l.take k) ∧ n = 0 ∧ z = 0) ∨ (k ≠ 0 ∧ hexN (l.take k) ≤ 1114111 ∧ ([125] : List UInt8).isPrefixOf (l.drop k) = false ∧ n = 0 ∧ z = 0) ∨ (k ≠ 0 ∧ hexN (l.take k) ≤ 1114111 ∧ ([125] : List UInt8).isPrefixOf (l.drop k) = true ∧ n = hexN (l.take k) ∧ z = k + 4) := by
  have hl : (l.take k).length = k := by rw [List.length_take]; omega
  unfold codedP at hq
  rw [h, hl] at hq
  by_cases h0 : k = 0
  · rw [if_pos (.inl (by rw [h0]; rfl))] at hq
    simp only [Prod.mk.injEq] at hq
    exact .inl ⟨h0, hq.1.symm, hq.2.symm⟩
  · have hne : l.take k ≠ [] := fun e => h0 (by rw [e] at hl; simpa using hl.symm)
    by_cases h1 : 1114111 < hexN (l.take k)
    · rw [if_pos (.inr (.inl h1))] at hq
      simp only [Prod.mk.injEq] at hq
      exact .inr (.inl ⟨h0, h1, hq.1.symm, hq.2.symm⟩)
    · cases hp : ([125] : List UInt8).isPrefixOf (l.drop k) with
      | false =>
        rw [if_pos (.inr (.inr hp))] at hq
        simp only [Prod.mk.injEq] at hq
        exact .inr (.inr (.inl ⟨h0, by omega, rfl, hq.1.symm, hq.2.symm⟩))
      | true =>
        rw [if_neg (by
          rintro (h | h | h)
          · exact hne h
          · exact h1 h
          · rw [hp] at h; cases h)] at hq
        simp only [Prod.mk.injEq] at hq
        exact .inr (.inr (.inr ⟨h0, by omega, rfl, hq.1.symm, hq.2.symm⟩))
set_option maxRecDepth 100000 in
set_option maxHeartbeats 3200000 in
theorem coded_as (T : ByteArray) (w : World) (n z : Nat) (hq : codedP T.data.toList = (n, z)) (hT : T.size ≤ 1000000) :
    Calls Tryd.prog 91 #[.string T] w fun e w' => e = .returned (.tuple #[.int .i32 (n : Int), .int .i64 (z : Int)]) ∧ Below w.heap.size w w' := by
  have HQ := Lib.hid hq
  clear hq
  go_enter Tryd.func91, Tryd.ntmps91
  go_wp2_with fail
  go_loopw [4, 5] (fun u x wr => ∃ k : Nat, k ≤ 6 ∧ k ≤ T.size ∧ x = .int .i64 (k : Int) ∧ u = .int .i32 (hexN (T.data.toList.take k) : Int) ∧ hexRun 6 T.data.toList = T.data.toList.take k ++ hexRun (6 - k) (T.data.toList.drop k) ∧ Below w.heap.size w wr) (fun _ x _ => 6 - (intOf x).toNat)
  case atStart => exact ⟨0, by omega, by omega, rfl, rfl, rfl, Below.refl _ _⟩
  case round =>
    obtain ⟨k, hk6, hk, rfl, rfl, hh, hb⟩ := hrel
    have HH := Lib.hid hh
    have HB := Lib.hid hb
    have hlen : T.data.toList.length = T.size := size_list T
    have hnl := hexN_lt (T.data.toList.take k) (by rw [List.length_take]; omega)
    clear hh hb
    by_cases hlt : k < T.size ∧ k < 6
    · have hki : (k : Int) < min (T.size : Int) 6 := by omega
      have hks : (k : Int) < (T.size : Int) := by omega
      cases hv : hexD T[k] with
      | some v =>
        have hI : hexI T[k] = (v : Int) := by unfold hexI; rw [hv]
        have hv16 := hexD_lt hv
        have HS := Lib.hid (hex_some (v := v) (show k < T.data.toList.length by omega) hlt.2 HH.out hv)
        have HI := Lib.hid hI
        generalize hexN (T.data.toList.take k) = m at *
        have hv0 : (0 : Int) ≤ (v : Int) := by omega
        clear hI hv
        go_wp2_with fail
        with_reducible refine (hexIx T[k] _ _ HI.out).mono ?_
        rintro x wz ⟨rfl, rfl⟩
        go_wp2_with fail
        with_reducible refine (hexIx T[k] _ _ HI.out).mono ?_
        rintro x wz ⟨rfl, rfl⟩
        go_wp2
        all_goals go_roundw
        case rel => exact ⟨k + 1, by omega, by omega, by go_num, by rw [HS.out.2]; go_num, HS.out.1, by first | exact HB.out.drew.drew | exact HB.out.drew | exact HB.out⟩
        case measure => simp [intOf]; omega
      | none =>
        have hI : hexI T[k] = -1 := by unfold hexI; rw [hv]
        have HE := Lib.hid (coded_end (hex_end HH.out (by omega) (.inr (.inr ⟨by omega, hv⟩))) (by omega) HQ.out)
        have HI := Lib.hid hI
        clear hI hv
        rcases HE.out with ⟨h0, rfl, rfl⟩ | ⟨h0, h1, rfl, rfl⟩ | ⟨h0, h1, hp, rfl, rfl⟩ | ⟨h0, h1, hp, rfl, rfl⟩
        · have e0 : ((k : Int) == 0) = true := by simp; omega
          clear h0
          go_wp2_with fail
          with_reducible refine (hexIx T[k] _ _ HI.out).mono ?_
          rintro x wz ⟨rfl, rfl⟩
          go_wp2
          all_goals go_ret2
          all_goals exact ⟨rfl, by first | exact HB.out.drew.drew | exact HB.out.drew | exact HB.out⟩
        · have e0 : ((k : Int) == 0) = false := by simp; omega
          have e1 : ¬ (k : Int) = 0 := by omega
          have hgt : (1114111 : Int) < (hexN (T.data.toList.take k) : Int) := by omega
          generalize hme : hexN (T.data.toList.take k) = m at *
          have HME := Lib.hid hme
          clear hme
          go_wp2_with fail
          with_reducible refine (hexIx T[k] _ _ HI.out).mono ?_
          rintro x wz ⟨rfl, rfl⟩
          go_wp2
          all_goals go_ret2
          all_goals exact ⟨rfl, by first | exact HB.out.drew.drew | exact HB.out.drew | exact HB.out⟩
        · have e0 : ((k : Int) == 0) = false := by simp; omega
          have e1 : ¬ (k : Int) = 0 := by omega
          have hgt : ¬ (1114111 : Int) < (hexN (T.data.toList.take k) : Int) := by omega
          have hki2 : (k : Int) ≤ (T.size : Int) := by omega
          have HP : Hid (([125] : List UInt8).isPrefixOf (T.extract k T.size).data.toList = false) := Lib.hid (by rw [ext_list]; exact hp)
          clear hp
          generalize hme : hexN (T.data.toList.take k) = m at *
          have HME := Lib.hid hme
          clear hme
          go_wp2_with fail
          with_reducible refine (hexIx T[k] _ _ HI.out).mono ?_
          rintro x wz ⟨rfl, rfl⟩
          go_wp2_with fail
          with_reducible refine (hasP (T.extract k T.size) [125] _ _ HP.out).mono ?_
          rintro x wz ⟨rfl, rfl⟩
          go_wp2
          all_goals go_ret2
          all_goals exact ⟨rfl, by first | exact HB.out.drew.drew | exact HB.out.drew | exact HB.out⟩
        · have e0 : ((k : Int) == 0) = false := by simp; omega
          have e1 : ¬ (k : Int) = 0 := by omega
          have hgt : ¬ (1114111 : Int) < (hexN (T.data.toList.take k) : Int) := by omega
          have hki2 : (k : Int) ≤ (T.size : Int) := by omega
          have HP : Hid (([125] : List UInt8).isPrefixOf (T.extract k T.size).data.toList = true) := Lib.hid (by rw [ext_list]; exact hp)
          clear hp
          generalize hme : hexN (T.data.toList.take k) = m at *
          have HME := Lib.hid hme
          clear hme
          go_wp2_with fail
          with_reducible refine (hexIx T[k] _ _ HI.out).mono ?_
          rintro x wz ⟨rfl, rfl⟩
          go_wp2_with fail
          with_reducible refine (hasP (T.extract k T.size) [125] _ _ HP.out).mono ?_
          rintro x wz ⟨rfl, rfl⟩
          go_wp2
          all_goals go_ret2
          all_goals exact ⟨by rw [HME.out]; go_num, by first | exact HB.out.drew.drew | exact HB.out.drew | exact HB.out⟩
    · have hki : ¬ (k : Int) < min (T.size : Int) 6 := by omega
      have HE := Lib.hid (coded_end (hex_end HH.out (by omega) (by omega)) (by omega) HQ.out)
      rcases HE.out with ⟨h0, rfl, rfl⟩ | ⟨h0, h1, rfl, rfl⟩ | ⟨h0, h1, hp, rfl, rfl⟩ | ⟨h0, h1, hp, rfl, rfl⟩
      · have e0 : ((k : Int) == 0) = true := by simp; omega
        clear h0
        go_wp2
        all_goals go_ret2
        all_goals exact ⟨rfl, by first | exact HB.out.drew.drew | exact HB.out.drew | exact HB.out⟩
      · have e0 : ((k : Int) == 0) = false := by simp; omega
        have e1 : ¬ (k : Int) = 0 := by omega
        have hgt : (1114111 : Int) < (hexN (T.data.toList.take k) : Int) := by omega
        generalize hexN (T.data.toList.take k) = m at *
        go_wp2
        all_goals go_ret2
        all_goals exact ⟨rfl, by first | exact HB.out.drew.drew | exact HB.out.drew | exact HB.out⟩
      · have e0 : ((k : Int) == 0) = false := by simp; omega
        have e1 : ¬ (k : Int) = 0 := by omega
        have hgt : ¬ (1114111 : Int) < (hexN (T.data.toList.take k) : Int) := by omega
        have hki2 : (k : Int) ≤ (T.size : Int) := by omega
        have HP : Hid (([125] : List UInt8).isPrefixOf (T.extract k T.size).data.toList = false) := Lib.hid (by rw [ext_list]; exact hp)
        clear hp
        generalize hme : hexN (T.data.toList.take k) = m at *
        have HME := Lib.hid hme
        clear hme
        go_wp2_with fail
        with_reducible refine (hasP (T.extract k T.size) [125] _ _ HP.out).mono ?_
        rintro x wz ⟨rfl, rfl⟩
        go_wp2
        all_goals go_ret2
        all_goals exact ⟨rfl, by first | exact HB.out.drew.drew | exact HB.out.drew | exact HB.out⟩
      · have e0 : ((k : Int) == 0) = false := by simp; omega
        have e1 : ¬ (k : Int) = 0 := by omega
        have hgt : ¬ (1114111 : Int) < (hexN (T.data.toList.take k) : Int) := by omega
        have hki2 : (k : Int) ≤ (T.size : Int) := by omega
        have HP : Hid (([125] : List UInt8).isPrefixOf (T.extract k T.size).data.toList = true) := Lib.hid (by rw [ext_list]; exact hp)
        clear hp
        generalize hme : hexN (T.data.toList.take k) = m at *
        have HME := Lib.hid hme
        clear hme
        go_wp2_with fail
        with_reducible refine (hasP (T.extract k T.size) [125] _ _ HP.out).mono ?_
        rintro x wz ⟨rfl, rfl⟩
        go_wp2
        all_goals go_ret2
        all_goals exact ⟨by rw [HME.out]; go_num, by first | exact HB.out.drew.drew | exact HB.out.drew | exact HB.out⟩

end Go.Proofs.YtbfhkcljkblnmaaDoor
