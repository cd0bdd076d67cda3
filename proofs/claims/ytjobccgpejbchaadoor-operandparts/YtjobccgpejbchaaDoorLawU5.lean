/- The walk of the law OperandParts. -/
import Derived.Test.YtjobccgpejbchaaDoorOPlain
namespace Go.Proofs.YtjobccgpejbchaaDoor
open Go.RowKit Florin
set_option linter.unusedVariables false
set_option linter.unusedSimpArgs false
attribute [local go_sem ↓] Go.wp_at_zero Go.wp_at_succ

theorem all_step (g : ByteArray) (q : Nat) (h : q < g.size) : (g.data.toList.take (q + 1)).all (· == 48) = ((g.data.toList.take q).all (· == 48) && (g[q] == 48)) := by
  have hq : q < g.data.toList.length := by rw [size_list]; exact h
  rw [List.take_succ_eq_append_getElem hq, List.all_append]
  simp
  rfl
set_option maxRecDepth 100000 in
set_option maxHeartbeats 12800000 in
theorem parts_w (a : Option Addr) (len cap : Nat) (L : List UInt8) (a1 : Option Addr) (len1 cap1 : Nat) (L1 : List UInt8) (n : Int) (w : World) (hin : InB w a len cap L) (hin1 : InB w a1 len1 cap1 L1) (h1 : len ≤ 60) (h2 : len1 ≤ 60) (Z : Nat) (hz : bits .and .i64 n 7 = (Z : Int)) (hZ : Z ≤ 7) (I F0 : List UInt8) (hv : shP L L1 = ⟨false, I, F0⟩) (G : Nat → List UInt8) (hG0 : G 0 = F0) (hGS : ∀ k, G (k + 1) = G k ++ [48]) (hGL : ∀ k, k ≤ Z → (G k).length ≤ 100) (g : ByteArray) (hGG : S (G Z) = .string g) (gl : g.size ≤ 100) (R : List UInt8) (hR : rt g.data.toList = R) (M : Nat) (hM : R.length = M) (J : List UInt8) (f1 t1 : List UInt8) (wb : Bool) (hwb : g.data.toList.all (· == 48) = wb) (TT : Nat → List UInt8) (hT0 : TT M = t1) (hTE1 : ∀ q, M ≤ q → q < g.size → ∀ w : World, Tab w → Calls Tryd.prog 15 #[S (TT q), .int .i64 10] w fun z w' => z = .returned (S (TT (q + 1))) ∧ Below w.heap.size w w') (hTF1 : TT g.size = f1) (hTM : (len1 : Int) + (Z : Int) = (g.size : Int)) (ht : Tab w) (hOF : ∀ w : World, Calls Tryd.prog 7 #[.agg #[.bool false, S I, .string g], .int .i64 0] w fun z w' => z = .returned (.agg #[S J, .string g, .int .i64 0]) ∧ Below w.heap.size w w') (hV : ∀ w : World, Calls Tryd.prog 8 #[.agg #[S J, .string g, .int .i64 0]] w fun z w' => z = .returned (.int .i64 ((len1 : Int) + (Z : Int))) ∧ Below w.heap.size w w') (hV2 : ∀ w : World, Calls Tryd.prog 8 #[.agg #[S J, .string g, .int .i64 0]] w fun z w' => z = .returned (.int .i64 (g.size : Int)) ∧ Below w.heap.size w w') (hWW : ∀ w : World, Calls Tryd.prog 9 #[.agg #[S J, .string g, .int .i64 0]] w fun z w' => z = .returned (.int .i64 (M : Int)) ∧ Below w.heap.size w w') (hF : ∀ w : World, Calls Tryd.prog 10 #[.agg #[S J, .string g, .int .i64 0]] w fun z w' => z = .returned (S f1) ∧ Below w.heap.size w w') (hT : ∀ w : World, Calls Tryd.prog 12 #[.agg #[S J, .string g, .int .i64 0]] w fun z w' => z = .returned (S t1) ∧ Below w.heap.size w w') (hN : ∀ w : World, Calls Tryd.prog 13 #[.agg #[S J, .string g, .int .i64 0]] w fun z w' => z = .returned (.bool wb) ∧ Below w.heap.size w w') (hI : ∀ w : World, Calls Tryd.prog 14 #[.agg #[S J, .string g, .int .i64 0]] w fun z w' => z = .returned (S J) ∧ Below w.heap.size w w') (hTF : ∀ w : World, Calls Tryd.prog 11 #[.string g] w fun z w' => z = .returned (S f1) ∧ Below w.heap.size w w') (hTE : ∀ w : World, Calls Tryd.prog 11 #[.string (g.extract 0 M)] w fun z w' => z = .returned (S t1) ∧ Below w.heap.size w w') (hTI : ∀ w : World, Calls Tryd.prog 11 #[S I] w fun z w' => z = .returned (S J) ∧ Below w.heap.size w w') :
    Calls Tryd.prog 3 #[.slice a len cap, .slice a1 len1 cap1, .int .i64 n] w fun x w' => x = .returned (.bool true) ∧ Below w.heap.size w w' := by
  have HIN := Lib.hid hin
  have HIN1 := Lib.hid hin1
  have HV0 := Lib.hid hv
  have HG0 := Lib.hid hG0
  have HGS := Lib.hid hGS
  have HGL := Lib.hid hGL
  have HGG := Lib.hid hGG
  have HR := Lib.hid hR
  have HM := Lib.hid hM
  have HWB := Lib.hid hwb
  have HT0 := Lib.hid hT0
  have HTE1 := Lib.hid hTE1
  have HT := Lib.hid ht
  have HTM := Lib.hid hTM
  have HTF1 := Lib.hid hTF1
  have QhOF := Lib.hid hOF
  have QhV := Lib.hid hV
  have QhV2 := Lib.hid hV2
  have QhWW := Lib.hid hWW
  have QhF := Lib.hid hF
  have QhT := Lib.hid hT
  have QhN := Lib.hid hN
  have QhI := Lib.hid hI
  have QhTF := Lib.hid hTF
  have QhTE := Lib.hid hTE
  have QhTI := Lib.hid hTI
  have hwz : IntKind.i64.wrap ((len1 : Int) + (Z : Int)) = (len1 : Int) + (Z : Int) := by rw [IntKind.wrap_i64]; omega
  clear hin hin1 hv hG0 hGS hGL hGG hR hM hwb hT0 hTE1 ht hTM hTF1 hOF hV hV2 hWW hF hT hN hI hTF hTE hTI
  go_enter Tryd.func3, Tryd.ntmps3
  go_wp2_with fail
  with_reducible refine (head5 _).mono ?_
  rintro x w1 ⟨rfl, hb⟩
  have H1 : Hid (HeldL w [] w1) := Lib.hid (HeldL.keep (HeldL.refl w) hb)
  clear hb
  go_wp2_with fail
  with_reducible refine (shown_as a len cap L a1 len1 cap1 L1 _ (HIN.out.below H1.out.bel) (HIN1.out.below H1.out.bel) (by omega) (by omega) ⟨false, I, F0⟩ HV0.out).mono ?_
  rintro x w2 ⟨rfl, hb⟩
  have H2 : Hid (HeldL w [] w2) := Lib.hid (HeldL.keep H1.out hb)
  clear H1
  clear hb
  go_wp2_with fail
  go_loopw [9] (fun i wr => ∃ k : Nat, k ≤ Z ∧ i = .int .i64 k ∧ HeldL w [(w2.heap.size, #[.bool false, S I, S (G k)])] wr) (fun i _ => Z - (intOf i).toNat)
  case atStart => exact ⟨0, by omega, rfl, by rw [HG0.out]; exact (HeldL.alloc H2.out (w2.heap.size) #[.bool false, S I, S F0] 25 (by simp))⟩
  case round =>
    obtain ⟨k, hk, rfl, hh⟩ := hrel
    have H7 : Hid (HeldL w [(w2.heap.size, #[.bool false, S I, S (G k)])] wr) := Lib.hid hh
    clear hh
    by_cases hkz : k < Z
    · have hki : (k : Int) < (Z : Int) := by omega
      have bv0 : wr.cell? ⟨w2.heap.size, 0, none⟩ = some (.bool false) := (H7.out.f (List.Mem.head _)).cell 0
      have bvz0 : wr.frozen? ⟨w2.heap.size, 0, none⟩ = false := (H7.out.f (List.Mem.head _)).frozen 0
      have bv1 : wr.cell? ⟨w2.heap.size, 1, none⟩ = some (S I) := (H7.out.f (List.Mem.head _)).cell 1
      have bvz1 : wr.frozen? ⟨w2.heap.size, 1, none⟩ = false := (H7.out.f (List.Mem.head _)).frozen 1
      have bv2 : wr.cell? ⟨w2.heap.size, 2, none⟩ = some (S (G k)) := (H7.out.f (List.Mem.head _)).cell 2
      have bvz2 : wr.frozen? ⟨w2.heap.size, 2, none⟩ = false := (H7.out.f (List.Mem.head _)).frozen 2
      have bvl : w2.heap.size < wr.heap.size := (H7.out.f (List.Mem.head _)).lt
      have SA : (⟨(G k).toArray⟩ : ByteArray) ++ (⟨#[48]⟩ : ByteArray) = ⟨(G (k + 1)).toArray⟩ := by rw [HGS.out k]; exact arr_append (G k) [48]
      have cc : ¬ 9223372036854775807 < (G k).length + 1 := by have := HGL.out k (by omega); omega
      go_wp2
      go_roundw
      case rel => exact ⟨k + 1, by omega, by go_num, HeldL.set1 (L1 := []) (L2 := []) H7.out 2 (S (G (k + 1)))⟩
      case measure => simp [intOf]; omega
    · obtain hkZ : k = Z := by omega
      subst hkZ
      rw [show S (G k) = .string g from HGG.out] at H7
      generalize wr = w7 at *
      have bv0 : w7.cell? ⟨w2.heap.size, 0, none⟩ = some (.bool false) := (H7.out.f (List.Mem.head _)).cell 0
      have bv1 : w7.cell? ⟨w2.heap.size, 1, none⟩ = some (S I) := (H7.out.f (List.Mem.head _)).cell 1
      have bv2 : w7.cell? ⟨w2.heap.size, 2, none⟩ = some (.string g) := (H7.out.f (List.Mem.head _)).cell 2
      have bvl : w2.heap.size < w7.heap.size := (H7.out.f (List.Mem.head _)).lt
      go_wp2_with fail
      with_reducible refine (QhOF.out _).mono ?_
      rintro x w8 ⟨rfl, hb⟩
      clear bv0 bv1 bv2 bvl
      have H8 : Hid (HeldL w [(w2.heap.size, #[.bool false, S I, .string g])] w8) := Lib.hid (HeldL.keep H7.out hb)
      clear H7
      clear hb
      have bv0 : w8.cell? ⟨w2.heap.size, 0, none⟩ = some (.bool false) := (H8.out.f (List.Mem.head _)).cell 0
      have bv1 : w8.cell? ⟨w2.heap.size, 1, none⟩ = some (S I) := (H8.out.f (List.Mem.head _)).cell 1
      have bv2 : w8.cell? ⟨w2.heap.size, 2, none⟩ = some (.string g) := (H8.out.f (List.Mem.head _)).cell 2
      have bvl : w2.heap.size < w8.heap.size := (H8.out.f (List.Mem.head _)).lt
      go_wp2_with fail
      go_loop [11] (fun v => ∃ j : Nat, j ≤ g.size ∧ v = .int .i64 j ∧ rt (g.data.toList.take j) = R) (fun v => (intOf v).toNat)
      case atStart => exact ⟨g.size, Nat.le_refl _, rfl, by rw [← size_list, List.take_length]; exact HR.out⟩
      case round =>
        obtain ⟨j, hj, rfl, hRj⟩ := hrel
        have HRJ := Lib.hid hRj
        clear hRj
        by_cases hj0 : ∃ q, j = q + 1 ∧ q < g.data.toList.length ∧ ∃ h : q < g.size, g[q] = 48
        · obtain ⟨q, rfl, hq, hq2, h48⟩ := hj0
          have e1 : ((q + 1 : Nat) : Int) - 1 = (q : Int) := by omega
          have b48 : (g[q].toNat : Int) = 48 := by rw [h48]; rfl
          have HQ48 := Lib.hid h48
          clear h48
          go_wp2
          go_round
          case rel => exact ⟨q, by omega, by go_num, by rw [← rt_step _ q hq (by rw [← HQ48.out]; rfl)]; exact HRJ.out⟩
          case measure => simp [intOf]
        · obtain hjM : j = M := by
            have := HRJ.out
            rcases Nat.eq_zero_or_pos j with h0 | h0
            · rw [h0] at this; rw [← HM.out, ← this, h0]; rfl
            · have hq : j - 1 < g.data.toList.length := by rw [size_list]; omega
              have hne : g.data.toList[j - 1] ≠ 48 := fun h => hj0 ⟨j - 1, by omega, hq, by omega, h⟩
              have := rt_stop _ (j - 1) hq hne
              rw [show j - 1 + 1 = j by omega, HRJ.out] at this
              rw [← HM.out, this, List.length_take, size_list]; omega
          have HJ0 := Lib.hid hj0
          clear hj0
          subst hjM
          have hstop : ∀ q : Nat, j = q + 1 → ∀ h : q < g.size, ¬ (g[q].toNat : Int) = 48 := fun q hq h h48 => HJ0.out ⟨q, hq, by rw [size_list]; exact h, h, UInt8.toNat_inj.1 (by show _ = 48; omega)⟩
          clear bv0 bv1 bv2 bvl
          have H9 : Hid (HeldL w [(w8.heap.size, #[S J, .string g, .int .i64 0]), (w2.heap.size, #[.bool false, S I, .string g])] (w8.alloc (.cells #[S J, .string g, .int .i64 0] 28))) := Lib.hid ((HeldL.alloc H8.out (w8.heap.size) #[S J, .string g, .int .i64 0] 28 (by simp)))
          generalize (w8.alloc (.cells #[S J, .string g, .int .i64 0] 28)) = w9 at *
          clear H8
          have bv0 : w9.cell? ⟨w2.heap.size, 0, none⟩ = some (.bool false) := (H9.out.f (List.Mem.tail _ (List.Mem.head _))).cell 0
          have bv1 : w9.cell? ⟨w2.heap.size, 1, none⟩ = some (S I) := (H9.out.f (List.Mem.tail _ (List.Mem.head _))).cell 1
          have bv2 : w9.cell? ⟨w2.heap.size, 2, none⟩ = some (.string g) := (H9.out.f (List.Mem.tail _ (List.Mem.head _))).cell 2
          have bvl : w2.heap.size < w9.heap.size := (H9.out.f (List.Mem.tail _ (List.Mem.head _))).lt
          go_upto_region 13 with fail
          go_cut [54] from 45 (fun v w' => v = .bool false ∧ w9 = w')
          case first =>
            rcases Nat.eq_zero_or_pos j with h0 | h0
            · subst h0
              go_wp2
              go_meet
              case rel => exact ⟨rfl, rfl⟩
            · obtain ⟨q, rfl⟩ : ∃ q, j = q + 1 := ⟨j - 1, by omega⟩
              have hqs : q < g.size := by omega
              have e1 : ((q + 1 : Nat) : Int) - 1 = (q : Int) := by omega
              have b48 := hstop q rfl hqs
              clear hstop
              go_wp2
              go_meet
              case rel => exact ⟨by first | rfl | exact congrArg Value.bool (beq_eq_false_iff_ne.2 b48), rfl⟩
          case rest =>
            obtain ⟨hv54, hw54⟩ := hcut
            subst hv54 hw54
            clear hstop
            clear bv0 bv1 bv2 bvl
            have bv0 : w9.cell? ⟨w2.heap.size, 0, none⟩ = some (.bool false) := (H9.out.f (List.Mem.tail _ (List.Mem.head _))).cell 0
            have bv1 : w9.cell? ⟨w2.heap.size, 1, none⟩ = some (S I) := (H9.out.f (List.Mem.tail _ (List.Mem.head _))).cell 1
            have bv2 : w9.cell? ⟨w2.heap.size, 2, none⟩ = some (.string g) := (H9.out.f (List.Mem.tail _ (List.Mem.head _))).cell 2
            have bvl : w2.heap.size < w9.heap.size := (H9.out.f (List.Mem.tail _ (List.Mem.head _))).lt
            go_wp2_with fail
            clear bv0 bv1 bv2 bvl
            go_loop [12, 13] (fun b i => ∃ q : Nat, q ≤ g.size ∧ i = .int .i64 q ∧ b = .bool ((g.data.toList.take q).all (· == 48))) (fun _ i => g.size - (intOf i).toNat)
            case atStart => exact ⟨0, Nat.zero_le _, rfl, rfl⟩
            case round =>
              obtain ⟨q, hq, rfl, rfl⟩ := hrel
              have bv0 : w9.cell? ⟨w2.heap.size, 0, none⟩ = some (.bool false) := (H9.out.f (List.Mem.tail _ (List.Mem.head _))).cell 0
              have bv1 : w9.cell? ⟨w2.heap.size, 1, none⟩ = some (S I) := (H9.out.f (List.Mem.tail _ (List.Mem.head _))).cell 1
              have bv2 : w9.cell? ⟨w2.heap.size, 2, none⟩ = some (.string g) := (H9.out.f (List.Mem.tail _ (List.Mem.head _))).cell 2
              have bvl : w2.heap.size < w9.heap.size := (H9.out.f (List.Mem.tail _ (List.Mem.head _))).lt
              by_cases hqs : q < g.size
              · have hqi : (q : Int) < (g.size : Int) := by omega
                have HAL : Hid ((g.data.toList.take (q + 1)).all (· == 48) = ((g.data.toList.take q).all (· == 48) && (g[q] == 48))) := Lib.hid (all_step g q hqs)
                cases hal : (g.data.toList.take q).all (· == 48) with
                | false =>
                  rw [hal] at HAL
                  clear hal
                  go_wp2
                  go_round
                  case rel => exact ⟨q + 1, by omega, by go_num, congrArg Value.bool (by rw [HAL.out]; rfl)⟩
                  case measure => simp [intOf]; omega
                | true =>
                  rw [hal] at HAL
                  clear hal
                  by_cases h48 : g[q] = 48
                  · have b48 : (g[q].toNat : Int) = 48 := by rw [h48]; rfl
                    have HT1 : Hid ((g.data.toList.take (q + 1)).all (· == 48) = true) := Lib.hid (by rw [HAL.out, h48]; rfl)
                    clear HAL h48
                    go_wp2
                    go_round
                    case rel => exact ⟨q + 1, by omega, by go_num, congrArg Value.bool (by rw [HT1.out])⟩
                    case measure => simp [intOf]; omega
                  · have b48 : ¬ (g[q].toNat : Int) = 48 := fun h => h48 (UInt8.toNat_inj.1 (by show _ = 48; omega))
                    have HT1 : Hid ((g.data.toList.take (q + 1)).all (· == 48) = false) := Lib.hid (by rw [HAL.out]; simpa using h48)
                    clear HAL h48
                    go_wp2
                    go_round
                    case rel => exact ⟨q + 1, by omega, by go_num, congrArg Value.bool (by rw [HT1.out]; first | rfl | exact beq_eq_false_iff_ne.2 b48)⟩
                    case measure => simp [intOf]; omega
              · obtain rfl : q = g.size := by omega
                rw [show (g.data.toList.take g.size).all (· == 48) = wb by rw [← size_list, List.take_length]; exact HWB.out]
                have hqn : ¬ ((g.size : Int) < (g.size : Int)) := by omega
                go_wp2_with fail
                have ALL1 : Hid (∀ w' : World, HeldL w [(w8.heap.size, #[S J, .string g, .int .i64 0]), (w2.heap.size, #[.bool false, S I, .string g])] w' → w'.cell? ⟨w2.heap.size, 0, none⟩ = some (.bool false) ∧ w'.cell? ⟨w2.heap.size, 1, none⟩ = some (S I) ∧ w'.cell? ⟨w2.heap.size, 2, none⟩ = some (.string g) ∧ w'.cell? ⟨w8.heap.size, 0, none⟩ = some (S J) ∧ w'.cell? ⟨w8.heap.size, 1, none⟩ = some (.string g) ∧ w'.cell? ⟨w8.heap.size, 2, none⟩ = some (.int .i64 0) ∧ HeldL w [(w8.heap.size, #[S J, .string g, .int .i64 0]), (w2.heap.size, #[.bool false, S I, .string g])] w') := Lib.hid (fun w' h => ⟨(h.f (List.Mem.tail _ (List.Mem.head _))).cell 0, (h.f (List.Mem.tail _ (List.Mem.head _))).cell 1, (h.f (List.Mem.tail _ (List.Mem.head _))).cell 2, (h.f (List.Mem.head _)).cell 0, (h.f (List.Mem.head _)).cell 1, (h.f (List.Mem.head _)).cell 2, h⟩)
                have KEEP1 : Hid (∀ w' w'' : World, (w'.cell? ⟨w2.heap.size, 0, none⟩ = some (.bool false) ∧ w'.cell? ⟨w2.heap.size, 1, none⟩ = some (S I) ∧ w'.cell? ⟨w2.heap.size, 2, none⟩ = some (.string g) ∧ w'.cell? ⟨w8.heap.size, 0, none⟩ = some (S J) ∧ w'.cell? ⟨w8.heap.size, 1, none⟩ = some (.string g) ∧ w'.cell? ⟨w8.heap.size, 2, none⟩ = some (.int .i64 0) ∧ HeldL w [(w8.heap.size, #[S J, .string g, .int .i64 0]), (w2.heap.size, #[.bool false, S I, .string g])] w') → Below w'.heap.size w' w'' → (w''.cell? ⟨w2.heap.size, 0, none⟩ = some (.bool false) ∧ w''.cell? ⟨w2.heap.size, 1, none⟩ = some (S I) ∧ w''.cell? ⟨w2.heap.size, 2, none⟩ = some (.string g) ∧ w''.cell? ⟨w8.heap.size, 0, none⟩ = some (S J) ∧ w''.cell? ⟨w8.heap.size, 1, none⟩ = some (.string g) ∧ w''.cell? ⟨w8.heap.size, 2, none⟩ = some (.int .i64 0) ∧ HeldL w [(w8.heap.size, #[S J, .string g, .int .i64 0]), (w2.heap.size, #[.bool false, S I, .string g])] w'')) := Lib.hid (fun w' w'' h hb => ALL1.out _ (HeldL.keep (h.2.2.2.2.2.2) hb))
                have HS1 : Hid (HeldL w [(w8.heap.size, #[S J, .string g, .int .i64 0]), (w2.heap.size, #[.bool false, S I, .string g])] _) := Lib.hid H9.out
                refine wp_region_held_drew (S := fun w' => w'.cell? ⟨w2.heap.size, 0, none⟩ = some (.bool false) ∧ w'.cell? ⟨w2.heap.size, 1, none⟩ = some (S I) ∧ w'.cell? ⟨w2.heap.size, 2, none⟩ = some (.string g) ∧ w'.cell? ⟨w8.heap.size, 0, none⟩ = some (S J) ∧ w'.cell? ⟨w8.heap.size, 1, none⟩ = some (.string g) ∧ w'.cell? ⟨w8.heap.size, 2, none⟩ = some (.int .i64 0) ∧ HeldL w [(w8.heap.size, #[S J, .string g, .int .i64 0]), (w2.heap.size, #[.bool false, S I, .string g])] w') (by kernel_rfl) (ALL1.out _ (HeldL.drew HS1.out)) (fun hHeld => ?_)
                refine wpAnyH_take (i := 0) (oi := { dst := some 72, op := Go.Op.load 28 (Go.Operand.tmp 10), type := 28, pos := "law.go:68", after := #[], guard := none }) (v := ?_) rfl (by kernel_rfl) (by kernel_rfl) (by kernel_rfl) (fun _ _ _ h => h) (Or.inl ⟨by rfl, ?_⟩) hHeld ?_
                case refine_2 => (intro w hSw; (try dsimp only at hSw); go_simp <;> with_reducible rfl)
                try simp only [Act.put, List.setIfInBounds_toArray, List.set_cons_zero, List.set_cons_succ]
                refine wpAnyH_take (i := 2) (oi := { dst := some 74, op := Go.Op.move (Go.Operand.tmp 1), type := 22, pos := "law.go:68", after := #[], guard := none }) (v := ?_) rfl (by kernel_rfl) (by kernel_rfl) (by kernel_rfl) (fun _ _ _ h => h) (Or.inl ⟨by rfl, ?_⟩) hHeld ?_
                case refine_2 => (intro w hSw; (try dsimp only at hSw); go_simp <;> with_reducible rfl)
                try simp only [Act.put, List.setIfInBounds_toArray, List.set_cons_zero, List.set_cons_succ]
                refine wpAnyH_take (i := 3) (oi := { dst := some 75, op := Go.Op.call { callee := Go.Callee.builtin Go.Builtin.len, args := #[Go.Operand.tmp 74], argTypes := #[22] }, type := 3, pos := "law.go:68", after := #[{ on := 2, ground := Go.Ground.data }], guard := none }) (v := ?_) rfl (by kernel_rfl) (by kernel_rfl) (by kernel_rfl) (fun _ _ _ h => h) (Or.inl ⟨by rfl, ?_⟩) hHeld ?_
                case refine_2 => (intro w hSw; (try dsimp only at hSw); go_simp <;> with_reducible rfl)
                try simp only [Act.put, List.setIfInBounds_toArray, List.set_cons_zero, List.set_cons_succ]
                refine wpAnyH_take (i := 4) (oi := { dst := some 76, op := Go.Op.move (Go.Operand.tmp 8), type := 3, pos := "law.go:68", after := #[], guard := none }) (v := ?_) rfl (by kernel_rfl) (by kernel_rfl) (by kernel_rfl) (fun _ _ _ h => h) (Or.inl ⟨by rfl, ?_⟩) hHeld ?_
                case refine_2 => (intro w hSw; (try dsimp only at hSw); go_simp <;> with_reducible rfl)
                try simp only [Act.put, List.setIfInBounds_toArray, List.set_cons_zero, List.set_cons_succ]
                refine wpAnyH_take (i := 5) (oi := { dst := some 77, op := Go.Op.binOp Go.BinOp.add 3 (Go.Operand.tmp 75) (Go.Operand.tmp 76) 3, type := 3, pos := "law.go:68", after := #[{ on := 3, ground := Go.Ground.data }, { on := 4, ground := Go.Ground.data }], guard := none }) (v := ?_) rfl (by kernel_rfl) (by kernel_rfl) (by kernel_rfl) (fun _ _ _ h => h) (Or.inl ⟨by rfl, ?_⟩) hHeld ?_
                case refine_2 => (intro w hSw; (try dsimp only at hSw); go_simp <;> with_reducible rfl)
                try simp only [Act.put, List.setIfInBounds_toArray, List.set_cons_zero, List.set_cons_succ]
                refine wpAnyH_ready (rs := [1]) (by kernel_rfl) (by simp) ?_
                refine AllReadyH.cons (o := { dst := some 73, op := Go.Op.call { callee := Go.Callee.value (Go.Operand.func 8), args := #[Go.Operand.tmp 72], argTypes := #[28] }, type := 3, pos := "law.go:68", after := #[{ on := 0, ground := Go.Ground.data }], guard := none }) rfl (fun KK hK => ?_) AllReadyH.nil
                go_simp
                with_reducible refine (QhV.out _).mono ?_
                rintro x wA ⟨rfl, hb⟩
                go_wp2_with fail
                refine hK.out _ _ (KEEP1.out _ _ hHeld hb) (fun hHeld2 => ?_)
                clear hK hHeld hb
                have hHeld := hHeld2
                clear hHeld2
                try simp only [Act.put, List.setIfInBounds_toArray, List.set_cons_zero, List.set_cons_succ]
                refine wpAnyH_take (i := 6) (oi := { dst := some 78, op := Go.Op.binOp Go.BinOp.neq 3 (Go.Operand.tmp 73) (Go.Operand.tmp 77) 3, type := 4, pos := "law.go:68", after := #[{ on := 1, ground := Go.Ground.data }, { on := 5, ground := Go.Ground.data }], guard := none }) (v := ?_) rfl (by kernel_rfl) (by kernel_rfl) (by kernel_rfl) (fun _ _ _ h => h) (Or.inl ⟨by rfl, ?_⟩) hHeld ?_
                case refine_2 => (intro w hSw; (try dsimp only at hSw); go_simp <;> with_reducible rfl)
                try simp only [Act.put, List.setIfInBounds_toArray, List.set_cons_zero, List.set_cons_succ]
                refine wpAnyH_take (i := 7) (oi := { dst := some 79, op := Go.Op.move (Go.Operand.tmp 78), type := 4, pos := "law.go:68", after := #[{ on := 6, ground := Go.Ground.data }, { on := 1, ground := Go.Ground.chain }], guard := none }) (v := ?_) rfl (by kernel_rfl) (by kernel_rfl) (by kernel_rfl) (fun _ _ _ h => h) (Or.inl ⟨by rfl, ?_⟩) hHeld ?_
                case refine_2 => (intro w hSw; (try dsimp only at hSw); go_simp <;> with_reducible rfl)
                try simp only [Act.put, List.setIfInBounds_toArray, List.set_cons_zero, List.set_cons_succ]
                refine wpAnyH_take (i := 8) (oi := { dst := some 80, op := Go.Op.load 28 (Go.Operand.tmp 10), type := 28, pos := "law.go:68", after := #[{ on := 7, ground := Go.Ground.guard }], guard := some (7, false) }) (v := ?_) rfl (by kernel_rfl) (by kernel_rfl) (by kernel_rfl) (fun _ _ _ h => h) (Or.inl ⟨by rfl, ?_⟩) hHeld ?_
                case refine_2 => (intro w hSw; (try dsimp only at hSw); go_simp <;> with_reducible rfl)
                try simp only [Act.put, List.setIfInBounds_toArray, List.set_cons_zero, List.set_cons_succ]
                refine wpAnyH_take (i := 10) (oi := { dst := some 82, op := Go.Op.move (Go.Operand.tmp 11), type := 3, pos := "law.go:68", after := #[{ on := 7, ground := Go.Ground.guard }], guard := some (7, false) }) (v := ?_) rfl (by kernel_rfl) (by kernel_rfl) (by kernel_rfl) (fun _ _ _ h => h) (Or.inl ⟨by rfl, ?_⟩) hHeld ?_
                case refine_2 => (intro w hSw; (try dsimp only at hSw); go_simp <;> with_reducible rfl)
                try simp only [Act.put, List.setIfInBounds_toArray, List.set_cons_zero, List.set_cons_succ]
                refine wpAnyH_ready (rs := [9]) (by kernel_rfl) (by simp) ?_
                refine AllReadyH.cons (o := { dst := some 81, op := Go.Op.call { callee := Go.Callee.value (Go.Operand.func 9), args := #[Go.Operand.tmp 80], argTypes := #[28] }, type := 3, pos := "law.go:68", after := #[{ on := 8, ground := Go.Ground.data }, { on := 7, ground := Go.Ground.chain }, { on := 7, ground := Go.Ground.guard }], guard := some (7, false) }) rfl (fun KK hK => ?_) AllReadyH.nil
                go_simp
                with_reducible refine (QhWW.out _).mono ?_
                rintro x wB ⟨rfl, hb⟩
                go_wp2_with fail
                refine hK.out _ _ (KEEP1.out _ _ hHeld hb) (fun hHeld2 => ?_)
                clear hK hHeld hb
                have hHeld := hHeld2
                clear hHeld2
                try simp only [Act.put, List.setIfInBounds_toArray, List.set_cons_zero, List.set_cons_succ]
                refine wpAnyH_take (i := 11) (oi := { dst := some 83, op := Go.Op.binOp Go.BinOp.neq 3 (Go.Operand.tmp 81) (Go.Operand.tmp 82) 3, type := 4, pos := "law.go:68", after := #[{ on := 9, ground := Go.Ground.data }, { on := 10, ground := Go.Ground.data }, { on := 7, ground := Go.Ground.guard }], guard := some (7, false) }) (v := ?_) rfl (by kernel_rfl) (by kernel_rfl) (by kernel_rfl) (fun _ _ _ h => h) (Or.inl ⟨by rfl, ?_⟩) hHeld ?_
                case refine_2 => (intro w hSw; (try dsimp only at hSw); go_simp <;> with_reducible rfl)
                try simp only [Act.put, List.setIfInBounds_toArray, List.set_cons_zero, List.set_cons_succ]
                refine wpAnyH_take (i := 12) (oi := { dst := some 84, op := Go.Op.pick (Go.Operand.tmp 79) (Go.Operand.const (Go.Value.bool true)) (Go.Operand.tmp 83), type := 4, pos := "law.go:68", after := #[{ on := 7, ground := Go.Ground.data }, { on := 11, ground := Go.Ground.data }], guard := none }) (v := ?_) rfl (by kernel_rfl) (by kernel_rfl) (by kernel_rfl) (fun _ _ _ h => h) (Or.inl ⟨by rfl, ?_⟩) hHeld ?_
                case refine_2 => (intro w hSw; (try dsimp only at hSw); go_simp <;> with_reducible rfl)
                try simp only [Act.put, List.setIfInBounds_toArray, List.set_cons_zero, List.set_cons_succ]
                refine wpAnyH_take (i := 13) (oi := { dst := some 85, op := Go.Op.move (Go.Operand.tmp 84), type := 4, pos := "law.go:68", after := #[{ on := 12, ground := Go.Ground.data }, { on := 9, ground := Go.Ground.chain }], guard := none }) (v := ?_) rfl (by kernel_rfl) (by kernel_rfl) (by kernel_rfl) (fun _ _ _ h => h) (Or.inl ⟨by rfl, ?_⟩) hHeld ?_
                case refine_2 => (intro w hSw; (try dsimp only at hSw); go_simp <;> with_reducible rfl)
                try simp only [Act.put, List.setIfInBounds_toArray, List.set_cons_zero, List.set_cons_succ]
                refine wpAnyH_take (i := 14) (oi := { dst := some 86, op := Go.Op.load 28 (Go.Operand.tmp 10), type := 28, pos := "law.go:68", after := #[{ on := 13, ground := Go.Ground.guard }], guard := some (13, false) }) (v := ?_) rfl (by kernel_rfl) (by kernel_rfl) (by kernel_rfl) (fun _ _ _ h => h) (Or.inl ⟨by rfl, ?_⟩) hHeld ?_
                case refine_2 => (intro w hSw; (try dsimp only at hSw); go_simp <;> with_reducible rfl)
                try simp only [Act.put, List.setIfInBounds_toArray, List.set_cons_zero, List.set_cons_succ]
                refine wpAnyH_take (i := 16) (oi := { dst := some 88, op := Go.Op.fieldAddr 25 (Go.Operand.tmp 7) 2, type := 0, pos := "law.go:68", after := #[{ on := 13, ground := Go.Ground.guard }], guard := some (13, false) }) (v := ?_) rfl (by kernel_rfl) (by kernel_rfl) (by kernel_rfl) (fun _ _ _ h => h) (Or.inl ⟨by rfl, ?_⟩) hHeld ?_
                case refine_2 => (intro w hSw; (try dsimp only at hSw); go_simp <;> with_reducible rfl)
                try simp only [Act.put, List.setIfInBounds_toArray, List.set_cons_zero, List.set_cons_succ]
                refine wpAnyH_take (i := 17) (oi := { dst := some 89, op := Go.Op.load 9 (Go.Operand.tmp 88), type := 9, pos := "law.go:68", after := #[{ on := 16, ground := Go.Ground.data }, { on := 13, ground := Go.Ground.guard }], guard := some (13, false) }) (v := ?_) rfl (by kernel_rfl) (by kernel_rfl) (by kernel_rfl) (fun _ _ _ h => h) (Or.inl ⟨by rfl, ?_⟩) hHeld ?_
                case refine_2 => (intro w hSw; (try dsimp only at hSw); go_simp <;> with_reducible rfl)
                try simp only [Act.put, List.setIfInBounds_toArray, List.set_cons_zero, List.set_cons_succ]
                refine wpAnyH_ready (rs := [15]) (by kernel_rfl) (by simp) ?_
                refine AllReadyH.cons (o := { dst := some 87, op := Go.Op.call { callee := Go.Callee.value (Go.Operand.func 10), args := #[Go.Operand.tmp 86], argTypes := #[28] }, type := 9, pos := "law.go:68", after := #[{ on := 14, ground := Go.Ground.data }, { on := 13, ground := Go.Ground.chain }, { on := 13, ground := Go.Ground.guard }], guard := some (13, false) }) rfl (fun KK hK => ?_) AllReadyH.nil
                go_simp
                with_reducible refine (QhF.out _).mono ?_
                rintro x wC ⟨rfl, hb⟩
                go_wp2_with fail
                refine hK.out _ _ (KEEP1.out _ _ hHeld hb) (fun hHeld2 => ?_)
                clear hK hHeld hb
                have hHeld := hHeld2
                clear hHeld2
                try simp only [Act.put, List.setIfInBounds_toArray, List.set_cons_zero, List.set_cons_succ]
                refine wpAnyH_ready (rs := [18]) (by kernel_rfl) (by simp) ?_
                refine AllReadyH.cons (o := { dst := some 90, op := Go.Op.call { callee := Go.Callee.value (Go.Operand.func 11), args := #[Go.Operand.tmp 89], argTypes := #[9] }, type := 9, pos := "law.go:68", after := #[{ on := 17, ground := Go.Ground.data }, { on := 15, ground := Go.Ground.chain }, { on := 13, ground := Go.Ground.guard }], guard := some (13, false) }) rfl (fun KK hK => ?_) AllReadyH.nil
                go_simp
                with_reducible refine (QhTF.out _).mono ?_
                rintro x wD ⟨rfl, hb⟩
                go_wp2_with fail
                refine hK.out _ _ (KEEP1.out _ _ hHeld hb) (fun hHeld2 => ?_)
                clear hK hHeld hb
                have hHeld := hHeld2
                clear hHeld2
                try simp only [Act.put, List.setIfInBounds_toArray, List.set_cons_zero, List.set_cons_succ]
                refine wpAnyH_take (i := 19) (oi := { dst := some 91, op := Go.Op.binOp Go.BinOp.neq 9 (Go.Operand.tmp 87) (Go.Operand.tmp 90) 9, type := 4, pos := "law.go:68", after := #[{ on := 15, ground := Go.Ground.data }, { on := 18, ground := Go.Ground.data }, { on := 13, ground := Go.Ground.guard }], guard := some (13, false) }) (v := ?_) rfl (by kernel_rfl) (by kernel_rfl) (by kernel_rfl) (fun _ _ _ h => h) (Or.inl ⟨by rfl, ?_⟩) hHeld ?_
                case refine_2 => (intro w hSw; (try dsimp only at hSw); go_simp <;> with_reducible rfl)
                try simp only [Act.put, List.setIfInBounds_toArray, List.set_cons_zero, List.set_cons_succ]
                refine wpAnyH_take (i := 20) (oi := { dst := some 92, op := Go.Op.pick (Go.Operand.tmp 85) (Go.Operand.const (Go.Value.bool true)) (Go.Operand.tmp 91), type := 4, pos := "law.go:68", after := #[{ on := 13, ground := Go.Ground.data }, { on := 19, ground := Go.Ground.data }], guard := none }) (v := ?_) rfl (by kernel_rfl) (by kernel_rfl) (by kernel_rfl) (fun _ _ _ h => h) (Or.inl ⟨by rfl, ?_⟩) hHeld ?_
                case refine_2 => (intro w hSw; (try dsimp only at hSw); go_simp <;> with_reducible rfl)
                try simp only [Act.put, List.setIfInBounds_toArray, List.set_cons_zero, List.set_cons_succ]
                refine wpAnyH_take (i := 21) (oi := { dst := some 93, op := Go.Op.move (Go.Operand.tmp 92), type := 4, pos := "law.go:68", after := #[{ on := 20, ground := Go.Ground.data }, { on := 18, ground := Go.Ground.chain }], guard := none }) (v := ?_) rfl (by kernel_rfl) (by kernel_rfl) (by kernel_rfl) (fun _ _ _ h => h) (Or.inl ⟨by rfl, ?_⟩) hHeld ?_
                case refine_2 => (intro w hSw; (try dsimp only at hSw); go_simp <;> with_reducible rfl)
                try simp only [Act.put, List.setIfInBounds_toArray, List.set_cons_zero, List.set_cons_succ]
                refine wpAnyH_take (i := 22) (oi := { dst := some 94, op := Go.Op.load 28 (Go.Operand.tmp 10), type := 28, pos := "law.go:68", after := #[{ on := 21, ground := Go.Ground.guard }], guard := some (21, false) }) (v := ?_) rfl (by kernel_rfl) (by kernel_rfl) (by kernel_rfl) (fun _ _ _ h => h) (Or.inl ⟨by rfl, ?_⟩) hHeld ?_
                case refine_2 => (intro w hSw; (try dsimp only at hSw); go_simp <;> with_reducible rfl)
                try simp only [Act.put, List.setIfInBounds_toArray, List.set_cons_zero, List.set_cons_succ]
                refine wpAnyH_take (i := 24) (oi := { dst := some 96, op := Go.Op.fieldAddr 25 (Go.Operand.tmp 7) 2, type := 0, pos := "law.go:68", after := #[{ on := 21, ground := Go.Ground.guard }], guard := some (21, false) }) (v := ?_) rfl (by kernel_rfl) (by kernel_rfl) (by kernel_rfl) (fun _ _ _ h => h) (Or.inl ⟨by rfl, ?_⟩) hHeld ?_
                case refine_2 => (intro w hSw; (try dsimp only at hSw); go_simp <;> with_reducible rfl)
                try simp only [Act.put, List.setIfInBounds_toArray, List.set_cons_zero, List.set_cons_succ]
                refine wpAnyH_take (i := 25) (oi := { dst := some 97, op := Go.Op.load 9 (Go.Operand.tmp 96), type := 9, pos := "law.go:68", after := #[{ on := 24, ground := Go.Ground.data }, { on := 21, ground := Go.Ground.guard }], guard := some (21, false) }) (v := ?_) rfl (by kernel_rfl) (by kernel_rfl) (by kernel_rfl) (fun _ _ _ h => h) (Or.inl ⟨by rfl, ?_⟩) hHeld ?_
                case refine_2 => (intro w hSw; (try dsimp only at hSw); go_simp <;> with_reducible rfl)
                try simp only [Act.put, List.setIfInBounds_toArray, List.set_cons_zero, List.set_cons_succ]
                refine wpAnyH_take (i := 26) (oi := { dst := some 98, op := Go.Op.move (Go.Operand.tmp 11), type := 3, pos := "law.go:68", after := #[{ on := 21, ground := Go.Ground.guard }], guard := some (21, false) }) (v := ?_) rfl (by kernel_rfl) (by kernel_rfl) (by kernel_rfl) (fun _ _ _ h => h) (Or.inl ⟨by rfl, ?_⟩) hHeld ?_
                case refine_2 => (intro w hSw; (try dsimp only at hSw); go_simp <;> with_reducible rfl)
                try simp only [Act.put, List.setIfInBounds_toArray, List.set_cons_zero, List.set_cons_succ]
                refine wpAnyH_take (i := 27) (oi := { dst := some 99, op := Go.Op.slice 9 (Go.Operand.tmp 97) none (some (Go.Operand.tmp 98)) none, type := 9, pos := "law.go:68", after := #[{ on := 25, ground := Go.Ground.data }, { on := 26, ground := Go.Ground.data }, { on := 21, ground := Go.Ground.guard }], guard := some (21, false) }) (v := ?_) rfl (by kernel_rfl) (by kernel_rfl) (by kernel_rfl) (fun _ _ _ h => h) (Or.inl ⟨by rfl, ?_⟩) hHeld ?_
                case refine_2 => (intro w hSw; (try dsimp only at hSw); go_simp <;> with_reducible rfl)
                try simp only [Act.put, List.setIfInBounds_toArray, List.set_cons_zero, List.set_cons_succ]
                refine wpAnyH_ready (rs := [23]) (by kernel_rfl) (by simp) ?_
                refine AllReadyH.cons (o := { dst := some 95, op := Go.Op.call { callee := Go.Callee.value (Go.Operand.func 12), args := #[Go.Operand.tmp 94], argTypes := #[28] }, type := 9, pos := "law.go:68", after := #[{ on := 22, ground := Go.Ground.data }, { on := 21, ground := Go.Ground.chain }, { on := 21, ground := Go.Ground.guard }], guard := some (21, false) }) rfl (fun KK hK => ?_) AllReadyH.nil
                go_simp
                with_reducible refine (QhT.out _).mono ?_
                rintro x wE ⟨rfl, hb⟩
                go_wp2_with fail
                refine hK.out _ _ (KEEP1.out _ _ hHeld hb) (fun hHeld2 => ?_)
                clear hK hHeld hb
                have hHeld := hHeld2
                clear hHeld2
                try simp only [Act.put, List.setIfInBounds_toArray, List.set_cons_zero, List.set_cons_succ]
                refine wpAnyH_ready (rs := [28]) (by kernel_rfl) (by simp) ?_
                refine AllReadyH.cons (o := { dst := some 100, op := Go.Op.call { callee := Go.Callee.value (Go.Operand.func 11), args := #[Go.Operand.tmp 99], argTypes := #[9] }, type := 9, pos := "law.go:68", after := #[{ on := 27, ground := Go.Ground.data }, { on := 23, ground := Go.Ground.chain }, { on := 21, ground := Go.Ground.guard }], guard := some (21, false) }) rfl (fun KK hK => ?_) AllReadyH.nil
                go_simp
                with_reducible refine (QhTE.out _).mono ?_
                rintro x wF ⟨rfl, hb⟩
                go_wp2_with fail
                refine hK.out _ _ (KEEP1.out _ _ hHeld hb) (fun hHeld2 => ?_)
                clear hK hHeld hb
                have hHeld := hHeld2
                clear hHeld2
                try simp only [Act.put, List.setIfInBounds_toArray, List.set_cons_zero, List.set_cons_succ]
                refine wpAnyH_take (i := 29) (oi := { dst := some 101, op := Go.Op.binOp Go.BinOp.neq 9 (Go.Operand.tmp 95) (Go.Operand.tmp 100) 9, type := 4, pos := "law.go:68", after := #[{ on := 23, ground := Go.Ground.data }, { on := 28, ground := Go.Ground.data }, { on := 21, ground := Go.Ground.guard }], guard := some (21, false) }) (v := ?_) rfl (by kernel_rfl) (by kernel_rfl) (by kernel_rfl) (fun _ _ _ h => h) (Or.inl ⟨by rfl, ?_⟩) hHeld ?_
                case refine_2 => (intro w hSw; (try dsimp only at hSw); go_simp <;> with_reducible rfl)
                try simp only [Act.put, List.setIfInBounds_toArray, List.set_cons_zero, List.set_cons_succ]
                refine wpAnyH_take (i := 30) (oi := { dst := some 102, op := Go.Op.pick (Go.Operand.tmp 93) (Go.Operand.const (Go.Value.bool true)) (Go.Operand.tmp 101), type := 4, pos := "law.go:68", after := #[{ on := 21, ground := Go.Ground.data }, { on := 29, ground := Go.Ground.data }], guard := none }) (v := ?_) rfl (by kernel_rfl) (by kernel_rfl) (by kernel_rfl) (fun _ _ _ h => h) (Or.inl ⟨by rfl, ?_⟩) hHeld ?_
                case refine_2 => (intro w hSw; (try dsimp only at hSw); go_simp <;> with_reducible rfl)
                try simp only [Act.put, List.setIfInBounds_toArray, List.set_cons_zero, List.set_cons_succ]
                refine wpAnyH_take (i := 31) (oi := { dst := some 103, op := Go.Op.move (Go.Operand.tmp 102), type := 4, pos := "law.go:68", after := #[{ on := 30, ground := Go.Ground.data }, { on := 28, ground := Go.Ground.chain }], guard := none }) (v := ?_) rfl (by kernel_rfl) (by kernel_rfl) (by kernel_rfl) (fun _ _ _ h => h) (Or.inl ⟨by rfl, ?_⟩) hHeld ?_
                case refine_2 => (intro w hSw; (try dsimp only at hSw); go_simp <;> with_reducible rfl)
                try simp only [Act.put, List.setIfInBounds_toArray, List.set_cons_zero, List.set_cons_succ]
                refine wpAnyH_take (i := 32) (oi := { dst := some 104, op := Go.Op.load 28 (Go.Operand.tmp 10), type := 28, pos := "law.go:68", after := #[{ on := 31, ground := Go.Ground.guard }], guard := some (31, false) }) (v := ?_) rfl (by kernel_rfl) (by kernel_rfl) (by kernel_rfl) (fun _ _ _ h => h) (Or.inl ⟨by rfl, ?_⟩) hHeld ?_
                case refine_2 => (intro w hSw; (try dsimp only at hSw); go_simp <;> with_reducible rfl)
                try simp only [Act.put, List.setIfInBounds_toArray, List.set_cons_zero, List.set_cons_succ]
                refine wpAnyH_take (i := 34) (oi := { dst := some 106, op := Go.Op.move (Go.Operand.tmp 12), type := 4, pos := "law.go:68", after := #[{ on := 31, ground := Go.Ground.guard }], guard := some (31, false) }) (v := ?_) rfl (by kernel_rfl) (by kernel_rfl) (by kernel_rfl) (fun _ _ _ h => h) (Or.inl ⟨by rfl, ?_⟩) hHeld ?_
                case refine_2 => (intro w hSw; (try dsimp only at hSw); go_simp <;> with_reducible rfl)
                try simp only [Act.put, List.setIfInBounds_toArray, List.set_cons_zero, List.set_cons_succ]
                refine wpAnyH_ready (rs := [33]) (by kernel_rfl) (by simp) ?_
                refine AllReadyH.cons (o := { dst := some 105, op := Go.Op.call { callee := Go.Callee.value (Go.Operand.func 13), args := #[Go.Operand.tmp 104], argTypes := #[28] }, type := 4, pos := "law.go:68", after := #[{ on := 32, ground := Go.Ground.data }, { on := 31, ground := Go.Ground.chain }, { on := 31, ground := Go.Ground.guard }], guard := some (31, false) }) rfl (fun KK hK => ?_) AllReadyH.nil
                go_simp
                with_reducible refine (QhN.out _).mono ?_
                rintro x wG ⟨rfl, hb⟩
                go_wp2_with fail
                refine hK.out _ _ (KEEP1.out _ _ hHeld hb) (fun hHeld2 => ?_)
                clear hK hHeld hb
                have hHeld := hHeld2
                clear hHeld2
                try simp only [Act.put, List.setIfInBounds_toArray, List.set_cons_zero, List.set_cons_succ]
                refine wpAnyH_take (i := 35) (oi := { dst := some 107, op := Go.Op.binOp Go.BinOp.neq 4 (Go.Operand.tmp 105) (Go.Operand.tmp 106) 4, type := 4, pos := "law.go:68", after := #[{ on := 33, ground := Go.Ground.data }, { on := 34, ground := Go.Ground.data }, { on := 31, ground := Go.Ground.guard }], guard := some (31, false) }) (v := ?_) rfl (by kernel_rfl) (by kernel_rfl) (by kernel_rfl) (fun _ _ _ h => h) (Or.inl ⟨by rfl, ?_⟩) hHeld ?_
                case refine_2 => (intro w hSw; (try dsimp only at hSw); go_simp <;> with_reducible rfl)
                try simp only [Act.put, List.setIfInBounds_toArray, List.set_cons_zero, List.set_cons_succ]
                refine wpAnyH_take (i := 36) (oi := { dst := some 108, op := Go.Op.pick (Go.Operand.tmp 103) (Go.Operand.const (Go.Value.bool true)) (Go.Operand.tmp 107), type := 4, pos := "law.go:68", after := #[{ on := 31, ground := Go.Ground.data }, { on := 35, ground := Go.Ground.data }], guard := none }) (v := ?_) rfl (by kernel_rfl) (by kernel_rfl) (by kernel_rfl) (fun _ _ _ h => h) (Or.inl ⟨by rfl, ?_⟩) hHeld ?_
                case refine_2 => (intro w hSw; (try dsimp only at hSw); go_simp <;> with_reducible rfl)
                try simp only [Act.put, List.setIfInBounds_toArray, List.set_cons_zero, List.set_cons_succ]
                refine wpAnyH_take (i := 37) (oi := { dst := some 109, op := Go.Op.move (Go.Operand.tmp 108), type := 4, pos := "law.go:68", after := #[{ on := 36, ground := Go.Ground.data }, { on := 33, ground := Go.Ground.chain }], guard := none }) (v := ?_) rfl (by kernel_rfl) (by kernel_rfl) (by kernel_rfl) (fun _ _ _ h => h) (Or.inl ⟨by rfl, ?_⟩) hHeld ?_
                case refine_2 => (intro w hSw; (try dsimp only at hSw); go_simp <;> with_reducible rfl)
                try simp only [Act.put, List.setIfInBounds_toArray, List.set_cons_zero, List.set_cons_succ]
                refine wpAnyH_take (i := 38) (oi := { dst := some 110, op := Go.Op.load 28 (Go.Operand.tmp 10), type := 28, pos := "law.go:68", after := #[{ on := 37, ground := Go.Ground.guard }], guard := some (37, false) }) (v := ?_) rfl (by kernel_rfl) (by kernel_rfl) (by kernel_rfl) (fun _ _ _ h => h) (Or.inl ⟨by rfl, ?_⟩) hHeld ?_
                case refine_2 => (intro w hSw; (try dsimp only at hSw); go_simp <;> with_reducible rfl)
                try simp only [Act.put, List.setIfInBounds_toArray, List.set_cons_zero, List.set_cons_succ]
                refine wpAnyH_take (i := 40) (oi := { dst := some 112, op := Go.Op.fieldAddr 25 (Go.Operand.tmp 7) 1, type := 0, pos := "law.go:68", after := #[{ on := 37, ground := Go.Ground.guard }], guard := some (37, false) }) (v := ?_) rfl (by kernel_rfl) (by kernel_rfl) (by kernel_rfl) (fun _ _ _ h => h) (Or.inl ⟨by rfl, ?_⟩) hHeld ?_
                case refine_2 => (intro w hSw; (try dsimp only at hSw); go_simp <;> with_reducible rfl)
                try simp only [Act.put, List.setIfInBounds_toArray, List.set_cons_zero, List.set_cons_succ]
                refine wpAnyH_take (i := 41) (oi := { dst := some 113, op := Go.Op.load 9 (Go.Operand.tmp 112), type := 9, pos := "law.go:68", after := #[{ on := 40, ground := Go.Ground.data }, { on := 37, ground := Go.Ground.guard }], guard := some (37, false) }) (v := ?_) rfl (by kernel_rfl) (by kernel_rfl) (by kernel_rfl) (fun _ _ _ h => h) (Or.inl ⟨by rfl, ?_⟩) hHeld ?_
                case refine_2 => (intro w hSw; (try dsimp only at hSw); go_simp <;> with_reducible rfl)
                try simp only [Act.put, List.setIfInBounds_toArray, List.set_cons_zero, List.set_cons_succ]
                refine wpAnyH_ready (rs := [39]) (by kernel_rfl) (by simp) ?_
                refine AllReadyH.cons (o := { dst := some 111, op := Go.Op.call { callee := Go.Callee.value (Go.Operand.func 14), args := #[Go.Operand.tmp 110], argTypes := #[28] }, type := 9, pos := "law.go:68", after := #[{ on := 38, ground := Go.Ground.data }, { on := 37, ground := Go.Ground.chain }, { on := 37, ground := Go.Ground.guard }], guard := some (37, false) }) rfl (fun KK hK => ?_) AllReadyH.nil
                go_simp
                with_reducible refine (QhI.out _).mono ?_
                rintro x wH ⟨rfl, hb⟩
                go_wp2_with fail
                refine hK.out _ _ (KEEP1.out _ _ hHeld hb) (fun hHeld2 => ?_)
                clear hK hHeld hb
                have hHeld := hHeld2
                clear hHeld2
                try simp only [Act.put, List.setIfInBounds_toArray, List.set_cons_zero, List.set_cons_succ]
                refine wpAnyH_ready (rs := [42]) (by kernel_rfl) (by simp) ?_
                refine AllReadyH.cons (o := { dst := some 114, op := Go.Op.call { callee := Go.Callee.value (Go.Operand.func 11), args := #[Go.Operand.tmp 113], argTypes := #[9] }, type := 9, pos := "law.go:68", after := #[{ on := 41, ground := Go.Ground.data }, { on := 39, ground := Go.Ground.chain }, { on := 37, ground := Go.Ground.guard }], guard := some (37, false) }) rfl (fun KK hK => ?_) AllReadyH.nil
                go_simp
                with_reducible refine (QhTI.out _).mono ?_
                rintro x wI ⟨rfl, hb⟩
                go_wp2_with fail
                refine hK.out _ _ (KEEP1.out _ _ hHeld hb) (fun hHeld2 => ?_)
                clear hK hHeld hb
                have hHeld := hHeld2
                clear hHeld2
                try simp only [Act.put, List.setIfInBounds_toArray, List.set_cons_zero, List.set_cons_succ]
                refine wpAnyH_take (i := 43) (oi := { dst := some 115, op := Go.Op.binOp Go.BinOp.neq 9 (Go.Operand.tmp 111) (Go.Operand.tmp 114) 9, type := 4, pos := "law.go:68", after := #[{ on := 39, ground := Go.Ground.data }, { on := 42, ground := Go.Ground.data }, { on := 37, ground := Go.Ground.guard }], guard := some (37, false) }) (v := ?_) rfl (by kernel_rfl) (by kernel_rfl) (by kernel_rfl) (fun _ _ _ h => h) (Or.inl ⟨by rfl, ?_⟩) hHeld ?_
                case refine_2 => (intro w hSw; (try dsimp only at hSw); go_simp <;> with_reducible rfl)
                try simp only [Act.put, List.setIfInBounds_toArray, List.set_cons_zero, List.set_cons_succ]
                refine wpAnyH_take (i := 44) (oi := { dst := some 116, op := Go.Op.pick (Go.Operand.tmp 109) (Go.Operand.const (Go.Value.bool true)) (Go.Operand.tmp 115), type := 4, pos := "law.go:68", after := #[{ on := 37, ground := Go.Ground.data }, { on := 43, ground := Go.Ground.data }], guard := none }) (v := ?_) rfl (by kernel_rfl) (by kernel_rfl) (by kernel_rfl) (fun _ _ _ h => h) (Or.inl ⟨by rfl, ?_⟩) hHeld ?_
                case refine_2 => (intro w hSw; (try dsimp only at hSw); go_simp <;> with_reducible rfl)
                try simp only [Act.put, List.setIfInBounds_toArray, List.set_cons_zero, List.set_cons_succ]
                refine wpAnyH_done (by kernel_rfl) ?_ _
                clear bv0 bv1 bv2 bvl
                have H10 : Hid (HeldL w [(w8.heap.size, #[S J, .string g, .int .i64 0]), (w2.heap.size, #[.bool false, S I, .string g])] wI) := Lib.hid (hHeld.2.2.2.2.2.2)
                clear hHeld ALL1 KEEP1 HS1 H9
                have bv0 : wI.cell? ⟨w2.heap.size, 0, none⟩ = some (.bool false) := (H10.out.f (List.Mem.tail _ (List.Mem.head _))).cell 0
                have bv1 : wI.cell? ⟨w2.heap.size, 1, none⟩ = some (S I) := (H10.out.f (List.Mem.tail _ (List.Mem.head _))).cell 1
                have bv2 : wI.cell? ⟨w2.heap.size, 2, none⟩ = some (.string g) := (H10.out.f (List.Mem.tail _ (List.Mem.head _))).cell 2
                have bvl : w2.heap.size < wI.heap.size := (H10.out.f (List.Mem.tail _ (List.Mem.head _))).lt
                have bo0 : wI.cell? ⟨w8.heap.size, 0, none⟩ = some (S J) := (H10.out.f (List.Mem.head _)).cell 0
                have bo1 : wI.cell? ⟨w8.heap.size, 1, none⟩ = some (.string g) := (H10.out.f (List.Mem.head _)).cell 1
                have bo2 : wI.cell? ⟨w8.heap.size, 2, none⟩ = some (.int .i64 0) := (H10.out.f (List.Mem.head _)).cell 2
                have bol : w8.heap.size < wI.heap.size := (H10.out.f (List.Mem.head _)).lt
                go_wp2_with fail
                with_reducible refine (QhT.out _).mono ?_
                rintro x w11 ⟨rfl, hb⟩
                clear bv0 bv1 bv2 bvl bo0 bo1 bo2 bol
                have H11 : Hid (HeldL w [(w8.heap.size, #[S J, .string g, .int .i64 0]), (w2.heap.size, #[.bool false, S I, .string g])] w11) := Lib.hid (HeldL.keep H10.out hb)
                clear H10
                clear hb
                have bo0 : w11.cell? ⟨w8.heap.size, 0, none⟩ = some (S J) := (H11.out.f (List.Mem.head _)).cell 0
                have bo1 : w11.cell? ⟨w8.heap.size, 1, none⟩ = some (.string g) := (H11.out.f (List.Mem.head _)).cell 1
                have bo2 : w11.cell? ⟨w8.heap.size, 2, none⟩ = some (.int .i64 0) := (H11.out.f (List.Mem.head _)).cell 2
                have bol : w8.heap.size < w11.heap.size := (H11.out.f (List.Mem.head _)).lt
                go_wp2_with fail
                with_reducible refine (QhWW.out _).mono ?_
                rintro x w12 ⟨rfl, hb⟩
                clear bo0 bo1 bo2 bol
                have H12 : Hid (HeldL w [(w8.heap.size, #[S J, .string g, .int .i64 0]), (w2.heap.size, #[.bool false, S I, .string g])] w12) := Lib.hid (HeldL.keep H11.out hb)
                clear H11
                clear hb
                have bo0 : w12.cell? ⟨w8.heap.size, 0, none⟩ = some (S J) := (H12.out.f (List.Mem.head _)).cell 0
                have bo1 : w12.cell? ⟨w8.heap.size, 1, none⟩ = some (.string g) := (H12.out.f (List.Mem.head _)).cell 1
                have bo2 : w12.cell? ⟨w8.heap.size, 2, none⟩ = some (.int .i64 0) := (H12.out.f (List.Mem.head _)).cell 2
                have bol : w8.heap.size < w12.heap.size := (H12.out.f (List.Mem.head _)).lt
                go_wp2_with fail
                go_loopw [14, 15] (fun t i wr => ∃ q : Nat, j ≤ q ∧ q ≤ g.size ∧ i = .int .i64 q ∧ t = S (TT q) ∧ HeldL w [(w8.heap.size, #[S J, .string g, .int .i64 0]), (w2.heap.size, #[.bool false, S I, .string g])] wr) (fun _ i _ => g.size - (intOf i).toNat)
                case atStart => exact ⟨j, Nat.le_refl _, hj, rfl, by rw [HT0.out], H12.out⟩
                case round =>
                  clear bo0 bo1 bo2 bol
                  obtain ⟨q, hjq, hq, rfl, rfl, hh⟩ := hrel
                  have HL : Hid (HeldL w [(w8.heap.size, #[S J, .string g, .int .i64 0]), (w2.heap.size, #[.bool false, S I, .string g])] wr) := Lib.hid hh
                  clear hh H12
                  have H13 := HL
                  clear HL
                  have bo0 : wr.cell? ⟨w8.heap.size, 0, none⟩ = some (S J) := (H13.out.f (List.Mem.head _)).cell 0
                  have bo1 : wr.cell? ⟨w8.heap.size, 1, none⟩ = some (.string g) := (H13.out.f (List.Mem.head _)).cell 1
                  have bo2 : wr.cell? ⟨w8.heap.size, 2, none⟩ = some (.int .i64 0) := (H13.out.f (List.Mem.head _)).cell 2
                  have bol : w8.heap.size < wr.heap.size := (H13.out.f (List.Mem.head _)).lt
                  go_wp2_with fail
                  with_reducible refine (QhV2.out _).mono ?_
                  rintro x w14 ⟨rfl, hb⟩
                  clear bo0 bo1 bo2 bol
                  have H14 : Hid (HeldL w [(w8.heap.size, #[S J, .string g, .int .i64 0]), (w2.heap.size, #[.bool false, S I, .string g])] w14) := Lib.hid (HeldL.keep H13.out hb)
                  clear H13
                  clear hb
                  have bo0 : w14.cell? ⟨w8.heap.size, 0, none⟩ = some (S J) := (H14.out.f (List.Mem.head _)).cell 0
                  have bo1 : w14.cell? ⟨w8.heap.size, 1, none⟩ = some (.string g) := (H14.out.f (List.Mem.head _)).cell 1
                  have bo2 : w14.cell? ⟨w8.heap.size, 2, none⟩ = some (.int .i64 0) := (H14.out.f (List.Mem.head _)).cell 2
                  have bol : w8.heap.size < w14.heap.size := (H14.out.f (List.Mem.head _)).lt
                  by_cases hqs : q < g.size
                  · have hqi : (q : Int) < (g.size : Int) := by omega
                    go_wp2_with fail
                    with_reducible refine (HTE1.out q hjq hqs _ (HT.out.below H14.out.bel)).mono ?_
                    rintro x w15 ⟨rfl, hb⟩
                    clear bo0 bo1 bo2 bol
                    have H15 : Hid (HeldL w [(w8.heap.size, #[S J, .string g, .int .i64 0]), (w2.heap.size, #[.bool false, S I, .string g])] w15) := Lib.hid (HeldL.keep H14.out hb)
                    clear H14
                    clear hb
                    go_wp2
                    go_roundw
                    case rel => exact ⟨q + 1, by omega, by omega, by go_num, rfl, H15.out⟩
                    case measure => simp [intOf]; omega
                  · obtain rfl : q = g.size := by omega
                    have hqn : ¬ ((g.size : Int) < (g.size : Int)) := by omega
                    go_wp2_with fail
                    with_reducible refine (QhF.out _).mono ?_
                    rintro x w15 ⟨rfl, hb⟩
                    clear bo0 bo1 bo2 bol
                    have H15 : Hid (HeldL w [(w8.heap.size, #[S J, .string g, .int .i64 0]), (w2.heap.size, #[.bool false, S I, .string g])] w15) := Lib.hid (HeldL.keep H14.out hb)
                    clear H14
                    clear hb
                    have bo0 : w15.cell? ⟨w8.heap.size, 0, none⟩ = some (S J) := (H15.out.f (List.Mem.head _)).cell 0
                    have bo1 : w15.cell? ⟨w8.heap.size, 1, none⟩ = some (.string g) := (H15.out.f (List.Mem.head _)).cell 1
                    have bo2 : w15.cell? ⟨w8.heap.size, 2, none⟩ = some (.int .i64 0) := (H15.out.f (List.Mem.head _)).cell 2
                    have bol : w8.heap.size < w15.heap.size := (H15.out.f (List.Mem.head _)).lt
                    have HFT := HTF1
                    rw [HFT.out]
                    go_wp2
                    go_ret
                    exact ⟨rfl, H15.out.bel⟩

set_option maxHeartbeats 800000 in
theorem parts_n0 (a : Option Addr) (len cap : Nat) (L : List UInt8) (a1 : Option Addr) (len1 cap1 : Nat) (L1 : List UInt8) (n : Int) (w : World) (h1 : 60 < len) :
    Calls Tryd.prog 3 #[.slice a len cap, .slice a1 len1 cap1, .int .i64 n] w fun x w' => x = .returned (.bool true) ∧ Below w.heap.size w w' := by
  go_enter Tryd.func3, Tryd.ntmps3
  go_wp2_with fail
  with_reducible refine (head5 _).mono ?_
  rintro x w1 ⟨rfl, hb⟩
  have H1 : Hid (HeldL w [] w1) := Lib.hid (HeldL.keep (HeldL.refl w) hb)
  clear hb
  go_wp2
  go_ret
  exact ⟨rfl, H1.out.bel⟩

set_option maxHeartbeats 800000 in
theorem parts_n1 (a : Option Addr) (len cap : Nat) (L : List UInt8) (a1 : Option Addr) (len1 cap1 : Nat) (L1 : List UInt8) (n : Int) (w : World) (h1 : len ≤ 60) (h2 : 60 < len1) :
    Calls Tryd.prog 3 #[.slice a len cap, .slice a1 len1 cap1, .int .i64 n] w fun x w' => x = .returned (.bool true) ∧ Below w.heap.size w w' := by
  go_enter Tryd.func3, Tryd.ntmps3
  go_wp2_with fail
  with_reducible refine (head5 _).mono ?_
  rintro x w1 ⟨rfl, hb⟩
  have H1 : Hid (HeldL w [] w1) := Lib.hid (HeldL.keep (HeldL.refl w) hb)
  clear hb
  go_wp2
  go_ret
  exact ⟨rfl, H1.out.bel⟩

end Go.Proofs.YtjobccgpejbchaaDoor
