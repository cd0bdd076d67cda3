/- The walk of the law WireReads. -/
import Derived.Test.YtopcheblhacaeaaWrI
import Derived.Test.YtopcheblhacaeaaWrE
import Derived.Test.YtopcheblhacaeaaWX
namespace Go.Proofs.Ytopcheblhacaeaa
open Go.RowKit Florin
set_option linter.unusedVariables false
set_option linter.unusedSimpArgs false
attribute [local go_sem ↓] Go.wp_at_zero Go.wp_at_succ
theorem and_mask (n : Int) (M : Nat) (hM : M ≤ 9223372036854775807) : ∃ k : Nat, k ≤ M ∧ bits .and .i64 n (M : Int) = (k : Int) := by
  refine ⟨(BitVec.ofInt 64 n &&& BitVec.ofInt 64 (M : Int)).toNat, ?_, ?_⟩
  · rw [BitVec.toNat_and]
    have : (BitVec.ofInt 64 (M : Int)).toNat = M := by rw [BitVec.toNat_ofInt]; omega
    rw [this]
    exact Nat.and_le_right
  · show IntKind.i64.wrap ((BitVec.ofInt 64 n &&& BitVec.ofInt 64 (M : Int)).toNat : Int) = _
    have h1 : (BitVec.ofInt 64 n &&& BitVec.ofInt 64 (M : Int)).toNat ≤ M := by
      rw [BitVec.toNat_and]
      have : (BitVec.ofInt 64 (M : Int)).toNat = M := by rw [BitVec.toNat_ofInt]; omega
      rw [this]
      exact Nat.and_le_right
    exact IntWalk.i64_in _ (by omega)
theorem ext_mid (s : ByteArray) (i n : Nat) : (s.extract i (i + n)).data.toList = (s.data.toList.drop i).take n := by
  rw [ByteArray.data_extract]
  simp
theorem S_mid (s : ByteArray) (i n : Nat) : S ((s.data.toList.drop i).take n) = .string (s.extract i (i + n)) := by rw [← ext_mid, S_list]
theorem drop_nil (s : ByteArray) (i : Nat) (h : i ≤ s.size) : (s.data.toList.drop i).isEmpty = decide (i = s.size) := by
  rw [Bool.eq_iff_iff, List.isEmpty_iff, List.drop_eq_nil_iff, size_list, decide_eq_true_iff]
  omega

set_option maxRecDepth 100000 in
set_option maxHeartbeats 6400000 in
theorem wireReads_walk (s : ByteArray) (L : List Int) (v : Value) (w : World) (_hs : s.size ≤ maxLen) (hin : InX w 1 intC v L ∧ ∀ x ∈ L, (Lit.int .i64 x).wf = true) :
    Calls Try.prog 4 #[.string s, v] w fun x w' => x = .returned (.bool true) ∧ Below w.heap.size w w' := by
  obtain ⟨⟨a, cap, rfl, hcap, hmax, hcell⟩, _⟩ := hin
  have HCELL := Lib.hid hcell
  unfold maxLen at hmax
  clear hcell
  by_cases hbig : (200 : Int) < (s.size : Int)
  · go_enter Try.func4, Try.ntmps4
    go_wp2_with fail
    with_reducible refine (head14 _).mono ?_
    rintro x w1 ⟨rfl, hb⟩
    go_wp2
    go_ret
    exact ⟨rfl, hb⟩
  by_cases hbig2 : (40 : Int) < (L.length : Int)
  · go_enter Try.func4, Try.ntmps4
    go_wp2_with fail
    with_reducible refine (head14 _).mono ?_
    rintro x w1 ⟨rfl, hb⟩
    go_wp2
    go_ret
    exact ⟨rfl, hb⟩
  have hsz : s.size ≤ 200 := by omega
  have hLl : L.length ≤ 40 := by omega
  clear hbig hbig2
  go_enter Try.func4, Try.ntmps4
  go_wp2_with fail
  with_reducible refine (head14 _).mono ?_
  rintro x w1 ⟨rfl, hb⟩
  have B1 := Lib.hid hb
  clear hb
  go_wp2_with fail
  have HS := S_list s
  have hnew := new_as s.data.toList w1
  rw [HS] at hnew
  have HNEW := Lib.hid hnew
  clear hnew HS
  with_reducible refine (HNEW.out).mono ?_
  rintro x w2 ⟨rfl, hr, hb⟩
  have R2 := Lib.hid hr
  have B2 := Lib.hid (B1.out.trans (hb.mono B1.out.size))
  have hr0 : w.heap.size ≤ w1.heap.size := B1.out.size
  clear hr hb HNEW
  generalize w1.heap.size = r at *
  go_wp2_with fail
  go_loopw [6, 7, 29] (fun x y i wr => ∃ (k p : Nat), k ≤ L.length ∧ i = .int .i64 (k : Int) ∧ p ≤ s.size ∧ x = .int .i64 (p : Int) ∧ y = .bool true ∧ Rdr wr r (s.data.toList.drop p, false) ∧ Below w.heap.size w wr) (fun _ _ i _ => L.length - (intOf i).toNat)
  case atStart => exact ⟨0, 0, Nat.zero_le _, rfl, Nat.zero_le _, rfl, rfl, R2.out, B2.out⟩
  case round =>
    obtain ⟨k, p, hk, rfl, hp, rfl, rfl, hrd, hb⟩ := hrel
    have RD := Lib.hid hrd
    have BB := Lib.hid hb
    have hds : (s.data.toList.drop p).length ≤ 1000000000 := by rw [List.length_drop, size_list]; omega
    have HDS := Lib.hid hds
    clear hrd hb R2 B2 hds
    by_cases hlt : k < L.length
    · obtain ⟨b, off, rfl, hblt, hc⟩ := HCELL.out (by omega)
      have hcx : wr.cell? ⟨b, off + k, none⟩ = some (.int .i64 L[k]) := by
        have h := hc k hlt 0 (by decide)
        rw [Nat.mul_one, Nat.add_zero] at h
        exact (BB.out.cell (p := ⟨b, off + k, none⟩) hblt).trans h
      clear hc
      obtain ⟨K, hK⟩ : ∃ K, K = L[k] := ⟨_, rfl⟩
      rw [← hK] at hcx
      clear hK
      obtain ⟨m, hm3, hm⟩ := and_mask K 3 (by decide)
      obtain ⟨n, hn⟩ : ∃ n, n = (rdV (s.data.toList.drop p)).1 := ⟨_, rfl⟩
      obtain ⟨z, hz⟩ : ∃ z, z = (rdV (s.data.toList.drop p)).2 := ⟨_, rfl⟩
      have hle := rdV_le (s.data.toList.drop p)
      rw [← hn, ← hz, List.length_drop, size_list] at hle
      obtain ⟨hle1, hle2, hle3⟩ := hle
      have HEN : Hid ((rdV (s.extract p s.size).data.toList).1 = n ∧ (rdV (s.extract p s.size).data.toList).2 = z) := Lib.hid (by rw [ext_list, hn, hz]; exact ⟨rfl, rfl⟩)
      have HNO : Hid (z = 0 → numR (s.data.toList.drop p, false) = (0, badR)) := Lib.hid (fun h => numR_no (by show (rdV (s.data.toList.drop p)).2 = 0; rw [← hz]; exact h))
      have HYES : Hid (¬ z = 0 → numR (s.data.toList.drop p, false) = (n, (s.data.toList.drop (p + z), false))) := Lib.hid (fun h => by rw [numR_yes (by show ¬ (rdV (s.data.toList.drop p)).2 = 0; rw [← hz]; exact h)]; show ((rdV (s.data.toList.drop p)).1, ((s.data.toList.drop p).drop (rdV (s.data.toList.drop p)).2, false)) = _; rw [← hn, ← hz, List.drop_drop])
      have hxs : (s.extract p s.size).size ≤ maxLen := by rw [← size_list, ext_list, List.length_drop, size_list]; unfold maxLen; omega
      have HXS := Lib.hid hxs
      have HLE3 := Lib.hid hle3
      clear hn hz hxs hle3
      have hm4 : bits .and .i64 K 3 = 3 ∨ bits .and .i64 K 3 = 0 ∨ bits .and .i64 K 3 = 1 ∨ bits .and .i64 K 3 = 2 := by
        have hm5 : bits .and .i64 K 3 = (m : Int) := hm
        omega
      clear hm hm3 m
      rcases hm4 with hm | hm | hm | hm
      · obtain ⟨u, hu32, hu⟩ := and_mask K 32 (by decide)
        rcases (show z = 0 ∨ 0 < z by omega) with hz0 | hz0
        all_goals
         have hzb : ((z : Int) == 0) = decide (z = 0) := by rw [Bool.eq_iff_iff]; simp
         first | rw [decide_eq_true hz0] at hzb | rw [decide_eq_false (by omega)] at hzb
         have HZ0 := Lib.hid hz0
         clear hz0
         by_cases h32 : u = 32
         · have hu' : bits .and .i64 K 32 = 32 := by rw [h32] at hu; exact hu
           clear hu hu32 h32 u
           go_wp2_with fail
           with_reducible refine (number_as (s.extract p s.size) _ HXS.out).mono ?_
           rintro x wn ⟨rfl, rfl⟩
           rw [HEN.out.1, HEN.out.2]
           go_wp2_with fail
           with_reducible refine (fail_as r _ _ RD.out).mono ?_
           rintro x w3 ⟨rfl, hr, hg⟩
           have R3 := Lib.hid hr
           have B3 := Lib.hid (below_grown BB.out BB.out.size hr0 hg)
           clear hr hg RD BB
           go_wp2_with fail
           with_reducible refine (ok_as r [] true _ R3.out).mono ?_
           rintro x wn ⟨rfl, rfl⟩
           go_wp2_with fail
           with_reducible refine (done_as r [] true _ R3.out).mono ?_
           rintro x wn ⟨rfl, rfl⟩
           go_wp2_with fail
           with_reducible refine (ok_as r [] true _ R3.out).mono ?_
           rintro x wn ⟨rfl, rfl⟩
           go_wp2_with fail
           with_reducible refine (done_as r [] true _ R3.out).mono ?_
           rintro x wn ⟨rfl, rfl⟩
           go_wp2_with fail
           with_reducible refine (rnum_as r badR _ R3.out (by decide)).mono ?_
           rw [numR_bad]
           rintro x wx ⟨rfl, hr, hg⟩
           have RX := Lib.hid hr
           have BX := Lib.hid (below_grown B3.out B3.out.size hr0 hg)
           clear hr hg
           go_wp2_with fail
           with_reducible refine (rtext_as r badR _ RX.out (by decide)).mono ?_
           rw [textR_bad]
           rintro x wy ⟨rfl, hr, hg⟩
           have RY := Lib.hid hr
           have BY := Lib.hid (below_grown BX.out BX.out.size hr0 hg)
           clear hr hg RX
           go_wp2_with fail
           with_reducible refine (rcnt_as r badR 9 _ RY.out (by decide)).mono ?_
           rw [cntR_bad]
           rintro x wz ⟨rfl, hr, hg⟩
           have BZ := Lib.hid (below_grown BY.out BY.out.size hr0 hg)
           clear hr hg RY
           go_wp2
           go_ret
           exact ⟨rfl, BZ.out⟩
         · have hub : ((u : Int) == 32) = false := by rw [beq_eq_false_iff_ne]; omega
           have hu' : bits .and .i64 K 32 = (u : Int) := hu
           clear hu
           go_wp2_with fail
           with_reducible refine (number_as (s.extract p s.size) _ HXS.out).mono ?_
           rintro x wn ⟨rfl, rfl⟩
           rw [HEN.out.1, HEN.out.2]
           have hq : p ≤ s.size := by omega
           have HDE := Lib.hid (drop_nil s (p) hq)
           rcases (show p = s.size ∨ p < s.size by omega) with he | he
           · have hbq : (((p : Nat) : Int) == (s.size : Int)) = true := by simp [he]
             push_cast at hbq
             have HE := Lib.hid he
             clear he
             go_wp2_with fail
             with_reducible refine (ok_as r _ false _ RD.out).mono ?_
             rintro x wn ⟨rfl, rfl⟩
             go_wp2_with fail
             with_reducible refine (done_as r _ false _ RD.out).mono ?_
             rintro x wn ⟨rfl, rfl⟩
             rw [HDE.out, decide_eq_true HE.out]
             go_wp2
             all_goals
               go_roundw
               case rel => exact ⟨k + 1, p, by omega, by go_num, hq, by go_num, rfl, RD.out, BB.out⟩
               case measure => simp [intOf]; omega
           · have HE := Lib.hid (show ¬ p = s.size by omega)
             clear he
             go_wp2_with fail
             with_reducible refine (ok_as r _ false _ RD.out).mono ?_
             rintro x wn ⟨rfl, rfl⟩
             go_wp2_with fail
             with_reducible refine (done_as r _ false _ RD.out).mono ?_
             rintro x wn ⟨rfl, rfl⟩
             rw [HDE.out, decide_eq_false HE.out]
             go_wp2
             all_goals
               go_roundw
               case rel => exact ⟨k + 1, p, by omega, by go_num, hq, by go_num, rfl, RD.out, BB.out⟩
               case measure => simp [intOf]; omega
      · rcases (show z = 0 ∨ 0 < z by omega) with hz0 | hz0
        · have hzb : ((z : Int) == 0) = true := by simp [hz0]
          have HR := Lib.hid (HNO.out hz0)
          have HN0 := Lib.hid (HLE3.out hz0)
          clear hz0
          go_wp2_with fail
          with_reducible refine (number_as (s.extract p s.size) _ HXS.out).mono ?_
          rintro x wn ⟨rfl, rfl⟩
          rw [HEN.out.1, HEN.out.2]
          go_wp2_with fail
          with_reducible refine (rnum_as r _ _ RD.out HDS.out).mono ?_
          rw [HR.out]
          rintro x w3 ⟨rfl, hr, hg⟩
          have R3 := Lib.hid hr
          have B3 := Lib.hid (below_grown BB.out BB.out.size hr0 hg)
          clear hr hg RD BB
          go_wp2_with fail
          with_reducible refine (ok_as r [] true _ R3.out).mono ?_
          rintro x wn ⟨rfl, rfl⟩
          go_wp2_with fail
          with_reducible refine (done_as r [] true _ R3.out).mono ?_
          rintro x wn ⟨rfl, rfl⟩
          go_wp2_with fail
          with_reducible refine (ok_as r [] true _ R3.out).mono ?_
          rintro x wn ⟨rfl, rfl⟩
          go_wp2_with fail
          with_reducible refine (done_as r [] true _ R3.out).mono ?_
          rintro x wn ⟨rfl, rfl⟩
          go_wp2_with fail
          with_reducible refine (rnum_as r badR _ R3.out (by decide)).mono ?_
          rw [numR_bad]
          rintro x wx ⟨rfl, hr, hg⟩
          have RX := Lib.hid hr
          have BX := Lib.hid (below_grown B3.out B3.out.size hr0 hg)
          clear hr hg
          go_wp2_with fail
          with_reducible refine (rtext_as r badR _ RX.out (by decide)).mono ?_
          rw [textR_bad]
          rintro x wy ⟨rfl, hr, hg⟩
          have RY := Lib.hid hr
          have BY := Lib.hid (below_grown BX.out BX.out.size hr0 hg)
          clear hr hg RX
          go_wp2_with fail
          with_reducible refine (rcnt_as r badR 9 _ RY.out (by decide)).mono ?_
          rw [cntR_bad]
          rintro x wz ⟨rfl, hr, hg⟩
          have BZ := Lib.hid (below_grown BY.out BY.out.size hr0 hg)
          clear hr hg RY
          go_wp2
          go_ret
          exact ⟨rfl, BZ.out⟩
        · have hzb : ((z : Int) == 0) = false := by simp; omega
          have HR := Lib.hid (HYES.out (by omega))
          go_wp2_with fail
          with_reducible refine (number_as (s.extract p s.size) _ HXS.out).mono ?_
          rintro x wn ⟨rfl, rfl⟩
          rw [HEN.out.1, HEN.out.2]
          go_wp2_with fail
          with_reducible refine (rnum_as r _ _ RD.out HDS.out).mono ?_
          rw [HR.out]
          rintro x w3 ⟨rfl, hr, hg⟩
          have R3 := Lib.hid hr
          have B3 := Lib.hid (below_grown BB.out BB.out.size hr0 hg)
          clear hr hg RD BB
          have hq : p + z ≤ s.size := by omega
          have HDE := Lib.hid (drop_nil s (p + z) hq)
          rcases (show p + z = s.size ∨ p + z < s.size by omega) with he | he
          · have hbq : (((p + z : Nat) : Int) == (s.size : Int)) = true := by simp [he]
            push_cast at hbq
            have HE := Lib.hid he
            clear he
            go_wp2_with fail
            with_reducible refine (ok_as r _ false _ R3.out).mono ?_
            rintro x wn ⟨rfl, rfl⟩
            go_wp2_with fail
            with_reducible refine (done_as r _ false _ R3.out).mono ?_
            rintro x wn ⟨rfl, rfl⟩
            rw [HDE.out, decide_eq_true HE.out]
            go_wp2
            all_goals
              go_roundw
              case rel => exact ⟨k + 1, p + z, by omega, by go_num, hq, by go_num, rfl, R3.out, B3.out⟩
              case measure => simp [intOf]; omega
          · have HE := Lib.hid (show ¬ p + z = s.size by omega)
            clear he
            go_wp2_with fail
            with_reducible refine (ok_as r _ false _ R3.out).mono ?_
            rintro x wn ⟨rfl, rfl⟩
            go_wp2_with fail
            with_reducible refine (done_as r _ false _ R3.out).mono ?_
            rintro x wn ⟨rfl, rfl⟩
            rw [HDE.out, decide_eq_false HE.out]
            go_wp2
            all_goals
              go_roundw
              case rel => exact ⟨k + 1, p + z, by omega, by go_num, hq, by go_num, rfl, R3.out, B3.out⟩
              case measure => simp [intOf]; omega
      · rcases (show z = 0 ∨ 0 < z by omega) with hz0 | hz0
        · have hzb : ((z : Int) == 0) = true := by simp [hz0]
          have HR : Hid (textR (s.data.toList.drop p, false) = ([], badR)) := Lib.hid (by rw [textR_yes (by rw [HNO.out hz0]; decide), HNO.out hz0]; rfl)
          clear hz0
          go_wp2_with fail
          with_reducible refine (number_as (s.extract p s.size) _ HXS.out).mono ?_
          rintro x wn ⟨rfl, rfl⟩
          rw [HEN.out.1, HEN.out.2]
          go_wp2_with fail
          with_reducible refine (rtext_as r _ _ RD.out HDS.out).mono ?_
          rw [HR.out]
          rintro x w3 ⟨rfl, hr, hg⟩
          have R3 := Lib.hid hr
          have B3 := Lib.hid (below_grown BB.out BB.out.size hr0 hg)
          clear hr hg RD BB
          go_wp2_with fail
          with_reducible refine (ok_as r [] true _ R3.out).mono ?_
          rintro x wn ⟨rfl, rfl⟩
          go_wp2_with fail
          with_reducible refine (done_as r [] true _ R3.out).mono ?_
          rintro x wn ⟨rfl, rfl⟩
          go_wp2_with fail
          with_reducible refine (ok_as r [] true _ R3.out).mono ?_
          rintro x wn ⟨rfl, rfl⟩
          go_wp2_with fail
          with_reducible refine (done_as r [] true _ R3.out).mono ?_
          rintro x wn ⟨rfl, rfl⟩
          go_wp2_with fail
          with_reducible refine (rnum_as r badR _ R3.out (by decide)).mono ?_
          rw [numR_bad]
          rintro x wx ⟨rfl, hr, hg⟩
          have RX := Lib.hid hr
          have BX := Lib.hid (below_grown B3.out B3.out.size hr0 hg)
          clear hr hg
          go_wp2_with fail
          with_reducible refine (rtext_as r badR _ RX.out (by decide)).mono ?_
          rw [textR_bad]
          rintro x wy ⟨rfl, hr, hg⟩
          have RY := Lib.hid hr
          have BY := Lib.hid (below_grown BX.out BX.out.size hr0 hg)
          clear hr hg RX
          go_wp2_with fail
          with_reducible refine (rcnt_as r badR 9 _ RY.out (by decide)).mono ?_
          rw [cntR_bad]
          rintro x wz ⟨rfl, hr, hg⟩
          have BZ := Lib.hid (below_grown BY.out BY.out.size hr0 hg)
          clear hr hg RY
          go_wp2
          go_ret
          exact ⟨rfl, BZ.out⟩
        · have hzb : ((z : Int) == 0) = false := by simp; omega
          have hY := HYES.out (by omega)
          have hll : (s.data.toList.drop (p + z)).length = s.size - (p + z) := by rw [List.length_drop, size_list]
          by_cases hfit : n ≤ s.size - p - z
          · have HR : Hid (textR (s.data.toList.drop p, false) = ((s.data.toList.drop (p + z)).take n, (s.data.toList.drop (p + z + n), false))) := Lib.hid (by rw [textR_yes (by rw [hY]; show ¬ (s.data.toList.drop (p + z)).length < n; omega), hY]; show ((s.data.toList.drop (p + z)).take n, ((s.data.toList.drop (p + z)).drop n, false)) = _; rw [List.drop_drop])
            have hfi : (n : Int) ≤ (s.size : Int) - (p : Int) - (z : Int) := by omega
            clear hY hll
            go_wp2_with fail
            with_reducible refine (number_as (s.extract p s.size) _ HXS.out).mono ?_
            rintro x wn ⟨rfl, rfl⟩
            rw [HEN.out.1, HEN.out.2]
            go_wp2_with fail
            with_reducible refine (rtext_as r _ _ RD.out HDS.out).mono ?_
            rw [HR.out]
            rw [S_mid]
            rintro x w3 ⟨rfl, hr, hg⟩
            have R3 := Lib.hid hr
            have B3 := Lib.hid (below_grown BB.out BB.out.size hr0 hg)
            clear hr hg RD BB
            have hq : p + z + n ≤ s.size := by omega
            have HDE := Lib.hid (drop_nil s (p + z + n) hq)
            rcases (show p + z + n = s.size ∨ p + z + n < s.size by omega) with he | he
            · have hbq : (((p + z + n : Nat) : Int) == (s.size : Int)) = true := by simp [he]
              push_cast at hbq
              have HE := Lib.hid he
              clear he
              go_wp2_with fail
              with_reducible refine (ok_as r _ false _ R3.out).mono ?_
              rintro x wn ⟨rfl, rfl⟩
              go_wp2_with fail
              with_reducible refine (done_as r _ false _ R3.out).mono ?_
              rintro x wn ⟨rfl, rfl⟩
              rw [HDE.out, decide_eq_true HE.out]
              go_wp2
              all_goals
                go_roundw
                case rel => exact ⟨k + 1, p + z + n, by omega, by go_num, hq, by go_num, rfl, R3.out, B3.out⟩
                case measure => simp [intOf]; omega
            · have HE := Lib.hid (show ¬ p + z + n = s.size by omega)
              clear he
              go_wp2_with fail
              with_reducible refine (ok_as r _ false _ R3.out).mono ?_
              rintro x wn ⟨rfl, rfl⟩
              go_wp2_with fail
              with_reducible refine (done_as r _ false _ R3.out).mono ?_
              rintro x wn ⟨rfl, rfl⟩
              rw [HDE.out, decide_eq_false HE.out]
              go_wp2
              all_goals
                go_roundw
                case rel => exact ⟨k + 1, p + z + n, by omega, by go_num, hq, by go_num, rfl, R3.out, B3.out⟩
                case measure => simp [intOf]; omega
          · have HR : Hid (textR (s.data.toList.drop p, false) = ([], badR)) := Lib.hid (textR_no (by rw [hY]; show (s.data.toList.drop (p + z)).length < n; omega))
            have hfi : ¬ (n : Int) ≤ (s.size : Int) - (p : Int) - (z : Int) := by omega
            clear hY hll
            go_wp2_with fail
            with_reducible refine (number_as (s.extract p s.size) _ HXS.out).mono ?_
            rintro x wn ⟨rfl, rfl⟩
            rw [HEN.out.1, HEN.out.2]
            go_wp2_with fail
            with_reducible refine (rtext_as r _ _ RD.out HDS.out).mono ?_
            rw [HR.out]
            rintro x w3 ⟨rfl, hr, hg⟩
            have R3 := Lib.hid hr
            have B3 := Lib.hid (below_grown BB.out BB.out.size hr0 hg)
            clear hr hg RD BB
            go_wp2_with fail
            with_reducible refine (ok_as r [] true _ R3.out).mono ?_
            rintro x wn ⟨rfl, rfl⟩
            go_wp2_with fail
            with_reducible refine (done_as r [] true _ R3.out).mono ?_
            rintro x wn ⟨rfl, rfl⟩
            go_wp2_with fail
            with_reducible refine (ok_as r [] true _ R3.out).mono ?_
            rintro x wn ⟨rfl, rfl⟩
            go_wp2_with fail
            with_reducible refine (done_as r [] true _ R3.out).mono ?_
            rintro x wn ⟨rfl, rfl⟩
            go_wp2_with fail
            with_reducible refine (rnum_as r badR _ R3.out (by decide)).mono ?_
            rw [numR_bad]
            rintro x wx ⟨rfl, hr, hg⟩
            have RX := Lib.hid hr
            have BX := Lib.hid (below_grown B3.out B3.out.size hr0 hg)
            clear hr hg
            go_wp2_with fail
            with_reducible refine (rtext_as r badR _ RX.out (by decide)).mono ?_
            rw [textR_bad]
            rintro x wy ⟨rfl, hr, hg⟩
            have RY := Lib.hid hr
            have BY := Lib.hid (below_grown BX.out BX.out.size hr0 hg)
            clear hr hg RX
            go_wp2_with fail
            with_reducible refine (rcnt_as r badR 9 _ RY.out (by decide)).mono ?_
            rw [cntR_bad]
            rintro x wz ⟨rfl, hr, hg⟩
            have BZ := Lib.hid (below_grown BY.out BY.out.size hr0 hg)
            clear hr hg RY
            go_wp2
            go_ret
            exact ⟨rfl, BZ.out⟩
      · rcases (show z = 0 ∨ 0 < z by omega) with hz0 | hz0
        · have hzb : ((z : Int) == 0) = true := by simp [hz0]
          have HR : Hid (∀ M : Int, cntR (s.data.toList.drop p, false) M = (0, badR)) := Lib.hid (fun M => by
            by_cases h : M < ((numR (s.data.toList.drop p, false)).1 : Int)
            · exact cntR_no h
            · rw [cntR_yes h, HNO.out hz0])
          clear hz0
          go_wp2_with fail
          with_reducible refine (number_as (s.extract p s.size) _ HXS.out).mono ?_
          rintro x wn ⟨rfl, rfl⟩
          rw [HEN.out.1, HEN.out.2]
          go_wp2_with fail
          with_reducible refine (rcnt_as r _ _ _ RD.out HDS.out).mono ?_
          rw [HR.out]
          rintro x w3 ⟨rfl, hr, hg⟩
          have R3 := Lib.hid hr
          have B3 := Lib.hid (below_grown BB.out BB.out.size hr0 hg)
          clear hr hg RD BB
          go_wp2_with fail
          with_reducible refine (ok_as r [] true _ R3.out).mono ?_
          rintro x wn ⟨rfl, rfl⟩
          go_wp2_with fail
          with_reducible refine (done_as r [] true _ R3.out).mono ?_
          rintro x wn ⟨rfl, rfl⟩
          go_wp2_with fail
          with_reducible refine (ok_as r [] true _ R3.out).mono ?_
          rintro x wn ⟨rfl, rfl⟩
          go_wp2_with fail
          with_reducible refine (done_as r [] true _ R3.out).mono ?_
          rintro x wn ⟨rfl, rfl⟩
          go_wp2_with fail
          with_reducible refine (rnum_as r badR _ R3.out (by decide)).mono ?_
          rw [numR_bad]
          rintro x wx ⟨rfl, hr, hg⟩
          have RX := Lib.hid hr
          have BX := Lib.hid (below_grown B3.out B3.out.size hr0 hg)
          clear hr hg
          go_wp2_with fail
          with_reducible refine (rtext_as r badR _ RX.out (by decide)).mono ?_
          rw [textR_bad]
          rintro x wy ⟨rfl, hr, hg⟩
          have RY := Lib.hid hr
          have BY := Lib.hid (below_grown BX.out BX.out.size hr0 hg)
          clear hr hg RX
          go_wp2_with fail
          with_reducible refine (rcnt_as r badR 9 _ RY.out (by decide)).mono ?_
          rw [cntR_bad]
          rintro x wz ⟨rfl, hr, hg⟩
          have BZ := Lib.hid (below_grown BY.out BY.out.size hr0 hg)
          clear hr hg RY
          go_wp2
          go_ret
          exact ⟨rfl, BZ.out⟩
        · have hzb : ((z : Int) == 0) = false := by simp; omega
          have hY := HYES.out (by omega)
          by_cases hfit : (n : Int) ≤ K / 4
          · have HR : Hid (cntR (s.data.toList.drop p, false) (K / 4) = (n, (s.data.toList.drop (p + z), false))) := Lib.hid (by rw [cntR_yes (by rw [hY]; show ¬ K / 4 < (n : Int); omega), hY])
            clear hY
            go_wp2_with fail
            with_reducible refine (number_as (s.extract p s.size) _ HXS.out).mono ?_
            rintro x wn ⟨rfl, rfl⟩
            rw [HEN.out.1, HEN.out.2]
            go_wp2_with fail
            with_reducible refine (rcnt_as r _ _ _ RD.out HDS.out).mono ?_
            rw [HR.out]
            rintro x w3 ⟨rfl, hr, hg⟩
            have R3 := Lib.hid hr
            have B3 := Lib.hid (below_grown BB.out BB.out.size hr0 hg)
            clear hr hg RD BB
            have hq : p + z ≤ s.size := by omega
            have HDE := Lib.hid (drop_nil s (p + z) hq)
            rcases (show p + z = s.size ∨ p + z < s.size by omega) with he | he
            · have hbq : (((p + z : Nat) : Int) == (s.size : Int)) = true := by simp [he]
              push_cast at hbq
              have HE := Lib.hid he
              clear he
              go_wp2_with fail
              with_reducible refine (ok_as r _ false _ R3.out).mono ?_
              rintro x wn ⟨rfl, rfl⟩
              go_wp2_with fail
              with_reducible refine (done_as r _ false _ R3.out).mono ?_
              rintro x wn ⟨rfl, rfl⟩
              rw [HDE.out, decide_eq_true HE.out]
              go_wp2
              all_goals
                go_roundw
                case rel => exact ⟨k + 1, p + z, by omega, by go_num, hq, by go_num, rfl, R3.out, B3.out⟩
                case measure => simp [intOf]; omega
            · have HE := Lib.hid (show ¬ p + z = s.size by omega)
              clear he
              go_wp2_with fail
              with_reducible refine (ok_as r _ false _ R3.out).mono ?_
              rintro x wn ⟨rfl, rfl⟩
              go_wp2_with fail
              with_reducible refine (done_as r _ false _ R3.out).mono ?_
              rintro x wn ⟨rfl, rfl⟩
              rw [HDE.out, decide_eq_false HE.out]
              go_wp2
              all_goals
                go_roundw
                case rel => exact ⟨k + 1, p + z, by omega, by go_num, hq, by go_num, rfl, R3.out, B3.out⟩
                case measure => simp [intOf]; omega
          · have HR : Hid (cntR (s.data.toList.drop p, false) (K / 4) = (0, badR)) := Lib.hid (cntR_no (by rw [hY]; show K / 4 < (n : Int); omega))
            clear hY
            go_wp2_with fail
            with_reducible refine (number_as (s.extract p s.size) _ HXS.out).mono ?_
            rintro x wn ⟨rfl, rfl⟩
            rw [HEN.out.1, HEN.out.2]
            go_wp2_with fail
            with_reducible refine (rcnt_as r _ _ _ RD.out HDS.out).mono ?_
            rw [HR.out]
            rintro x w3 ⟨rfl, hr, hg⟩
            have R3 := Lib.hid hr
            have B3 := Lib.hid (below_grown BB.out BB.out.size hr0 hg)
            clear hr hg RD BB
            go_wp2_with fail
            with_reducible refine (ok_as r [] true _ R3.out).mono ?_
            rintro x wn ⟨rfl, rfl⟩
            go_wp2_with fail
            with_reducible refine (done_as r [] true _ R3.out).mono ?_
            rintro x wn ⟨rfl, rfl⟩
            go_wp2_with fail
            with_reducible refine (ok_as r [] true _ R3.out).mono ?_
            rintro x wn ⟨rfl, rfl⟩
            go_wp2_with fail
            with_reducible refine (done_as r [] true _ R3.out).mono ?_
            rintro x wn ⟨rfl, rfl⟩
            go_wp2_with fail
            with_reducible refine (rnum_as r badR _ R3.out (by decide)).mono ?_
            rw [numR_bad]
            rintro x wx ⟨rfl, hr, hg⟩
            have RX := Lib.hid hr
            have BX := Lib.hid (below_grown B3.out B3.out.size hr0 hg)
            clear hr hg
            go_wp2_with fail
            with_reducible refine (rtext_as r badR _ RX.out (by decide)).mono ?_
            rw [textR_bad]
            rintro x wy ⟨rfl, hr, hg⟩
            have RY := Lib.hid hr
            have BY := Lib.hid (below_grown BX.out BX.out.size hr0 hg)
            clear hr hg RX
            go_wp2_with fail
            with_reducible refine (rcnt_as r badR 9 _ RY.out (by decide)).mono ?_
            rw [cntR_bad]
            rintro x wz ⟨rfl, hr, hg⟩
            have BZ := Lib.hid (below_grown BY.out BY.out.size hr0 hg)
            clear hr hg RY
            go_wp2
            go_ret
            exact ⟨rfl, BZ.out⟩
    · have HDE := Lib.hid (drop_nil s p hp)
      clear hk
      go_wp2_with fail
      with_reducible refine (done_as r _ false _ RD.out).mono ?_
      rintro x wn ⟨rfl, rfl⟩
      rw [HDE.out]
      go_wp2
      go_ret
      exact ⟨ret_bool (by simp; rw [Bool.eq_iff_iff, decide_eq_true_iff, beq_iff_eq]; omega), BB.out⟩
end Go.Proofs.Ytopcheblhacaeaa
