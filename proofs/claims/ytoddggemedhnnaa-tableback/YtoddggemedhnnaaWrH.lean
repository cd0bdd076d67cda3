/- What the law lays of a number by the page. -/
import Derived.Test.YtoddggemedhnnaaWrD
import Derived.Deep.RegionWith
namespace Go.Proofs.Ytoddggemedhnnaa
open Go.RowKit Florin
set_option linter.unusedVariables false
set_option linter.unusedSimpArgs false
attribute [local go_sem ↓] Go.wp_at_zero Go.wp_at_succ
theorem conv_box {W : World} {g : Nat} {z : Int} (c : UInt8) (h : BoxT W g #[.int .u8 z] 5) (hz : z = c.toNat) : (convert 88 9 (.slice (some ⟨g, 0, none⟩) 1 1)).run Try.prog W = .ok (S [c]) W := by
  subst hz
  refine run_convert_bytes_back W 88 9 5 ⟨g, 0, none⟩ 1 [c] Try.underlying88 Try.underlying5 Try.underlying9 ?_
  intro j hj
  obtain rfl : j = 0 := by simpa using hj
  have e : (⟨g, 0, none⟩ : Addr).add 0 = ⟨g, 0, none⟩ := by simp [Addr.add]
  rw [e, h.cell 0]
  rfl
set_option maxRecDepth 100000 in
set_option maxHeartbeats 1600000 in
theorem lnum_as : ∀ (k : Nat) (n : Int) (w : World), n < 128 ^ (k + 1) → n ≤ 9223372036854775807 →
    Calls Try.prog 19 #[.int .i64 n] w fun e w' => e = .returned (S (vnum n.toNat)) ∧ Below w.heap.size w w' := by
  intro k
  induction k with
  | zero =>
    intro n w hk hn
    have hlt : n < 128 := by simpa using hk
    have HV := Lib.hid (vnum_lt (n := n.toNat) (by omega))
    have hcv := conv_one w (UInt8.ofNat n.toNat) (max n 0) (by rw [byte_nat (by omega)]; omega)
    rcases (show n < 0 ∨ 0 ≤ n by omega) with h0 | h0
    · rw [show max n 0 = 0 by omega] at hcv
      go_enter Try.func19, Try.ntmps19
      go_wp2
      go_ret
      exact ⟨by rw [HV.out]; rfl, (Below.refl _ _).alloc (Nat.le_refl _) _⟩
    · rw [show max n 0 = n by omega] at hcv
      go_enter Try.func19, Try.ntmps19
      go_wp2
      go_ret
      exact ⟨by rw [HV.out]; rfl, (Below.refl _ _).alloc (Nat.le_refl _) _⟩
  | succ k ih =>
    intro n w hk hn
    by_cases hlt : n < 128
    · have HV := Lib.hid (vnum_lt (n := n.toNat) (by omega))
      have hcv := conv_one w (UInt8.ofNat n.toNat) (max n 0) (by rw [byte_nat (by omega)]; omega)
      rcases (show n < 0 ∨ 0 ≤ n by omega) with h0 | h0
      · rw [show max n 0 = 0 by omega] at hcv
        clear ih hk
        go_enter Try.func19, Try.ntmps19
        go_wp2
        go_ret
        exact ⟨by rw [HV.out]; rfl, (Below.refl _ _).alloc (Nat.le_refl _) _⟩
      · rw [show max n 0 = n by omega] at hcv
        clear ih hk
        go_enter Try.func19, Try.ntmps19
        go_wp2
        go_ret
        exact ⟨by rw [HV.out]; rfl, (Below.refl _ _).alloc (Nat.le_refl _) _⟩
    · have hge : 0 ≤ n := by omega
      obtain ⟨N, rfl⟩ : ∃ N : Nat, n = (N : Int) := ⟨n.toNat, by omega⟩
      have hN : 128 ≤ N := by omega
      obtain ⟨c, hc⟩ : ∃ c, c = UInt8.ofNat (N % 128 + 128) := ⟨_, rfl⟩
      have HV : Hid (vnum (N : Int).toNat = c :: vnum (N / 128)) := Lib.hid (by rw [Int.toNat_natCast, hc]; exact vnum_ge hN)
      have hbk : Hid ((N : Int) / 128 < 128 ^ (k + 1)) := Lib.hid (by
        have h1 : (N : Int) < 128 ^ (k + 1) * 128 := by rw [← Int.pow_succ]; exact hk
        omega)
      have HIH := Lib.hid ih
      have h256 : Hid ((N : Int) % 128 + 128 = (c.toNat : Int)) := Lib.hid (by rw [hc, byte_nat (by omega)]; omega)
      clear hc
      have hdl : (N : Int) / 128 ≤ 9223372036854775807 := by omega
      clear hk ih
      go_enter Try.func19, Try.ntmps19
      go_wp2_with fail
      have hd0 : (N : Int).tdiv 128 = (N : Int) / 128 := Int.tdiv_eq_ediv_of_nonneg hge
      have hm0 : (N : Int).tmod 128 = (N : Int) % 128 := Int.tmod_eq_emod_of_nonneg hge
      have hw1 : IntKind.i64.wrap ((N : Int) / 128) = (N : Int) / 128 := IntWalk.i64_in _ (by omega)
      have hw2 : IntKind.i64.wrap ((N : Int) % 128 + 128) = (N : Int) % 128 + 128 := IntWalk.i64_in _ (by omega)
      have hu8 : IntKind.u8.wrap ((N : Int) % 128 + 128) = (N : Int) % 128 + 128 := by rw [IntKind.wrap_u8]; omega
      have HCV : ∀ W : World, (convert 88 9 (.slice (some ⟨W.heap.size, 0, none⟩) 1 1)).run Try.prog (W.alloc (.cells #[.int .u8 ((N : Int) % 128 + 128)] 5)) = .ok (S [c]) (W.alloc (.cells #[.int .u8 ((N : Int) % 128 + 128)] 5)) := fun W => conv_one W (c) _ h256.out
      have HCD : (convert 88 9 (.slice (some ⟨w.heap.size, 0, none⟩) 1 1)).run Try.prog (w.alloc (.cells #[.int .u8 ((N : Int) % 128 + 128)] 5)).drew = .ok (S [c]) (w.alloc (.cells #[.int .u8 ((N : Int) % 128 + 128)] 5)).drew := conv_box _ (show BoxT (w.alloc _).drew _ _ _ from BoxT.new w _ _) h256.out
      have h9 : (vnum ((N : Int) / 128).toNat).length ≤ 9 := vnum_nine (by omega)
      have hNd : ((N : Int) / 128).toNat = N / 128 := by omega
      rw [hNd] at h9
      go_region_with (first | (go_at_call 19; (with_reducible refine (HIH.out _ _ hbk.out hdl).mono ?_); rintro x w1 ⟨rfl, hb⟩; rw [hNd]; try (have hcc := conv_box (W := w1) (g := w.heap.size) _ (BoxT.below (w := (w.alloc (.cells #[.int .u8 ((N : Int) % 128 + 128)] 5)).drew) (BoxT.new w _ _) hb) h256.out)))
      all_goals
        have HB := Lib.hid hb
        clear hb HCV HCD
        go_wp2
        go_ret
        refine ⟨by rw [HV.out, arr_append]; rfl, ?_⟩
        first | exact ((((Below.refl _ _).alloc (Nat.le_refl _) _).drew).trans (HB.out.mono (by simp))) | exact ((Below.refl _ _).drew.trans (HB.out.mono (by simp))).alloc (by have := HB.out.size; simpa using this) _ | trace_state
end Go.Proofs.Ytoddggemedhnnaa
