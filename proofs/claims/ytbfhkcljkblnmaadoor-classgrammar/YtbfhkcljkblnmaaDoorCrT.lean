/- Code points, as the law of signs makes and writes them. -/
import Derived.Test.YtbfhkcljkblnmaaDoorCrP
import Derived.Lib.RuneCount
namespace Go.Proofs.YtbfhkcljkblnmaaDoor
open Go.RowKit Florin
set_option linter.unusedVariables false
set_option linter.unusedSimpArgs false
theorem and_mask9 (n : Int) (M : Nat) (hM : M ≤ 9223372036854775807) : ∃ k : Nat, k ≤ M ∧ bits .and .i64 n (M : Int) = (k : Int) := by
  have hx : (BitVec.ofInt 64 n &&& BitVec.ofInt 64 (M : Int)).toNat ≤ M := by
    rw [BitVec.toNat_and, ofInt_u64 M (by omega)]
    exact Nat.and_le_right
  refine ⟨(BitVec.ofInt 64 n &&& BitVec.ofInt 64 (M : Int)).toNat, hx, ?_⟩
  show IntKind.i64.wrap ((BitVec.ofInt 64 n &&& BitVec.ofInt 64 (M : Int)).toNat : Int) = _
  rw [IntKind.wrap_i64]
  omega
set_option maxHeartbeats 800000 in
theorem point_ex (n : Int) : ∃ p : Nat, isPt p ∧ ∀ w, Calls Tryd.prog 50 #[.int .i64 n] w fun e w' => e = .returned (.int .i64 (p : Int)) ∧ w = w' := by
  obtain ⟨k, hk, ek⟩ := and_mask9 n 2097151 (by omega)
  obtain ⟨m, hm, em⟩ := and_mask9 (k : Int) 65535 (by omega)
  obtain ⟨c, hc, ec⟩ := and_mask9 (k : Int) 4095 (by omega)
  obtain ⟨d, hd, ed⟩ := and_mask9 (m : Int) 4095 (by omega)
  rw [show ((2097151 : Nat) : Int) = 2097151 from rfl] at ek
  rw [show ((65535 : Nat) : Int) = 65535 from rfl] at em
  rw [show ((4095 : Nat) : Int) = 4095 from rfl] at ec ed
  unfold isPt
  by_cases h1 : (1114111 : Int) < (k : Int)
  · by_cases h2 : (55296 : Int) ≤ (m : Int)
    · by_cases h3 : (m : Int) ≤ 57343
      · refine ⟨d, by omega, fun w => ?_⟩
        go_enter Tryd.func50, Tryd.ntmps50
        go_wp2
        go_ret
        exact ⟨rfl, rfl⟩
      · refine ⟨m, by omega, fun w => ?_⟩
        go_enter Tryd.func50, Tryd.ntmps50
        go_wp2
        go_ret
        exact ⟨rfl, rfl⟩
    · refine ⟨m, by omega, fun w => ?_⟩
      go_enter Tryd.func50, Tryd.ntmps50
      go_wp2
      go_ret
      exact ⟨rfl, rfl⟩
  · by_cases h2 : (55296 : Int) ≤ (k : Int)
    · by_cases h3 : (k : Int) ≤ 57343
      · refine ⟨c, by omega, fun w => ?_⟩
        go_enter Tryd.func50, Tryd.ntmps50
        go_wp2
        go_ret
        exact ⟨rfl, rfl⟩
      · refine ⟨k, by omega, fun w => ?_⟩
        go_enter Tryd.func50, Tryd.ntmps50
        go_wp2
        go_ret
        exact ⟨rfl, rfl⟩
    · refine ⟨k, by omega, fun w => ?_⟩
      go_enter Tryd.func50, Tryd.ntmps50
      go_wp2
      go_ret
      exact ⟨rfl, rfl⟩
theorem conv1 (W : World) (c0 : UInt8) (z0 : Int) (h0 : z0 = c0.toNat) : (convert 80 9 (.slice (some ⟨W.heap.size, 0, none⟩) 1 1)).run Tryd.prog (W.alloc (.cells #[.int .u8 z0] 5)) = .ok (S [c0]) (W.alloc (.cells #[.int .u8 z0] 5)) := by
  subst h0
  refine run_convert_bytes_back (W.alloc (.cells #[bv c0] 5)) 80 9 5 ⟨W.heap.size, 0, none⟩ 1 [c0] Tryd.underlying80 Tryd.underlying5 Tryd.underlying9 ?_
  intro j hj
  match j, hj with
  | 0, _ => simp [Addr.add]
theorem conv2 (W : World) (c0 c1 : UInt8) (z0 z1 : Int) (h0 : z0 = c0.toNat) (h1 : z1 = c1.toNat) : (convert 80 9 (.slice (some ⟨W.heap.size, 0, none⟩) 2 2)).run Tryd.prog (W.alloc (.cells #[.int .u8 z0, .int .u8 z1] 5)) = .ok (S [c0, c1]) (W.alloc (.cells #[.int .u8 z0, .int .u8 z1] 5)) := by
  subst h0 h1
  refine run_convert_bytes_back (W.alloc (.cells #[bv c0, bv c1] 5)) 80 9 5 ⟨W.heap.size, 0, none⟩ 2 [c0, c1] Tryd.underlying80 Tryd.underlying5 Tryd.underlying9 ?_
  intro j hj
  match j, hj with
  | 0, _ => simp [Addr.add]
  | 1, _ => simp [Addr.add]
theorem conv3 (W : World) (c0 c1 c2 : UInt8) (z0 z1 z2 : Int) (h0 : z0 = c0.toNat) (h1 : z1 = c1.toNat) (h2 : z2 = c2.toNat) : (convert 80 9 (.slice (some ⟨W.heap.size, 0, none⟩) 3 3)).run Tryd.prog (W.alloc (.cells #[.int .u8 z0, .int .u8 z1, .int .u8 z2] 5)) = .ok (S [c0, c1, c2]) (W.alloc (.cells #[.int .u8 z0, .int .u8 z1, .int .u8 z2] 5)) := by
  subst h0 h1 h2
  refine run_convert_bytes_back (W.alloc (.cells #[bv c0, bv c1, bv c2] 5)) 80 9 5 ⟨W.heap.size, 0, none⟩ 3 [c0, c1, c2] Tryd.underlying80 Tryd.underlying5 Tryd.underlying9 ?_
  intro j hj
  match j, hj with
  | 0, _ => simp [Addr.add]
  | 1, _ => simp [Addr.add]
  | 2, _ => simp [Addr.add]
theorem conv4 (W : World) (c0 c1 c2 c3 : UInt8) (z0 z1 z2 z3 : Int) (h0 : z0 = c0.toNat) (h1 : z1 = c1.toNat) (h2 : z2 = c2.toNat) (h3 : z3 = c3.toNat) : (convert 80 9 (.slice (some ⟨W.heap.size, 0, none⟩) 4 4)).run Tryd.prog (W.alloc (.cells #[.int .u8 z0, .int .u8 z1, .int .u8 z2, .int .u8 z3] 5)) = .ok (S [c0, c1, c2, c3]) (W.alloc (.cells #[.int .u8 z0, .int .u8 z1, .int .u8 z2, .int .u8 z3] 5)) := by
  subst h0 h1 h2 h3
  refine run_convert_bytes_back (W.alloc (.cells #[bv c0, bv c1, bv c2, bv c3] 5)) 80 9 5 ⟨W.heap.size, 0, none⟩ 4 [c0, c1, c2, c3] Tryd.underlying80 Tryd.underlying5 Tryd.underlying9 ?_
  intro j hj
  match j, hj with
  | 0, _ => simp [Addr.add]
  | 1, _ => simp [Addr.add]
  | 2, _ => simp [Addr.add]
  | 3, _ => simp [Addr.add]
theorem and63 (m : Nat) (h : m < 9223372036854775808) : bits .and .i64 (m : Int) 63 = (m : Int) % 64 := by
  have e : (BitVec.ofInt 64 (m : Int) &&& BitVec.ofInt 64 (63 : Int)).toNat = m % 64 := by
    rw [BitVec.toNat_and, ofInt_u64 m (by omega), show BitVec.ofInt 64 (63 : Int) = BitVec.ofInt 64 ((63 : Nat) : Int) from rfl, ofInt_u64 63 (by omega)]
    exact nat_mask6 m
  show IntKind.i64.wrap ((BitVec.ofInt 64 (m : Int) &&& BitVec.ofInt 64 (63 : Int)).toNat : Int) = _
  rw [e, IntKind.wrap_i64]
  omega
theorem u8z (n : Nat) (z : Int) (h : n < 256) (hz : z = (n : Int)) : z = ((u8 n).toNat : Int) := by rw [u8_toNat h, hz]
set_option maxHeartbeats 1600000 in
theorem sgn_as (p : Nat) (hp : isPt p) (w : World) : Calls Tryd.prog 51 #[.int .i64 (p : Int)] w fun e w' => e = .returned (S (signL p)) ∧ Below w.heap.size w w' := by
  unfold isPt at hp
  have a0 := and63 p (by omega)
  have a1 : bits .and .i64 ((p : Int) / 64) 63 = (p : Int) / 64 % 64 := by have := and63 (p / 64) (by omega); rw [show (((p / 64 : Nat)) : Int) = (p : Int) / 64 by omega] at this; exact this
  have a2 : bits .and .i64 ((p : Int) / 4096) 63 = (p : Int) / 4096 % 64 := by have := and63 (p / 4096) (by omega); rw [show (((p / 4096 : Nat)) : Int) = (p : Int) / 4096 by omega] at this; exact this
  by_cases h1 : (p : Int) < 128
  · have c := conv1 w (u8 (p)) ((p : Int)) (u8z (p) _ (by omega) (by omega))
    go_enter Tryd.func51, Tryd.ntmps51
    go_wp2
    go_ret
    exact ⟨ret_S (by unfold signL; rw [if_pos (by omega)]), (Below.refl _ _).alloc (Nat.le_refl _) _⟩
  · by_cases h2 : (p : Int) < 2048
    · have c := conv2 w (u8 (192 + p / 64)) (u8 (128 + p % 64)) (192 + (p : Int) / 64) (128 + (p : Int) % 64) (u8z (192 + p / 64) _ (by omega) (by omega)) (u8z (128 + p % 64) _ (by omega) (by omega))
      go_enter Tryd.func51, Tryd.ntmps51
      go_wp2
      go_ret
      exact ⟨ret_S (by unfold signL; rw [if_neg (by omega), if_pos (by omega)]), (Below.refl _ _).alloc (Nat.le_refl _) _⟩
    · by_cases h3 : (p : Int) < 65536
      · have c := conv3 w (u8 (224 + p / 4096)) (u8 (128 + p / 64 % 64)) (u8 (128 + p % 64)) (224 + (p : Int) / 4096) (128 + (p : Int) / 64 % 64) (128 + (p : Int) % 64) (u8z (224 + p / 4096) _ (by omega) (by omega)) (u8z (128 + p / 64 % 64) _ (by omega) (by omega)) (u8z (128 + p % 64) _ (by omega) (by omega))
        go_enter Tryd.func51, Tryd.ntmps51
        go_wp2
        go_ret
        exact ⟨ret_S (by unfold signL; rw [if_neg (by omega), if_neg (by omega), if_pos (by omega)]), (Below.refl _ _).alloc (Nat.le_refl _) _⟩
      · have c := conv4 w (u8 (240 + p / 262144)) (u8 (128 + p / 4096 % 64)) (u8 (128 + p / 64 % 64)) (u8 (128 + p % 64)) (240 + (p : Int) / 262144) (128 + (p : Int) / 4096 % 64) (128 + (p : Int) / 64 % 64) (128 + (p : Int) % 64) (u8z (240 + p / 262144) _ (by omega) (by omega)) (u8z (128 + p / 4096 % 64) _ (by omega) (by omega)) (u8z (128 + p / 64 % 64) _ (by omega) (by omega)) (u8z (128 + p % 64) _ (by omega) (by omega))
        go_enter Tryd.func51, Tryd.ntmps51
        go_wp2
        go_ret
        exact ⟨ret_S (by unfold signL; rw [if_neg (by omega), if_neg (by omega), if_neg (by omega)]), (Below.refl _ _).alloc (Nat.le_refl _) _⟩
end Go.Proofs.YtbfhkcljkblnmaaDoor
