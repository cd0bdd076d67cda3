/- A code point, as the law writes it. -/
import Derived.Test.YtbfhkcljkblnmaaDoorCrM
namespace Go.Proofs.YtbfhkcljkblnmaaDoor
open Go.RowKit Florin
set_option linter.unusedVariables false
set_option linter.unusedSimpArgs false
attribute [local go_sem ↓] Go.wp_at_zero Go.wp_at_succ
theorem i64_and15 (u : Nat) (h : u < 9223372036854775808) : bits .and .i64 (u : Int) 15 = ((u % 16 : Nat) : Int) := by
  show IntKind.i64.wrap ((BitVec.ofInt 64 (u : Int) &&& BitVec.ofInt 64 (15 : Int)).toNat : Int) = _
  have h1 : (BitVec.ofInt 64 (u : Int) &&& BitVec.ofInt 64 (15 : Int)).toNat = u % 16 := by
    rw [BitVec.toNat_and, ofInt_u64 u (by omega)]
    have h2 : (BitVec.ofInt 64 (15 : Int)).toNat = 2 ^ 4 - 1 := by decide
    rw [h2, Nat.and_two_pow_sub_one_eq_mod]
  rw [h1, IntKind.wrap_i64]
  omega
set_option maxRecDepth 100000 in
theorem dig2_fin : ∀ d : Fin 16, (⟨#[48, 49, 50, 51, 52, 53, 54, 55, 56, 57, 97, 98, 99, 100, 101, 102]⟩ : ByteArray)[d.val]! = hx d.val := by decide
theorem dig2_at (d : Nat) (h : d < 16) (h2 : d < (⟨#[48, 49, 50, 51, 52, 53, 54, 55, 56, 57, 97, 98, 99, 100, 101, 102]⟩ : ByteArray).size) : (⟨#[48, 49, 50, 51, 52, 53, 54, 55, 56, 57, 97, 98, 99, 100, 101, 102]⟩ : ByteArray)[d] = hx d := by
  have h3 := dig2_fin ⟨d, h⟩
  rw [← h3]
  exact (getElem!_pos _ d h2).symm
theorem conv_one (W : World) (c : UInt8) (z : Int) (hz : z = c.toNat) : (convert 80 9 (.slice (some ⟨W.heap.size, 0, none⟩) 1 1)).run Tryd.prog (W.alloc (.cells #[.int .u8 z] 5)) = .ok (S [c]) (W.alloc (.cells #[.int .u8 z] 5)) := by
  subst hz
  refine run_convert_bytes_back (W.alloc (.cells #[bv c] 5)) 80 9 5 ⟨W.heap.size, 0, none⟩ 1 [c] Tryd.underlying80 Tryd.underlying5 Tryd.underlying9 ?_
  intro j hj
  obtain rfl : j = 0 := by simpa using hj
  simp [Addr.add]
/-- Digits to the base sixteen put ahead, at least so many. -/
def hyF : Nat → Nat → Nat → List UInt8 → List UInt8
  | 0, _, _, l => l
  | f + 1, k, n, l => if 0 < n ∨ l.length < k then hyF f k (n / 16) (hx (n % 16) :: l) else l
def hyS (n k : Nat) : List UInt8 := hyF 40 k n []
theorem hy_stop (f k n : Nat) (l : List UInt8) (h : ¬ (0 < n ∨ l.length < k)) : hyF f k n l = l := by
  cases f with
  | zero => rfl
  | succ f => unfold hyF; rw [if_neg h]
theorem hy_one : ∀ (f g n : Nat) (l : List UInt8), 0 < f → f < g → n < 16 ^ f → (0 < n ∨ l = []) → hyF g 1 n l = hxF f n l
  | 0, _, _, _, h, _, _, _ => absurd h (by omega)
  | f + 1, 0, _, _, _, h, _, _ => absurd h (by omega)
  | f + 1, g + 1, n, l, _, hg, hn, hc => by
    unfold hyF
    rw [if_pos (by rcases hc with h | h; exact .inl h; subst h; exact .inr (by decide))]
    unfold hxF
    by_cases h16 : n < 16
    · rw [if_pos h16, show n / 16 = 0 by omega, show n % 16 = n by omega]
      exact hy_stop _ _ _ _ (by simp)
    · rw [if_neg h16]
      have hf : 0 < f := by
        cases f with
        | zero => simp at hn; omega
        | succ f => omega
      exact hy_one f g (n / 16) _ hf (by omega) (by rw [Nat.pow_succ] at hn; omega) (.inl (by omega))
theorem hyS_one (n : Nat) (h : n ≤ 1114111) : hyS n 1 = hxS n := hy_one 17 40 n [] (by decide) (by decide) (Nat.lt_of_le_of_lt h (by decide)) (.inr rfl)
theorem hy_step {f k n : Nat} {l : List UInt8} (hf : 0 < f) (h : 0 < n ∨ l.length < k) : ∃ g, f = g + 1 ∧ hyF f k n l = hyF g k (n / 16) (hx (n % 16) :: l) := by
  cases f with
  | zero => omega
  | succ g =>
    refine ⟨g, rfl, ?_⟩
    conv => lhs; unfold hyF
    rw [if_pos h]
set_option maxRecDepth 100000 in
set_option maxHeartbeats 3200000 in
theorem hex_as (n k : Nat) (hn : n ≤ 2097151) (hk : k ≤ 6) (w : World) :
    Calls Tryd.prog 41 #[.int .i64 (n : Int), .int .i64 (k : Int)] w fun e w' => e = .returned (S (hyS n k)) ∧ Below w.heap.size w w' := by
  go_enter Tryd.func41, Tryd.ntmps41
  go_wp2_with fail
  go_loopw [0, 5] (fun x y wr => ∃ (u f : Nat) (l : List UInt8), x = .int .i64 (u : Int) ∧ y = S l ∧ 30 ≤ f + l.length ∧ f + l.length ≤ 40 ∧ l.length ≤ 10 ∧ u ≤ n ∧ u < 16 ^ (6 - l.length) ∧ hyF f k u l = hyS n k ∧ Below w.heap.size w wr) (fun x y _ => match y with | .string t => 40 - t.size | _ => 0)
  case atStart => exact ⟨n, 40, [], rfl, rfl, by decide, by decide, by decide, Nat.le_refl _, Nat.lt_of_le_of_lt hn (by decide), rfl, Below.refl _ _⟩
  case round =>
    obtain ⟨u, f, l, rfl, rfl, hf1, hf2, hl, hun, hu6, hh, hb⟩ := hrel
    have HH := Lib.hid hh
    have HB := Lib.hid hb
    have HU := Lib.hid hu6
    clear hh hb hu6
    by_cases hc : 0 < u ∨ l.length < k
    · have hl6 : l.length < 6 := by
        rcases hc with h | h
        · have h2 := HU.out
          rcases Nat.lt_or_ge l.length 6 with h3 | h3
          · exact h3
          · rw [show 6 - l.length = 0 by omega, Nat.pow_zero] at h2
            omega
        · omega
      obtain ⟨g, rfl, hs⟩ := hy_step (f := f) (by omega) hc
      rw [HH.out] at hs
      have HS := Lib.hid hs
      have ea := i64_and15 u (by omega)
      have hd16 : u % 16 < 16 := by omega
      have hu2 : u / 16 < 16 ^ (6 - (l.length + 1)) := by
        have h2 := HU.out
        rw [show 6 - l.length = (6 - (l.length + 1)) + 1 by omega, Nat.pow_succ] at h2
        omega
      have HU2 := Lib.hid hu2
      have HDG := Lib.hid (dig2_at (u % 16) hd16)
      have HCV := fun W z hz => conv_one W (hx (u % 16)) z hz
      generalize hd : u % 16 = d at *
      have HCV2 := HCV wr (((⟨#[48, 49, 50, 51, 52, 53, 54, 55, 56, 57, 97, 98, 99, 100, 101, 102]⟩ : ByteArray)[d]'(by show d < 16; omega)).toNat : Int) (by rw [HDG.out])
      have ej : (⟨#[hx d]⟩ : ByteArray) ++ (⟨l.toArray⟩ : ByteArray) = ⟨(hx d :: l).toArray⟩ := arr_append [hx d] l
      clear hs hd hu2 HCV
      have hsz := HB.out.size
      rcases Nat.lt_or_ge 0 u with h0 | h0
      · have h1 : (0 : Int) < (u : Int) := by omega
        go_wp2
        go_roundw
        case rel => exact ⟨u / 16, g, hx d :: l, by go_num, by first | rfl | rw [ej], by rw [List.length_cons]; omega, by rw [List.length_cons]; omega, by rw [List.length_cons]; omega, by omega, by rw [List.length_cons]; exact HU2.out, by rw [← HS.out], HB.out.alloc hsz _⟩
        case measure =>
          show 40 - (⟨(hx d :: l).toArray⟩ : ByteArray).size < 40 - (⟨l.toArray⟩ : ByteArray).size
          rw [arr_size, arr_size, List.length_cons]
          omega
      · have h1 : ¬ (0 : Int) < (u : Int) := by omega
        have h2 : (l.length : Int) < (k : Int) := by omega
        go_wp2
        go_roundw
        case rel => exact ⟨u / 16, g, hx d :: l, by go_num, by first | rfl | rw [ej], by rw [List.length_cons]; omega, by rw [List.length_cons]; omega, by rw [List.length_cons]; omega, by omega, by rw [List.length_cons]; exact HU2.out, by rw [← HS.out], HB.out.alloc hsz _⟩
        case measure =>
          show 40 - (⟨(hx d :: l).toArray⟩ : ByteArray).size < 40 - (⟨l.toArray⟩ : ByteArray).size
          rw [arr_size, arr_size, List.length_cons]
          omega
    · have hst := hy_stop f k u l hc
      rw [HH.out] at hst
      have HST := Lib.hid hst
      have h1 : ¬ (0 : Int) < (u : Int) := by omega
      have h2 : ¬ (l.length : Int) < (k : Int) := by omega
      clear hst hc
      go_wp2
      go_ret
      exact ⟨by rw [HST.out]; rfl, HB.out⟩
set_option maxRecDepth 100000 in
set_option maxHeartbeats 1600000 in
theorem sign_as (n : Nat) (hn : n ≤ 1114111) (w : World) :
    Calls Tryd.prog 24 #[.int .i64 (n : Int)] w fun e w' => e = .returned (S (wrC n)) ∧ Below w.heap.size w w' := by
  have hF : Calls Tryd.prog 41 #[.int .i64 (n : Int), .int .i64 1] w fun e w' => e = .returned (S (hxS n)) ∧ Below w.heap.size w w' := by
    have h := hex_as n 1 (by omega) (by decide) w
    rw [hyS_one n hn] at h
    exact h
  have HF := Lib.hid hF
  have hln := hxS_len n
  clear hF
  rcases (show (n < 48) ∨ (48 ≤ n ∧ n ≤ 57) ∨ (58 ≤ n ∧ n ≤ 64) ∨ (65 ≤ n ∧ n ≤ 90) ∨ (91 ≤ n ∧ n ≤ 96) ∨ (97 ≤ n ∧ n ≤ 122) ∨ (123 ≤ n) by omega) with h | h | h | h | h | h | h
  · have : ¬ ((48 : Int) ≤ (n : Int)) := by omega
    have : (n : Int) ≤ 57 := by omega
    have : ¬ ((65 : Int) ≤ (n : Int)) := by omega
    have : (n : Int) ≤ 90 := by omega
    have : ¬ ((97 : Int) ≤ (n : Int)) := by omega
    have : (n : Int) ≤ 122 := by omega
    have HW : Hid (wrC n = [92, 117, 123] ++ hxS n ++ [125]) := Lib.hid (by unfold wrC; rw [if_neg (by unfold isAl; simp; omega)])
    go_enter Tryd.func24, Tryd.ntmps24
    go_wp2_with fail
    with_reducible refine HF.out.mono ?_
    rintro e w1 ⟨rfl, h1⟩
    go_wp2
    go_ret
    exact ⟨by rw [HW.out]; exact congrArg (fun t => Ending.returned (.string t)) (esc_join (hxS n)), h1⟩
  · have : (48 : Int) ≤ (n : Int) := by omega
    have : (n : Int) ≤ 57 := by omega
    have : ¬ ((65 : Int) ≤ (n : Int)) := by omega
    have : (n : Int) ≤ 90 := by omega
    have : ¬ ((97 : Int) ≤ (n : Int)) := by omega
    have : (n : Int) ≤ 122 := by omega
    have HW : Hid (wrC n = [UInt8.ofNat n]) := Lib.hid (by unfold wrC; rw [if_pos (by unfold isAl; simp; omega)])
    have hcv := conv_one w (UInt8.ofNat n) (n : Int) (by rw [UInt8.toNat_ofNat']; omega)
    go_enter Tryd.func24, Tryd.ntmps24
    go_wp2
    go_ret
    exact ⟨by rw [HW.out]; rfl, (Below.refl _ _).alloc (Nat.le_refl _) _⟩
  · have : (48 : Int) ≤ (n : Int) := by omega
    have : ¬ ((n : Int) ≤ 57) := by omega
    have : ¬ ((65 : Int) ≤ (n : Int)) := by omega
    have : (n : Int) ≤ 90 := by omega
    have : ¬ ((97 : Int) ≤ (n : Int)) := by omega
    have : (n : Int) ≤ 122 := by omega
    have HW : Hid (wrC n = [92, 117, 123] ++ hxS n ++ [125]) := Lib.hid (by unfold wrC; rw [if_neg (by unfold isAl; simp; omega)])
    go_enter Tryd.func24, Tryd.ntmps24
    go_wp2_with fail
    with_reducible refine HF.out.mono ?_
    rintro e w1 ⟨rfl, h1⟩
    go_wp2
    go_ret
    exact ⟨by rw [HW.out]; exact congrArg (fun t => Ending.returned (.string t)) (esc_join (hxS n)), h1⟩
  · have : (48 : Int) ≤ (n : Int) := by omega
    have : ¬ ((n : Int) ≤ 57) := by omega
    have : (65 : Int) ≤ (n : Int) := by omega
    have : (n : Int) ≤ 90 := by omega
    have : ¬ ((97 : Int) ≤ (n : Int)) := by omega
    have : (n : Int) ≤ 122 := by omega
    have HW : Hid (wrC n = [UInt8.ofNat n]) := Lib.hid (by unfold wrC; rw [if_pos (by unfold isAl; simp; omega)])
    have hcv := conv_one w (UInt8.ofNat n) (n : Int) (by rw [UInt8.toNat_ofNat']; omega)
    go_enter Tryd.func24, Tryd.ntmps24
    go_wp2
    go_ret
    exact ⟨by rw [HW.out]; rfl, (Below.refl _ _).alloc (Nat.le_refl _) _⟩
  · have : (48 : Int) ≤ (n : Int) := by omega
    have : ¬ ((n : Int) ≤ 57) := by omega
    have : (65 : Int) ≤ (n : Int) := by omega
    have : ¬ ((n : Int) ≤ 90) := by omega
    have : ¬ ((97 : Int) ≤ (n : Int)) := by omega
    have : (n : Int) ≤ 122 := by omega
    have HW : Hid (wrC n = [92, 117, 123] ++ hxS n ++ [125]) := Lib.hid (by unfold wrC; rw [if_neg (by unfold isAl; simp; omega)])
    go_enter Tryd.func24, Tryd.ntmps24
    go_wp2_with fail
    with_reducible refine HF.out.mono ?_
    rintro e w1 ⟨rfl, h1⟩
    go_wp2
    go_ret
    exact ⟨by rw [HW.out]; exact congrArg (fun t => Ending.returned (.string t)) (esc_join (hxS n)), h1⟩
  · have : (48 : Int) ≤ (n : Int) := by omega
    have : ¬ ((n : Int) ≤ 57) := by omega
    have : (65 : Int) ≤ (n : Int) := by omega
    have : ¬ ((n : Int) ≤ 90) := by omega
    have : (97 : Int) ≤ (n : Int) := by omega
    have : (n : Int) ≤ 122 := by omega
    have HW : Hid (wrC n = [UInt8.ofNat n]) := Lib.hid (by unfold wrC; rw [if_pos (by unfold isAl; simp; omega)])
    have hcv := conv_one w (UInt8.ofNat n) (n : Int) (by rw [UInt8.toNat_ofNat']; omega)
    go_enter Tryd.func24, Tryd.ntmps24
    go_wp2
    go_ret
    exact ⟨by rw [HW.out]; rfl, (Below.refl _ _).alloc (Nat.le_refl _) _⟩
  · have : (48 : Int) ≤ (n : Int) := by omega
    have : ¬ ((n : Int) ≤ 57) := by omega
    have : (65 : Int) ≤ (n : Int) := by omega
    have : ¬ ((n : Int) ≤ 90) := by omega
    have : (97 : Int) ≤ (n : Int) := by omega
    have : ¬ ((n : Int) ≤ 122) := by omega
    have HW : Hid (wrC n = [92, 117, 123] ++ hxS n ++ [125]) := Lib.hid (by unfold wrC; rw [if_neg (by unfold isAl; simp; omega)])
    go_enter Tryd.func24, Tryd.ntmps24
    go_wp2_with fail
    with_reducible refine HF.out.mono ?_
    rintro e w1 ⟨rfl, h1⟩
    go_wp2
    go_ret
    exact ⟨by rw [HW.out]; exact congrArg (fun t => Ending.returned (.string t)) (esc_join (hxS n)), h1⟩
end Go.Proofs.YtbfhkcljkblnmaaDoor
