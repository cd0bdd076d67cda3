/- The law's own way to the sign at a text's beginning. -/
import Derived.Test.YtcdjclidckohpaaDoorGlT
namespace Go.Proofs.YtcdjclidckohpaaDoor
open Go.RowKit Florin
set_option linter.unusedVariables false
set_option linter.unusedSimpArgs false
theorem wid_of {a : Nat} : (a < 128 → wid a = 1) ∧ (128 ≤ a → a < 194 → wid a = 0) ∧ (194 ≤ a → a ≤ 223 → wid a = 2) ∧ (224 ≤ a → a ≤ 239 → wid a = 3) ∧ (240 ≤ a → a ≤ 244 → wid a = 4) ∧ (245 ≤ a → wid a = 0) := by
  rcases wid_cases a with h | h | h | h | h <;> omega
theorem isE {t : ByteArray} (h : 0 < t.size) : t.toList.isEmpty = false := by
  rw [ByteArray.toList_eq]
  have e := size_list t
  cases hl : t.data.toList with
  | nil => rw [hl] at e; simp at e; omega
  | cons => rfl
theorem ret_i {a b : Nat} (h : a = b) : Ending.returned (.int .i64 (a : Int)) = .returned (.int .i64 (b : Int)) := by rw [h]
set_option maxRecDepth 100000 in
set_option maxHeartbeats 1600000 in
theorem lead_c0 (t : ByteArray) (w : World) (ht : t.size ≤ 1000000) (h0 : 0 < t.size) (g1 : 194 ≤ t[0].toNat) (g2 : t[0].toNat ≤ 223) (k : Nat) (hk : lead t.data.toList = k) :
    Calls Tryd.prog 9 #[.string t] w fun e w' => e = .returned (.int .i64 (k : Int)) ∧ w = w' := by
  have i0 : (0 : Int) < (t.size : Int) := by omega
  have hne : ¬ t = ByteArray.empty := by intro h; subst h; exact absurd h0 (by decide)
  have hne2 : ¬ t = ⟨#[]⟩ := hne
  have hne3 : t.toList.isEmpty = false := isE h0
  have e256 : (t[0].toNat : Int) < 256 := by have := t[0].toNat_lt; omega
  have f1 : ¬ (t[0].toNat : Int) < 128 := by omega
  have f2 : (194 : Int) ≤ (t[0].toNat : Int) := by omega
  have f3 : ¬ (224 : Int) ≤ (t[0].toNat : Int) := by omega
  have f4 : ¬ (240 : Int) ≤ (t[0].toNat : Int) := by omega
  have f5 : (t[0].toNat : Int) ≤ 223 := by omega
  have f6 : (t[0].toNat : Int) ≤ 239 := by omega
  have f7 : (t[0].toNat : Int) ≤ 244 := by omega
  have f8 : ¬ (t[0].toNat : Int) = 224 := by omega
  have b224 : ((t[0].toNat : Int) == 224) = false := by simp; omega
  have f9 : ¬ (t[0].toNat : Int) = 237 := by omega
  have b237 : ((t[0].toNat : Int) == 237) = false := by simp; omega
  have f10 : ¬ (t[0].toNat : Int) = 240 := by omega
  have b240 : ((t[0].toNat : Int) == 240) = false := by simp; omega
  have f11 : ¬ (t[0].toNat : Int) = 244 := by omega
  have b244 : ((t[0].toNat : Int) == 244) = false := by simp; omega
  have hw : wid t[0].toNat = 2 := by have := @wid_of t[0].toNat; omega
  have sl : sLo t[0].toNat = 128 ∧ sHi t[0].toNat = 191 := by unfold sLo sHi; constructor <;> (repeat' split) <;> omega
  rw [lead_t t h0, lead2 hw, sl.1, sl.2] at hk
  have HK := Lib.hid hk
  clear hk sl
  by_cases q0 : (t.size : Int) < 2
  · go_enter Tryd.func9, Tryd.ntmps9
    go_wp2
    go_ret
    exact ⟨ret_i (by rw [← HK.out]; exact (if_neg (by omega)).symm), rfl⟩
  · have i1 : (1 : Int) < (t.size : Int) := by omega
    have h1 : 1 < t.size := by omega
    by_cases q1 : (t[1].toNat : Int) < 128
    · go_enter Tryd.func9, Tryd.ntmps9
      go_wp2
      go_ret
      exact ⟨ret_i (by rw [← HK.out, bt_t t 1 h1]; exact (if_neg (by omega)).symm), rfl⟩
    · by_cases q2 : (191 : Int) < (t[1].toNat : Int)
      · go_enter Tryd.func9, Tryd.ntmps9
        go_wp2
        go_ret
        exact ⟨ret_i (by rw [← HK.out, bt_t t 1 h1]; exact (if_neg (by omega)).symm), rfl⟩
      · go_enter Tryd.func9, Tryd.ntmps9
        go_wp2_with fail
        refine wp_loop_rounds 1 ?_
        rw [rounds_succ]
        go_wp2
        go_ret
        exact ⟨ret_i (by rw [← HK.out, bt_t t 1 h1]; exact (if_pos (by omega)).symm), rfl⟩
set_option maxRecDepth 100000 in
set_option maxHeartbeats 1600000 in
theorem lead_c1 (t : ByteArray) (w : World) (ht : t.size ≤ 1000000) (h0 : 0 < t.size) (g1 : 224 ≤ t[0].toNat) (g2 : t[0].toNat ≤ 224) (k : Nat) (hk : lead t.data.toList = k) :
    Calls Tryd.prog 9 #[.string t] w fun e w' => e = .returned (.int .i64 (k : Int)) ∧ w = w' := by
  have i0 : (0 : Int) < (t.size : Int) := by omega
  have hne : ¬ t = ByteArray.empty := by intro h; subst h; exact absurd h0 (by decide)
  have hne2 : ¬ t = ⟨#[]⟩ := hne
  have hne3 : t.toList.isEmpty = false := isE h0
  have e256 : (t[0].toNat : Int) < 256 := by have := t[0].toNat_lt; omega
  have f1 : ¬ (t[0].toNat : Int) < 128 := by omega
  have f2 : (194 : Int) ≤ (t[0].toNat : Int) := by omega
  have f3 : (224 : Int) ≤ (t[0].toNat : Int) := by omega
  have f4 : ¬ (240 : Int) ≤ (t[0].toNat : Int) := by omega
  have f5 : ¬ (t[0].toNat : Int) ≤ 223 := by omega
  have f6 : (t[0].toNat : Int) ≤ 239 := by omega
  have f7 : (t[0].toNat : Int) ≤ 244 := by omega
  have f8 : (t[0].toNat : Int) = 224 := by omega
  have b224 : ((t[0].toNat : Int) == 224) = true := by simp; omega
  have f9 : ¬ (t[0].toNat : Int) = 237 := by omega
  have b237 : ((t[0].toNat : Int) == 237) = false := by simp; omega
  have f10 : ¬ (t[0].toNat : Int) = 240 := by omega
  have b240 : ((t[0].toNat : Int) == 240) = false := by simp; omega
  have f11 : ¬ (t[0].toNat : Int) = 244 := by omega
  have b244 : ((t[0].toNat : Int) == 244) = false := by simp; omega
  have hw : wid t[0].toNat = 3 := by have := @wid_of t[0].toNat; omega
  have sl : sLo t[0].toNat = 160 ∧ sHi t[0].toNat = 191 := by unfold sLo sHi; constructor <;> (repeat' split) <;> omega
  rw [lead_t t h0, lead3 hw, sl.1, sl.2] at hk
  have HK := Lib.hid hk
  clear hk sl
  by_cases q0 : (t.size : Int) < 3
  · go_enter Tryd.func9, Tryd.ntmps9
    go_wp2
    go_ret
    exact ⟨ret_i (by rw [← HK.out]; exact (if_neg (by omega)).symm), rfl⟩
  · have i1 : (1 : Int) < (t.size : Int) := by omega
    have i2 : (2 : Int) < (t.size : Int) := by omega
    have h1 : 1 < t.size := by omega
    have h2 : 2 < t.size := by omega
    by_cases q1 : (t[1].toNat : Int) < 160
    · go_enter Tryd.func9, Tryd.ntmps9
      go_wp2
      go_ret
      exact ⟨ret_i (by rw [← HK.out, bt_t t 1 h1]; exact (if_neg (by omega)).symm), rfl⟩
    · by_cases q2 : (191 : Int) < (t[1].toNat : Int)
      · go_enter Tryd.func9, Tryd.ntmps9
        go_wp2
        go_ret
        exact ⟨ret_i (by rw [← HK.out, bt_t t 1 h1]; exact (if_neg (by omega)).symm), rfl⟩
      · by_cases q3 : (t[2].toNat : Int) < 128
        · go_enter Tryd.func9, Tryd.ntmps9
          go_wp2_with fail
          refine wp_loop_rounds 1 ?_
          rw [rounds_succ]
          go_wp2
          go_ret
          exact ⟨ret_i (by rw [← HK.out, bt_t t 1 h1, bt_t t 2 h2]; exact (if_neg (by omega)).symm), rfl⟩
        · by_cases q4 : (191 : Int) < (t[2].toNat : Int)
          · go_enter Tryd.func9, Tryd.ntmps9
            go_wp2_with fail
            refine wp_loop_rounds 1 ?_
            rw [rounds_succ]
            go_wp2
            go_ret
            exact ⟨ret_i (by rw [← HK.out, bt_t t 1 h1, bt_t t 2 h2]; exact (if_neg (by omega)).symm), rfl⟩
          · go_enter Tryd.func9, Tryd.ntmps9
            go_wp2_with fail
            refine wp_loop_rounds 2 ?_
            rw [rounds_succ]
            go_wp2_with fail
            rw [rounds_succ]
            go_wp2
            go_ret
            exact ⟨ret_i (by rw [← HK.out, bt_t t 1 h1, bt_t t 2 h2]; exact (if_pos (by omega)).symm), rfl⟩
set_option maxRecDepth 100000 in
set_option maxHeartbeats 1600000 in
theorem lead_c2 (t : ByteArray) (w : World) (ht : t.size ≤ 1000000) (h0 : 0 < t.size) (g1 : 225 ≤ t[0].toNat) (g2 : t[0].toNat ≤ 239) (g3 : t[0].toNat ≠ 237) (k : Nat) (hk : lead t.data.toList = k) :
    Calls Tryd.prog 9 #[.string t] w fun e w' => e = .returned (.int .i64 (k : Int)) ∧ w = w' := by
  have i0 : (0 : Int) < (t.size : Int) := by omega
  have hne : ¬ t = ByteArray.empty := by intro h; subst h; exact absurd h0 (by decide)
  have hne2 : ¬ t = ⟨#[]⟩ := hne
  have hne3 : t.toList.isEmpty = false := isE h0
  have e256 : (t[0].toNat : Int) < 256 := by have := t[0].toNat_lt; omega
  have f1 : ¬ (t[0].toNat : Int) < 128 := by omega
  have f2 : (194 : Int) ≤ (t[0].toNat : Int) := by omega
  have f3 : (224 : Int) ≤ (t[0].toNat : Int) := by omega
  have f4 : ¬ (240 : Int) ≤ (t[0].toNat : Int) := by omega
  have f5 : ¬ (t[0].toNat : Int) ≤ 223 := by omega
  have f6 : (t[0].toNat : Int) ≤ 239 := by omega
  have f7 : (t[0].toNat : Int) ≤ 244 := by omega
  have f8 : ¬ (t[0].toNat : Int) = 224 := by omega
  have b224 : ((t[0].toNat : Int) == 224) = false := by simp; omega
  have f9 : ¬ (t[0].toNat : Int) = 237 := by omega
  have b237 : ((t[0].toNat : Int) == 237) = false := by simp; omega
  have f10 : ¬ (t[0].toNat : Int) = 240 := by omega
  have b240 : ((t[0].toNat : Int) == 240) = false := by simp; omega
  have f11 : ¬ (t[0].toNat : Int) = 244 := by omega
  have b244 : ((t[0].toNat : Int) == 244) = false := by simp; omega
  have hw : wid t[0].toNat = 3 := by have := @wid_of t[0].toNat; omega
  have sl : sLo t[0].toNat = 128 ∧ sHi t[0].toNat = 191 := by unfold sLo sHi; constructor <;> (repeat' split) <;> omega
  rw [lead_t t h0, lead3 hw, sl.1, sl.2] at hk
  have HK := Lib.hid hk
  clear hk sl
  by_cases q0 : (t.size : Int) < 3
  · go_enter Tryd.func9, Tryd.ntmps9
    go_wp2
    go_ret
    exact ⟨ret_i (by rw [← HK.out]; exact (if_neg (by omega)).symm), rfl⟩
  · have i1 : (1 : Int) < (t.size : Int) := by omega
    have i2 : (2 : Int) < (t.size : Int) := by omega
    have h1 : 1 < t.size := by omega
    have h2 : 2 < t.size := by omega
    by_cases q1 : (t[1].toNat : Int) < 128
    · go_enter Tryd.func9, Tryd.ntmps9
      go_wp2
      go_ret
      exact ⟨ret_i (by rw [← HK.out, bt_t t 1 h1]; exact (if_neg (by omega)).symm), rfl⟩
    · by_cases q2 : (191 : Int) < (t[1].toNat : Int)
      · go_enter Tryd.func9, Tryd.ntmps9
        go_wp2
        go_ret
        exact ⟨ret_i (by rw [← HK.out, bt_t t 1 h1]; exact (if_neg (by omega)).symm), rfl⟩
      · by_cases q3 : (t[2].toNat : Int) < 128
        · go_enter Tryd.func9, Tryd.ntmps9
          go_wp2_with fail
          refine wp_loop_rounds 1 ?_
          rw [rounds_succ]
          go_wp2
          go_ret
          exact ⟨ret_i (by rw [← HK.out, bt_t t 1 h1, bt_t t 2 h2]; exact (if_neg (by omega)).symm), rfl⟩
        · by_cases q4 : (191 : Int) < (t[2].toNat : Int)
          · go_enter Tryd.func9, Tryd.ntmps9
            go_wp2_with fail
            refine wp_loop_rounds 1 ?_
            rw [rounds_succ]
            go_wp2
            go_ret
            exact ⟨ret_i (by rw [← HK.out, bt_t t 1 h1, bt_t t 2 h2]; exact (if_neg (by omega)).symm), rfl⟩
          · go_enter Tryd.func9, Tryd.ntmps9
            go_wp2_with fail
            refine wp_loop_rounds 2 ?_
            rw [rounds_succ]
            go_wp2_with fail
            rw [rounds_succ]
            go_wp2
            go_ret
            exact ⟨ret_i (by rw [← HK.out, bt_t t 1 h1, bt_t t 2 h2]; exact (if_pos (by omega)).symm), rfl⟩
set_option maxRecDepth 100000 in
set_option maxHeartbeats 1600000 in
theorem lead_c3 (t : ByteArray) (w : World) (ht : t.size ≤ 1000000) (h0 : 0 < t.size) (g1 : 237 ≤ t[0].toNat) (g2 : t[0].toNat ≤ 237) (k : Nat) (hk : lead t.data.toList = k) :
    Calls Tryd.prog 9 #[.string t] w fun e w' => e = .returned (.int .i64 (k : Int)) ∧ w = w' := by
  have i0 : (0 : Int) < (t.size : Int) := by omega
  have hne : ¬ t = ByteArray.empty := by intro h; subst h; exact absurd h0 (by decide)
  have hne2 : ¬ t = ⟨#[]⟩ := hne
  have hne3 : t.toList.isEmpty = false := isE h0
  have e256 : (t[0].toNat : Int) < 256 := by have := t[0].toNat_lt; omega
  have f1 : ¬ (t[0].toNat : Int) < 128 := by omega
  have f2 : (194 : Int) ≤ (t[0].toNat : Int) := by omega
  have f3 : (224 : Int) ≤ (t[0].toNat : Int) := by omega
  have f4 : ¬ (240 : Int) ≤ (t[0].toNat : Int) := by omega
  have f5 : ¬ (t[0].toNat : Int) ≤ 223 := by omega
  have f6 : (t[0].toNat : Int) ≤ 239 := by omega
  have f7 : (t[0].toNat : Int) ≤ 244 := by omega
  have f8 : ¬ (t[0].toNat : Int) = 224 := by omega
  have b224 : ((t[0].toNat : Int) == 224) = false := by simp; omega
  have f9 : (t[0].toNat : Int) = 237 := by omega
  have b237 : ((t[0].toNat : Int) == 237) = true := by simp; omega
  have f10 : ¬ (t[0].toNat : Int) = 240 := by omega
  have b240 : ((t[0].toNat : Int) == 240) = false := by simp; omega
  have f11 : ¬ (t[0].toNat : Int) = 244 := by omega
  have b244 : ((t[0].toNat : Int) == 244) = false := by simp; omega
  have hw : wid t[0].toNat = 3 := by have := @wid_of t[0].toNat; omega
  have sl : sLo t[0].toNat = 128 ∧ sHi t[0].toNat = 159 := by unfold sLo sHi; constructor <;> (repeat' split) <;> omega
  rw [lead_t t h0, lead3 hw, sl.1, sl.2] at hk
  have HK := Lib.hid hk
  clear hk sl
  by_cases q0 : (t.size : Int) < 3
  · go_enter Tryd.func9, Tryd.ntmps9
    go_wp2
    go_ret
    exact ⟨ret_i (by rw [← HK.out]; exact (if_neg (by omega)).symm), rfl⟩
  · have i1 : (1 : Int) < (t.size : Int) := by omega
    have i2 : (2 : Int) < (t.size : Int) := by omega
    have h1 : 1 < t.size := by omega
    have h2 : 2 < t.size := by omega
    by_cases q1 : (t[1].toNat : Int) < 128
    · go_enter Tryd.func9, Tryd.ntmps9
      go_wp2
      go_ret
      exact ⟨ret_i (by rw [← HK.out, bt_t t 1 h1]; exact (if_neg (by omega)).symm), rfl⟩
    · by_cases q2 : (159 : Int) < (t[1].toNat : Int)
      · go_enter Tryd.func9, Tryd.ntmps9
        go_wp2
        go_ret
        exact ⟨ret_i (by rw [← HK.out, bt_t t 1 h1]; exact (if_neg (by omega)).symm), rfl⟩
      · by_cases q3 : (t[2].toNat : Int) < 128
        · go_enter Tryd.func9, Tryd.ntmps9
          go_wp2_with fail
          refine wp_loop_rounds 1 ?_
          rw [rounds_succ]
          go_wp2
          go_ret
          exact ⟨ret_i (by rw [← HK.out, bt_t t 1 h1, bt_t t 2 h2]; exact (if_neg (by omega)).symm), rfl⟩
        · by_cases q4 : (191 : Int) < (t[2].toNat : Int)
          · go_enter Tryd.func9, Tryd.ntmps9
            go_wp2_with fail
            refine wp_loop_rounds 1 ?_
            rw [rounds_succ]
            go_wp2
            go_ret
            exact ⟨ret_i (by rw [← HK.out, bt_t t 1 h1, bt_t t 2 h2]; exact (if_neg (by omega)).symm), rfl⟩
          · go_enter Tryd.func9, Tryd.ntmps9
            go_wp2_with fail
            refine wp_loop_rounds 2 ?_
            rw [rounds_succ]
            go_wp2_with fail
            rw [rounds_succ]
            go_wp2
            go_ret
            exact ⟨ret_i (by rw [← HK.out, bt_t t 1 h1, bt_t t 2 h2]; exact (if_pos (by omega)).symm), rfl⟩
set_option maxRecDepth 100000 in
set_option maxHeartbeats 1600000 in
theorem lead_c4 (t : ByteArray) (w : World) (ht : t.size ≤ 1000000) (h0 : 0 < t.size) (g1 : 240 ≤ t[0].toNat) (g2 : t[0].toNat ≤ 240) (k : Nat) (hk : lead t.data.toList = k) :
    Calls Tryd.prog 9 #[.string t] w fun e w' => e = .returned (.int .i64 (k : Int)) ∧ w = w' := by
  have i0 : (0 : Int) < (t.size : Int) := by omega
  have hne : ¬ t = ByteArray.empty := by intro h; subst h; exact absurd h0 (by decide)
  have hne2 : ¬ t = ⟨#[]⟩ := hne
  have hne3 : t.toList.isEmpty = false := isE h0
  have e256 : (t[0].toNat : Int) < 256 := by have := t[0].toNat_lt; omega
  have f1 : ¬ (t[0].toNat : Int) < 128 := by omega
  have f2 : (194 : Int) ≤ (t[0].toNat : Int) := by omega
  have f3 : (224 : Int) ≤ (t[0].toNat : Int) := by omega
  have f4 : (240 : Int) ≤ (t[0].toNat : Int) := by omega
  have f5 : ¬ (t[0].toNat : Int) ≤ 223 := by omega
  have f6 : ¬ (t[0].toNat : Int) ≤ 239 := by omega
  have f7 : (t[0].toNat : Int) ≤ 244 := by omega
  have f8 : ¬ (t[0].toNat : Int) = 224 := by omega
  have b224 : ((t[0].toNat : Int) == 224) = false := by simp; omega
  have f9 : ¬ (t[0].toNat : Int) = 237 := by omega
  have b237 : ((t[0].toNat : Int) == 237) = false := by simp; omega
  have f10 : (t[0].toNat : Int) = 240 := by omega
  have b240 : ((t[0].toNat : Int) == 240) = true := by simp; omega
  have f11 : ¬ (t[0].toNat : Int) = 244 := by omega
  have b244 : ((t[0].toNat : Int) == 244) = false := by simp; omega
  have hw : wid t[0].toNat = 4 := by have := @wid_of t[0].toNat; omega
  have sl : sLo t[0].toNat = 144 ∧ sHi t[0].toNat = 191 := by unfold sLo sHi; constructor <;> (repeat' split) <;> omega
  rw [lead_t t h0, lead4 hw, sl.1, sl.2] at hk
  have HK := Lib.hid hk
  clear hk sl
  by_cases q0 : (t.size : Int) < 4
  · go_enter Tryd.func9, Tryd.ntmps9
    go_wp2
    go_ret
    exact ⟨ret_i (by rw [← HK.out]; exact (if_neg (by omega)).symm), rfl⟩
  · have i1 : (1 : Int) < (t.size : Int) := by omega
    have i2 : (2 : Int) < (t.size : Int) := by omega
    have i3 : (3 : Int) < (t.size : Int) := by omega
    have h1 : 1 < t.size := by omega
    have h2 : 2 < t.size := by omega
    have h3 : 3 < t.size := by omega
    by_cases q1 : (t[1].toNat : Int) < 144
    · go_enter Tryd.func9, Tryd.ntmps9
      go_wp2
      go_ret
      exact ⟨ret_i (by rw [← HK.out, bt_t t 1 h1]; exact (if_neg (by omega)).symm), rfl⟩
    · by_cases q2 : (191 : Int) < (t[1].toNat : Int)
      · go_enter Tryd.func9, Tryd.ntmps9
        go_wp2
        go_ret
        exact ⟨ret_i (by rw [← HK.out, bt_t t 1 h1]; exact (if_neg (by omega)).symm), rfl⟩
      · by_cases q3 : (t[2].toNat : Int) < 128
        · go_enter Tryd.func9, Tryd.ntmps9
          go_wp2_with fail
          refine wp_loop_rounds 1 ?_
          rw [rounds_succ]
          go_wp2
          go_ret
          exact ⟨ret_i (by rw [← HK.out, bt_t t 1 h1, bt_t t 2 h2]; exact (if_neg (by omega)).symm), rfl⟩
        · by_cases q4 : (191 : Int) < (t[2].toNat : Int)
          · go_enter Tryd.func9, Tryd.ntmps9
            go_wp2_with fail
            refine wp_loop_rounds 1 ?_
            rw [rounds_succ]
            go_wp2
            go_ret
            exact ⟨ret_i (by rw [← HK.out, bt_t t 1 h1, bt_t t 2 h2]; exact (if_neg (by omega)).symm), rfl⟩
          · by_cases q5 : (t[3].toNat : Int) < 128
            · go_enter Tryd.func9, Tryd.ntmps9
              go_wp2_with fail
              refine wp_loop_rounds 2 ?_
              rw [rounds_succ]
              go_wp2_with fail
              rw [rounds_succ]
              go_wp2
              go_ret
              exact ⟨ret_i (by rw [← HK.out, bt_t t 1 h1, bt_t t 2 h2, bt_t t 3 h3]; exact (if_neg (by omega)).symm), rfl⟩
            · by_cases q6 : (191 : Int) < (t[3].toNat : Int)
              · go_enter Tryd.func9, Tryd.ntmps9
                go_wp2_with fail
                refine wp_loop_rounds 2 ?_
                rw [rounds_succ]
                go_wp2_with fail
                rw [rounds_succ]
                go_wp2
                go_ret
                exact ⟨ret_i (by rw [← HK.out, bt_t t 1 h1, bt_t t 2 h2, bt_t t 3 h3]; exact (if_neg (by omega)).symm), rfl⟩
              · go_enter Tryd.func9, Tryd.ntmps9
                go_wp2_with fail
                refine wp_loop_rounds 3 ?_
                rw [rounds_succ]
                go_wp2_with fail
                rw [rounds_succ]
                go_wp2_with fail
                rw [rounds_succ]
                go_wp2
                go_ret
                exact ⟨ret_i (by rw [← HK.out, bt_t t 1 h1, bt_t t 2 h2, bt_t t 3 h3]; exact (if_pos (by omega)).symm), rfl⟩
set_option maxRecDepth 100000 in
set_option maxHeartbeats 1600000 in
theorem lead_c5 (t : ByteArray) (w : World) (ht : t.size ≤ 1000000) (h0 : 0 < t.size) (g1 : 241 ≤ t[0].toNat) (g2 : t[0].toNat ≤ 243) (k : Nat) (hk : lead t.data.toList = k) :
    Calls Tryd.prog 9 #[.string t] w fun e w' => e = .returned (.int .i64 (k : Int)) ∧ w = w' := by
  have i0 : (0 : Int) < (t.size : Int) := by omega
  have hne : ¬ t = ByteArray.empty := by intro h; subst h; exact absurd h0 (by decide)
  have hne2 : ¬ t = ⟨#[]⟩ := hne
  have hne3 : t.toList.isEmpty = false := isE h0
  have e256 : (t[0].toNat : Int) < 256 := by have := t[0].toNat_lt; omega
  have f1 : ¬ (t[0].toNat : Int) < 128 := by omega
  have f2 : (194 : Int) ≤ (t[0].toNat : Int) := by omega
  have f3 : (224 : Int) ≤ (t[0].toNat : Int) := by omega
  have f4 : (240 : Int) ≤ (t[0].toNat : Int) := by omega
  have f5 : ¬ (t[0].toNat : Int) ≤ 223 := by omega
  have f6 : ¬ (t[0].toNat : Int) ≤ 239 := by omega
  have f7 : (t[0].toNat : Int) ≤ 244 := by omega
  have f8 : ¬ (t[0].toNat : Int) = 224 := by omega
  have b224 : ((t[0].toNat : Int) == 224) = false := by simp; omega
  have f9 : ¬ (t[0].toNat : Int) = 237 := by omega
  have b237 : ((t[0].toNat : Int) == 237) = false := by simp; omega
  have f10 : ¬ (t[0].toNat : Int) = 240 := by omega
  have b240 : ((t[0].toNat : Int) == 240) = false := by simp; omega
  have f11 : ¬ (t[0].toNat : Int) = 244 := by omega
  have b244 : ((t[0].toNat : Int) == 244) = false := by simp; omega
  have hw : wid t[0].toNat = 4 := by have := @wid_of t[0].toNat; omega
  have sl : sLo t[0].toNat = 128 ∧ sHi t[0].toNat = 191 := by unfold sLo sHi; constructor <;> (repeat' split) <;> omega
  rw [lead_t t h0, lead4 hw, sl.1, sl.2] at hk
  have HK := Lib.hid hk
  clear hk sl
  by_cases q0 : (t.size : Int) < 4
  · go_enter Tryd.func9, Tryd.ntmps9
    go_wp2
    go_ret
    exact ⟨ret_i (by rw [← HK.out]; exact (if_neg (by omega)).symm), rfl⟩
  · have i1 : (1 : Int) < (t.size : Int) := by omega
    have i2 : (2 : Int) < (t.size : Int) := by omega
    have i3 : (3 : Int) < (t.size : Int) := by omega
    have h1 : 1 < t.size := by omega
    have h2 : 2 < t.size := by omega
    have h3 : 3 < t.size := by omega
    by_cases q1 : (t[1].toNat : Int) < 128
    · go_enter Tryd.func9, Tryd.ntmps9
      go_wp2
      go_ret
      exact ⟨ret_i (by rw [← HK.out, bt_t t 1 h1]; exact (if_neg (by omega)).symm), rfl⟩
    · by_cases q2 : (191 : Int) < (t[1].toNat : Int)
      · go_enter Tryd.func9, Tryd.ntmps9
        go_wp2
        go_ret
        exact ⟨ret_i (by rw [← HK.out, bt_t t 1 h1]; exact (if_neg (by omega)).symm), rfl⟩
      · by_cases q3 : (t[2].toNat : Int) < 128
        · go_enter Tryd.func9, Tryd.ntmps9
          go_wp2_with fail
          refine wp_loop_rounds 1 ?_
          rw [rounds_succ]
          go_wp2
          go_ret
          exact ⟨ret_i (by rw [← HK.out, bt_t t 1 h1, bt_t t 2 h2]; exact (if_neg (by omega)).symm), rfl⟩
        · by_cases q4 : (191 : Int) < (t[2].toNat : Int)
          · go_enter Tryd.func9, Tryd.ntmps9
            go_wp2_with fail
            refine wp_loop_rounds 1 ?_
            rw [rounds_succ]
            go_wp2
            go_ret
            exact ⟨ret_i (by rw [← HK.out, bt_t t 1 h1, bt_t t 2 h2]; exact (if_neg (by omega)).symm), rfl⟩
          · by_cases q5 : (t[3].toNat : Int) < 128
            · go_enter Tryd.func9, Tryd.ntmps9
              go_wp2_with fail
              refine wp_loop_rounds 2 ?_
              rw [rounds_succ]
              go_wp2_with fail
              rw [rounds_succ]
              go_wp2
              go_ret
              exact ⟨ret_i (by rw [← HK.out, bt_t t 1 h1, bt_t t 2 h2, bt_t t 3 h3]; exact (if_neg (by omega)).symm), rfl⟩
            · by_cases q6 : (191 : Int) < (t[3].toNat : Int)
              · go_enter Tryd.func9, Tryd.ntmps9
                go_wp2_with fail
                refine wp_loop_rounds 2 ?_
                rw [rounds_succ]
                go_wp2_with fail
                rw [rounds_succ]
                go_wp2
                go_ret
                exact ⟨ret_i (by rw [← HK.out, bt_t t 1 h1, bt_t t 2 h2, bt_t t 3 h3]; exact (if_neg (by omega)).symm), rfl⟩
              · go_enter Tryd.func9, Tryd.ntmps9
                go_wp2_with fail
                refine wp_loop_rounds 3 ?_
                rw [rounds_succ]
                go_wp2_with fail
                rw [rounds_succ]
                go_wp2_with fail
                rw [rounds_succ]
                go_wp2
                go_ret
                exact ⟨ret_i (by rw [← HK.out, bt_t t 1 h1, bt_t t 2 h2, bt_t t 3 h3]; exact (if_pos (by omega)).symm), rfl⟩
set_option maxRecDepth 100000 in
set_option maxHeartbeats 1600000 in
theorem lead_c6 (t : ByteArray) (w : World) (ht : t.size ≤ 1000000) (h0 : 0 < t.size) (g1 : 244 ≤ t[0].toNat) (g2 : t[0].toNat ≤ 244) (k : Nat) (hk : lead t.data.toList = k) :
    Calls Tryd.prog 9 #[.string t] w fun e w' => e = .returned (.int .i64 (k : Int)) ∧ w = w' := by
  have i0 : (0 : Int) < (t.size : Int) := by omega
  have hne : ¬ t = ByteArray.empty := by intro h; subst h; exact absurd h0 (by decide)
  have hne2 : ¬ t = ⟨#[]⟩ := hne
  have hne3 : t.toList.isEmpty = false := isE h0
  have e256 : (t[0].toNat : Int) < 256 := by have := t[0].toNat_lt; omega
  have f1 : ¬ (t[0].toNat : Int) < 128 := by omega
  have f2 : (194 : Int) ≤ (t[0].toNat : Int) := by omega
  have f3 : (224 : Int) ≤ (t[0].toNat : Int) := by omega
  have f4 : (240 : Int) ≤ (t[0].toNat : Int) := by omega
  have f5 : ¬ (t[0].toNat : Int) ≤ 223 := by omega
  have f6 : ¬ (t[0].toNat : Int) ≤ 239 := by omega
  have f7 : (t[0].toNat : Int) ≤ 244 := by omega
  have f8 : ¬ (t[0].toNat : Int) = 224 := by omega
  have b224 : ((t[0].toNat : Int) == 224) = false := by simp; omega
  have f9 : ¬ (t[0].toNat : Int) = 237 := by omega
  have b237 : ((t[0].toNat : Int) == 237) = false := by simp; omega
  have f10 : ¬ (t[0].toNat : Int) = 240 := by omega
  have b240 : ((t[0].toNat : Int) == 240) = false := by simp; omega
  have f11 : (t[0].toNat : Int) = 244 := by omega
  have b244 : ((t[0].toNat : Int) == 244) = true := by simp; omega
  have hw : wid t[0].toNat = 4 := by have := @wid_of t[0].toNat; omega
  have sl : sLo t[0].toNat = 128 ∧ sHi t[0].toNat = 143 := by unfold sLo sHi; constructor <;> (repeat' split) <;> omega
  rw [lead_t t h0, lead4 hw, sl.1, sl.2] at hk
  have HK := Lib.hid hk
  clear hk sl
  by_cases q0 : (t.size : Int) < 4
  · go_enter Tryd.func9, Tryd.ntmps9
    go_wp2
    go_ret
    exact ⟨ret_i (by rw [← HK.out]; exact (if_neg (by omega)).symm), rfl⟩
  · have i1 : (1 : Int) < (t.size : Int) := by omega
    have i2 : (2 : Int) < (t.size : Int) := by omega
    have i3 : (3 : Int) < (t.size : Int) := by omega
    have h1 : 1 < t.size := by omega
    have h2 : 2 < t.size := by omega
    have h3 : 3 < t.size := by omega
    by_cases q1 : (t[1].toNat : Int) < 128
    · go_enter Tryd.func9, Tryd.ntmps9
      go_wp2
      go_ret
      exact ⟨ret_i (by rw [← HK.out, bt_t t 1 h1]; exact (if_neg (by omega)).symm), rfl⟩
    · by_cases q2 : (143 : Int) < (t[1].toNat : Int)
      · go_enter Tryd.func9, Tryd.ntmps9
        go_wp2
        go_ret
        exact ⟨ret_i (by rw [← HK.out, bt_t t 1 h1]; exact (if_neg (by omega)).symm), rfl⟩
      · by_cases q3 : (t[2].toNat : Int) < 128
        · go_enter Tryd.func9, Tryd.ntmps9
          go_wp2_with fail
          refine wp_loop_rounds 1 ?_
          rw [rounds_succ]
          go_wp2
          go_ret
          exact ⟨ret_i (by rw [← HK.out, bt_t t 1 h1, bt_t t 2 h2]; exact (if_neg (by omega)).symm), rfl⟩
        · by_cases q4 : (191 : Int) < (t[2].toNat : Int)
          · go_enter Tryd.func9, Tryd.ntmps9
            go_wp2_with fail
            refine wp_loop_rounds 1 ?_
            rw [rounds_succ]
            go_wp2
            go_ret
            exact ⟨ret_i (by rw [← HK.out, bt_t t 1 h1, bt_t t 2 h2]; exact (if_neg (by omega)).symm), rfl⟩
          · by_cases q5 : (t[3].toNat : Int) < 128
            · go_enter Tryd.func9, Tryd.ntmps9
              go_wp2_with fail
              refine wp_loop_rounds 2 ?_
              rw [rounds_succ]
              go_wp2_with fail
              rw [rounds_succ]
              go_wp2
              go_ret
              exact ⟨ret_i (by rw [← HK.out, bt_t t 1 h1, bt_t t 2 h2, bt_t t 3 h3]; exact (if_neg (by omega)).symm), rfl⟩
            · by_cases q6 : (191 : Int) < (t[3].toNat : Int)
              · go_enter Tryd.func9, Tryd.ntmps9
                go_wp2_with fail
                refine wp_loop_rounds 2 ?_
                rw [rounds_succ]
                go_wp2_with fail
                rw [rounds_succ]
                go_wp2
                go_ret
                exact ⟨ret_i (by rw [← HK.out, bt_t t 1 h1, bt_t t 2 h2, bt_t t 3 h3]; exact (if_neg (by omega)).symm), rfl⟩
              · go_enter Tryd.func9, Tryd.ntmps9
                go_wp2_with fail
                refine wp_loop_rounds 3 ?_
                rw [rounds_succ]
                go_wp2_with fail
                rw [rounds_succ]
                go_wp2_with fail
                rw [rounds_succ]
                go_wp2
                go_ret
                exact ⟨ret_i (by rw [← HK.out, bt_t t 1 h1, bt_t t 2 h2, bt_t t 3 h3]; exact (if_pos (by omega)).symm), rfl⟩
set_option maxHeartbeats 800000 in
theorem lead_as (t : ByteArray) (w : World) (ht : t.size ≤ 1000000) (k : Nat) (hk : lead t.data.toList = k) :
    Calls Tryd.prog 9 #[.string t] w fun e w' => e = .returned (.int .i64 (k : Int)) ∧ w = w' := by
  by_cases h0 : 0 < t.size
  · by_cases ha : t[0].toNat < 128
    · have i0 : (0 : Int) < (t.size : Int) := by omega
      have hne : ¬ t = ByteArray.empty := by intro h; subst h; exact absurd h0 (by decide)
      have hne2 : ¬ t = ⟨#[]⟩ := hne
      have hne3 : t.toList.isEmpty = false := isE h0
      have f1 : (t[0].toNat : Int) < 128 := by omega
      rw [lead_t t h0, lead1 (wid_of.1 ha)] at hk
      have HK := Lib.hid hk
      clear hk
      go_enter Tryd.func9, Tryd.ntmps9
      go_wp2
      go_ret
      exact ⟨ret_i HK.out, rfl⟩
    · by_cases hz : t[0].toNat < 194 ∨ 245 ≤ t[0].toNat
      · have i0 : (0 : Int) < (t.size : Int) := by omega
        have hne : ¬ t = ByteArray.empty := by intro h; subst h; exact absurd h0 (by decide)
        have hne2 : ¬ t = ⟨#[]⟩ := hne
        have hne3 : t.toList.isEmpty = false := isE h0
        have hw : wid t[0].toNat = 0 := by have := @wid_of t[0].toNat; omega
        rw [lead_t t h0, lead0 hw] at hk
        have HK := Lib.hid hk
        clear hk
        rcases hz with hz | hz
        · have f1 : ¬ (t[0].toNat : Int) < 128 := by omega
          have f2 : ¬ (194 : Int) ≤ (t[0].toNat : Int) := by omega
          have f3 : ¬ (224 : Int) ≤ (t[0].toNat : Int) := by omega
          have f4 : ¬ (240 : Int) ≤ (t[0].toNat : Int) := by omega
          go_enter Tryd.func9, Tryd.ntmps9
          go_wp2
          go_ret
          exact ⟨ret_i HK.out, rfl⟩
        · have f1 : ¬ (t[0].toNat : Int) < 128 := by omega
          have f2 : (194 : Int) ≤ (t[0].toNat : Int) := by omega
          have f3 : (224 : Int) ≤ (t[0].toNat : Int) := by omega
          have f4 : (240 : Int) ≤ (t[0].toNat : Int) := by omega
          have f5 : ¬ (t[0].toNat : Int) ≤ 223 := by omega
          have f6 : ¬ (t[0].toNat : Int) ≤ 239 := by omega
          have f7 : ¬ (t[0].toNat : Int) ≤ 244 := by omega
          go_enter Tryd.func9, Tryd.ntmps9
          go_wp2
          go_ret
          exact ⟨ret_i HK.out, rfl⟩
      · by_cases a1 : t[0].toNat ≤ 223
        · exact lead_c0 t w ht h0 (by omega) a1 k hk
        · by_cases a2 : t[0].toNat = 224
          · exact lead_c1 t w ht h0 (by omega) (by omega) k hk
          · by_cases a3 : t[0].toNat = 237
            · exact lead_c3 t w ht h0 (by omega) (by omega) k hk
            · by_cases a4 : t[0].toNat ≤ 239
              · exact lead_c2 t w ht h0 (by omega) a4 a3 k hk
              · by_cases a5 : t[0].toNat = 240
                · exact lead_c4 t w ht h0 (by omega) (by omega) k hk
                · by_cases a6 : t[0].toNat = 244
                  · exact lead_c6 t w ht h0 (by omega) (by omega) k hk
                  · exact lead_c5 t w ht h0 (by omega) (by omega) k hk
  · have hn : t.data.toList = [] := List.length_eq_zero_iff.1 (by rw [size_list]; omega)
    obtain rfl : t = ⟨#[]⟩ := by
      cases t with
      | mk d => simp at hn; rw [hn]
    have e0 : k = 0 := by rw [← hk]; rfl
    subst e0
    clear hk
    go_enter Tryd.func9, Tryd.ntmps9
    go_wp2
    go_ret
    exact ⟨rfl, rfl⟩
end Go.Proofs.YtcdjclidckohpaaDoor
