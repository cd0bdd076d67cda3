/- The walk of the law RuleMany. -/
import Derived.Test.YtcobokfccfeonaaGreatDoorMSt
namespace Florin
def txM : Nat → List UInt8
  | 0 => []
  | 1 => [111, 110, 101, 58, 32, 110, 61, 49]
  | k + 2 => txM (k + 1) ++ [32, 111, 114, 32, 110, 61, 49]
theorem txM_len : ∀ k, (txM (k + 1)).length = 8 + 7 * k
  | 0 => rfl
  | k + 1 => by rw [txM, List.length_append, txM_len k]; simp; omega
def chkM (K : Nat) : Bool :=
  match rulesP (txM (197 + K)) with
  | .ok [x] _ => decide (197 + K ≤ 200) && (x.any.length == 197 + K)
  | .ok _ _ => false
  | .bad e r => decide (200 < 197 + K) && (e == 4 && ((txM (197 + K)).length - r.length == 1405))
set_option maxRecDepth 100000 in
theorem chkM_all : ((List.range 8).all fun K => chkM K) = true := by kernel_rfl
theorem chkM_ok {K : Nat} (hK : K ≤ 3) : ∃ x r, rulesP (txM (197 + K)) = .ok [x] r ∧ x.any.length = 197 + K := by
  have h := List.all_eq_true.1 chkM_all K (List.mem_range.2 (by omega))
  unfold chkM at h
  split at h
  · rename_i x r hr
    simp only [Bool.and_eq_true, beq_iff_eq] at h
    exact ⟨x, r, hr, h.2⟩
  · cases h
  · simp only [Bool.and_eq_true, decide_eq_true_eq] at h; omega
theorem chkM_bad {K : Nat} (hK : 3 < K) (h7 : K ≤ 7) : ∃ r, rulesP (txM (197 + K)) = .bad 4 r ∧ (txM (197 + K)).length - r.length = 1405 := by
  have h := List.all_eq_true.1 chkM_all K (List.mem_range.2 (by omega))
  unfold chkM at h
  split at h
  · simp only [Bool.and_eq_true, decide_eq_true_eq] at h; omega
  · cases h
  · rename_i e r hr
    simp only [Bool.and_eq_true, beq_iff_eq] at h
    exact ⟨r, by rw [hr, h.2.1], h.2.2⟩
theorem sk_blank (M : Nat) : sk (List.replicate M 32) = [] := by
  unfold sk
  induction M with
  | zero => rfl
  | succ M ih => rw [List.replicate_succ, List.dropWhile_cons]; simp [ih]
theorem rules_blank (M : Nat) : rulesP (List.replicate M 32) = .ok [] [] := by
  unfold rulesP rulesL
  rw [sk_blank]; rfl
theorem put_blank (M k : Nat) (hk : k < M) : (List.replicate k (32 : UInt8) ++ List.replicate (M - k) 0).set k 32 = List.replicate (k + 1) 32 ++ List.replicate (M - (k + 1)) 0 := by
  rw [List.set_append_right _ _ (by simp), List.length_replicate, Nat.sub_self, show M - k = (M - (k + 1)) + 1 by omega, List.replicate_succ, List.set_cons_zero, List.replicate_succ' (n := k)]
  simp
end Florin
namespace Go.Proofs.YtcobokfccfeonaaGreatDoor
open Go.RowKit Florin
set_option linter.unusedVariables false
set_option linter.unusedSimpArgs false
attribute [local go_sem ↓] Go.wp_at_zero Go.wp_at_succ

theorem parseM (l r : List UInt8) (w : World) (hw : Wds w) (hl : l.length ≤ 4000) (c : Int) (P : Int) (hr : rulesP l = .bad c r) (hP : ((l.length - r.length : Nat) : Int) = P) :
    Calls Tryz.prog 10 #[S l] w fun e w' => e = .returned (.tuple #[.slice none 0 0, .int .i64 c, .int .i64 P]) ∧ Below w.heap.size w w' := by
  subst hP
  have h := parse_bad ⟨l.toArray⟩ w (by rw [arr_size]; exact hl) c r hw (by rw [arr_list]; exact hr)
  rw [arr_size] at h
  exact h
theorem parseMok (l r : List UInt8) (w : World) (hw : Wds w) (hl : l.length ≤ 4000) (xs : List RuleT) (hr : rulesP l = .ok xs r) :
    Calls Tryz.prog 10 #[S l] w fun e w' => ∃ v, e = .returned (.tuple #[v, .int .i64 0, .int .i64 0]) ∧ RulesAt w' w.heap.size xs v ∧ Below w.heap.size w w' :=
  parse_ok ⟨l.toArray⟩ w (by rw [arr_size]; exact hl) xs r hw (by rw [arr_list]; exact hr)
theorem parseMlong (l : List UInt8) (w : World) (hl : 4000 < l.length) :
    Calls Tryz.prog 10 #[S l] w fun e w' => e = .returned (.tuple #[.slice none 0 0, .int .i64 4, .int .i64 0]) ∧ Below w.heap.size w w' :=
  parse_long ⟨l.toArray⟩ w (by rw [arr_size]; exact hl)
theorem own_zero {w : World} {base : Nat} {e : TypeId} {size : Nat} {v : Value} {xs : List Value} (h : w.ownsRow base e size v 0 xs) : ∃ a c, v = .slice a 0 c := by
  rcases h.2 with ⟨rfl, _⟩ | ⟨g, cap, cur, rfl, _⟩
  · exact ⟨_, _, rfl⟩
  · exact ⟨_, _, rfl⟩
theorem infoByte : (Tryz.prog.info? 5).map (fun i => (i.zero, i.size, i.bytes)) = some (some (.int .u8 0), 1, 1) := by kernel_rfl
theorem RowB.below2 {w w' : World} {B g n : Nat} {L : List UInt8} (h : RowB w B g n L) (hb : Below w.heap.size w w') : RowB w' B g n L := own_tag h (grown_of_below hb none) (fun _ _ hh => by cases hh)

set_option maxRecDepth 100000 in
set_option maxHeartbeats 6400000 in
theorem many_11 (n m : Int) (w : World) (ht : Tab w) (hw : Wds w) (K J : Nat) (hK : K ≤ 7) (hJ : J ≤ 7) (hK2 : K ≤ 3) (hJ2 : J ≤ 4) (han : bits .and .i64 n 7 = (K : Int)) (ham : bits .and .i64 m 7 = (J : Int)) (TX : Nat → List UInt8) (hx1 : TX 1 = [111, 110, 101, 58, 32, 110, 61, 49]) (hxs : ∀ k, 1 ≤ k → TX (k + 1) = TX k ++ [32, 111, 114, 32, 110, 61, 49]) (hxl : ∀ k, k ≤ 197 + K → (TX k).length ≤ 2000) (x0 : RuleT) (hx0 : x0.any.length = 197 + K) (r : List UInt8) (hp : rulesP (TX (197 + K)) = .ok [x0] r) :
    Calls Tryz.prog 5 #[.int .i64 n, .int .i64 m] w fun x w' => x = .returned (.bool true) ∧ Below w.heap.size w w' := by
  have HT := Lib.hid ht
  have HW := Lib.hid hw
  have HX1 := Lib.hid hx1
  have HXS := Lib.hid hxs
  have HXL := Lib.hid hxl
  have HP := Lib.hid hp
  have MJ : Hid ((3996 : Int) + (J : Int) = ((3996 + J : Nat) : Int)) := Lib.hid (by omega)
  obtain ⟨i0, hi, hz0, hz1, hz2⟩ := info_parts infoByte
  clear ht hw hx1 hxs hxl hp
  have k200 : (197 : Int) + (K : Int) ≤ 200 := by omega
  have j4 : (3996 : Int) + (J : Int) ≤ 4000 := by omega
  go_enter Tryz.func5, Tryz.ntmps5
  go_wp2_with fail
  with_reducible refine (head6 _ HT.out HW.out).mono ?_
  rintro x w1 ⟨rfl, hb⟩
  have B1 := Lib.hid hb
  clear hb
  go_wp2_with fail
  go_loop [5, 6] (fun a i => ∃ k : Nat, 1 ≤ k ∧ k ≤ 197 + K ∧ i = .int .i64 k ∧ a = S (TX k)) (fun _ i => 197 + K - (intOf i).toNat)
  case atStart => exact ⟨1, Nat.le_refl _, by omega, rfl, by rw [HX1.out]⟩
  case round =>
    obtain ⟨k, hk1, hk, rfl, rfl⟩ := hrel
    by_cases hkz : k < 197 + K
    · have hki : (k : Int) < (197 : Int) + (K : Int) := by omega
      have SA : (⟨(TX k).toArray⟩ : ByteArray) ++ (⟨#[32, 111, 114, 32, 110, 61, 49]⟩ : ByteArray) = ⟨(TX (k + 1)).toArray⟩ := by rw [HXS.out k hk1]; exact arr_append (TX k) [32, 111, 114, 32, 110, 61, 49]
      have cc : ¬ 9223372036854775807 < (TX k).length + 7 := by have := HXL.out k hk; omega
      go_wp2
      go_round
      case rel => exact ⟨k + 1, by omega, by omega, by go_num, rfl⟩
      case measure => simp [intOf]; omega
    · obtain rfl : k = 197 + K := by omega
      have hkn : ¬ (((197 + K : Nat) : Int) < (197 : Int) + (K : Int)) := by omega
      have hxl2 := HXL.out (197 + K) (Nat.le_refl _)
      go_wp2_with fail
      with_reducible refine (parseMok (TX (197 + K)) r w1 (HW.out.below B1.out) (by omega) [x0] HP.out).mono ?_
      rintro x w2 ⟨v, rfl, hv, hb⟩
      have B2 := Lib.hid (B1.out.trans (hb.mono B1.out.size))
      clear hb
      obtain ⟨cs, ho, hl⟩ := hv
      obtain ⟨g, cap, rfl, hcap, hcm, hgl, hcell⟩ := own_some ho (by simp)
      obtain ⟨c1, d1, rfl, ⟨v1, rfl, hc1⟩, rfl⟩ := hl
      obtain ⟨cs1, ho1, hl1⟩ := hc1
      obtain ⟨g1, cap1, rfl, hcap1, hcm1, hgl1, hcell1⟩ := own_some ho1 (by omega)
      have e1 : w2.cell? ⟨g, 1, none⟩ = some (.slice (some ⟨g1, 0, none⟩) x0.any.length cap1) := hcell 1 (by simp)
      have hMi : ((x0.any.length : Nat) : Int) = (197 : Int) + (K : Int) := by omega
      have HMi := Lib.hid hMi
      have hne : (((x0.any.length : Nat) : Int) != (197 : Int) + (K : Int)) = false := by simp; omega
      clear ho ho1 hl1 hcell hcell1 hMi
      have bsz := B2.out.size
      go_wp2_with (at_make; refine wpList_make_full _ rfl (.tmp 68) (.tmp 68) 41 rfl w.heap.size 5 i0 (.int .u8 0) 1 Tryz.underlying41 hi hz0 hz1 .i64 .i64 _ _ (3996 + J) rfl rfl MJ.out MJ.out (by rw [hz2]; omega) (by unfold maxLen; omega) (by omega) ?_; intro w3 hown hgrow)
      have RB := Lib.hid (RowB.made hown)
      have B3 := Lib.hid (B2.out.trans ((below_none hgrow).mono bsz))
      clear hown hgrow hi hz0 hz1 hz2
      go_wp2_with fail
      go_loopw [72] (fun i wr => ∃ k : Nat, k ≤ 3996 + J ∧ i = .int .i64 k ∧ RowB wr w.heap.size w2.heap.size (3996 + J) (List.replicate k 32 ++ List.replicate (3996 + J - k) 0) ∧ Below w.heap.size w wr) (fun i _ => 3996 + J - (intOf i).toNat)
      case atStart => exact ⟨0, Nat.zero_le _, rfl, by simpa using RB.out, B3.out⟩
      case round =>
        obtain ⟨k, hk, rfl, hrb, hbb⟩ := hrel
        have RB2 := Lib.hid hrb
        have B4 := Lib.hid hbb
        clear hrb hbb RB B3
        by_cases hlt : k < 3996 + J
        · have hlti : (k : Int) < ((3996 + J : Nat) : Int) := by omega
          obtain ⟨cb, hcb⟩ := RB2.out.cell k hlt
          have fz := RB2.out.frozen k
          have gl := (World.ownsRow.lt RB2.out w2.heap.size rfl).2
          unfold bv at hcb
          have hk0 : (0 : Int) ≤ (k : Int) := by omega
          go_wp2
          go_roundw
          case rel => exact ⟨k + 1, by omega, by go_num, by rw [← put_blank _ k hlt]; exact RB2.out.stored k 32, B4.out.setCell (show w.heap.size ≤ w2.heap.size from bsz) _⟩
          case measure => simp [intOf]; omega
        · obtain rfl : k = 3996 + J := by omega
          have hlti : ¬ (((3996 + J : Nat) : Int) < ((3996 + J : Nat) : Int)) := by omega
          have RB3 : Hid (RowB wr w.heap.size w2.heap.size (3996 + J) (List.replicate (3996 + J) 32)) := Lib.hid (by have := RB2.out; rw [Nat.sub_self, List.replicate_zero, List.append_nil] at this; exact this)
          obtain ⟨bl, hbl⟩ : ∃ bl, List.replicate (3996 + J) (32 : UInt8) = bl := ⟨_, rfl⟩
          have bll : bl.length = 3996 + J := by rw [← hbl, List.length_replicate]
          have HBL := Lib.hid hbl
          have hcv : Sem.run Tryz.prog (convert 41 9 (.slice (some ⟨w2.heap.size, 0, none⟩) (3996 + J) (3996 + J))) wr = .ok (S bl) wr := by rw [← hbl]; exact RB3.out.conv
          have HLL := Lib.hid bll
          clear hbl bll
          go_wp2_with fail
          with_reducible refine (parseMok bl [] wr (HW.out.below B4.out) (by have := HLL.out; omega) [] (by rw [← HBL.out]; exact rules_blank _)).mono ?_
          rintro x w5 ⟨v, rfl, hv, hb⟩
          have B5 := Lib.hid (B4.out.trans (hb.mono B4.out.size))
          obtain ⟨cs, ho, hl⟩ := hv
          obtain ⟨za, zc, rfl⟩ := own_zero ho
          clear hb ho hl
          go_wp2
          go_ret
          exact ⟨rfl, B5.out⟩

set_option maxRecDepth 100000 in
set_option maxHeartbeats 6400000 in
theorem many_10 (n m : Int) (w : World) (ht : Tab w) (hw : Wds w) (K J : Nat) (hK : K ≤ 7) (hJ : J ≤ 7) (hK2 : K ≤ 3) (hJ2 : 4 < J) (han : bits .and .i64 n 7 = (K : Int)) (ham : bits .and .i64 m 7 = (J : Int)) (TX : Nat → List UInt8) (hx1 : TX 1 = [111, 110, 101, 58, 32, 110, 61, 49]) (hxs : ∀ k, 1 ≤ k → TX (k + 1) = TX k ++ [32, 111, 114, 32, 110, 61, 49]) (hxl : ∀ k, k ≤ 197 + K → (TX k).length ≤ 2000) (x0 : RuleT) (hx0 : x0.any.length = 197 + K) (r : List UInt8) (hp : rulesP (TX (197 + K)) = .ok [x0] r) :
    Calls Tryz.prog 5 #[.int .i64 n, .int .i64 m] w fun x w' => x = .returned (.bool true) ∧ Below w.heap.size w w' := by
  have HT := Lib.hid ht
  have HW := Lib.hid hw
  have HX1 := Lib.hid hx1
  have HXS := Lib.hid hxs
  have HXL := Lib.hid hxl
  have HP := Lib.hid hp
  have MJ : Hid ((3996 : Int) + (J : Int) = ((3996 + J : Nat) : Int)) := Lib.hid (by omega)
  obtain ⟨i0, hi, hz0, hz1, hz2⟩ := info_parts infoByte
  clear ht hw hx1 hxs hxl hp
  have k200 : (197 : Int) + (K : Int) ≤ 200 := by omega
  have j4 : ¬ (3996 : Int) + (J : Int) ≤ 4000 := by omega
  have j4b : (4000 : Int) < (3996 : Int) + (J : Int) := by omega
  go_enter Tryz.func5, Tryz.ntmps5
  go_wp2_with fail
  with_reducible refine (head6 _ HT.out HW.out).mono ?_
  rintro x w1 ⟨rfl, hb⟩
  have B1 := Lib.hid hb
  clear hb
  go_wp2_with fail
  go_loop [5, 6] (fun a i => ∃ k : Nat, 1 ≤ k ∧ k ≤ 197 + K ∧ i = .int .i64 k ∧ a = S (TX k)) (fun _ i => 197 + K - (intOf i).toNat)
  case atStart => exact ⟨1, Nat.le_refl _, by omega, rfl, by rw [HX1.out]⟩
  case round =>
    obtain ⟨k, hk1, hk, rfl, rfl⟩ := hrel
    by_cases hkz : k < 197 + K
    · have hki : (k : Int) < (197 : Int) + (K : Int) := by omega
      have SA : (⟨(TX k).toArray⟩ : ByteArray) ++ (⟨#[32, 111, 114, 32, 110, 61, 49]⟩ : ByteArray) = ⟨(TX (k + 1)).toArray⟩ := by rw [HXS.out k hk1]; exact arr_append (TX k) [32, 111, 114, 32, 110, 61, 49]
      have cc : ¬ 9223372036854775807 < (TX k).length + 7 := by have := HXL.out k hk; omega
      go_wp2
      go_round
      case rel => exact ⟨k + 1, by omega, by omega, by go_num, rfl⟩
      case measure => simp [intOf]; omega
    · obtain rfl : k = 197 + K := by omega
      have hkn : ¬ (((197 + K : Nat) : Int) < (197 : Int) + (K : Int)) := by omega
      have hxl2 := HXL.out (197 + K) (Nat.le_refl _)
      go_wp2_with fail
      with_reducible refine (parseMok (TX (197 + K)) r w1 (HW.out.below B1.out) (by omega) [x0] HP.out).mono ?_
      rintro x w2 ⟨v, rfl, hv, hb⟩
      have B2 := Lib.hid (B1.out.trans (hb.mono B1.out.size))
      clear hb
      obtain ⟨cs, ho, hl⟩ := hv
      obtain ⟨g, cap, rfl, hcap, hcm, hgl, hcell⟩ := own_some ho (by simp)
      obtain ⟨c1, d1, rfl, ⟨v1, rfl, hc1⟩, rfl⟩ := hl
      obtain ⟨cs1, ho1, hl1⟩ := hc1
      obtain ⟨g1, cap1, rfl, hcap1, hcm1, hgl1, hcell1⟩ := own_some ho1 (by omega)
      have e1 : w2.cell? ⟨g, 1, none⟩ = some (.slice (some ⟨g1, 0, none⟩) x0.any.length cap1) := hcell 1 (by simp)
      have hMi : ((x0.any.length : Nat) : Int) = (197 : Int) + (K : Int) := by omega
      have HMi := Lib.hid hMi
      have hne : (((x0.any.length : Nat) : Int) != (197 : Int) + (K : Int)) = false := by simp; omega
      clear ho ho1 hl1 hcell hcell1 hMi
      have bsz := B2.out.size
      go_wp2_with (at_make; refine wpList_make_full _ rfl (.tmp 68) (.tmp 68) 41 rfl w.heap.size 5 i0 (.int .u8 0) 1 Tryz.underlying41 hi hz0 hz1 .i64 .i64 _ _ (3996 + J) rfl rfl MJ.out MJ.out (by rw [hz2]; omega) (by unfold maxLen; omega) (by omega) ?_; intro w3 hown hgrow)
      have RB := Lib.hid (RowB.made hown)
      have B3 := Lib.hid (B2.out.trans ((below_none hgrow).mono bsz))
      clear hown hgrow hi hz0 hz1 hz2
      go_wp2_with fail
      go_loopw [72] (fun i wr => ∃ k : Nat, k ≤ 3996 + J ∧ i = .int .i64 k ∧ RowB wr w.heap.size w2.heap.size (3996 + J) (List.replicate k 32 ++ List.replicate (3996 + J - k) 0) ∧ Below w.heap.size w wr) (fun i _ => 3996 + J - (intOf i).toNat)
      case atStart => exact ⟨0, Nat.zero_le _, rfl, by simpa using RB.out, B3.out⟩
      case round =>
        obtain ⟨k, hk, rfl, hrb, hbb⟩ := hrel
        have RB2 := Lib.hid hrb
        have B4 := Lib.hid hbb
        clear hrb hbb RB B3
        by_cases hlt : k < 3996 + J
        · have hlti : (k : Int) < ((3996 + J : Nat) : Int) := by omega
          obtain ⟨cb, hcb⟩ := RB2.out.cell k hlt
          have fz := RB2.out.frozen k
          have gl := (World.ownsRow.lt RB2.out w2.heap.size rfl).2
          unfold bv at hcb
          have hk0 : (0 : Int) ≤ (k : Int) := by omega
          go_wp2
          go_roundw
          case rel => exact ⟨k + 1, by omega, by go_num, by rw [← put_blank _ k hlt]; exact RB2.out.stored k 32, B4.out.setCell (show w.heap.size ≤ w2.heap.size from bsz) _⟩
          case measure => simp [intOf]; omega
        · obtain rfl : k = 3996 + J := by omega
          have hlti : ¬ (((3996 + J : Nat) : Int) < ((3996 + J : Nat) : Int)) := by omega
          have RB3 : Hid (RowB wr w.heap.size w2.heap.size (3996 + J) (List.replicate (3996 + J) 32)) := Lib.hid (by have := RB2.out; rw [Nat.sub_self, List.replicate_zero, List.append_nil] at this; exact this)
          obtain ⟨bl, hbl⟩ : ∃ bl, List.replicate (3996 + J) (32 : UInt8) = bl := ⟨_, rfl⟩
          have bll : bl.length = 3996 + J := by rw [← hbl, List.length_replicate]
          have HBL := Lib.hid hbl
          have hcv : Sem.run Tryz.prog (convert 41 9 (.slice (some ⟨w2.heap.size, 0, none⟩) (3996 + J) (3996 + J))) wr = .ok (S bl) wr := by rw [← hbl]; exact RB3.out.conv
          have HLL := Lib.hid bll
          clear hbl bll
          go_wp2_with fail
          with_reducible refine (parseMlong bl wr (by have := HLL.out; omega)).mono ?_
          rintro x w5 ⟨rfl, hb⟩
          have B5 := Lib.hid (B4.out.trans (hb.mono B4.out.size))
          clear hb
          go_wp2
          go_ret
          exact ⟨rfl, B5.out⟩

set_option maxRecDepth 100000 in
set_option maxHeartbeats 6400000 in
theorem many_01 (n m : Int) (w : World) (ht : Tab w) (hw : Wds w) (K J : Nat) (hK : K ≤ 7) (hJ : J ≤ 7) (hK2 : 3 < K) (hJ2 : J ≤ 4) (han : bits .and .i64 n 7 = (K : Int)) (ham : bits .and .i64 m 7 = (J : Int)) (TX : Nat → List UInt8) (hx1 : TX 1 = [111, 110, 101, 58, 32, 110, 61, 49]) (hxs : ∀ k, 1 ≤ k → TX (k + 1) = TX k ++ [32, 111, 114, 32, 110, 61, 49]) (hxl : ∀ k, k ≤ 197 + K → (TX k).length ≤ 2000) (r : List UInt8) (hp : rulesP (TX (197 + K)) = .bad 4 r ∧ (((TX (197 + K)).length - r.length : Nat) : Int) = 1405) :
    Calls Tryz.prog 5 #[.int .i64 n, .int .i64 m] w fun x w' => x = .returned (.bool true) ∧ Below w.heap.size w w' := by
  have HT := Lib.hid ht
  have HW := Lib.hid hw
  have HX1 := Lib.hid hx1
  have HXS := Lib.hid hxs
  have HXL := Lib.hid hxl
  have HP := Lib.hid hp
  have MJ : Hid ((3996 : Int) + (J : Int) = ((3996 + J : Nat) : Int)) := Lib.hid (by omega)
  obtain ⟨i0, hi, hz0, hz1, hz2⟩ := info_parts infoByte
  clear ht hw hx1 hxs hxl hp
  have k200 : ¬ (197 : Int) + (K : Int) ≤ 200 := by omega
  have k200b : (200 : Int) < (197 : Int) + (K : Int) := by omega
  have j4 : (3996 : Int) + (J : Int) ≤ 4000 := by omega
  go_enter Tryz.func5, Tryz.ntmps5
  go_wp2_with fail
  with_reducible refine (head6 _ HT.out HW.out).mono ?_
  rintro x w1 ⟨rfl, hb⟩
  have B1 := Lib.hid hb
  clear hb
  go_wp2_with fail
  go_loop [5, 6] (fun a i => ∃ k : Nat, 1 ≤ k ∧ k ≤ 197 + K ∧ i = .int .i64 k ∧ a = S (TX k)) (fun _ i => 197 + K - (intOf i).toNat)
  case atStart => exact ⟨1, Nat.le_refl _, by omega, rfl, by rw [HX1.out]⟩
  case round =>
    obtain ⟨k, hk1, hk, rfl, rfl⟩ := hrel
    by_cases hkz : k < 197 + K
    · have hki : (k : Int) < (197 : Int) + (K : Int) := by omega
      have SA : (⟨(TX k).toArray⟩ : ByteArray) ++ (⟨#[32, 111, 114, 32, 110, 61, 49]⟩ : ByteArray) = ⟨(TX (k + 1)).toArray⟩ := by rw [HXS.out k hk1]; exact arr_append (TX k) [32, 111, 114, 32, 110, 61, 49]
      have cc : ¬ 9223372036854775807 < (TX k).length + 7 := by have := HXL.out k hk; omega
      go_wp2
      go_round
      case rel => exact ⟨k + 1, by omega, by omega, by go_num, rfl⟩
      case measure => simp [intOf]; omega
    · obtain rfl : k = 197 + K := by omega
      have hkn : ¬ (((197 + K : Nat) : Int) < (197 : Int) + (K : Int)) := by omega
      have hxl2 := HXL.out (197 + K) (Nat.le_refl _)
      go_wp2_with fail
      with_reducible refine (parseM (TX (197 + K)) r w1 (HW.out.below B1.out) (by omega) 4 1405 HP.out.1 HP.out.2).mono ?_
      rintro x w2 ⟨rfl, hb⟩
      have B2 := Lib.hid (B1.out.trans (hb.mono B1.out.size))
      clear hb
      have bsz := B2.out.size
      go_wp2_with (at_make; refine wpList_make_full _ rfl (.tmp 68) (.tmp 68) 41 rfl w.heap.size 5 i0 (.int .u8 0) 1 Tryz.underlying41 hi hz0 hz1 .i64 .i64 _ _ (3996 + J) rfl rfl MJ.out MJ.out (by rw [hz2]; omega) (by unfold maxLen; omega) (by omega) ?_; intro w3 hown hgrow)
      have RB := Lib.hid (RowB.made hown)
      have B3 := Lib.hid (B2.out.trans ((below_none hgrow).mono bsz))
      clear hown hgrow hi hz0 hz1 hz2
      go_wp2_with fail
      go_loopw [72] (fun i wr => ∃ k : Nat, k ≤ 3996 + J ∧ i = .int .i64 k ∧ RowB wr w.heap.size w2.heap.size (3996 + J) (List.replicate k 32 ++ List.replicate (3996 + J - k) 0) ∧ Below w.heap.size w wr) (fun i _ => 3996 + J - (intOf i).toNat)
      case atStart => exact ⟨0, Nat.zero_le _, rfl, by simpa using RB.out, B3.out⟩
      case round =>
        obtain ⟨k, hk, rfl, hrb, hbb⟩ := hrel
        have RB2 := Lib.hid hrb
        have B4 := Lib.hid hbb
        clear hrb hbb RB B3
        by_cases hlt : k < 3996 + J
        · have hlti : (k : Int) < ((3996 + J : Nat) : Int) := by omega
          obtain ⟨cb, hcb⟩ := RB2.out.cell k hlt
          have fz := RB2.out.frozen k
          have gl := (World.ownsRow.lt RB2.out w2.heap.size rfl).2
          unfold bv at hcb
          have hk0 : (0 : Int) ≤ (k : Int) := by omega
          go_wp2
          go_roundw
          case rel => exact ⟨k + 1, by omega, by go_num, by rw [← put_blank _ k hlt]; exact RB2.out.stored k 32, B4.out.setCell (show w.heap.size ≤ w2.heap.size from bsz) _⟩
          case measure => simp [intOf]; omega
        · obtain rfl : k = 3996 + J := by omega
          have hlti : ¬ (((3996 + J : Nat) : Int) < ((3996 + J : Nat) : Int)) := by omega
          have RB3 : Hid (RowB wr w.heap.size w2.heap.size (3996 + J) (List.replicate (3996 + J) 32)) := Lib.hid (by have := RB2.out; rw [Nat.sub_self, List.replicate_zero, List.append_nil] at this; exact this)
          obtain ⟨bl, hbl⟩ : ∃ bl, List.replicate (3996 + J) (32 : UInt8) = bl := ⟨_, rfl⟩
          have bll : bl.length = 3996 + J := by rw [← hbl, List.length_replicate]
          have HBL := Lib.hid hbl
          have hcv : Sem.run Tryz.prog (convert 41 9 (.slice (some ⟨w2.heap.size, 0, none⟩) (3996 + J) (3996 + J))) wr = .ok (S bl) wr := by rw [← hbl]; exact RB3.out.conv
          have HLL := Lib.hid bll
          clear hbl bll
          go_wp2_with fail
          with_reducible refine (parseMok bl [] wr (HW.out.below B4.out) (by have := HLL.out; omega) [] (by rw [← HBL.out]; exact rules_blank _)).mono ?_
          rintro x w5 ⟨v, rfl, hv, hb⟩
          have B5 := Lib.hid (B4.out.trans (hb.mono B4.out.size))
          obtain ⟨cs, ho, hl⟩ := hv
          obtain ⟨za, zc, rfl⟩ := own_zero ho
          clear hb ho hl
          go_wp2
          go_ret
          exact ⟨rfl, B5.out⟩

set_option maxRecDepth 100000 in
set_option maxHeartbeats 6400000 in
theorem many_00 (n m : Int) (w : World) (ht : Tab w) (hw : Wds w) (K J : Nat) (hK : K ≤ 7) (hJ : J ≤ 7) (hK2 : 3 < K) (hJ2 : 4 < J) (han : bits .and .i64 n 7 = (K : Int)) (ham : bits .and .i64 m 7 = (J : Int)) (TX : Nat → List UInt8) (hx1 : TX 1 = [111, 110, 101, 58, 32, 110, 61, 49]) (hxs : ∀ k, 1 ≤ k → TX (k + 1) = TX k ++ [32, 111, 114, 32, 110, 61, 49]) (hxl : ∀ k, k ≤ 197 + K → (TX k).length ≤ 2000) (r : List UInt8) (hp : rulesP (TX (197 + K)) = .bad 4 r ∧ (((TX (197 + K)).length - r.length : Nat) : Int) = 1405) :
    Calls Tryz.prog 5 #[.int .i64 n, .int .i64 m] w fun x w' => x = .returned (.bool true) ∧ Below w.heap.size w w' := by
  have HT := Lib.hid ht
  have HW := Lib.hid hw
  have HX1 := Lib.hid hx1
  have HXS := Lib.hid hxs
  have HXL := Lib.hid hxl
  have HP := Lib.hid hp
  have MJ : Hid ((3996 : Int) + (J : Int) = ((3996 + J : Nat) : Int)) := Lib.hid (by omega)
  obtain ⟨i0, hi, hz0, hz1, hz2⟩ := info_parts infoByte
  clear ht hw hx1 hxs hxl hp
  have k200 : ¬ (197 : Int) + (K : Int) ≤ 200 := by omega
  have k200b : (200 : Int) < (197 : Int) + (K : Int) := by omega
  have j4 : ¬ (3996 : Int) + (J : Int) ≤ 4000 := by omega
  have j4b : (4000 : Int) < (3996 : Int) + (J : Int) := by omega
  go_enter Tryz.func5, Tryz.ntmps5
  go_wp2_with fail
  with_reducible refine (head6 _ HT.out HW.out).mono ?_
  rintro x w1 ⟨rfl, hb⟩
  have B1 := Lib.hid hb
  clear hb
  go_wp2_with fail
  go_loop [5, 6] (fun a i => ∃ k : Nat, 1 ≤ k ∧ k ≤ 197 + K ∧ i = .int .i64 k ∧ a = S (TX k)) (fun _ i => 197 + K - (intOf i).toNat)
  case atStart => exact ⟨1, Nat.le_refl _, by omega, rfl, by rw [HX1.out]⟩
  case round =>
    obtain ⟨k, hk1, hk, rfl, rfl⟩ := hrel
    by_cases hkz : k < 197 + K
    · have hki : (k : Int) < (197 : Int) + (K : Int) := by omega
      have SA : (⟨(TX k).toArray⟩ : ByteArray) ++ (⟨#[32, 111, 114, 32, 110, 61, 49]⟩ : ByteArray) = ⟨(TX (k + 1)).toArray⟩ := by rw [HXS.out k hk1]; exact arr_append (TX k) [32, 111, 114, 32, 110, 61, 49]
      have cc : ¬ 9223372036854775807 < (TX k).length + 7 := by have := HXL.out k hk; omega
      go_wp2
      go_round
      case rel => exact ⟨k + 1, by omega, by omega, by go_num, rfl⟩
      case measure => simp [intOf]; omega
    · obtain rfl : k = 197 + K := by omega
      have hkn : ¬ (((197 + K : Nat) : Int) < (197 : Int) + (K : Int)) := by omega
      have hxl2 := HXL.out (197 + K) (Nat.le_refl _)
      go_wp2_with fail
      with_reducible refine (parseM (TX (197 + K)) r w1 (HW.out.below B1.out) (by omega) 4 1405 HP.out.1 HP.out.2).mono ?_
      rintro x w2 ⟨rfl, hb⟩
      have B2 := Lib.hid (B1.out.trans (hb.mono B1.out.size))
      clear hb
      have bsz := B2.out.size
      go_wp2_with (at_make; refine wpList_make_full _ rfl (.tmp 68) (.tmp 68) 41 rfl w.heap.size 5 i0 (.int .u8 0) 1 Tryz.underlying41 hi hz0 hz1 .i64 .i64 _ _ (3996 + J) rfl rfl MJ.out MJ.out (by rw [hz2]; omega) (by unfold maxLen; omega) (by omega) ?_; intro w3 hown hgrow)
      have RB := Lib.hid (RowB.made hown)
      have B3 := Lib.hid (B2.out.trans ((below_none hgrow).mono bsz))
      clear hown hgrow hi hz0 hz1 hz2
      go_wp2_with fail
      go_loopw [72] (fun i wr => ∃ k : Nat, k ≤ 3996 + J ∧ i = .int .i64 k ∧ RowB wr w.heap.size w2.heap.size (3996 + J) (List.replicate k 32 ++ List.replicate (3996 + J - k) 0) ∧ Below w.heap.size w wr) (fun i _ => 3996 + J - (intOf i).toNat)
      case atStart => exact ⟨0, Nat.zero_le _, rfl, by simpa using RB.out, B3.out⟩
      case round =>
        obtain ⟨k, hk, rfl, hrb, hbb⟩ := hrel
        have RB2 := Lib.hid hrb
        have B4 := Lib.hid hbb
        clear hrb hbb RB B3
        by_cases hlt : k < 3996 + J
        · have hlti : (k : Int) < ((3996 + J : Nat) : Int) := by omega
          obtain ⟨cb, hcb⟩ := RB2.out.cell k hlt
          have fz := RB2.out.frozen k
          have gl := (World.ownsRow.lt RB2.out w2.heap.size rfl).2
          unfold bv at hcb
          have hk0 : (0 : Int) ≤ (k : Int) := by omega
          go_wp2
          go_roundw
          case rel => exact ⟨k + 1, by omega, by go_num, by rw [← put_blank _ k hlt]; exact RB2.out.stored k 32, B4.out.setCell (show w.heap.size ≤ w2.heap.size from bsz) _⟩
          case measure => simp [intOf]; omega
        · obtain rfl : k = 3996 + J := by omega
          have hlti : ¬ (((3996 + J : Nat) : Int) < ((3996 + J : Nat) : Int)) := by omega
          have RB3 : Hid (RowB wr w.heap.size w2.heap.size (3996 + J) (List.replicate (3996 + J) 32)) := Lib.hid (by have := RB2.out; rw [Nat.sub_self, List.replicate_zero, List.append_nil] at this; exact this)
          obtain ⟨bl, hbl⟩ : ∃ bl, List.replicate (3996 + J) (32 : UInt8) = bl := ⟨_, rfl⟩
          have bll : bl.length = 3996 + J := by rw [← hbl, List.length_replicate]
          have HBL := Lib.hid hbl
          have hcv : Sem.run Tryz.prog (convert 41 9 (.slice (some ⟨w2.heap.size, 0, none⟩) (3996 + J) (3996 + J))) wr = .ok (S bl) wr := by rw [← hbl]; exact RB3.out.conv
          have HLL := Lib.hid bll
          clear hbl bll
          go_wp2_with fail
          with_reducible refine (parseMlong bl wr (by have := HLL.out; omega)).mono ?_
          rintro x w5 ⟨rfl, hb⟩
          have B5 := Lib.hid (B4.out.trans (hb.mono B4.out.size))
          clear hb
          go_wp2
          go_ret
          exact ⟨rfl, B5.out⟩

theorem ruleMany_walk (n m : Int) (w : World) (_hm : (Lit.int .i64 n).wf = true) (_hn : (Lit.int .i64 m).wf = true) (ht : Tab w) (hw : Wds w) :
    Calls Tryz.prog 5 #[.int .i64 n, .int .i64 m] w fun x w' => x = .returned (.bool true) ∧ Below w.heap.size w w' := by
  obtain ⟨K, hK, han⟩ : ∃ k : Nat, k ≤ 7 ∧ bits .and .i64 n 7 = (k : Int) := and_mask n 7 (by decide)
  obtain ⟨J, hJ, ham⟩ : ∃ k : Nat, k ≤ 7 ∧ bits .and .i64 m 7 = (k : Int) := and_mask m 7 (by decide)
  have hs : ∀ k, 1 ≤ k → txM (k + 1) = txM k ++ [32, 111, 114, 32, 110, 61, 49] := by
    intro k hk
    obtain ⟨j, rfl⟩ : ∃ j, k = j + 1 := ⟨k - 1, by omega⟩
    rfl
  have hl : ∀ k, k ≤ 197 + K → (txM k).length ≤ 2000 := by
    intro k hk
    cases k with
    | zero => simp [txM]
    | succ k => rw [txM_len]; omega
  by_cases h1 : K ≤ 3
  · obtain ⟨x0, r, h3, h4⟩ := chkM_ok h1
    by_cases h2 : J ≤ 4
    · exact many_11 n m w ht hw K J hK hJ h1 h2 han ham txM rfl hs hl x0 h4 r h3
    · exact many_10 n m w ht hw K J hK hJ h1 (by omega) han ham txM rfl hs hl x0 h4 r h3
  · obtain ⟨r, h3, h4⟩ := chkM_bad (by omega) hK
    by_cases h2 : J ≤ 4
    · exact many_01 n m w ht hw K J hK hJ (by omega) h2 han ham txM rfl hs hl r ⟨h3, by rw [h4]; rfl⟩
    · exact many_00 n m w ht hw K J hK hJ (by omega) (by omega) han ham txM rfl hs hl r ⟨h3, by rw [h4]; rfl⟩
end Go.Proofs.YtcobokfccfeonaaGreatDoor
