/- The walk of the law CpatMany. -/
import Derived.Test.YtmmllhdphlnpjaaDoorPtU
import Derived.Laws.BitsAllLaws
namespace Florin
def nou (k : Nat) : List UInt8 := List.replicate k 48
def manyT (n : Nat) (two : Bool) : List UInt8 := if two then ((nou n ++ [75, 59, 45]) ++ nou n) ++ [75] else nou n
def chkM (n : Nat) (two : Bool) : Bool := match cparseQ (manyT n two) with
  | .ok x => decide (n ≤ 15) && decide (x.pos.num.int = n) && (bareP x == (decide (n = 1) && !two))
  | .err c k => decide (15 < n) && decide (c = 3) && decide (k = 0)
set_option maxRecDepth 1000000 in
theorem chk_all : (List.range 32).all (fun i => chkM (i + 1) false && chkM (i + 1) true) = true := by kernel_rfl
theorem chk_one (n : Nat) (two : Bool) (h1 : 1 ≤ n) (h2 : n ≤ 32) : chkM n two = true := by
  have h := List.all_eq_true.1 chk_all (n - 1) (by simp; omega)
  rw [show n - 1 + 1 = n by omega] at h
  simp at h
  cases two with
  | false => exact h.1
  | true => exact h.2
theorem many_ok (n : Nat) (two : Bool) (h1 : 1 ≤ n) (h2 : n ≤ 32) : (n ≤ 15 ∧ ∃ x, cparseQ (manyT n two) = .ok x ∧ x.pos.num.int = n ∧ bareP x = (decide (n = 1) && !two)) ∨ (15 < n ∧ cparseQ (manyT n two) = .err 3 0) := by
  have h := chk_one n two h1 h2
  unfold chkM at h
  split at h
  · rename_i x hx
    simp at h
    exact .inl ⟨h.1.1, x, hx, h.1.2, h.2⟩
  · rename_i c k hx
    simp at h
    obtain ⟨⟨a, rfl⟩, rfl⟩ := h
    exact .inr ⟨a, hx⟩
end Florin
namespace Go.Proofs.YtmmllhdphlnpjaaDoor
open Go.RowKit Florin
set_option linter.unusedVariables false
set_option linter.unusedSimpArgs false
attribute [local go_sem ↓] Go.wp_at_zero Go.wp_at_succ
theorem and_31 (n : Int) : ∃ k : Nat, k ≤ 31 ∧ bits .and .i64 n 31 = (k : Int) := by
  refine ⟨(BitVec.ofInt 64 n &&& BitVec.ofInt 64 31).toNat, ?_, ?_⟩
  · rw [BitVec.toNat_and]
    have : (BitVec.ofInt 64 (31 : Int)).toNat = 31 := by decide
    rw [this]
    exact Nat.and_le_right
  · show IntKind.i64.wrap ((BitVec.ofInt 64 n &&& BitVec.ofInt 64 31).toNat : Int) = _
    have h1 : (BitVec.ofInt 64 n &&& BitVec.ofInt 64 31).toNat ≤ 31 := by
      rw [BitVec.toNat_and]
      have : (BitVec.ofInt 64 (31 : Int)).toNat = 31 := by decide
      rw [this]
      exact Nat.and_le_right
    exact IntWalk.i64_in _ (by omega)
theorem nou_cat (k : Nat) : (⟨(nou k).toArray⟩ : ByteArray) ++ ⟨#[48]⟩ = ⟨(nou (k + 1)).toArray⟩ := by
  unfold nou
  rw [List.replicate_succ']
  apply ByteArray.ext
  apply Array.ext'
  simp
theorem nou_len (k : Nat) : (nou k).length = k := by unfold nou; rw [List.length_replicate]
set_option maxRecDepth 100000 in
set_option maxHeartbeats 3200000 in
theorem noughts_as (n : Nat) (hn : n ≤ 32) (w : World) : Calls Tryd.prog 9 #[.int .i64 (n : Int)] w fun e w' => e = .returned (S (nou n)) ∧ w = w' := by
  go_enter Tryd.func9, Tryd.ntmps9
  go_wp2_with fail
  go_loopw [3, 4] (fun x i wr => ∃ k : Nat, k ≤ n ∧ i = .int .i64 (k : Int) ∧ x = S (nou k) ∧ wr = w) (fun _ i _ => n - (intOf i).toNat)
  case atStart => exact ⟨0, Nat.zero_le _, rfl, rfl, rfl⟩
  case round =>
    obtain ⟨k, hk, rfl, rfl, rfl⟩ := hrel
    by_cases hlt : k < n
    · have hki : (k : Int) < (n : Int) := by omega
      have hn2 : ¬ 9223372036854775807 < (nou k).length + 1 := by rw [nou_len]; omega
      go_wp2
      go_roundw
      case rel => exact ⟨k + 1, by omega, by go_num, by first | rw [nou_cat] | rw [← nou_cat], by first | rfl | trivial⟩
      case measure => simp [intOf]; omega
    · obtain rfl : k = n := by omega
      have hki : ¬ (k : Int) < (k : Int) := by omega
      go_wp2
      go_ret
      exact ⟨rfl, rfl⟩
theorem many_cat (n : Nat) : (((⟨(nou n).toArray⟩ : ByteArray) ++ ⟨#[75, 59, 45]⟩) ++ ⟨(nou n).toArray⟩) ++ ⟨#[75]⟩ = ⟨(manyT n true).toArray⟩ := by
  unfold manyT
  rw [if_pos rfl]
  apply ByteArray.ext
  apply Array.ext'
  simp
theorem many_len (n : Nat) (two : Bool) : (manyT n two).length ≤ 2 * n + 4 := by
  unfold manyT
  split
  · simp [nou_len]; omega
  · rw [nou_len]; omega
def MTold (n : Nat) (two : Bool) (c : Value) (e : Int) : Prop := True
set_option maxRecDepth 100000 in
set_option maxHeartbeats 6400000 in
theorem cpatMany_walk (n : Int) (two : Bool) (w : World) (hn : (Lit.int .i64 n).wf = true) (hE : EnvP w) :
    Calls Tryd.prog 4 #[.int .i64 n, .bool two] w fun x w' => x = .returned (.bool true) ∧ Below w.heap.size w w' := by
  obtain ⟨k, hk31, hk⟩ := and_31 n
  have HE := Lib.hid hE
  obtain ⟨m, hm⟩ : ∃ m, m = k + 1 := ⟨_, rfl⟩
  have hmi : 1 + bits .and .i64 n 31 = (m : Int) := by omega
  have HK := Lib.hid hk
  have hm1 : 1 ≤ m := by omega
  have hm32 : m ≤ 32 := by omega
  have HMO := Lib.hid (many_ok m two hm1 hm32)
  have hlen := nou_len m
  have hML := many_len m two
  clear hE hk
  go_enter Tryd.func4, Tryd.ntmps4
  go_wp2_with fail
  with_reducible refine (head12 _ HE.out).mono ?_
  rintro e w1 ⟨rfl, hb⟩
  have B1 := Lib.hid hb
  have E1 := Lib.hid (HE.out.below hb)
  have hs1 := hb.size
  clear hb
  have hk' := HK.out
  go_upto_region 4 with fail
  rw [show 1 + (k : Int) = (m : Int) by omega]
  clear hk' hmi HK hm hk31
  go_wp2_with fail
  with_reducible refine (noughts_as m hm32 _).mono ?_
  rintro e w2 ⟨rfl, rfl⟩
  have hz1 : ¬ 9223372036854775807 < (nou m).length + 3 := by omega
  have hz2 : ¬ 9223372036854775807 < (nou m).length + 3 + (nou m).length := by omega
  have hz3 : ¬ 9223372036854775807 < (nou m).length + 3 + (nou m).length + 1 := by omega
  cases two with
  | false =>
    have hmt : manyT m false = nou m := rfl
    go_wp2_with fail
    rw [show S (nou m) = .string ⟨(manyT m false).toArray⟩ from rfl]
    rcases HMO.out with ⟨hle, x, hx, hi, hbare⟩ | ⟨hgt, hx⟩
    · have HI := Lib.hid hi
      have HBA := Lib.hid hbare
      clear hi hbare
      with_reducible refine (cparse_as ⟨(manyT m false).toArray⟩ _ E1.out (by rw [arr_size]; unfold maxLen; omega) (fun x h => parse_len h) (.ok x) hx).mono ?_
      rintro e w3 ⟨⟨vp, vs, np, ns, rfl, hv⟩, hb⟩
      obtain ⟨h1, h2, h3, h4⟩ := patV_lists hv
      obtain ⟨a1, c1, rfl⟩ := h1.slice
      obtain ⟨a2, c2, rfl⟩ := h2.slice
      obtain ⟨a3, c3, rfl⟩ := h3.slice
      obtain ⟨a4, c4, rfl⟩ := h4.slice
      clear hv h1 h2 h3 h4
      have B3 := Lib.hid ((B1.out.trans (hb.mono hs1)).alloc (by have := hb.size; omega) (.cells #[.int .i64 (x.pos.num.int : Int), .bool (bareP x), (.slice a1 x.pos.pre.length c1), (.slice a2 x.pos.suf.length c2), (.slice a3 (negPre x).length c3), (.slice a4 (negSuf x).length c4), .bool x.neg.isSome, .int .i64 (x.pos.num.hash : Int), .int .i64 (x.pos.num.int : Int), .int .i64 (x.pos.num.minF : Int), .int .i64 (x.pos.num.maxF : Int), .int .i64 (x.pos.num.grp : Int), .int .i64 (x.pos.num.more : Int)] TC))
      have X3 := Lib.hid (BoxT.new w3 #[.int .i64 (x.pos.num.int : Int), .bool (bareP x), (.slice a1 x.pos.pre.length c1), (.slice a2 x.pos.suf.length c2), (.slice a3 (negPre x).length c3), (.slice a4 (negSuf x).length c4), .bool x.neg.isSome, .int .i64 (x.pos.num.hash : Int), .int .i64 (x.pos.num.int : Int), .int .i64 (x.pos.num.minF : Int), .int .i64 (x.pos.num.maxF : Int), .int .i64 (x.pos.num.grp : Int), .int .i64 (x.pos.num.more : Int)] TC)
      clear hb
      simp only [CC]
      go_upto_region 8 with fail
      generalize w3.alloc (.cells #[.int .i64 (x.pos.num.int : Int), .bool (bareP x), (.slice a1 x.pos.pre.length c1), (.slice a2 x.pos.suf.length c2), (.slice a3 (negPre x).length c3), (.slice a4 (negSuf x).length c4), .bool x.neg.isSome, .int .i64 (x.pos.num.hash : Int), .int .i64 (x.pos.num.int : Int), .int .i64 (x.pos.num.minF : Int), .int .i64 (x.pos.num.maxF : Int), .int .i64 (x.pos.num.grp : Int), .int .i64 (x.pos.num.more : Int)] TC) = w4 at *
      generalize w3.heap.size = q at *
      have x0 := X3.out.cell 0
      have x1 := X3.out.cell 1
      simp at x0 x1
      rw [HI.out] at x0
      rw [HBA.out] at x1
      have g0 : ((m : Int) == (m : Int)) = true := by simp
      have g1 : (m : Int) ≤ 15 := by omega
      by_cases h1m : m = 1
      · subst h1m
        simp at x0 x1
        go_wp2
        go_ret
        exact ⟨rfl, B3.out⟩
      · have g2 : ((m : Int) == 1) = false := by simp; omega
        have g3 : decide (m = 1) = false := by simp [h1m]
        simp [g3] at x1
        clear g3
        go_wp2
        go_ret
        exact ⟨rfl, B3.out⟩
    · with_reducible refine (cparse_as ⟨(manyT m false).toArray⟩ _ E1.out (by rw [arr_size]; unfold maxLen; omega) (fun x h => parse_len h) (.err 3 0) hx).mono ?_
      rintro e w3 ⟨rfl, hb⟩
      have B3 := Lib.hid ((B1.out.trans (hb.mono hs1)).alloc (by have := hb.size; omega) (.cells CZ TC))
      have X3 := Lib.hid (BoxT.new w3 CZ TC)
      clear hb
      go_upto_region 8 with fail
      generalize w3.alloc (.cells CZ TC) = w4 at *
      generalize w3.heap.size = q at *
      have x0 : w4.cell? ⟨q, 0, none⟩ = some (.int .i64 0) := X3.out.cell 0
      have x1 : w4.cell? ⟨q, 1, none⟩ = some (.bool false) := X3.out.cell 1
      have g1 : ¬ (m : Int) ≤ 15 := by omega
      have g2 : (15 : Int) < (m : Int) := by omega
      go_wp2
      go_ret
      exact ⟨rfl, B3.out⟩
  | true =>
    go_wp2_with fail
    rw [many_cat]
    rcases HMO.out with ⟨hle, x, hx, hi, hbare⟩ | ⟨hgt, hx⟩
    · have HI := Lib.hid hi
      have HBA := Lib.hid hbare
      clear hi hbare
      with_reducible refine (cparse_as ⟨(manyT m true).toArray⟩ _ E1.out (by rw [arr_size]; unfold maxLen; omega) (fun x h => parse_len h) (.ok x) hx).mono ?_
      rintro e w3 ⟨⟨vp, vs, np, ns, rfl, hv⟩, hb⟩
      obtain ⟨h1, h2, h3, h4⟩ := patV_lists hv
      obtain ⟨a1, c1, rfl⟩ := h1.slice
      obtain ⟨a2, c2, rfl⟩ := h2.slice
      obtain ⟨a3, c3, rfl⟩ := h3.slice
      obtain ⟨a4, c4, rfl⟩ := h4.slice
      clear hv h1 h2 h3 h4
      have B3 := Lib.hid ((B1.out.trans (hb.mono hs1)).alloc (by have := hb.size; omega) (.cells #[.int .i64 (x.pos.num.int : Int), .bool (bareP x), (.slice a1 x.pos.pre.length c1), (.slice a2 x.pos.suf.length c2), (.slice a3 (negPre x).length c3), (.slice a4 (negSuf x).length c4), .bool x.neg.isSome, .int .i64 (x.pos.num.hash : Int), .int .i64 (x.pos.num.int : Int), .int .i64 (x.pos.num.minF : Int), .int .i64 (x.pos.num.maxF : Int), .int .i64 (x.pos.num.grp : Int), .int .i64 (x.pos.num.more : Int)] TC))
      have X3 := Lib.hid (BoxT.new w3 #[.int .i64 (x.pos.num.int : Int), .bool (bareP x), (.slice a1 x.pos.pre.length c1), (.slice a2 x.pos.suf.length c2), (.slice a3 (negPre x).length c3), (.slice a4 (negSuf x).length c4), .bool x.neg.isSome, .int .i64 (x.pos.num.hash : Int), .int .i64 (x.pos.num.int : Int), .int .i64 (x.pos.num.minF : Int), .int .i64 (x.pos.num.maxF : Int), .int .i64 (x.pos.num.grp : Int), .int .i64 (x.pos.num.more : Int)] TC)
      clear hb
      simp only [CC]
      go_upto_region 8 with fail
      generalize w3.alloc (.cells #[.int .i64 (x.pos.num.int : Int), .bool (bareP x), (.slice a1 x.pos.pre.length c1), (.slice a2 x.pos.suf.length c2), (.slice a3 (negPre x).length c3), (.slice a4 (negSuf x).length c4), .bool x.neg.isSome, .int .i64 (x.pos.num.hash : Int), .int .i64 (x.pos.num.int : Int), .int .i64 (x.pos.num.minF : Int), .int .i64 (x.pos.num.maxF : Int), .int .i64 (x.pos.num.grp : Int), .int .i64 (x.pos.num.more : Int)] TC) = w4 at *
      generalize w3.heap.size = q at *
      have x0 := X3.out.cell 0
      have x1 := X3.out.cell 1
      simp at x0 x1
      rw [HI.out] at x0
      rw [HBA.out] at x1
      have g0 : ((m : Int) == (m : Int)) = true := by simp
      have g1 : (m : Int) ≤ 15 := by omega
      by_cases h1m : m = 1
      · subst h1m
        simp at x0 x1
        go_wp2
        go_ret
        exact ⟨rfl, B3.out⟩
      · have g2 : ((m : Int) == 1) = false := by simp; omega
        have g3 : decide (m = 1) = false := by simp [h1m]
        simp [g3] at x1
        clear g3
        go_wp2
        go_ret
        exact ⟨rfl, B3.out⟩
    · with_reducible refine (cparse_as ⟨(manyT m true).toArray⟩ _ E1.out (by rw [arr_size]; unfold maxLen; omega) (fun x h => parse_len h) (.err 3 0) hx).mono ?_
      rintro e w3 ⟨rfl, hb⟩
      have B3 := Lib.hid ((B1.out.trans (hb.mono hs1)).alloc (by have := hb.size; omega) (.cells CZ TC))
      have X3 := Lib.hid (BoxT.new w3 CZ TC)
      clear hb
      go_upto_region 8 with fail
      generalize w3.alloc (.cells CZ TC) = w4 at *
      generalize w3.heap.size = q at *
      have x0 : w4.cell? ⟨q, 0, none⟩ = some (.int .i64 0) := X3.out.cell 0
      have x1 : w4.cell? ⟨q, 1, none⟩ = some (.bool false) := X3.out.cell 1
      have g1 : ¬ (m : Int) ≤ 15 := by omega
      have g2 : (15 : Int) < (m : Int) := by omega
      go_wp2
      go_ret
      exact ⟨rfl, B3.out⟩
end Go.Proofs.YtmmllhdphlnpjaaDoor
