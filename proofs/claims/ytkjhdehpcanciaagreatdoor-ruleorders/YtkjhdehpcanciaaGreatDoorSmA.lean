/- Two rows of rules that are the same are told to be so. -/
import Derived.Test.YtkjhdehpcanciaaGreatDoorMSt
import Derived.Laws.StructEq
import Derived.Deep.RegionHeld3
namespace Go.Proofs.YtkjhdehpcanciaaGreatDoor
open Go.RowKit Florin
set_option linter.unusedVariables false
set_option linter.unusedSimpArgs false

theorem run_RR (a b : Int) (w : World) : (Op.equalIn 10000 64 (.agg #[.int .i64 a, .int .i64 b]) (.agg #[.int .i64 a, .int .i64 b])).run Tryz.prog w = .ok true w := by
  rw [show (10000 : Nat) = 9999 + 1 from rfl, run_equalIn_struct w 9999 64 _ _ (by kernel_rfl) (by kernel_rfl)]
  simp [go_sem, Tryz.underlying64, Tryz.underlying3]
theorem ne_RR (a b : Int) (w : World) : (binOp .neq 64 (.agg #[.int .i64 a, .int .i64 b]) (.agg #[.int .i64 a, .int .i64 b])).run Tryz.prog w = .ok (.bool false) w := by
  rw [run_neq_struct, run_RR]; rfl
attribute [local go_sem ↓] Go.wp_at_zero Go.wp_at_succ ne_RR
/-- A row: where it begins, if there is something in it. -/
theorem own_form {w : World} {base : Nat} {e : TypeId} {size : Nat} {v : Value} {n : Nat} {xs : List Value} (h : w.ownsRow base e size v n xs) :
    ∃ a c, v = .slice a n c ∧ n ≤ c ∧ c ≤ maxLen ∧ (0 < n → ∃ g, a = some ⟨g, 0, none⟩ ∧ g < w.heap.size ∧ ∀ j, j < n * size → w.cell? ⟨g, j, none⟩ = xs[j]?) := by
  have h2 := h
  rcases h.2 with ⟨rfl, h0⟩ | ⟨g, cap, cur, rfl, _, hg, hc, hm, _⟩
  · subst h0; exact ⟨none, 0, rfl, Nat.le_refl _, by unfold maxLen; omega, fun h => absurd h (by omega)⟩
  · exact ⟨_, cap, rfl, hc, hm, fun _ => ⟨g, rfl, (h2.lt g rfl).2, fun j hj => h2.cellAt j hj⟩⟩

set_option maxRecDepth 100000 in
set_option maxHeartbeats 3200000 in
theorem sameRel_as (x : RelT) (v1 v2 : Value) (b1 b2 : Nat) (w : World) (h1 : Rngs w b1 x.rs v1) (h2 : Rngs w b2 x.rs v2) :
    Calls Tryz.prog 35 #[.agg #[.int .u8 ((x.op : UInt8).toNat : Int), .int .i64 ((x.mod : Nat) : Int), .bool x.nt, v1], .agg #[.int .u8 ((x.op : UInt8).toNat : Int), .int .i64 ((x.mod : Nat) : Int), .bool x.nt, v2]] w fun e w' => e = .returned (.bool true) ∧ Below w.heap.size w w' := by
  obtain ⟨a1, c1, rfl, hc1, hm1, f1⟩ := own_form h1
  obtain ⟨a2, c2, rfl, hc2, hm2, f2⟩ := own_form h2
  have F1 := Lib.hid f1
  have F2 := Lib.hid f2
  have HL := Lib.hid (rng_list w x.rs)
  have m1i : (c1 : Int) ≤ 9223372036854775807 := by unfold maxLen at hm1; omega
  have m2i : (c2 : Int) ≤ 9223372036854775807 := by unfold maxLen at hm2; omega
  clear h1 h2 f1 f2
  go_enter Tryz.func35, Tryz.ntmps35
  go_wp2_with fail
  go_loopw [5, 37] (fun u5 i wr => ∃ k : Nat, k ≤ x.rs.length ∧ i = .int .i64 k ∧ HeldL w [(w.heap.size + 1, #[.int .u8 ((x.op : UInt8).toNat : Int), .int .i64 ((x.mod : Nat) : Int), .bool x.nt, .slice a2 x.rs.length c2]), (w.heap.size, #[.int .u8 ((x.op : UInt8).toNat : Int), .int .i64 ((x.mod : Nat) : Int), .bool x.nt, .slice a1 x.rs.length c1])] wr) (fun _ i _ => x.rs.length - (intOf i).toNat)
  case atStart => exact ⟨0, Nat.zero_le _, rfl, HeldL.alloc (HeldL.alloc (HeldL.refl w) (w.heap.size) #[.int .u8 ((x.op : UInt8).toNat : Int), .int .i64 ((x.mod : Nat) : Int), .bool x.nt, .slice a1 x.rs.length c1] 50 (by simp)) (w.heap.size + 1) #[.int .u8 ((x.op : UInt8).toNat : Int), .int .i64 ((x.mod : Nat) : Int), .bool x.nt, .slice a2 x.rs.length c2] 50 (by simp)⟩
  case round =>
    obtain ⟨k, hk, rfl, hh⟩ := hrel
    have HH := Lib.hid hh
    have a3 : wr.cell? ⟨w.heap.size, 3, none⟩ = some (.slice a1 x.rs.length c1) := (hh.f (List.Mem.tail _ (List.Mem.head _))).cell 3
    have b3 : wr.cell? ⟨w.heap.size + 1, 3, none⟩ = some (.slice a2 x.rs.length c2) := (hh.f (List.Mem.head _)).cell 3
    have al : w.heap.size < wr.heap.size := (hh.f (List.Mem.tail _ (List.Mem.head _))).lt
    have bl : w.heap.size + 1 < wr.heap.size := (hh.f (List.Mem.head _)).lt
    clear hh
    by_cases hlt : k < x.rs.length
    · have hlti : (k : Int) < (x.rs.length : Int) := by omega
      obtain ⟨g1, rfl, gl1, gc1⟩ := F1.out (by omega)
      obtain ⟨g2, rfl, gl2, gc2⟩ := F2.out (by omega)
      obtain ⟨xk, hxk⟩ : ∃ xk, x.rs[k] = xk := ⟨_, rfl⟩
      obtain ⟨c, hA, hc⟩ := ListAt.get (sz := 2) (fun x c h => by obtain rfl := h; rfl) HL.out k hlt
      rw [hxk] at hA
      clear hxk
      obtain rfl := hA
      have e0 : wr.cell? ⟨g1, k * 2, none⟩ = some (.int .i64 ((xk.1 : Nat) : Int)) := by rw [HH.out.bel.cell (show g1 < _ from gl1), gc1 _ (by omega), show (rngC x.rs)[k * 2]? = _ from hc 0 (by decide)]; rfl
      have e1 : wr.cell? ⟨g1, k * 2 + 1, none⟩ = some (.int .i64 ((xk.2 : Nat) : Int)) := by rw [HH.out.bel.cell (show g1 < _ from gl1), gc1 _ (by omega), show (rngC x.rs)[k * 2 + 1]? = _ from hc 1 (by decide)]; rfl
      have d0 : wr.cell? ⟨g2, k * 2, none⟩ = some (.int .i64 ((xk.1 : Nat) : Int)) := by rw [HH.out.bel.cell (show g2 < _ from gl2), gc2 _ (by omega), show (rngC x.rs)[k * 2]? = _ from hc 0 (by decide)]; rfl
      have d1 : wr.cell? ⟨g2, k * 2 + 1, none⟩ = some (.int .i64 ((xk.2 : Nat) : Int)) := by rw [HH.out.bel.cell (show g2 < _ from gl2), gc2 _ (by omega), show (rngC x.rs)[k * 2 + 1]? = _ from hc 1 (by decide)]; rfl
      clear hc gc1 gc2
      have hk3 : (0 : Int) ≤ (k : Int) := by omega
      have hkc1 : (k : Int) < (c1 : Int) := by omega
      have hkc2 : (k : Int) < (c2 : Int) := by omega
      have glr1 : g1 < wr.heap.size := Nat.lt_of_lt_of_le gl1 HH.out.bel.size
      have glr2 : g2 < wr.heap.size := Nat.lt_of_lt_of_le gl2 HH.out.bel.size
      go_wp2_with fail
      go_region
      all_goals (try go_wp2)
      all_goals go_roundw
      case rel => exact ⟨k + 1, by omega, by go_num, HH.out.drew⟩
      case measure => simp [intOf]; omega
    · obtain rfl : k = x.rs.length := by omega
      have hlti : ¬ (x.rs.length : Int) < (x.rs.length : Int) := by omega
      go_wp2
      go_ret
      exact ⟨rfl, HH.out.bel⟩
end Go.Proofs.YtkjhdehpcanciaaGreatDoor
