/- The document's example of what rules hold. -/
import Derived.Test.YtkjhdehpcanciaaGreatDoorEvP
import Derived.Test.YtkjhdehpcanciaaGreatDoorMRd3
import Derived.Deep.RegionHeld3
namespace Go.Proofs.YtkjhdehpcanciaaGreatDoor
open Go.RowKit Florin
set_option linter.unusedVariables false
set_option linter.unusedSimpArgs false
attribute [local go_sem ↓] Go.wp_at_zero Go.wp_at_succ

/-- A row that isn't empty begins at a block of its own. -/
theorem own_some2 {w : World} {base : Nat} {e : TypeId} {size : Nat} {v : Value} {n : Nat} {xs : List Value} (h : w.ownsRow base e size v n xs) (hn : 0 < n) :
    ∃ g cap, v = .slice (some ⟨g, 0, none⟩) n cap ∧ n ≤ cap ∧ cap ≤ maxLen ∧ g < w.heap.size ∧ ∀ j, j < n * size → w.cell? ⟨g, j, none⟩ = xs[j]? := by
  have h2 := h
  rcases h.2 with ⟨rfl, h0⟩ | ⟨g, cap, cur, rfl, _, hg, hc, hm, _⟩
  · omega
  · exact ⟨g, cap, rfl, hc, hm, (h2.lt g rfl).2, fun j hj => h2.cellAt j hj⟩
theorem oaB : OgB ⟨[49], [], 0⟩ := ⟨by decide, by decide, by decide, by decide, by decide, by decide⟩
theorem obB : OgB ⟨[49], [48], 0⟩ := ⟨by decide, by decide, by decide, by decide, by decide, by decide⟩
theorem oa3 : Num3 ⟨[49], [], 0⟩ 1 0 true := num3_of oaB rfl (by decide) rfl rfl
theorem ob3 : Num3 ⟨[49], [48], 0⟩ 1 1 true := num3_of obB rfl (by decide) rfl rfl
theorem pa : pickP engX ⟨[49], [], 0⟩ = 1 := eng_pick oa3
theorem pb : pickP engX ⟨[49], [48], 0⟩ = 5 := eng_pick ob3
theorem ma : meetsP ⟨1, [[⟨105, 0, false, [(1, 1)]⟩, ⟨118, 0, false, [(0, 0)]⟩]], []⟩ ⟨[49], [], 0⟩ = true := by
  unfold meetsP allP' holdsP inP
  simp [oa3.i, oa3.v]
theorem mb : meetsP ⟨1, [[⟨105, 0, false, [(1, 1)]⟩, ⟨118, 0, false, [(0, 0)]⟩]], []⟩ ⟨[49], [48], 0⟩ = false := by
  unfold meetsP allP' holdsP inP
  simp [ob3.i, ob3.v]

theorem meetsHd (sa : Option Addr) (sn sc : Nat) (o : Og) (w : World) (hB : OgB o) (ht : Tab w) (hc : CondAt w 0 [[⟨105, 0, false, [(1, 1)]⟩, ⟨118, 0, false, [(0, 0)]⟩]] (.slice sa sn sc)) (r : Bool) (hr : meetsP ⟨1, [[⟨105, 0, false, [(1, 1)]⟩, ⟨118, 0, false, [(0, 0)]⟩]], []⟩ o = r) :
    Calls Tryz.prog 22 #[.agg #[.int .i64 1, .slice sa sn sc, S []], OV o] w fun z w' => z = .returned (.bool r) ∧ Below w.heap.size w w' :=
  meets_as ⟨1, [[⟨105, 0, false, [(1, 1)]⟩, ⟨118, 0, false, [(0, 0)]⟩]], []⟩ (.slice sa sn sc) 0 o w hB ht (ruleB_of (us := engX) rfl _ (List.Mem.head _)) hc r hr
theorem pickHd (g cap base : Nat) (o : Og) (w : World) (hB : OgB o) (ht : Tab w) (hv : RulesAt w base engX (.slice (some ⟨g, 0, none⟩) 1 cap)) (r : Int) {k : Nat} (hk : (k : Int) = r) (hr : pickP engX o = k) :
    Calls Tryz.prog 24 #[.slice (some ⟨g, 0, none⟩) 1 cap, OV o] w fun z w' => z = .returned (.int .i64 r) ∧ Below w.heap.size w w' := by
  subst hk; exact pick_as engX _ base o w hB ht (ruleB_of rfl) hv k hr

set_option maxRecDepth 100000 in
set_option maxHeartbeats 6400000 in
theorem head7 (wO : World) (ht : Tab wO) (hw : Wds wO) : Calls Tryz.prog 17 #[] wO fun x w' => x = .returned (.bool true) ∧ Below wO.heap.size wO w' := by
  have HT0 := Lib.hid ht
  have HW0 := Lib.hid hw
  clear ht hw
  go_enter Tryz.func17, Tryz.ntmps17
  go_wp2_with fail
  with_reducible refine (parse_ok ⟨#[111, 110, 101, 58, 32, 105, 32, 61, 32, 49, 32, 97, 110, 100, 32, 118, 32, 61, 32, 48]⟩ _ (by decide) engX [] HW0.out eng_read).mono ?_
  rintro x w ⟨v, rfl, hv, hb⟩
  have HV := Lib.hid hv
  have B0 := Lib.hid hb
  have HT := Lib.hid (HT0.out.below hb)
  obtain ⟨cs, ho, hl⟩ := hv
  obtain ⟨g, cap, rfl, hcap, hcm, hgl, hcell⟩ := own_some2 ho (by decide)
  obtain ⟨c1, d1, rfl, ⟨v1, rfl, hc1⟩, rfl⟩ := hl
  have HC := Lib.hid hc1
  obtain ⟨cs1, ho1, _⟩ := hc1
  obtain ⟨sa, sn, sc, rfl⟩ := own_slice ho1
  have e0 : w.cell? ⟨g, 0, none⟩ = some (.int .i64 1) := hcell 0 (by decide)
  have e1 : w.cell? ⟨g, 1, none⟩ = some (.slice sa sn sc) := hcell 1 (by decide)
  have e2 : w.cell? ⟨g, 2, none⟩ = some (S []) := hcell 2 (by decide)
  have hcmi : (cap : Int) ≤ 9223372036854775807 := by unfold maxLen at hcm; omega
  have hci : (0 : Int) < (cap : Int) := by have : 1 ≤ cap := hcap; omega
  clear hb hcell ho1 ho HT0 HW0
  go_wp2_with fail
  with_reducible refine (read_as ⟨#[49]⟩ _ (by decide) ⟨[49], [], 0⟩ 0 (by kernel_rfl) (by kernel_rfl)).mono ?_
  rintro x w1 ⟨rfl, hb⟩
  have H1 : Hid (HeldL w [] w1) := Lib.hid (HeldL.keep (HeldL.refl w) hb)
  clear hb
  go_wp2_with fail
  with_reducible refine (read_as ⟨#[49, 46, 48]⟩ _ (by decide) ⟨[49], [48], 0⟩ 0 (by kernel_rfl) (by kernel_rfl)).mono ?_
  rintro x w2 ⟨rfl, hb⟩
  have H2 : Hid (HeldL w [(w1.heap.size, #[S [49], S [], .int .i64 0])] w2) := Lib.hid (HeldL.keep (HeldL.alloc H1.out (w1.heap.size) #[S [49], S [], .int .i64 0] 42 (by simp)) hb)
  clear H1
  clear hb
  go_wp2_with fail
  have ALL1 : Hid (∀ w' : World, HeldL w [(w2.heap.size, #[S [49], S [48], .int .i64 0]), (w1.heap.size, #[S [49], S [], .int .i64 0])] w' → w'.cell? ⟨w1.heap.size, 0, none⟩ = some (S [49]) ∧ w'.cell? ⟨w1.heap.size, 1, none⟩ = some (S []) ∧ w'.cell? ⟨w1.heap.size, 2, none⟩ = some (.int .i64 0) ∧ w'.cell? ⟨w2.heap.size, 0, none⟩ = some (S [49]) ∧ w'.cell? ⟨w2.heap.size, 1, none⟩ = some (S [48]) ∧ w'.cell? ⟨w2.heap.size, 2, none⟩ = some (.int .i64 0) ∧ w'.cell? ⟨g, 0, none⟩ = some (.int .i64 1) ∧ w'.cell? ⟨g, 1, none⟩ = some (.slice sa sn sc) ∧ w'.cell? ⟨g, 2, none⟩ = some (S []) ∧ HeldL w [(w2.heap.size, #[S [49], S [48], .int .i64 0]), (w1.heap.size, #[S [49], S [], .int .i64 0])] w') := Lib.hid (fun w' h => ⟨(h.f (List.Mem.tail _ (List.Mem.head _))).cell 0, (h.f (List.Mem.tail _ (List.Mem.head _))).cell 1, (h.f (List.Mem.tail _ (List.Mem.head _))).cell 2, (h.f (List.Mem.head _)).cell 0, (h.f (List.Mem.head _)).cell 1, (h.f (List.Mem.head _)).cell 2, (h.bel.cell (p := ⟨g, 0, none⟩) hgl).trans e0, (h.bel.cell (p := ⟨g, 1, none⟩) hgl).trans e1, (h.bel.cell (p := ⟨g, 2, none⟩) hgl).trans e2, h⟩)
  have KEEP1 : Hid (∀ w' w'' : World, (w'.cell? ⟨w1.heap.size, 0, none⟩ = some (S [49]) ∧ w'.cell? ⟨w1.heap.size, 1, none⟩ = some (S []) ∧ w'.cell? ⟨w1.heap.size, 2, none⟩ = some (.int .i64 0) ∧ w'.cell? ⟨w2.heap.size, 0, none⟩ = some (S [49]) ∧ w'.cell? ⟨w2.heap.size, 1, none⟩ = some (S [48]) ∧ w'.cell? ⟨w2.heap.size, 2, none⟩ = some (.int .i64 0) ∧ w'.cell? ⟨g, 0, none⟩ = some (.int .i64 1) ∧ w'.cell? ⟨g, 1, none⟩ = some (.slice sa sn sc) ∧ w'.cell? ⟨g, 2, none⟩ = some (S []) ∧ HeldL w [(w2.heap.size, #[S [49], S [48], .int .i64 0]), (w1.heap.size, #[S [49], S [], .int .i64 0])] w') → Below w'.heap.size w' w'' → (w''.cell? ⟨w1.heap.size, 0, none⟩ = some (S [49]) ∧ w''.cell? ⟨w1.heap.size, 1, none⟩ = some (S []) ∧ w''.cell? ⟨w1.heap.size, 2, none⟩ = some (.int .i64 0) ∧ w''.cell? ⟨w2.heap.size, 0, none⟩ = some (S [49]) ∧ w''.cell? ⟨w2.heap.size, 1, none⟩ = some (S [48]) ∧ w''.cell? ⟨w2.heap.size, 2, none⟩ = some (.int .i64 0) ∧ w''.cell? ⟨g, 0, none⟩ = some (.int .i64 1) ∧ w''.cell? ⟨g, 1, none⟩ = some (.slice sa sn sc) ∧ w''.cell? ⟨g, 2, none⟩ = some (S []) ∧ HeldL w [(w2.heap.size, #[S [49], S [48], .int .i64 0]), (w1.heap.size, #[S [49], S [], .int .i64 0])] w'')) := Lib.hid (fun w' w'' h hb => ALL1.out _ (HeldL.keep (h.2.2.2.2.2.2.2.2.2) hb))
  have HS1 : Hid (HeldL w [(w2.heap.size, #[S [49], S [48], .int .i64 0]), (w1.heap.size, #[S [49], S [], .int .i64 0])] _) := Lib.hid (HeldL.alloc H2.out (w2.heap.size) #[S [49], S [48], .int .i64 0] 42 (by simp))
  have MM1_0 : Hid (∀ w' : World, (w'.cell? ⟨w1.heap.size, 0, none⟩ = some (S [49]) ∧ w'.cell? ⟨w1.heap.size, 1, none⟩ = some (S []) ∧ w'.cell? ⟨w1.heap.size, 2, none⟩ = some (.int .i64 0) ∧ w'.cell? ⟨w2.heap.size, 0, none⟩ = some (S [49]) ∧ w'.cell? ⟨w2.heap.size, 1, none⟩ = some (S [48]) ∧ w'.cell? ⟨w2.heap.size, 2, none⟩ = some (.int .i64 0) ∧ w'.cell? ⟨g, 0, none⟩ = some (.int .i64 1) ∧ w'.cell? ⟨g, 1, none⟩ = some (.slice sa sn sc) ∧ w'.cell? ⟨g, 2, none⟩ = some (S []) ∧ HeldL w [(w2.heap.size, #[S [49], S [48], .int .i64 0]), (w1.heap.size, #[S [49], S [], .int .i64 0])] w') → Tab w') := Lib.hid (fun w' h => have hb : Below w.heap.size w w' := (h.2.2.2.2.2.2.2.2.2).bel; HT.out.below hb)
  have MM1_1 : Hid (∀ w' : World, (w'.cell? ⟨w1.heap.size, 0, none⟩ = some (S [49]) ∧ w'.cell? ⟨w1.heap.size, 1, none⟩ = some (S []) ∧ w'.cell? ⟨w1.heap.size, 2, none⟩ = some (.int .i64 0) ∧ w'.cell? ⟨w2.heap.size, 0, none⟩ = some (S [49]) ∧ w'.cell? ⟨w2.heap.size, 1, none⟩ = some (S [48]) ∧ w'.cell? ⟨w2.heap.size, 2, none⟩ = some (.int .i64 0) ∧ w'.cell? ⟨g, 0, none⟩ = some (.int .i64 1) ∧ w'.cell? ⟨g, 1, none⟩ = some (.slice sa sn sc) ∧ w'.cell? ⟨g, 2, none⟩ = some (S []) ∧ HeldL w [(w2.heap.size, #[S [49], S [48], .int .i64 0]), (w1.heap.size, #[S [49], S [], .int .i64 0])] w') → RulesAt w' wO.heap.size engX (.slice (some ⟨g, 0, none⟩) 1 cap)) := Lib.hid (fun w' h => have hb : Below w.heap.size w w' := (h.2.2.2.2.2.2.2.2.2).bel; RulesAt.kept HV.out (grown_of_below hb none) (Apart.none _ _))
  have MM1_2 : Hid (∀ w' : World, (w'.cell? ⟨w1.heap.size, 0, none⟩ = some (S [49]) ∧ w'.cell? ⟨w1.heap.size, 1, none⟩ = some (S []) ∧ w'.cell? ⟨w1.heap.size, 2, none⟩ = some (.int .i64 0) ∧ w'.cell? ⟨w2.heap.size, 0, none⟩ = some (S [49]) ∧ w'.cell? ⟨w2.heap.size, 1, none⟩ = some (S [48]) ∧ w'.cell? ⟨w2.heap.size, 2, none⟩ = some (.int .i64 0) ∧ w'.cell? ⟨g, 0, none⟩ = some (.int .i64 1) ∧ w'.cell? ⟨g, 1, none⟩ = some (.slice sa sn sc) ∧ w'.cell? ⟨g, 2, none⟩ = some (S []) ∧ HeldL w [(w2.heap.size, #[S [49], S [48], .int .i64 0]), (w1.heap.size, #[S [49], S [], .int .i64 0])] w') → CondAt w' 0 [[⟨105, 0, false, [(1, 1)]⟩, ⟨118, 0, false, [(0, 0)]⟩]] (.slice sa sn sc)) := Lib.hid (fun w' h => have hb : Below w.heap.size w w' := (h.2.2.2.2.2.2.2.2.2).bel; CondAt.kept HC.out (grown_of_below hb none) (Apart.none _ _))
  go_region_held3 (fun w' => w'.cell? ⟨w1.heap.size, 0, none⟩ = some (S [49]) ∧ w'.cell? ⟨w1.heap.size, 1, none⟩ = some (S []) ∧ w'.cell? ⟨w1.heap.size, 2, none⟩ = some (.int .i64 0) ∧ w'.cell? ⟨w2.heap.size, 0, none⟩ = some (S [49]) ∧ w'.cell? ⟨w2.heap.size, 1, none⟩ = some (S [48]) ∧ w'.cell? ⟨w2.heap.size, 2, none⟩ = some (.int .i64 0) ∧ w'.cell? ⟨g, 0, none⟩ = some (.int .i64 1) ∧ w'.cell? ⟨g, 1, none⟩ = some (.slice sa sn sc) ∧ w'.cell? ⟨g, 2, none⟩ = some (S []) ∧ HeldL w [(w2.heap.size, #[S [49], S [48], .int .i64 0]), (w1.heap.size, #[S [49], S [], .int .i64 0])] w')
    (first | exact ALL1.out _ (HeldL.drew HS1.out) | exact KEEP1.out _ _ (by assumption) hb | assumption)
    (first | (go_at_call 24; (with_reducible refine (pickHd g cap wO.heap.size ⟨[49], [], 0⟩ _ oaB (by first | exact MM1_0.out _ (by assumption) | exact MM1_0.out _ (ALL1.out _ (HeldL.drew HS1.out))) (by first | exact MM1_1.out _ (by assumption) | exact MM1_1.out _ (ALL1.out _ (HeldL.drew HS1.out))) 1 rfl pa).mono ?_); rintro x wA ⟨rfl, hb⟩) | (go_at_call 24; (with_reducible refine (pickHd g cap wO.heap.size ⟨[49], [48], 0⟩ _ obB (by first | exact MM1_0.out _ (by assumption) | exact MM1_0.out _ (ALL1.out _ (HeldL.drew HS1.out))) (by first | exact MM1_1.out _ (by assumption) | exact MM1_1.out _ (ALL1.out _ (HeldL.drew HS1.out))) 5 rfl pb).mono ?_); rintro x wB ⟨rfl, hb⟩) | (go_at_call 22; (with_reducible refine (meetsHd sa sn sc ⟨[49], [48], 0⟩ _ obB (by first | exact MM1_0.out _ (by assumption) | exact MM1_0.out _ (ALL1.out _ (HeldL.drew HS1.out))) (by first | exact MM1_2.out _ (by assumption) | exact MM1_2.out _ (ALL1.out _ (HeldL.drew HS1.out))) false mb).mono ?_); rintro x wC ⟨rfl, hb⟩) | (go_at_call 22; (with_reducible refine (meetsHd sa sn sc ⟨[49], [], 0⟩ _ oaB (by first | exact MM1_0.out _ (by assumption) | exact MM1_0.out _ (ALL1.out _ (HeldL.drew HS1.out))) (by first | exact MM1_2.out _ (by assumption) | exact MM1_2.out _ (ALL1.out _ (HeldL.drew HS1.out))) true ma).mono ?_); rintro x wD ⟨rfl, hb⟩))
  have HH : HeldL w [(w2.heap.size, #[S [49], S [48], .int .i64 0]), (w1.heap.size, #[S [49], S [], .int .i64 0])] wD := (‹wD.cell? ⟨w1.heap.size, 0, none⟩ = some (S [49]) ∧ wD.cell? ⟨w1.heap.size, 1, none⟩ = some (S []) ∧ wD.cell? ⟨w1.heap.size, 2, none⟩ = some (.int .i64 0) ∧ wD.cell? ⟨w2.heap.size, 0, none⟩ = some (S [49]) ∧ wD.cell? ⟨w2.heap.size, 1, none⟩ = some (S [48]) ∧ wD.cell? ⟨w2.heap.size, 2, none⟩ = some (.int .i64 0) ∧ wD.cell? ⟨g, 0, none⟩ = some (.int .i64 1) ∧ wD.cell? ⟨g, 1, none⟩ = some (.slice sa sn sc) ∧ wD.cell? ⟨g, 2, none⟩ = some (S []) ∧ HeldL w [(w2.heap.size, #[S [49], S [48], .int .i64 0]), (w1.heap.size, #[S [49], S [], .int .i64 0])] wD›).2.2.2.2.2.2.2.2.2
  have H3 : Hid (HeldL w [(w2.heap.size, #[S [49], S [48], .int .i64 0]), (w1.heap.size, #[S [49], S [], .int .i64 0])] wD) := Lib.hid HH
  clear HH ALL1 KEEP1 HS1 MM1_0 MM1_1 MM1_2 H2
  go_wp2
  go_ret
  exact ⟨rfl, B0.out.trans (H3.out.bel.mono B0.out.size)⟩
end Go.Proofs.YtkjhdehpcanciaaGreatDoor
