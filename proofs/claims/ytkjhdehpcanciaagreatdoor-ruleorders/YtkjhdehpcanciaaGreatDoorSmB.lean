/- Two rows of rules that are the same are told to be so. -/
import Derived.Test.YtkjhdehpcanciaaGreatDoorSmA
import Derived.Deep.RegionHeld3
namespace Go.Proofs.YtkjhdehpcanciaaGreatDoor
open Go.RowKit Florin
set_option linter.unusedVariables false
set_option linter.unusedSimpArgs false
attribute [local go_sem ↓] Go.wp_at_zero Go.wp_at_succ

set_option maxRecDepth 100000 in
set_option maxHeartbeats 6400000 in
theorem same_as (xs : List RuleT) (v1 v2 : Value) (b1 b2 : Nat) (w : World) (h1 : RulesAt w b1 xs v1) (h2 : RulesAt w b2 xs v2) :
    Calls Tryz.prog 14 #[v1, v2] w fun e w' => e = .returned (.bool true) ∧ Below w.heap.size w w' := by
  obtain ⟨cs1, ho1, hl1⟩ := h1
  obtain ⟨cs2, ho2, hl2⟩ := h2
  obtain ⟨a1, c1, rfl, hc1, hm1, f1⟩ := own_form ho1
  obtain ⟨a2, c2, rfl, hc2, hm2, f2⟩ := own_form ho2
  have F1 := Lib.hid f1
  have F2 := Lib.hid f2
  have HL1 := Lib.hid hl1
  have HL2 := Lib.hid hl2
  have m1i : (c1 : Int) ≤ 9223372036854775807 := by unfold maxLen at hm1; omega
  have m2i : (c2 : Int) ≤ 9223372036854775807 := by unfold maxLen at hm2; omega
  clear ho1 ho2 hl1 hl2 f1 f2
  go_enter Tryz.func14, Tryz.ntmps14
  go_wp2_with fail
  go_loopw [5, 15] (fun u5 i wr => ∃ k : Nat, k ≤ xs.length ∧ i = .int .i64 k ∧ Below w.heap.size w wr) (fun _ i _ => xs.length - (intOf i).toNat)
  case atStart => exact ⟨0, Nat.zero_le _, rfl, Below.refl _ _⟩
  case round =>
    obtain ⟨k, hk, rfl, hh⟩ := hrel
    have HH := Lib.hid hh
    clear hh
    by_cases hlt : k < xs.length
    · have hlti : (k : Int) < (xs.length : Int) := by omega
      obtain ⟨g1, rfl, gl1, gc1⟩ := F1.out (by omega)
      obtain ⟨g2, rfl, gl2, gc2⟩ := F2.out (by omega)
      obtain ⟨u, hu⟩ : ∃ u, xs[k] = u := ⟨_, rfl⟩
      obtain ⟨d1, hA1, hd1⟩ := ListAt.get (sz := 3) (fun x c h => by obtain ⟨u, rfl, _⟩ := h; rfl) HL1.out k hlt
      obtain ⟨d2, hA2, hd2⟩ := ListAt.get (sz := 3) (fun x c h => by obtain ⟨u, rfl, _⟩ := h; rfl) HL2.out k hlt
      rw [hu] at hA1 hA2
      clear hu
      obtain ⟨u1, rfl, cs3, ho3, hl3⟩ := hA1
      obtain ⟨u2, rfl, cs4, ho4, hl4⟩ := hA2
      obtain ⟨a3, c3, rfl, hc3, hm3, f3⟩ := own_form ho3
      obtain ⟨a4, c4, rfl, hc4, hm4, f4⟩ := own_form ho4
      have F3 := Lib.hid f3
      have F4 := Lib.hid f4
      have HL3 := Lib.hid hl3
      have HL4 := Lib.hid hl4
      have m3i : (c3 : Int) ≤ 9223372036854775807 := by unfold maxLen at hm3; omega
      have m4i : (c4 : Int) ≤ 9223372036854775807 := by unfold maxLen at hm4; omega
      clear ho3 ho4 hl3 hl4 f3 f4
      have e0 : w.cell? ⟨g1, k * 3, none⟩ = some (.int .i64 ((u.cat : Nat) : Int)) := by rw [gc1 _ (by omega), show cs1[k * 3]? = _ from hd1 0 (by decide)]; rfl
      have e1 : w.cell? ⟨g1, k * 3 + 1, none⟩ = some (.slice a3 u.any.length c3) := by rw [gc1 _ (by omega), show cs1[k * 3 + 1]? = _ from hd1 1 (by decide)]; rfl
      have e2 : w.cell? ⟨g1, k * 3 + 2, none⟩ = some (S u.smp) := by rw [gc1 _ (by omega), show cs1[k * 3 + 2]? = _ from hd1 2 (by decide)]; rfl
      have d0 : w.cell? ⟨g2, k * 3, none⟩ = some (.int .i64 ((u.cat : Nat) : Int)) := by rw [gc2 _ (by omega), show cs2[k * 3]? = _ from hd2 0 (by decide)]; rfl
      have d1 : w.cell? ⟨g2, k * 3 + 1, none⟩ = some (.slice a4 u.any.length c4) := by rw [gc2 _ (by omega), show cs2[k * 3 + 1]? = _ from hd2 1 (by decide)]; rfl
      have d2 : w.cell? ⟨g2, k * 3 + 2, none⟩ = some (S u.smp) := by rw [gc2 _ (by omega), show cs2[k * 3 + 2]? = _ from hd2 2 (by decide)]; rfl
      clear hd1 hd2 gc1 gc2
      have hk3 : (0 : Int) ≤ (k : Int) := by omega
      have hkc1 : (k : Int) < (c1 : Int) := by omega
      have hkc2 : (k : Int) < (c2 : Int) := by omega
      have glr1 : g1 < wr.heap.size := Nat.lt_of_lt_of_le gl1 HH.out.size
      have glr2 : g2 < wr.heap.size := Nat.lt_of_lt_of_le gl2 HH.out.size
      have er0 : wr.cell? ⟨g1, k * 3, none⟩ = some (.int .i64 ((u.cat : Nat) : Int)) := by rw [HH.out.cell (show g1 < _ from gl1)]; exact e0
      have er1 : wr.cell? ⟨g1, k * 3 + 1, none⟩ = some (.slice a3 u.any.length c3) := by rw [HH.out.cell (show g1 < _ from gl1)]; exact e1
      have er2 : wr.cell? ⟨g1, k * 3 + 2, none⟩ = some (S u.smp) := by rw [HH.out.cell (show g1 < _ from gl1)]; exact e2
      have dr0 : wr.cell? ⟨g2, k * 3, none⟩ = some (.int .i64 ((u.cat : Nat) : Int)) := by rw [HH.out.cell (show g2 < _ from gl2)]; exact d0
      have dr1 : wr.cell? ⟨g2, k * 3 + 1, none⟩ = some (.slice a4 u.any.length c4) := by rw [HH.out.cell (show g2 < _ from gl2)]; exact d1
      have dr2 : wr.cell? ⟨g2, k * 3 + 2, none⟩ = some (S u.smp) := by rw [HH.out.cell (show g2 < _ from gl2)]; exact d2
      have E0 := Lib.hid (And.intro e0 (And.intro e1 e2))
      have D0 := Lib.hid (And.intro d0 (And.intro d1 d2))
      clear e0 e1 e2 d0 d1 d2
      go_wp2_with fail
      go_region
      all_goals go_wp2_with fail
      go_loopw [6, 63] (fun u6 i wr => ∃ j : Nat, j ≤ u.any.length ∧ i = .int .i64 j ∧ Below w.heap.size w wr) (fun _ i _ => u.any.length - (intOf i).toNat)
      case atStart => exact ⟨0, Nat.zero_le _, rfl, HH.out.drew⟩
      case round =>
        obtain ⟨j, hj, rfl, hh⟩ := hrel
        have HI := Lib.hid hh
        clear hh er0 er1 er2 dr0 dr1 dr2 glr1 glr2 HH
        by_cases hlj : j < u.any.length
        · have hlji : (j : Int) < (u.any.length : Int) := by omega
          obtain ⟨g3, rfl, gl3, gc3⟩ := F3.out (by omega)
          obtain ⟨g4, rfl, gl4, gc4⟩ := F4.out (by omega)
          obtain ⟨al, hal⟩ : ∃ al, u.any[j] = al := ⟨_, rfl⟩
          obtain ⟨d3, hA3, hd3⟩ := ListAt.get (sz := 1) (fun x c h => by obtain ⟨u, rfl, _⟩ := h; rfl) HL3.out j hlj
          obtain ⟨d4, hA4, hd4⟩ := ListAt.get (sz := 1) (fun x c h => by obtain ⟨u, rfl, _⟩ := h; rfl) HL4.out j hlj
          rw [hal] at hA3 hA4
          clear hal
          obtain ⟨u3, rfl, cs5, ho5, hl5⟩ := hA3
          obtain ⟨u4, rfl, cs6, ho6, hl6⟩ := hA4
          obtain ⟨a5, c5, rfl, hc5, hm5, f5⟩ := own_form ho5
          obtain ⟨a6, c6, rfl, hc6, hm6, f6⟩ := own_form ho6
          have F5 := Lib.hid f5
          have F6 := Lib.hid f6
          have HL5 := Lib.hid hl5
          have HL6 := Lib.hid hl6
          have m5i : (c5 : Int) ≤ 9223372036854775807 := by unfold maxLen at hm5; omega
          have m6i : (c6 : Int) ≤ 9223372036854775807 := by unfold maxLen at hm6; omega
          have p3 : w.cell? ⟨g3, j, none⟩ = some (.slice a5 al.length c5) := by rw [gc3 _ (by omega)]; have := hd3 0 (by decide); rw [Nat.mul_one, Nat.add_zero] at this; rw [this]; rfl
          have p4 : w.cell? ⟨g4, j, none⟩ = some (.slice a6 al.length c6) := by rw [gc4 _ (by omega)]; have := hd4 0 (by decide); rw [Nat.mul_one, Nat.add_zero] at this; rw [this]; rfl
          have P34 := Lib.hid (And.intro p3 p4)
          have pr3 : wr.cell? ⟨g3, j, none⟩ = some (.slice a5 al.length c5) := by rw [HI.out.cell (show g3 < _ from gl3)]; exact p3
          have pr4 : wr.cell? ⟨g4, j, none⟩ = some (.slice a6 al.length c6) := by rw [HI.out.cell (show g4 < _ from gl4)]; exact p4
          have er1 : wr.cell? ⟨g1, k * 3 + 1, none⟩ = some (.slice (some ⟨g3, 0, none⟩) u.any.length c3) := by rw [HI.out.cell (show g1 < _ from gl1)]; exact E0.out.2.1
          have dr1 : wr.cell? ⟨g2, k * 3 + 1, none⟩ = some (.slice (some ⟨g4, 0, none⟩) u.any.length c4) := by rw [HI.out.cell (show g2 < _ from gl2)]; exact D0.out.2.1
          clear ho5 ho6 hl5 hl6 f5 f6 p3 p4 hd3 hd4 gc3 gc4
          have hj3 : (0 : Int) ≤ (j : Int) := by omega
          have hjc3 : (j : Int) < (c3 : Int) := by omega
          have hjc4 : (j : Int) < (c4 : Int) := by omega
          have glr1 : g1 < wr.heap.size := Nat.lt_of_lt_of_le gl1 HI.out.size
          have glr2 : g2 < wr.heap.size := Nat.lt_of_lt_of_le gl2 HI.out.size
          have glr3 : g3 < wr.heap.size := Nat.lt_of_lt_of_le gl3 HI.out.size
          have glr4 : g4 < wr.heap.size := Nat.lt_of_lt_of_le gl4 HI.out.size
          go_wp2_with fail
          go_region
          all_goals go_wp2_with fail
          go_loopw [7, 94] (fun u7 i wr => ∃ l : Nat, l ≤ al.length ∧ i = .int .i64 l ∧ Below w.heap.size w wr) (fun _ i _ => al.length - (intOf i).toNat)
          case atStart => exact ⟨0, Nat.zero_le _, rfl, HI.out.drew⟩
          case round =>
            obtain ⟨l, hl, rfl, hh⟩ := hrel
            have HJ := Lib.hid hh
            clear hh er1 dr1 pr3 pr4 glr1 glr2 glr3 glr4 HI
            by_cases hll : l < al.length
            · have hlli : (l : Int) < (al.length : Int) := by omega
              obtain ⟨g5, rfl, gl5, gc5⟩ := F5.out (by omega)
              obtain ⟨g6, rfl, gl6, gc6⟩ := F6.out (by omega)
              obtain ⟨xk, hxk⟩ : ∃ xk, al[l] = xk := ⟨_, rfl⟩
              obtain ⟨d5, hA5, hd5⟩ := ListAt.get (sz := 4) (fun x c h => by obtain ⟨u, rfl, _⟩ := h; rfl) HL5.out l hll
              obtain ⟨d6, hA6, hd6⟩ := ListAt.get (sz := 4) (fun x c h => by obtain ⟨u, rfl, _⟩ := h; rfl) HL6.out l hll
              rw [hxk] at hA5 hA6
              clear hxk
              obtain ⟨u5, rfl, hr5⟩ := hA5
              obtain ⟨u6, rfl, hr6⟩ := hA6
              obtain ⟨sa, sn, sc, hs5⟩ := own_slice hr5
              obtain ⟨sb, tn, tc, hs6⟩ := own_slice hr6
              subst hs5 hs6
              have HR5 := Lib.hid hr5
              have HR6 := Lib.hid hr6
              have q50 : w.cell? ⟨g5, l * 4, none⟩ = some (.int .u8 ((xk.op : UInt8).toNat : Int)) := by rw [gc5 _ (by omega), show cs5[l * 4]? = _ from hd5 0 (by decide)]; rfl
              have q51 : w.cell? ⟨g5, l * 4 + 1, none⟩ = some (.int .i64 ((xk.mod : Nat) : Int)) := by rw [gc5 _ (by omega), show cs5[l * 4 + 1]? = _ from hd5 1 (by decide)]; rfl
              have q52 : w.cell? ⟨g5, l * 4 + 2, none⟩ = some (.bool xk.nt) := by rw [gc5 _ (by omega), show cs5[l * 4 + 2]? = _ from hd5 2 (by decide)]; rfl
              have q53 : w.cell? ⟨g5, l * 4 + 3, none⟩ = some (.slice sa sn sc) := by rw [gc5 _ (by omega), show cs5[l * 4 + 3]? = _ from hd5 3 (by decide)]; rfl
              have q60 : w.cell? ⟨g6, l * 4, none⟩ = some (.int .u8 ((xk.op : UInt8).toNat : Int)) := by rw [gc6 _ (by omega), show cs6[l * 4]? = _ from hd6 0 (by decide)]; rfl
              have q61 : w.cell? ⟨g6, l * 4 + 1, none⟩ = some (.int .i64 ((xk.mod : Nat) : Int)) := by rw [gc6 _ (by omega), show cs6[l * 4 + 1]? = _ from hd6 1 (by decide)]; rfl
              have q62 : w.cell? ⟨g6, l * 4 + 2, none⟩ = some (.bool xk.nt) := by rw [gc6 _ (by omega), show cs6[l * 4 + 2]? = _ from hd6 2 (by decide)]; rfl
              have q63 : w.cell? ⟨g6, l * 4 + 3, none⟩ = some (.slice sb tn tc) := by rw [gc6 _ (by omega), show cs6[l * 4 + 3]? = _ from hd6 3 (by decide)]; rfl
              have e1 := E0.out.2.1
              have d1 := D0.out.2.1
              have p3 := P34.out.1
              have p4 := P34.out.2
              clear hd5 hd6 gc5 gc6 hr5 hr6
              have hl3 : (0 : Int) ≤ (l : Int) := by omega
              have hlc5 : (l : Int) < (c5 : Int) := by omega
              have hlc6 : (l : Int) < (c6 : Int) := by omega
              have glr1 : g1 < wr.heap.size := Nat.lt_of_lt_of_le gl1 HJ.out.size
              have glr2 : g2 < wr.heap.size := Nat.lt_of_lt_of_le gl2 HJ.out.size
              have glr3 : g3 < wr.heap.size := Nat.lt_of_lt_of_le gl3 HJ.out.size
              have glr4 : g4 < wr.heap.size := Nat.lt_of_lt_of_le gl4 HJ.out.size
              have glr5 : g5 < wr.heap.size := Nat.lt_of_lt_of_le gl5 HJ.out.size
              have glr6 : g6 < wr.heap.size := Nat.lt_of_lt_of_le gl6 HJ.out.size
              have H9 : Hid (HeldL w [] wr) := Lib.hid (HeldL.keep (HeldL.refl w) HJ.out)
              go_wp2_with fail
              have ALL1 : Hid (∀ w' : World, HeldL w [] w' → w'.cell? ⟨g1, k * 3 + 1, none⟩ = some (.slice (some ⟨g3, 0, none⟩) u.any.length c3) ∧ w'.cell? ⟨g2, k * 3 + 1, none⟩ = some (.slice (some ⟨g4, 0, none⟩) u.any.length c4) ∧ w'.cell? ⟨g3, j, none⟩ = some (.slice (some ⟨g5, 0, none⟩) al.length c5) ∧ w'.cell? ⟨g4, j, none⟩ = some (.slice (some ⟨g6, 0, none⟩) al.length c6) ∧ w'.cell? ⟨g5, l * 4, none⟩ = some (.int .u8 ((xk.op : UInt8).toNat : Int)) ∧ w'.cell? ⟨g5, l * 4 + 1, none⟩ = some (.int .i64 ((xk.mod : Nat) : Int)) ∧ w'.cell? ⟨g5, l * 4 + 2, none⟩ = some (.bool xk.nt) ∧ w'.cell? ⟨g5, l * 4 + 3, none⟩ = some (.slice sa sn sc) ∧ w'.cell? ⟨g6, l * 4, none⟩ = some (.int .u8 ((xk.op : UInt8).toNat : Int)) ∧ w'.cell? ⟨g6, l * 4 + 1, none⟩ = some (.int .i64 ((xk.mod : Nat) : Int)) ∧ w'.cell? ⟨g6, l * 4 + 2, none⟩ = some (.bool xk.nt) ∧ w'.cell? ⟨g6, l * 4 + 3, none⟩ = some (.slice sb tn tc) ∧ HeldL w [] w') := Lib.hid (fun w' h => ⟨(h.bel.cell (p := ⟨g1, k * 3 + 1, none⟩) gl1).trans e1, (h.bel.cell (p := ⟨g2, k * 3 + 1, none⟩) gl2).trans d1, (h.bel.cell (p := ⟨g3, j, none⟩) gl3).trans p3, (h.bel.cell (p := ⟨g4, j, none⟩) gl4).trans p4, (h.bel.cell (p := ⟨g5, l * 4, none⟩) gl5).trans q50, (h.bel.cell (p := ⟨g5, l * 4 + 1, none⟩) gl5).trans q51, (h.bel.cell (p := ⟨g5, l * 4 + 2, none⟩) gl5).trans q52, (h.bel.cell (p := ⟨g5, l * 4 + 3, none⟩) gl5).trans q53, (h.bel.cell (p := ⟨g6, l * 4, none⟩) gl6).trans q60, (h.bel.cell (p := ⟨g6, l * 4 + 1, none⟩) gl6).trans q61, (h.bel.cell (p := ⟨g6, l * 4 + 2, none⟩) gl6).trans q62, (h.bel.cell (p := ⟨g6, l * 4 + 3, none⟩) gl6).trans q63, h⟩)
              have KEEP1 : Hid (∀ w' w'' : World, (w'.cell? ⟨g1, k * 3 + 1, none⟩ = some (.slice (some ⟨g3, 0, none⟩) u.any.length c3) ∧ w'.cell? ⟨g2, k * 3 + 1, none⟩ = some (.slice (some ⟨g4, 0, none⟩) u.any.length c4) ∧ w'.cell? ⟨g3, j, none⟩ = some (.slice (some ⟨g5, 0, none⟩) al.length c5) ∧ w'.cell? ⟨g4, j, none⟩ = some (.slice (some ⟨g6, 0, none⟩) al.length c6) ∧ w'.cell? ⟨g5, l * 4, none⟩ = some (.int .u8 ((xk.op : UInt8).toNat : Int)) ∧ w'.cell? ⟨g5, l * 4 + 1, none⟩ = some (.int .i64 ((xk.mod : Nat) : Int)) ∧ w'.cell? ⟨g5, l * 4 + 2, none⟩ = some (.bool xk.nt) ∧ w'.cell? ⟨g5, l * 4 + 3, none⟩ = some (.slice sa sn sc) ∧ w'.cell? ⟨g6, l * 4, none⟩ = some (.int .u8 ((xk.op : UInt8).toNat : Int)) ∧ w'.cell? ⟨g6, l * 4 + 1, none⟩ = some (.int .i64 ((xk.mod : Nat) : Int)) ∧ w'.cell? ⟨g6, l * 4 + 2, none⟩ = some (.bool xk.nt) ∧ w'.cell? ⟨g6, l * 4 + 3, none⟩ = some (.slice sb tn tc) ∧ HeldL w [] w') → Below w'.heap.size w' w'' → (w''.cell? ⟨g1, k * 3 + 1, none⟩ = some (.slice (some ⟨g3, 0, none⟩) u.any.length c3) ∧ w''.cell? ⟨g2, k * 3 + 1, none⟩ = some (.slice (some ⟨g4, 0, none⟩) u.any.length c4) ∧ w''.cell? ⟨g3, j, none⟩ = some (.slice (some ⟨g5, 0, none⟩) al.length c5) ∧ w''.cell? ⟨g4, j, none⟩ = some (.slice (some ⟨g6, 0, none⟩) al.length c6) ∧ w''.cell? ⟨g5, l * 4, none⟩ = some (.int .u8 ((xk.op : UInt8).toNat : Int)) ∧ w''.cell? ⟨g5, l * 4 + 1, none⟩ = some (.int .i64 ((xk.mod : Nat) : Int)) ∧ w''.cell? ⟨g5, l * 4 + 2, none⟩ = some (.bool xk.nt) ∧ w''.cell? ⟨g5, l * 4 + 3, none⟩ = some (.slice sa sn sc) ∧ w''.cell? ⟨g6, l * 4, none⟩ = some (.int .u8 ((xk.op : UInt8).toNat : Int)) ∧ w''.cell? ⟨g6, l * 4 + 1, none⟩ = some (.int .i64 ((xk.mod : Nat) : Int)) ∧ w''.cell? ⟨g6, l * 4 + 2, none⟩ = some (.bool xk.nt) ∧ w''.cell? ⟨g6, l * 4 + 3, none⟩ = some (.slice sb tn tc) ∧ HeldL w [] w'')) := Lib.hid (fun w' w'' h hb => ALL1.out _ (HeldL.keep (h.2.2.2.2.2.2.2.2.2.2.2.2) hb))
              have HS1 : Hid (HeldL w [] _) := Lib.hid H9.out
              have MM1_1 : Hid (∀ w' : World, (w'.cell? ⟨g1, k * 3 + 1, none⟩ = some (.slice (some ⟨g3, 0, none⟩) u.any.length c3) ∧ w'.cell? ⟨g2, k * 3 + 1, none⟩ = some (.slice (some ⟨g4, 0, none⟩) u.any.length c4) ∧ w'.cell? ⟨g3, j, none⟩ = some (.slice (some ⟨g5, 0, none⟩) al.length c5) ∧ w'.cell? ⟨g4, j, none⟩ = some (.slice (some ⟨g6, 0, none⟩) al.length c6) ∧ w'.cell? ⟨g5, l * 4, none⟩ = some (.int .u8 ((xk.op : UInt8).toNat : Int)) ∧ w'.cell? ⟨g5, l * 4 + 1, none⟩ = some (.int .i64 ((xk.mod : Nat) : Int)) ∧ w'.cell? ⟨g5, l * 4 + 2, none⟩ = some (.bool xk.nt) ∧ w'.cell? ⟨g5, l * 4 + 3, none⟩ = some (.slice sa sn sc) ∧ w'.cell? ⟨g6, l * 4, none⟩ = some (.int .u8 ((xk.op : UInt8).toNat : Int)) ∧ w'.cell? ⟨g6, l * 4 + 1, none⟩ = some (.int .i64 ((xk.mod : Nat) : Int)) ∧ w'.cell? ⟨g6, l * 4 + 2, none⟩ = some (.bool xk.nt) ∧ w'.cell? ⟨g6, l * 4 + 3, none⟩ = some (.slice sb tn tc) ∧ HeldL w [] w') → Rngs w' 0 xk.rs (.slice sa sn sc)) := Lib.hid (fun w' h => have hb : Below w.heap.size w w' := (h.2.2.2.2.2.2.2.2.2.2.2.2).bel; Rngs.kept HR5.out (grown_of_below hb none) (Apart.none _ _))
              have MM1_2 : Hid (∀ w' : World, (w'.cell? ⟨g1, k * 3 + 1, none⟩ = some (.slice (some ⟨g3, 0, none⟩) u.any.length c3) ∧ w'.cell? ⟨g2, k * 3 + 1, none⟩ = some (.slice (some ⟨g4, 0, none⟩) u.any.length c4) ∧ w'.cell? ⟨g3, j, none⟩ = some (.slice (some ⟨g5, 0, none⟩) al.length c5) ∧ w'.cell? ⟨g4, j, none⟩ = some (.slice (some ⟨g6, 0, none⟩) al.length c6) ∧ w'.cell? ⟨g5, l * 4, none⟩ = some (.int .u8 ((xk.op : UInt8).toNat : Int)) ∧ w'.cell? ⟨g5, l * 4 + 1, none⟩ = some (.int .i64 ((xk.mod : Nat) : Int)) ∧ w'.cell? ⟨g5, l * 4 + 2, none⟩ = some (.bool xk.nt) ∧ w'.cell? ⟨g5, l * 4 + 3, none⟩ = some (.slice sa sn sc) ∧ w'.cell? ⟨g6, l * 4, none⟩ = some (.int .u8 ((xk.op : UInt8).toNat : Int)) ∧ w'.cell? ⟨g6, l * 4 + 1, none⟩ = some (.int .i64 ((xk.mod : Nat) : Int)) ∧ w'.cell? ⟨g6, l * 4 + 2, none⟩ = some (.bool xk.nt) ∧ w'.cell? ⟨g6, l * 4 + 3, none⟩ = some (.slice sb tn tc) ∧ HeldL w [] w') → Rngs w' 0 xk.rs (.slice sb tn tc)) := Lib.hid (fun w' h => have hb : Below w.heap.size w w' := (h.2.2.2.2.2.2.2.2.2.2.2.2).bel; Rngs.kept HR6.out (grown_of_below hb none) (Apart.none _ _))
              go_region_held3 (fun w' => w'.cell? ⟨g1, k * 3 + 1, none⟩ = some (.slice (some ⟨g3, 0, none⟩) u.any.length c3) ∧ w'.cell? ⟨g2, k * 3 + 1, none⟩ = some (.slice (some ⟨g4, 0, none⟩) u.any.length c4) ∧ w'.cell? ⟨g3, j, none⟩ = some (.slice (some ⟨g5, 0, none⟩) al.length c5) ∧ w'.cell? ⟨g4, j, none⟩ = some (.slice (some ⟨g6, 0, none⟩) al.length c6) ∧ w'.cell? ⟨g5, l * 4, none⟩ = some (.int .u8 ((xk.op : UInt8).toNat : Int)) ∧ w'.cell? ⟨g5, l * 4 + 1, none⟩ = some (.int .i64 ((xk.mod : Nat) : Int)) ∧ w'.cell? ⟨g5, l * 4 + 2, none⟩ = some (.bool xk.nt) ∧ w'.cell? ⟨g5, l * 4 + 3, none⟩ = some (.slice sa sn sc) ∧ w'.cell? ⟨g6, l * 4, none⟩ = some (.int .u8 ((xk.op : UInt8).toNat : Int)) ∧ w'.cell? ⟨g6, l * 4 + 1, none⟩ = some (.int .i64 ((xk.mod : Nat) : Int)) ∧ w'.cell? ⟨g6, l * 4 + 2, none⟩ = some (.bool xk.nt) ∧ w'.cell? ⟨g6, l * 4 + 3, none⟩ = some (.slice sb tn tc) ∧ HeldL w [] w')
                (first | exact ALL1.out _ (HeldL.drew HS1.out) | exact KEEP1.out _ _ (by assumption) hb | assumption)
                (first | (go_at_call 35; (with_reducible refine (sameRel_as xk (.slice sa sn sc) (.slice sb tn tc) 0 0 _ (by first | exact MM1_1.out _ (by assumption) | exact MM1_1.out _ (ALL1.out _ (HeldL.drew HS1.out))) (by first | exact MM1_2.out _ (by assumption) | exact MM1_2.out _ (ALL1.out _ (HeldL.drew HS1.out)))).mono ?_); rintro x wA ⟨rfl, hb⟩))
              have HH : HeldL w [] wA := (‹wA.cell? ⟨g1, k * 3 + 1, none⟩ = some (.slice (some ⟨g3, 0, none⟩) u.any.length c3) ∧ wA.cell? ⟨g2, k * 3 + 1, none⟩ = some (.slice (some ⟨g4, 0, none⟩) u.any.length c4) ∧ wA.cell? ⟨g3, j, none⟩ = some (.slice (some ⟨g5, 0, none⟩) al.length c5) ∧ wA.cell? ⟨g4, j, none⟩ = some (.slice (some ⟨g6, 0, none⟩) al.length c6) ∧ wA.cell? ⟨g5, l * 4, none⟩ = some (.int .u8 ((xk.op : UInt8).toNat : Int)) ∧ wA.cell? ⟨g5, l * 4 + 1, none⟩ = some (.int .i64 ((xk.mod : Nat) : Int)) ∧ wA.cell? ⟨g5, l * 4 + 2, none⟩ = some (.bool xk.nt) ∧ wA.cell? ⟨g5, l * 4 + 3, none⟩ = some (.slice sa sn sc) ∧ wA.cell? ⟨g6, l * 4, none⟩ = some (.int .u8 ((xk.op : UInt8).toNat : Int)) ∧ wA.cell? ⟨g6, l * 4 + 1, none⟩ = some (.int .i64 ((xk.mod : Nat) : Int)) ∧ wA.cell? ⟨g6, l * 4 + 2, none⟩ = some (.bool xk.nt) ∧ wA.cell? ⟨g6, l * 4 + 3, none⟩ = some (.slice sb tn tc) ∧ HeldL w [] wA›).2.2.2.2.2.2.2.2.2.2.2.2
              have H10 : Hid (HeldL w [] wA) := Lib.hid HH
              clear HH ALL1 KEEP1 HS1 MM1_1 MM1_2 H9
              go_wp2
              go_roundw
              case rel => exact ⟨l + 1, by omega, by go_num, H10.out.bel⟩
              case measure => simp [intOf]; omega
            · obtain rfl : l = al.length := by omega
              have hlli : ¬ (al.length : Int) < (al.length : Int) := by omega
              go_wp2
              go_roundw
              case rel => exact ⟨j + 1, by omega, by go_num, HJ.out⟩
              case measure => simp [intOf]; omega
        · obtain rfl : j = u.any.length := by omega
          have hlji : ¬ (u.any.length : Int) < (u.any.length : Int) := by omega
          go_wp2
          go_roundw
          case rel => exact ⟨k + 1, by omega, by go_num, HI.out⟩
          case measure => simp [intOf]; omega
    · obtain rfl : k = xs.length := by omega
      have hlti : ¬ (xs.length : Int) < (xs.length : Int) := by omega
      go_wp2
      go_ret
      exact ⟨rfl, HH.out⟩
end Go.Proofs.YtkjhdehpcanciaaGreatDoor
