/- GlyphReads: whatever texts stand for digits, whatever text: from its beginning on the least digit whose text is there. -/
import Derived.Test.YtcdjclidckohpaaDoorLawG4p
namespace Go.Proofs.YtcdjclidckohpaaDoor
open Go.RowKit Florin
set_option linter.unusedVariables false
set_option linter.unusedSimpArgs false
set_option maxHeartbeats 12800000 in
set_option maxRecDepth 100000 in
theorem reads_main (g : Nat → ByteArray) (s : ByteArray) (W : World) (w0 : ∀ k, k < 10 → (g k).size ≤ maxLen) (hz : ∀ k, 10 ≤ k → (g k).size ≤ 1000) (w1 : s.size ≤ maxLen) (hT : Tabs W) :
    Calls Tryd.prog 6 #[SV g, .string s] W fun e w' => e = .returned (.bool true) ∧ Below W.heap.size W w' := by
  have HT := Lib.hid hT
  have HM0 := Lib.hid w0
  have HZ := Lib.hid hz
  clear hT w0 hz
  unfold maxLen at w1
  have B0 : Hid (Below W.heap.size W (W.alloc (.cells (SC g) 33))) := Lib.hid ((Below.refl _ _).alloc (Nat.le_refl _) _)
  have G0 := Lib.hid (Gs.new W g 33)
  by_cases h60 : (60 : Int) < (s.size : Int)
  · go_enter Tryd.func6, Tryd.ntmps6
    go_wp2_with fail
    with_reducible refine (head9 _ (HT.out.below B0.out)).mono ?_
    rintro e w1 ⟨rfl, b1⟩
    have B1 := Lib.hid (B0.out.trans (b1.mono B0.out.size))
    clear b1
    go_wp2
    go_ret
    exact ⟨rfl, B1.out⟩
  · go_enter Tryd.func6, Tryd.ntmps6
    go_wp2_with fail
    with_reducible refine (head9 _ (HT.out.below B0.out)).mono ?_
    rintro e w1 ⟨rfl, b1⟩
    have B1 := Lib.hid (B0.out.trans (b1.mono B0.out.size))
    have G1 := Lib.hid (G0.out.below (B := World.heap _ |>.size) G0.out.1 b1 b1.size)
    clear b1 B0 G0
    go_wp2_with fail
    go_loopw [5, 19] (fun u i wr => ∃ k : Nat, k ≤ 10 ∧ i = .int .i64 k ∧ u = .bool (okTo g k) ∧ (∀ j, j < k → (g j).size ≤ 20) ∧ Gs wr W.heap.size g ∧ Below W.heap.size W wr) (fun _ i _ => 10 - (intOf i).toNat)
    case atStart => exact ⟨0, Nat.zero_le _, rfl, rfl, fun j hj => absurd hj (by omega), G1.out, B1.out⟩
    case round =>
      obtain ⟨k, hk, rfl, rfl, h20, hgs, hb⟩ := hrel
      have HGS := Lib.hid hgs
      have HB := Lib.hid hb
      have H20 := Lib.hid h20
      clear hgs hb h20 G1 B1
      by_cases hlt : (k : Int) < 10
      · have hck := HGS.out.2 k (by omega)
        have hmk := HM0.out k (by omega)
        unfold maxLen at hmk
        by_cases hbig : (20 : Int) < ((g k).size : Int)
        · go_wp2
          go_ret
          exact ⟨rfl, HB.out⟩
        · obtain ⟨m, hm⟩ : ∃ m, lead (g k).data.toList = m := ⟨_, rfl⟩
          have HM := Lib.hid hm
          have hsz := size_list (g k)
          clear hm
          cases hok : okTo g k with
          | false =>
            go_wp2_with fail
            refine wp_region_held_drew (S := fun w' => w'.cell? ⟨W.heap.size, k, none⟩ = some (.string (g k)) ∧ w'.cell? ⟨W.heap.size, k, none⟩ = some (.string (g k)) ∧ (Gs w' W.heap.size g ∧ Below W.heap.size W w')) (by kernel_rfl) ⟨HGS.out.2 k (by omega), HGS.out.2 k (by omega), HGS.out, HB.out.drew⟩ (fun hHeld => ?_)
            refine wpAnyH_take (i := 0) (oi := { dst := some 27, op := Go.Op.move (Go.Operand.tmp 5), type := 4, pos := "law.go:185", after := #[], guard := none }) (v := ?_) rfl (by kernel_rfl) (by kernel_rfl) (by kernel_rfl) (fun _ _ _ h => h) (Or.inl ⟨by rfl, ?_⟩) hHeld ?_
            case refine_2 => (intro wz hSw; (try dsimp only at hSw); obtain ⟨hS0, hS2, hS1⟩ := hSw; clear hS1; go_simp <;> with_reducible rfl)
            try simp only [Act.put, List.setIfInBounds_toArray, List.set_cons_zero, List.set_cons_succ]
            refine wpAnyH_take (i := 1) (oi := { dst := some 28, op := Go.Op.move (Go.Operand.tmp 27), type := 4, pos := "law.go:185", after := #[{ on := 0, ground := Go.Ground.data }], guard := none }) (v := ?_) rfl (by kernel_rfl) (by kernel_rfl) (by kernel_rfl) (fun _ _ _ h => h) (Or.inl ⟨by rfl, ?_⟩) hHeld ?_
            case refine_2 => (intro wz hSw; (try dsimp only at hSw); obtain ⟨hS0, hS2, hS1⟩ := hSw; clear hS1; go_simp <;> with_reducible rfl)
            try simp only [Act.put, List.setIfInBounds_toArray, List.set_cons_zero, List.set_cons_succ]
            refine wpAnyH_take (i := 2) (oi := { dst := some 29, op := Go.Op.move (Go.Operand.tmp 6), type := 3, pos := "law.go:185", after := #[{ on := 1, ground := Go.Ground.guard }], guard := some (1, true) }) (v := undef) rfl (by kernel_rfl) (by kernel_rfl) (by kernel_rfl) (fun _ _ _ h => h) (Or.inr ⟨by rfl, rfl⟩) hHeld ?_
            try simp only [Act.put, List.setIfInBounds_toArray, List.set_cons_zero, List.set_cons_succ]
            refine wpAnyH_take (i := 3) (oi := { dst := some 30, op := Go.Op.indexAddr 33 (Go.Operand.tmp 2) (Go.Operand.tmp 29), type := 0, pos := "law.go:185", after := #[{ on := 2, ground := Go.Ground.data }, { on := 1, ground := Go.Ground.guard }], guard := some (1, true) }) (v := undef) rfl (by kernel_rfl) (by kernel_rfl) (by kernel_rfl) (fun _ _ _ h => h) (Or.inr ⟨by rfl, rfl⟩) hHeld ?_
            try simp only [Act.put, List.setIfInBounds_toArray, List.set_cons_zero, List.set_cons_succ]
            refine wpAnyH_take (i := 4) (oi := { dst := some 31, op := Go.Op.load 9 (Go.Operand.tmp 30), type := 9, pos := "law.go:185", after := #[{ on := 3, ground := Go.Ground.data }, { on := 1, ground := Go.Ground.guard }], guard := some (1, true) }) (v := undef) rfl (by kernel_rfl) (by kernel_rfl) (by kernel_rfl) (fun _ _ _ h => h) (Or.inr ⟨by rfl, rfl⟩) hHeld ?_
            try simp only [Act.put, List.setIfInBounds_toArray, List.set_cons_zero, List.set_cons_succ]
            refine wpAnyH_take (i := 5) (oi := { dst := some 32, op := Go.Op.call { callee := Go.Callee.value (Go.Operand.func 9), args := #[Go.Operand.tmp 31], argTypes := #[9] }, type := 3, pos := "law.go:185", after := #[{ on := 4, ground := Go.Ground.data }, { on := 1, ground := Go.Ground.chain }, { on := 1, ground := Go.Ground.guard }], guard := some (1, true) }) (v := undef) rfl (by kernel_rfl) (by kernel_rfl) (by kernel_rfl) (fun _ _ _ h => h) (Or.inr ⟨by rfl, rfl⟩) hHeld ?_
            try simp only [Act.put, List.setIfInBounds_toArray, List.set_cons_zero, List.set_cons_succ]
            refine wpAnyH_take (i := 6) (oi := { dst := some 33, op := Go.Op.move (Go.Operand.tmp 6), type := 3, pos := "law.go:185", after := #[{ on := 1, ground := Go.Ground.guard }], guard := some (1, true) }) (v := undef) rfl (by kernel_rfl) (by kernel_rfl) (by kernel_rfl) (fun _ _ _ h => h) (Or.inr ⟨by rfl, rfl⟩) hHeld ?_
            try simp only [Act.put, List.setIfInBounds_toArray, List.set_cons_zero, List.set_cons_succ]
            refine wpAnyH_take (i := 7) (oi := { dst := some 34, op := Go.Op.indexAddr 33 (Go.Operand.tmp 2) (Go.Operand.tmp 33), type := 0, pos := "law.go:185", after := #[{ on := 6, ground := Go.Ground.data }, { on := 1, ground := Go.Ground.guard }], guard := some (1, true) }) (v := undef) rfl (by kernel_rfl) (by kernel_rfl) (by kernel_rfl) (fun _ _ _ h => h) (Or.inr ⟨by rfl, rfl⟩) hHeld ?_
            try simp only [Act.put, List.setIfInBounds_toArray, List.set_cons_zero, List.set_cons_succ]
            refine wpAnyH_take (i := 8) (oi := { dst := some 35, op := Go.Op.load 9 (Go.Operand.tmp 34), type := 9, pos := "law.go:185", after := #[{ on := 7, ground := Go.Ground.data }, { on := 1, ground := Go.Ground.guard }], guard := some (1, true) }) (v := undef) rfl (by kernel_rfl) (by kernel_rfl) (by kernel_rfl) (fun _ _ _ h => h) (Or.inr ⟨by rfl, rfl⟩) hHeld ?_
            try simp only [Act.put, List.setIfInBounds_toArray, List.set_cons_zero, List.set_cons_succ]
            refine wpAnyH_take (i := 9) (oi := { dst := some 36, op := Go.Op.call { callee := Go.Callee.builtin Go.Builtin.len, args := #[Go.Operand.tmp 35], argTypes := #[9] }, type := 3, pos := "law.go:185", after := #[{ on := 8, ground := Go.Ground.data }, { on := 1, ground := Go.Ground.guard }], guard := some (1, true) }) (v := undef) rfl (by kernel_rfl) (by kernel_rfl) (by kernel_rfl) (fun _ _ _ h => h) (Or.inr ⟨by rfl, rfl⟩) hHeld ?_
            try simp only [Act.put, List.setIfInBounds_toArray, List.set_cons_zero, List.set_cons_succ]
            refine wpAnyH_take (i := 10) (oi := { dst := some 37, op := Go.Op.binOp Go.BinOp.eql 3 (Go.Operand.tmp 32) (Go.Operand.tmp 36) 3, type := 4, pos := "law.go:185", after := #[{ on := 5, ground := Go.Ground.data }, { on := 9, ground := Go.Ground.data }, { on := 1, ground := Go.Ground.guard }], guard := some (1, true) }) (v := undef) rfl (by kernel_rfl) (by kernel_rfl) (by kernel_rfl) (fun _ _ _ h => h) (Or.inr ⟨by rfl, rfl⟩) hHeld ?_
            try simp only [Act.put, List.setIfInBounds_toArray, List.set_cons_zero, List.set_cons_succ]
            refine wpAnyH_take (i := 11) (oi := { dst := some 38, op := Go.Op.pick (Go.Operand.tmp 28) (Go.Operand.tmp 37) (Go.Operand.const (Go.Value.bool false)), type := 4, pos := "law.go:185", after := #[{ on := 1, ground := Go.Ground.data }, { on := 10, ground := Go.Ground.data }], guard := none }) (v := ?_) rfl (by kernel_rfl) (by kernel_rfl) (by kernel_rfl) (fun _ _ _ h => h) (Or.inl ⟨by rfl, ?_⟩) hHeld ?_
            case refine_2 => (intro wz hSw; (try dsimp only at hSw); obtain ⟨hS0, hS2, hS1⟩ := hSw; clear hS1; go_simp <;> with_reducible rfl)
            try simp only [Act.put, List.setIfInBounds_toArray, List.set_cons_zero, List.set_cons_succ]
            refine wpAnyH_take (i := 12) (oi := { dst := some 39, op := Go.Op.move (Go.Operand.tmp 38), type := 4, pos := "law.go:185", after := #[{ on := 11, ground := Go.Ground.data }, { on := 5, ground := Go.Ground.chain }], guard := none }) (v := ?_) rfl (by kernel_rfl) (by kernel_rfl) (by kernel_rfl) (fun _ _ _ h => h) (Or.inl ⟨by rfl, ?_⟩) hHeld ?_
            case refine_2 => (intro wz hSw; (try dsimp only at hSw); obtain ⟨hS0, hS2, hS1⟩ := hSw; clear hS1; go_simp <;> with_reducible rfl)
            try simp only [Act.put, List.setIfInBounds_toArray, List.set_cons_zero, List.set_cons_succ]
            refine wpAnyH_take (i := 13) (oi := { dst := some 40, op := Go.Op.move (Go.Operand.tmp 6), type := 3, pos := "law.go:185", after := #[{ on := 12, ground := Go.Ground.guard }], guard := some (12, true) }) (v := undef) rfl (by kernel_rfl) (by kernel_rfl) (by kernel_rfl) (fun _ _ _ h => h) (Or.inr ⟨by rfl, rfl⟩) hHeld ?_
            try simp only [Act.put, List.setIfInBounds_toArray, List.set_cons_zero, List.set_cons_succ]
            refine wpAnyH_take (i := 14) (oi := { dst := some 41, op := Go.Op.indexAddr 33 (Go.Operand.tmp 2) (Go.Operand.tmp 40), type := 0, pos := "law.go:185", after := #[{ on := 13, ground := Go.Ground.data }, { on := 12, ground := Go.Ground.guard }], guard := some (12, true) }) (v := undef) rfl (by kernel_rfl) (by kernel_rfl) (by kernel_rfl) (fun _ _ _ h => h) (Or.inr ⟨by rfl, rfl⟩) hHeld ?_
            try simp only [Act.put, List.setIfInBounds_toArray, List.set_cons_zero, List.set_cons_succ]
            refine wpAnyH_take (i := 15) (oi := { dst := some 42, op := Go.Op.load 9 (Go.Operand.tmp 41), type := 9, pos := "law.go:185", after := #[{ on := 14, ground := Go.Ground.data }, { on := 12, ground := Go.Ground.guard }], guard := some (12, true) }) (v := undef) rfl (by kernel_rfl) (by kernel_rfl) (by kernel_rfl) (fun _ _ _ h => h) (Or.inr ⟨by rfl, rfl⟩) hHeld ?_
            try simp only [Act.put, List.setIfInBounds_toArray, List.set_cons_zero, List.set_cons_succ]
            refine wpAnyH_take (i := 16) (oi := { dst := some 43, op := Go.Op.binOp Go.BinOp.neq 9 (Go.Operand.tmp 42) (Go.Operand.const (Go.Value.string { data := #[] })) 9, type := 4, pos := "law.go:185", after := #[{ on := 15, ground := Go.Ground.data }, { on := 12, ground := Go.Ground.guard }], guard := some (12, true) }) (v := undef) rfl (by kernel_rfl) (by kernel_rfl) (by kernel_rfl) (fun _ _ _ h => h) (Or.inr ⟨by rfl, rfl⟩) hHeld ?_
            try simp only [Act.put, List.setIfInBounds_toArray, List.set_cons_zero, List.set_cons_succ]
            refine wpAnyH_take (i := 17) (oi := { dst := some 44, op := Go.Op.pick (Go.Operand.tmp 39) (Go.Operand.tmp 43) (Go.Operand.const (Go.Value.bool false)), type := 4, pos := "law.go:185", after := #[{ on := 12, ground := Go.Ground.data }, { on := 16, ground := Go.Ground.data }], guard := none }) (v := ?_) rfl (by kernel_rfl) (by kernel_rfl) (by kernel_rfl) (fun _ _ _ h => h) (Or.inl ⟨by rfl, ?_⟩) hHeld ?_
            case refine_2 => (intro wz hSw; (try dsimp only at hSw); obtain ⟨hS0, hS2, hS1⟩ := hSw; clear hS1; go_simp <;> with_reducible rfl)
            try simp only [Act.put, List.setIfInBounds_toArray, List.set_cons_zero, List.set_cons_succ]
            refine wpAnyH_take (i := 18) (oi := { dst := some 5, op := Go.Op.assign (Go.Operand.tmp 44), type := 4, pos := "law.go:185", after := #[{ on := 17, ground := Go.Ground.data }, { on := 12, ground := Go.Ground.chain }, { on := 0, ground := Go.Ground.phase }, { on := 1, ground := Go.Ground.phase }, { on := 2, ground := Go.Ground.phase }, { on := 3, ground := Go.Ground.phase }, { on := 4, ground := Go.Ground.phase }, { on := 5, ground := Go.Ground.phase }, { on := 6, ground := Go.Ground.phase }, { on := 7, ground := Go.Ground.phase }, { on := 8, ground := Go.Ground.phase }, { on := 9, ground := Go.Ground.phase }, { on := 10, ground := Go.Ground.phase }, { on := 11, ground := Go.Ground.phase }, { on := 12, ground := Go.Ground.phase }, { on := 13, ground := Go.Ground.phase }, { on := 14, ground := Go.Ground.phase }, { on := 15, ground := Go.Ground.phase }, { on := 16, ground := Go.Ground.phase }, { on := 17, ground := Go.Ground.phase }], guard := none }) (v := ?_) rfl (by kernel_rfl) (by kernel_rfl) (by kernel_rfl) (fun _ _ _ h => h) (Or.inl ⟨by rfl, ?_⟩) hHeld ?_
            case refine_2 => (intro wz hSw; (try dsimp only at hSw); obtain ⟨hS0, hS2, hS1⟩ := hSw; clear hS1; go_simp <;> with_reducible rfl)
            try simp only [Act.put, List.setIfInBounds_toArray, List.set_cons_zero, List.set_cons_succ]
            refine wpAnyH_done (by kernel_rfl) ?_ _
            have HBV : Hid ((okTo g k && oneL (g k).data.toList) = false) := Lib.hid (by rw [hok]; rfl)
            have HGS2 := Lib.hid hHeld.2.2.1
            have HB2 := Lib.hid hHeld.2.2.2
            clear hHeld
            clear HGS HB hck
            go_wp2_with fail
            go_loopw [5, 7] (fun u i wr => ∃ j : Nat, j ≤ k ∧ i = .int .i64 j ∧ u = .bool (okTo g k && oneL (g k).data.toList && newTo g k j) ∧ Gs wr W.heap.size g ∧ Below W.heap.size W wr) (fun _ i _ => k - (intOf i).toNat)
            case atStart => exact ⟨0, Nat.zero_le _, rfl, by rw [newTo_zero, Bool.and_true, HBV.out], HGS2.out, HB2.out⟩
            case round =>
              obtain ⟨j, hj, rfl, rfl, hgs, hb⟩ := hrel
              have HGS := Lib.hid hgs
              have HB := Lib.hid hb
              clear hgs hb HGS2 HB2 HBV
              by_cases hjk : (j : Int) < (k : Int)
              · have hj10 : (j : Int) < 10 := by omega
                cases hc : (okTo g k && oneL (g k).data.toList && newTo g k j) with
                | false =>
                  go_wp2_with fail
                  refine wp_region_held_drew (S := fun w' => w'.cell? ⟨W.heap.size, k, none⟩ = some (.string (g k)) ∧ w'.cell? ⟨W.heap.size, j, none⟩ = some (.string (g j)) ∧ (Gs w' W.heap.size g ∧ Below W.heap.size W w')) (by kernel_rfl) ⟨HGS.out.2 k (by omega), HGS.out.2 j (by omega), HGS.out, HB.out.drew⟩ (fun hHeld => ?_)
                  refine wpAnyH_take (i := 0) (oi := { dst := some 50, op := Go.Op.move (Go.Operand.tmp 5), type := 4, pos := "law.go:187", after := #[], guard := none }) (v := ?_) rfl (by kernel_rfl) (by kernel_rfl) (by kernel_rfl) (fun _ _ _ h => h) (Or.inl ⟨by rfl, ?_⟩) hHeld ?_
                  case refine_2 => (intro wz hSw; (try dsimp only at hSw); obtain ⟨hS0, hS2, hS1⟩ := hSw; clear hS1; go_simp <;> with_reducible rfl)
                  try simp only [Act.put, List.setIfInBounds_toArray, List.set_cons_zero, List.set_cons_succ]
                  refine wpAnyH_take (i := 1) (oi := { dst := some 51, op := Go.Op.move (Go.Operand.tmp 50), type := 4, pos := "law.go:187", after := #[{ on := 0, ground := Go.Ground.data }], guard := none }) (v := ?_) rfl (by kernel_rfl) (by kernel_rfl) (by kernel_rfl) (fun _ _ _ h => h) (Or.inl ⟨by rfl, ?_⟩) hHeld ?_
                  case refine_2 => (intro wz hSw; (try dsimp only at hSw); obtain ⟨hS0, hS2, hS1⟩ := hSw; clear hS1; go_simp <;> with_reducible rfl)
                  try simp only [Act.put, List.setIfInBounds_toArray, List.set_cons_zero, List.set_cons_succ]
                  refine wpAnyH_take (i := 2) (oi := { dst := some 52, op := Go.Op.move (Go.Operand.tmp 6), type := 3, pos := "law.go:187", after := #[{ on := 1, ground := Go.Ground.guard }], guard := some (1, true) }) (v := undef) rfl (by kernel_rfl) (by kernel_rfl) (by kernel_rfl) (fun _ _ _ h => h) (Or.inr ⟨by rfl, rfl⟩) hHeld ?_
                  try simp only [Act.put, List.setIfInBounds_toArray, List.set_cons_zero, List.set_cons_succ]
                  refine wpAnyH_take (i := 3) (oi := { dst := some 53, op := Go.Op.indexAddr 33 (Go.Operand.tmp 2) (Go.Operand.tmp 52), type := 0, pos := "law.go:187", after := #[{ on := 2, ground := Go.Ground.data }, { on := 1, ground := Go.Ground.guard }], guard := some (1, true) }) (v := undef) rfl (by kernel_rfl) (by kernel_rfl) (by kernel_rfl) (fun _ _ _ h => h) (Or.inr ⟨by rfl, rfl⟩) hHeld ?_
                  try simp only [Act.put, List.setIfInBounds_toArray, List.set_cons_zero, List.set_cons_succ]
                  refine wpAnyH_take (i := 4) (oi := { dst := some 54, op := Go.Op.load 9 (Go.Operand.tmp 53), type := 9, pos := "law.go:187", after := #[{ on := 3, ground := Go.Ground.data }, { on := 1, ground := Go.Ground.guard }], guard := some (1, true) }) (v := undef) rfl (by kernel_rfl) (by kernel_rfl) (by kernel_rfl) (fun _ _ _ h => h) (Or.inr ⟨by rfl, rfl⟩) hHeld ?_
                  try simp only [Act.put, List.setIfInBounds_toArray, List.set_cons_zero, List.set_cons_succ]
                  refine wpAnyH_take (i := 5) (oi := { dst := some 55, op := Go.Op.move (Go.Operand.tmp 7), type := 3, pos := "law.go:187", after := #[{ on := 1, ground := Go.Ground.guard }], guard := some (1, true) }) (v := undef) rfl (by kernel_rfl) (by kernel_rfl) (by kernel_rfl) (fun _ _ _ h => h) (Or.inr ⟨by rfl, rfl⟩) hHeld ?_
                  try simp only [Act.put, List.setIfInBounds_toArray, List.set_cons_zero, List.set_cons_succ]
                  refine wpAnyH_take (i := 6) (oi := { dst := some 56, op := Go.Op.indexAddr 33 (Go.Operand.tmp 2) (Go.Operand.tmp 55), type := 0, pos := "law.go:187", after := #[{ on := 5, ground := Go.Ground.data }, { on := 1, ground := Go.Ground.guard }], guard := some (1, true) }) (v := undef) rfl (by kernel_rfl) (by kernel_rfl) (by kernel_rfl) (fun _ _ _ h => h) (Or.inr ⟨by rfl, rfl⟩) hHeld ?_
                  try simp only [Act.put, List.setIfInBounds_toArray, List.set_cons_zero, List.set_cons_succ]
                  refine wpAnyH_take (i := 7) (oi := { dst := some 57, op := Go.Op.load 9 (Go.Operand.tmp 56), type := 9, pos := "law.go:187", after := #[{ on := 6, ground := Go.Ground.data }, { on := 1, ground := Go.Ground.guard }], guard := some (1, true) }) (v := undef) rfl (by kernel_rfl) (by kernel_rfl) (by kernel_rfl) (fun _ _ _ h => h) (Or.inr ⟨by rfl, rfl⟩) hHeld ?_
                  try simp only [Act.put, List.setIfInBounds_toArray, List.set_cons_zero, List.set_cons_succ]
                  refine wpAnyH_take (i := 8) (oi := { dst := some 58, op := Go.Op.binOp Go.BinOp.neq 9 (Go.Operand.tmp 54) (Go.Operand.tmp 57) 9, type := 4, pos := "law.go:187", after := #[{ on := 4, ground := Go.Ground.data }, { on := 7, ground := Go.Ground.data }, { on := 1, ground := Go.Ground.guard }], guard := some (1, true) }) (v := undef) rfl (by kernel_rfl) (by kernel_rfl) (by kernel_rfl) (fun _ _ _ h => h) (Or.inr ⟨by rfl, rfl⟩) hHeld ?_
                  try simp only [Act.put, List.setIfInBounds_toArray, List.set_cons_zero, List.set_cons_succ]
                  refine wpAnyH_take (i := 9) (oi := { dst := some 59, op := Go.Op.pick (Go.Operand.tmp 51) (Go.Operand.tmp 58) (Go.Operand.const (Go.Value.bool false)), type := 4, pos := "law.go:187", after := #[{ on := 1, ground := Go.Ground.data }, { on := 8, ground := Go.Ground.data }], guard := none }) (v := ?_) rfl (by kernel_rfl) (by kernel_rfl) (by kernel_rfl) (fun _ _ _ h => h) (Or.inl ⟨by rfl, ?_⟩) hHeld ?_
                  case refine_2 => (intro wz hSw; (try dsimp only at hSw); obtain ⟨hS0, hS2, hS1⟩ := hSw; clear hS1; go_simp <;> with_reducible rfl)
                  try simp only [Act.put, List.setIfInBounds_toArray, List.set_cons_zero, List.set_cons_succ]
                  refine wpAnyH_take (i := 10) (oi := { dst := some 5, op := Go.Op.assign (Go.Operand.tmp 59), type := 4, pos := "law.go:187", after := #[{ on := 9, ground := Go.Ground.data }, { on := 1, ground := Go.Ground.chain }, { on := 0, ground := Go.Ground.phase }, { on := 1, ground := Go.Ground.phase }, { on := 2, ground := Go.Ground.phase }, { on := 3, ground := Go.Ground.phase }, { on := 4, ground := Go.Ground.phase }, { on := 5, ground := Go.Ground.phase }, { on := 6, ground := Go.Ground.phase }, { on := 7, ground := Go.Ground.phase }, { on := 8, ground := Go.Ground.phase }, { on := 9, ground := Go.Ground.phase }], guard := none }) (v := ?_) rfl (by kernel_rfl) (by kernel_rfl) (by kernel_rfl) (fun _ _ _ h => h) (Or.inl ⟨by rfl, ?_⟩) hHeld ?_
                  case refine_2 => (intro wz hSw; (try dsimp only at hSw); obtain ⟨hS0, hS2, hS1⟩ := hSw; clear hS1; go_simp <;> with_reducible rfl)
                  try simp only [Act.put, List.setIfInBounds_toArray, List.set_cons_zero, List.set_cons_succ]
                  refine wpAnyH_done (by kernel_rfl) ?_ _
                  have HGS2 := Lib.hid hHeld.2.2.1
                  have HB2 := Lib.hid hHeld.2.2.2
                  clear hHeld
                  go_wp2
                  go_roundw
                  case rel => exact ⟨j + 1, by omega, by go_num, by rw [newTo_succ, ← Bool.and_assoc, hc]; rfl, HGS2.out, HB2.out⟩
                  case measure => simp [intOf]; omega
                | true =>
                  cases he : ((g k).toList != (g j).toList) with
                  | false =>
                    have he2 : ((g k).toList == (g j).toList) = true := by simpa using he
                    have he3 : (g k).toList = (g j).toList := by simpa using he2
                    go_wp2_with fail
                    refine wp_region_held_drew (S := fun w' => w'.cell? ⟨W.heap.size, k, none⟩ = some (.string (g k)) ∧ w'.cell? ⟨W.heap.size, j, none⟩ = some (.string (g j)) ∧ (Gs w' W.heap.size g ∧ Below W.heap.size W w')) (by kernel_rfl) ⟨HGS.out.2 k (by omega), HGS.out.2 j (by omega), HGS.out, HB.out.drew⟩ (fun hHeld => ?_)
                    refine wpAnyH_take (i := 0) (oi := { dst := some 50, op := Go.Op.move (Go.Operand.tmp 5), type := 4, pos := "law.go:187", after := #[], guard := none }) (v := ?_) rfl (by kernel_rfl) (by kernel_rfl) (by kernel_rfl) (fun _ _ _ h => h) (Or.inl ⟨by rfl, ?_⟩) hHeld ?_
                    case refine_2 => (intro wz hSw; (try dsimp only at hSw); obtain ⟨hS0, hS2, hS1⟩ := hSw; clear hS1; go_simp <;> with_reducible rfl)
                    try simp only [Act.put, List.setIfInBounds_toArray, List.set_cons_zero, List.set_cons_succ]
                    refine wpAnyH_take (i := 1) (oi := { dst := some 51, op := Go.Op.move (Go.Operand.tmp 50), type := 4, pos := "law.go:187", after := #[{ on := 0, ground := Go.Ground.data }], guard := none }) (v := ?_) rfl (by kernel_rfl) (by kernel_rfl) (by kernel_rfl) (fun _ _ _ h => h) (Or.inl ⟨by rfl, ?_⟩) hHeld ?_
                    case refine_2 => (intro wz hSw; (try dsimp only at hSw); obtain ⟨hS0, hS2, hS1⟩ := hSw; clear hS1; go_simp <;> with_reducible rfl)
                    try simp only [Act.put, List.setIfInBounds_toArray, List.set_cons_zero, List.set_cons_succ]
                    refine wpAnyH_take (i := 2) (oi := { dst := some 52, op := Go.Op.move (Go.Operand.tmp 6), type := 3, pos := "law.go:187", after := #[{ on := 1, ground := Go.Ground.guard }], guard := some (1, true) }) (v := ?_) rfl (by kernel_rfl) (by kernel_rfl) (by kernel_rfl) (fun _ _ _ h => h) (Or.inl ⟨by rfl, ?_⟩) hHeld ?_
                    case refine_2 => (intro wz hSw; (try dsimp only at hSw); obtain ⟨hS0, hS2, hS1⟩ := hSw; clear hS1; go_simp <;> with_reducible rfl)
                    try simp only [Act.put, List.setIfInBounds_toArray, List.set_cons_zero, List.set_cons_succ]
                    refine wpAnyH_take (i := 3) (oi := { dst := some 53, op := Go.Op.indexAddr 33 (Go.Operand.tmp 2) (Go.Operand.tmp 52), type := 0, pos := "law.go:187", after := #[{ on := 2, ground := Go.Ground.data }, { on := 1, ground := Go.Ground.guard }], guard := some (1, true) }) (v := ?_) rfl (by kernel_rfl) (by kernel_rfl) (by kernel_rfl) (fun _ _ _ h => h) (Or.inl ⟨by rfl, ?_⟩) hHeld ?_
                    case refine_2 => (intro wz hSw; (try dsimp only at hSw); obtain ⟨hS0, hS2, hS1⟩ := hSw; clear hS1; go_simp <;> with_reducible rfl)
                    try simp only [Act.put, List.setIfInBounds_toArray, List.set_cons_zero, List.set_cons_succ]
                    refine wpAnyH_take (i := 4) (oi := { dst := some 54, op := Go.Op.load 9 (Go.Operand.tmp 53), type := 9, pos := "law.go:187", after := #[{ on := 3, ground := Go.Ground.data }, { on := 1, ground := Go.Ground.guard }], guard := some (1, true) }) (v := ?_) rfl (by kernel_rfl) (by kernel_rfl) (by kernel_rfl) (fun _ _ _ h => h) (Or.inl ⟨by rfl, ?_⟩) hHeld ?_
                    case refine_2 => (intro wz hSw; (try dsimp only at hSw); obtain ⟨hS0, hS2, hS1⟩ := hSw; clear hS1; go_simp <;> with_reducible rfl)
                    try simp only [Act.put, List.setIfInBounds_toArray, List.set_cons_zero, List.set_cons_succ]
                    refine wpAnyH_take (i := 5) (oi := { dst := some 55, op := Go.Op.move (Go.Operand.tmp 7), type := 3, pos := "law.go:187", after := #[{ on := 1, ground := Go.Ground.guard }], guard := some (1, true) }) (v := ?_) rfl (by kernel_rfl) (by kernel_rfl) (by kernel_rfl) (fun _ _ _ h => h) (Or.inl ⟨by rfl, ?_⟩) hHeld ?_
                    case refine_2 => (intro wz hSw; (try dsimp only at hSw); obtain ⟨hS0, hS2, hS1⟩ := hSw; clear hS1; go_simp <;> with_reducible rfl)
                    try simp only [Act.put, List.setIfInBounds_toArray, List.set_cons_zero, List.set_cons_succ]
                    refine wpAnyH_take (i := 6) (oi := { dst := some 56, op := Go.Op.indexAddr 33 (Go.Operand.tmp 2) (Go.Operand.tmp 55), type := 0, pos := "law.go:187", after := #[{ on := 5, ground := Go.Ground.data }, { on := 1, ground := Go.Ground.guard }], guard := some (1, true) }) (v := ?_) rfl (by kernel_rfl) (by kernel_rfl) (by kernel_rfl) (fun _ _ _ h => h) (Or.inl ⟨by rfl, ?_⟩) hHeld ?_
                    case refine_2 => (intro wz hSw; (try dsimp only at hSw); obtain ⟨hS0, hS2, hS1⟩ := hSw; clear hS1; go_simp <;> with_reducible rfl)
                    try simp only [Act.put, List.setIfInBounds_toArray, List.set_cons_zero, List.set_cons_succ]
                    refine wpAnyH_take (i := 7) (oi := { dst := some 57, op := Go.Op.load 9 (Go.Operand.tmp 56), type := 9, pos := "law.go:187", after := #[{ on := 6, ground := Go.Ground.data }, { on := 1, ground := Go.Ground.guard }], guard := some (1, true) }) (v := ?_) rfl (by kernel_rfl) (by kernel_rfl) (by kernel_rfl) (fun _ _ _ h => h) (Or.inl ⟨by rfl, ?_⟩) hHeld ?_
                    case refine_2 => (intro wz hSw; (try dsimp only at hSw); obtain ⟨hS0, hS2, hS1⟩ := hSw; clear hS1; go_simp <;> with_reducible rfl)
                    try simp only [Act.put, List.setIfInBounds_toArray, List.set_cons_zero, List.set_cons_succ]
                    refine wpAnyH_take (i := 8) (oi := { dst := some 58, op := Go.Op.binOp Go.BinOp.neq 9 (Go.Operand.tmp 54) (Go.Operand.tmp 57) 9, type := 4, pos := "law.go:187", after := #[{ on := 4, ground := Go.Ground.data }, { on := 7, ground := Go.Ground.data }, { on := 1, ground := Go.Ground.guard }], guard := some (1, true) }) (v := ?_) rfl (by kernel_rfl) (by kernel_rfl) (by kernel_rfl) (fun _ _ _ h => h) (Or.inl ⟨by rfl, ?_⟩) hHeld ?_
                    case refine_2 => (intro wz hSw; (try dsimp only at hSw); obtain ⟨hS0, hS2, hS1⟩ := hSw; clear hS1; go_simp <;> with_reducible rfl)
                    try simp only [Act.put, List.setIfInBounds_toArray, List.set_cons_zero, List.set_cons_succ]
                    refine wpAnyH_take (i := 9) (oi := { dst := some 59, op := Go.Op.pick (Go.Operand.tmp 51) (Go.Operand.tmp 58) (Go.Operand.const (Go.Value.bool false)), type := 4, pos := "law.go:187", after := #[{ on := 1, ground := Go.Ground.data }, { on := 8, ground := Go.Ground.data }], guard := none }) (v := ?_) rfl (by kernel_rfl) (by kernel_rfl) (by kernel_rfl) (fun _ _ _ h => h) (Or.inl ⟨by rfl, ?_⟩) hHeld ?_
                    case refine_2 => (intro wz hSw; (try dsimp only at hSw); obtain ⟨hS0, hS2, hS1⟩ := hSw; clear hS1; go_simp <;> with_reducible rfl)
                    try simp only [Act.put, List.setIfInBounds_toArray, List.set_cons_zero, List.set_cons_succ]
                    refine wpAnyH_take (i := 10) (oi := { dst := some 5, op := Go.Op.assign (Go.Operand.tmp 59), type := 4, pos := "law.go:187", after := #[{ on := 9, ground := Go.Ground.data }, { on := 1, ground := Go.Ground.chain }, { on := 0, ground := Go.Ground.phase }, { on := 1, ground := Go.Ground.phase }, { on := 2, ground := Go.Ground.phase }, { on := 3, ground := Go.Ground.phase }, { on := 4, ground := Go.Ground.phase }, { on := 5, ground := Go.Ground.phase }, { on := 6, ground := Go.Ground.phase }, { on := 7, ground := Go.Ground.phase }, { on := 8, ground := Go.Ground.phase }, { on := 9, ground := Go.Ground.phase }], guard := none }) (v := ?_) rfl (by kernel_rfl) (by kernel_rfl) (by kernel_rfl) (fun _ _ _ h => h) (Or.inl ⟨by rfl, ?_⟩) hHeld ?_
                    case refine_2 => (intro wz hSw; (try dsimp only at hSw); obtain ⟨hS0, hS2, hS1⟩ := hSw; clear hS1; go_simp <;> with_reducible rfl)
                    try simp only [Act.put, List.setIfInBounds_toArray, List.set_cons_zero, List.set_cons_succ]
                    refine wpAnyH_done (by kernel_rfl) ?_ _
                    have HGS2 := Lib.hid hHeld.2.2.1
                    have HB2 := Lib.hid hHeld.2.2.2
                    clear hHeld
                    go_wp2
                    go_roundw
                    case rel => exact ⟨j + 1, by omega, by go_num, by rw [newTo_succ, ← Bool.and_assoc, hc, ← ByteArray.toList_eq, ← ByteArray.toList_eq, bne_comm, he]; rfl, HGS2.out, HB2.out⟩
                    case measure => simp [intOf]; omega
                  | true =>
                    have he2 : ((g k).toList == (g j).toList) = false := by simpa using he
                    have he3 : ¬ (g k).toList = (g j).toList := by simpa using he2
                    go_wp2_with fail
                    refine wp_region_held_drew (S := fun w' => w'.cell? ⟨W.heap.size, k, none⟩ = some (.string (g k)) ∧ w'.cell? ⟨W.heap.size, j, none⟩ = some (.string (g j)) ∧ (Gs w' W.heap.size g ∧ Below W.heap.size W w')) (by kernel_rfl) ⟨HGS.out.2 k (by omega), HGS.out.2 j (by omega), HGS.out, HB.out.drew⟩ (fun hHeld => ?_)
                    refine wpAnyH_take (i := 0) (oi := { dst := some 50, op := Go.Op.move (Go.Operand.tmp 5), type := 4, pos := "law.go:187", after := #[], guard := none }) (v := ?_) rfl (by kernel_rfl) (by kernel_rfl) (by kernel_rfl) (fun _ _ _ h => h) (Or.inl ⟨by rfl, ?_⟩) hHeld ?_
                    case refine_2 => (intro wz hSw; (try dsimp only at hSw); obtain ⟨hS0, hS2, hS1⟩ := hSw; clear hS1; go_simp <;> with_reducible rfl)
                    try simp only [Act.put, List.setIfInBounds_toArray, List.set_cons_zero, List.set_cons_succ]
                    refine wpAnyH_take (i := 1) (oi := { dst := some 51, op := Go.Op.move (Go.Operand.tmp 50), type := 4, pos := "law.go:187", after := #[{ on := 0, ground := Go.Ground.data }], guard := none }) (v := ?_) rfl (by kernel_rfl) (by kernel_rfl) (by kernel_rfl) (fun _ _ _ h => h) (Or.inl ⟨by rfl, ?_⟩) hHeld ?_
                    case refine_2 => (intro wz hSw; (try dsimp only at hSw); obtain ⟨hS0, hS2, hS1⟩ := hSw; clear hS1; go_simp <;> with_reducible rfl)
                    try simp only [Act.put, List.setIfInBounds_toArray, List.set_cons_zero, List.set_cons_succ]
                    refine wpAnyH_take (i := 2) (oi := { dst := some 52, op := Go.Op.move (Go.Operand.tmp 6), type := 3, pos := "law.go:187", after := #[{ on := 1, ground := Go.Ground.guard }], guard := some (1, true) }) (v := ?_) rfl (by kernel_rfl) (by kernel_rfl) (by kernel_rfl) (fun _ _ _ h => h) (Or.inl ⟨by rfl, ?_⟩) hHeld ?_
                    case refine_2 => (intro wz hSw; (try dsimp only at hSw); obtain ⟨hS0, hS2, hS1⟩ := hSw; clear hS1; go_simp <;> with_reducible rfl)
                    try simp only [Act.put, List.setIfInBounds_toArray, List.set_cons_zero, List.set_cons_succ]
                    refine wpAnyH_take (i := 3) (oi := { dst := some 53, op := Go.Op.indexAddr 33 (Go.Operand.tmp 2) (Go.Operand.tmp 52), type := 0, pos := "law.go:187", after := #[{ on := 2, ground := Go.Ground.data }, { on := 1, ground := Go.Ground.guard }], guard := some (1, true) }) (v := ?_) rfl (by kernel_rfl) (by kernel_rfl) (by kernel_rfl) (fun _ _ _ h => h) (Or.inl ⟨by rfl, ?_⟩) hHeld ?_
                    case refine_2 => (intro wz hSw; (try dsimp only at hSw); obtain ⟨hS0, hS2, hS1⟩ := hSw; clear hS1; go_simp <;> with_reducible rfl)
                    try simp only [Act.put, List.setIfInBounds_toArray, List.set_cons_zero, List.set_cons_succ]
                    refine wpAnyH_take (i := 4) (oi := { dst := some 54, op := Go.Op.load 9 (Go.Operand.tmp 53), type := 9, pos := "law.go:187", after := #[{ on := 3, ground := Go.Ground.data }, { on := 1, ground := Go.Ground.guard }], guard := some (1, true) }) (v := ?_) rfl (by kernel_rfl) (by kernel_rfl) (by kernel_rfl) (fun _ _ _ h => h) (Or.inl ⟨by rfl, ?_⟩) hHeld ?_
                    case refine_2 => (intro wz hSw; (try dsimp only at hSw); obtain ⟨hS0, hS2, hS1⟩ := hSw; clear hS1; go_simp <;> with_reducible rfl)
                    try simp only [Act.put, List.setIfInBounds_toArray, List.set_cons_zero, List.set_cons_succ]
                    refine wpAnyH_take (i := 5) (oi := { dst := some 55, op := Go.Op.move (Go.Operand.tmp 7), type := 3, pos := "law.go:187", after := #[{ on := 1, ground := Go.Ground.guard }], guard := some (1, true) }) (v := ?_) rfl (by kernel_rfl) (by kernel_rfl) (by kernel_rfl) (fun _ _ _ h => h) (Or.inl ⟨by rfl, ?_⟩) hHeld ?_
                    case refine_2 => (intro wz hSw; (try dsimp only at hSw); obtain ⟨hS0, hS2, hS1⟩ := hSw; clear hS1; go_simp <;> with_reducible rfl)
                    try simp only [Act.put, List.setIfInBounds_toArray, List.set_cons_zero, List.set_cons_succ]
                    refine wpAnyH_take (i := 6) (oi := { dst := some 56, op := Go.Op.indexAddr 33 (Go.Operand.tmp 2) (Go.Operand.tmp 55), type := 0, pos := "law.go:187", after := #[{ on := 5, ground := Go.Ground.data }, { on := 1, ground := Go.Ground.guard }], guard := some (1, true) }) (v := ?_) rfl (by kernel_rfl) (by kernel_rfl) (by kernel_rfl) (fun _ _ _ h => h) (Or.inl ⟨by rfl, ?_⟩) hHeld ?_
                    case refine_2 => (intro wz hSw; (try dsimp only at hSw); obtain ⟨hS0, hS2, hS1⟩ := hSw; clear hS1; go_simp <;> with_reducible rfl)
                    try simp only [Act.put, List.setIfInBounds_toArray, List.set_cons_zero, List.set_cons_succ]
                    refine wpAnyH_take (i := 7) (oi := { dst := some 57, op := Go.Op.load 9 (Go.Operand.tmp 56), type := 9, pos := "law.go:187", after := #[{ on := 6, ground := Go.Ground.data }, { on := 1, ground := Go.Ground.guard }], guard := some (1, true) }) (v := ?_) rfl (by kernel_rfl) (by kernel_rfl) (by kernel_rfl) (fun _ _ _ h => h) (Or.inl ⟨by rfl, ?_⟩) hHeld ?_
                    case refine_2 => (intro wz hSw; (try dsimp only at hSw); obtain ⟨hS0, hS2, hS1⟩ := hSw; clear hS1; go_simp <;> with_reducible rfl)
                    try simp only [Act.put, List.setIfInBounds_toArray, List.set_cons_zero, List.set_cons_succ]
                    refine wpAnyH_take (i := 8) (oi := { dst := some 58, op := Go.Op.binOp Go.BinOp.neq 9 (Go.Operand.tmp 54) (Go.Operand.tmp 57) 9, type := 4, pos := "law.go:187", after := #[{ on := 4, ground := Go.Ground.data }, { on := 7, ground := Go.Ground.data }, { on := 1, ground := Go.Ground.guard }], guard := some (1, true) }) (v := ?_) rfl (by kernel_rfl) (by kernel_rfl) (by kernel_rfl) (fun _ _ _ h => h) (Or.inl ⟨by rfl, ?_⟩) hHeld ?_
                    case refine_2 => (intro wz hSw; (try dsimp only at hSw); obtain ⟨hS0, hS2, hS1⟩ := hSw; clear hS1; go_simp <;> with_reducible rfl)
                    try simp only [Act.put, List.setIfInBounds_toArray, List.set_cons_zero, List.set_cons_succ]
                    refine wpAnyH_take (i := 9) (oi := { dst := some 59, op := Go.Op.pick (Go.Operand.tmp 51) (Go.Operand.tmp 58) (Go.Operand.const (Go.Value.bool false)), type := 4, pos := "law.go:187", after := #[{ on := 1, ground := Go.Ground.data }, { on := 8, ground := Go.Ground.data }], guard := none }) (v := ?_) rfl (by kernel_rfl) (by kernel_rfl) (by kernel_rfl) (fun _ _ _ h => h) (Or.inl ⟨by rfl, ?_⟩) hHeld ?_
                    case refine_2 => (intro wz hSw; (try dsimp only at hSw); obtain ⟨hS0, hS2, hS1⟩ := hSw; clear hS1; go_simp <;> with_reducible rfl)
                    try simp only [Act.put, List.setIfInBounds_toArray, List.set_cons_zero, List.set_cons_succ]
                    refine wpAnyH_take (i := 10) (oi := { dst := some 5, op := Go.Op.assign (Go.Operand.tmp 59), type := 4, pos := "law.go:187", after := #[{ on := 9, ground := Go.Ground.data }, { on := 1, ground := Go.Ground.chain }, { on := 0, ground := Go.Ground.phase }, { on := 1, ground := Go.Ground.phase }, { on := 2, ground := Go.Ground.phase }, { on := 3, ground := Go.Ground.phase }, { on := 4, ground := Go.Ground.phase }, { on := 5, ground := Go.Ground.phase }, { on := 6, ground := Go.Ground.phase }, { on := 7, ground := Go.Ground.phase }, { on := 8, ground := Go.Ground.phase }, { on := 9, ground := Go.Ground.phase }], guard := none }) (v := ?_) rfl (by kernel_rfl) (by kernel_rfl) (by kernel_rfl) (fun _ _ _ h => h) (Or.inl ⟨by rfl, ?_⟩) hHeld ?_
                    case refine_2 => (intro wz hSw; (try dsimp only at hSw); obtain ⟨hS0, hS2, hS1⟩ := hSw; clear hS1; go_simp <;> with_reducible rfl)
                    try simp only [Act.put, List.setIfInBounds_toArray, List.set_cons_zero, List.set_cons_succ]
                    refine wpAnyH_done (by kernel_rfl) ?_ _
                    have HGS2 := Lib.hid hHeld.2.2.1
                    have HB2 := Lib.hid hHeld.2.2.2
                    clear hHeld
                    go_wp2
                    go_roundw
                    case rel => exact ⟨j + 1, by omega, by go_num, by rw [newTo_succ, ← Bool.and_assoc, hc, ← ByteArray.toList_eq, ← ByteArray.toList_eq, bne_comm, he]; rfl, HGS2.out, HB2.out⟩
                    case measure => simp [intOf]; omega
              · have hjk2 : j = k := by omega
                subst hjk2
                go_wp2
                go_roundw
                case rel => exact ⟨j + 1, by omega, by go_num, by rw [okTo_succ]; unfold okG newG; rw [← Bool.and_assoc]; rfl, fun i hi => by
                  rcases Nat.lt_or_ge i j with h | h
                  · exact H20.out i h
                  · obtain rfl : i = j := by omega
                    omega, HGS.out, HB.out⟩
                case measure => simp [intOf]; omega
          | true =>
            by_cases hml : m = (g k).size
            · have hmi : ((m : Int) == ((g k).size : Int)) = true := by simp; omega
              have hmi2 : (m : Int) = ((g k).size : Int) := by omega
              cases he : (g k).toList.isEmpty with
              | true =>
                go_wp2_with fail
                refine wp_region_held_drew (S := fun w' => w'.cell? ⟨W.heap.size, k, none⟩ = some (.string (g k)) ∧ w'.cell? ⟨W.heap.size, k, none⟩ = some (.string (g k)) ∧ (Gs w' W.heap.size g ∧ Below W.heap.size W w')) (by kernel_rfl) ⟨HGS.out.2 k (by omega), HGS.out.2 k (by omega), HGS.out, HB.out.drew⟩ (fun hHeld => ?_)
                refine wpAnyH_take (i := 0) (oi := { dst := some 27, op := Go.Op.move (Go.Operand.tmp 5), type := 4, pos := "law.go:185", after := #[], guard := none }) (v := ?_) rfl (by kernel_rfl) (by kernel_rfl) (by kernel_rfl) (fun _ _ _ h => h) (Or.inl ⟨by rfl, ?_⟩) hHeld ?_
                case refine_2 => (intro wz hSw; (try dsimp only at hSw); obtain ⟨hS0, hS2, hS1⟩ := hSw; clear hS1; go_simp <;> with_reducible rfl)
                try simp only [Act.put, List.setIfInBounds_toArray, List.set_cons_zero, List.set_cons_succ]
                refine wpAnyH_take (i := 1) (oi := { dst := some 28, op := Go.Op.move (Go.Operand.tmp 27), type := 4, pos := "law.go:185", after := #[{ on := 0, ground := Go.Ground.data }], guard := none }) (v := ?_) rfl (by kernel_rfl) (by kernel_rfl) (by kernel_rfl) (fun _ _ _ h => h) (Or.inl ⟨by rfl, ?_⟩) hHeld ?_
                case refine_2 => (intro wz hSw; (try dsimp only at hSw); obtain ⟨hS0, hS2, hS1⟩ := hSw; clear hS1; go_simp <;> with_reducible rfl)
                try simp only [Act.put, List.setIfInBounds_toArray, List.set_cons_zero, List.set_cons_succ]
                refine wpAnyH_take (i := 2) (oi := { dst := some 29, op := Go.Op.move (Go.Operand.tmp 6), type := 3, pos := "law.go:185", after := #[{ on := 1, ground := Go.Ground.guard }], guard := some (1, true) }) (v := ?_) rfl (by kernel_rfl) (by kernel_rfl) (by kernel_rfl) (fun _ _ _ h => h) (Or.inl ⟨by rfl, ?_⟩) hHeld ?_
                case refine_2 => (intro wz hSw; (try dsimp only at hSw); obtain ⟨hS0, hS2, hS1⟩ := hSw; clear hS1; go_simp <;> with_reducible rfl)
                try simp only [Act.put, List.setIfInBounds_toArray, List.set_cons_zero, List.set_cons_succ]
                refine wpAnyH_take (i := 3) (oi := { dst := some 30, op := Go.Op.indexAddr 33 (Go.Operand.tmp 2) (Go.Operand.tmp 29), type := 0, pos := "law.go:185", after := #[{ on := 2, ground := Go.Ground.data }, { on := 1, ground := Go.Ground.guard }], guard := some (1, true) }) (v := ?_) rfl (by kernel_rfl) (by kernel_rfl) (by kernel_rfl) (fun _ _ _ h => h) (Or.inl ⟨by rfl, ?_⟩) hHeld ?_
                case refine_2 => (intro wz hSw; (try dsimp only at hSw); obtain ⟨hS0, hS2, hS1⟩ := hSw; clear hS1; go_simp <;> with_reducible rfl)
                try simp only [Act.put, List.setIfInBounds_toArray, List.set_cons_zero, List.set_cons_succ]
                refine wpAnyH_take (i := 4) (oi := { dst := some 31, op := Go.Op.load 9 (Go.Operand.tmp 30), type := 9, pos := "law.go:185", after := #[{ on := 3, ground := Go.Ground.data }, { on := 1, ground := Go.Ground.guard }], guard := some (1, true) }) (v := ?_) rfl (by kernel_rfl) (by kernel_rfl) (by kernel_rfl) (fun _ _ _ h => h) (Or.inl ⟨by rfl, ?_⟩) hHeld ?_
                case refine_2 => (intro wz hSw; (try dsimp only at hSw); obtain ⟨hS0, hS2, hS1⟩ := hSw; clear hS1; go_simp <;> with_reducible rfl)
                try simp only [Act.put, List.setIfInBounds_toArray, List.set_cons_zero, List.set_cons_succ]
                refine wpAnyH_take (i := 6) (oi := { dst := some 33, op := Go.Op.move (Go.Operand.tmp 6), type := 3, pos := "law.go:185", after := #[{ on := 1, ground := Go.Ground.guard }], guard := some (1, true) }) (v := ?_) rfl (by kernel_rfl) (by kernel_rfl) (by kernel_rfl) (fun _ _ _ h => h) (Or.inl ⟨by rfl, ?_⟩) hHeld ?_
                case refine_2 => (intro wz hSw; (try dsimp only at hSw); obtain ⟨hS0, hS2, hS1⟩ := hSw; clear hS1; go_simp <;> with_reducible rfl)
                try simp only [Act.put, List.setIfInBounds_toArray, List.set_cons_zero, List.set_cons_succ]
                refine wpAnyH_take (i := 7) (oi := { dst := some 34, op := Go.Op.indexAddr 33 (Go.Operand.tmp 2) (Go.Operand.tmp 33), type := 0, pos := "law.go:185", after := #[{ on := 6, ground := Go.Ground.data }, { on := 1, ground := Go.Ground.guard }], guard := some (1, true) }) (v := ?_) rfl (by kernel_rfl) (by kernel_rfl) (by kernel_rfl) (fun _ _ _ h => h) (Or.inl ⟨by rfl, ?_⟩) hHeld ?_
                case refine_2 => (intro wz hSw; (try dsimp only at hSw); obtain ⟨hS0, hS2, hS1⟩ := hSw; clear hS1; go_simp <;> with_reducible rfl)
                try simp only [Act.put, List.setIfInBounds_toArray, List.set_cons_zero, List.set_cons_succ]
                refine wpAnyH_take (i := 8) (oi := { dst := some 35, op := Go.Op.load 9 (Go.Operand.tmp 34), type := 9, pos := "law.go:185", after := #[{ on := 7, ground := Go.Ground.data }, { on := 1, ground := Go.Ground.guard }], guard := some (1, true) }) (v := ?_) rfl (by kernel_rfl) (by kernel_rfl) (by kernel_rfl) (fun _ _ _ h => h) (Or.inl ⟨by rfl, ?_⟩) hHeld ?_
                case refine_2 => (intro wz hSw; (try dsimp only at hSw); obtain ⟨hS0, hS2, hS1⟩ := hSw; clear hS1; go_simp <;> with_reducible rfl)
                try simp only [Act.put, List.setIfInBounds_toArray, List.set_cons_zero, List.set_cons_succ]
                refine wpAnyH_take (i := 9) (oi := { dst := some 36, op := Go.Op.call { callee := Go.Callee.builtin Go.Builtin.len, args := #[Go.Operand.tmp 35], argTypes := #[9] }, type := 3, pos := "law.go:185", after := #[{ on := 8, ground := Go.Ground.data }, { on := 1, ground := Go.Ground.guard }], guard := some (1, true) }) (v := ?_) rfl (by kernel_rfl) (by kernel_rfl) (by kernel_rfl) (fun _ _ _ h => h) (Or.inl ⟨by rfl, ?_⟩) hHeld ?_
                case refine_2 => (intro wz hSw; (try dsimp only at hSw); obtain ⟨hS0, hS2, hS1⟩ := hSw; clear hS1; go_simp <;> with_reducible rfl)
                try simp only [Act.put, List.setIfInBounds_toArray, List.set_cons_zero, List.set_cons_succ]
                refine wpAnyH_ready (rs := [5]) (by kernel_rfl) (by simp) ?_
                refine AllReadyH.cons (o := { dst := some 32, op := Go.Op.call { callee := Go.Callee.value (Go.Operand.func 9), args := #[Go.Operand.tmp 31], argTypes := #[9] }, type := 3, pos := "law.go:185", after := #[{ on := 4, ground := Go.Ground.data }, { on := 1, ground := Go.Ground.chain }, { on := 1, ground := Go.Ground.guard }], guard := some (1, true) }) rfl (fun KK hK => ?_) AllReadyH.nil
                go_simp
                with_reducible refine (lead_as (g k) _ (by omega) m HM.out).mono ?_
                rintro x_ wz ⟨rfl, rfl⟩
                go_wp2_with fail
                refine hK.out _ _ hHeld (fun hHeld2 => ?_)
                clear hK hHeld
                have hHeld := hHeld2
                clear hHeld2
                try simp only [Act.put, List.setIfInBounds_toArray, List.set_cons_zero, List.set_cons_succ]
                refine wpAnyH_take (i := 10) (oi := { dst := some 37, op := Go.Op.binOp Go.BinOp.eql 3 (Go.Operand.tmp 32) (Go.Operand.tmp 36) 3, type := 4, pos := "law.go:185", after := #[{ on := 5, ground := Go.Ground.data }, { on := 9, ground := Go.Ground.data }, { on := 1, ground := Go.Ground.guard }], guard := some (1, true) }) (v := ?_) rfl (by kernel_rfl) (by kernel_rfl) (by kernel_rfl) (fun _ _ _ h => h) (Or.inl ⟨by rfl, ?_⟩) hHeld ?_
                case refine_2 => (intro wz hSw; (try dsimp only at hSw); obtain ⟨hS0, hS2, hS1⟩ := hSw; clear hS1; go_simp <;> with_reducible rfl)
                try simp only [Act.put, List.setIfInBounds_toArray, List.set_cons_zero, List.set_cons_succ]
                refine wpAnyH_take (i := 11) (oi := { dst := some 38, op := Go.Op.pick (Go.Operand.tmp 28) (Go.Operand.tmp 37) (Go.Operand.const (Go.Value.bool false)), type := 4, pos := "law.go:185", after := #[{ on := 1, ground := Go.Ground.data }, { on := 10, ground := Go.Ground.data }], guard := none }) (v := ?_) rfl (by kernel_rfl) (by kernel_rfl) (by kernel_rfl) (fun _ _ _ h => h) (Or.inl ⟨by rfl, ?_⟩) hHeld ?_
                case refine_2 => (intro wz hSw; (try dsimp only at hSw); obtain ⟨hS0, hS2, hS1⟩ := hSw; clear hS1; go_simp <;> with_reducible rfl)
                try simp only [Act.put, List.setIfInBounds_toArray, List.set_cons_zero, List.set_cons_succ]
                refine wpAnyH_take (i := 12) (oi := { dst := some 39, op := Go.Op.move (Go.Operand.tmp 38), type := 4, pos := "law.go:185", after := #[{ on := 11, ground := Go.Ground.data }, { on := 5, ground := Go.Ground.chain }], guard := none }) (v := ?_) rfl (by kernel_rfl) (by kernel_rfl) (by kernel_rfl) (fun _ _ _ h => h) (Or.inl ⟨by rfl, ?_⟩) hHeld ?_
                case refine_2 => (intro wz hSw; (try dsimp only at hSw); obtain ⟨hS0, hS2, hS1⟩ := hSw; clear hS1; go_simp <;> with_reducible rfl)
                try simp only [Act.put, List.setIfInBounds_toArray, List.set_cons_zero, List.set_cons_succ]
                refine wpAnyH_take (i := 13) (oi := { dst := some 40, op := Go.Op.move (Go.Operand.tmp 6), type := 3, pos := "law.go:185", after := #[{ on := 12, ground := Go.Ground.guard }], guard := some (12, true) }) (v := ?_) rfl (by kernel_rfl) (by kernel_rfl) (by kernel_rfl) (fun _ _ _ h => h) (Or.inl ⟨by rfl, ?_⟩) hHeld ?_
                case refine_2 => (intro wz hSw; (try dsimp only at hSw); obtain ⟨hS0, hS2, hS1⟩ := hSw; clear hS1; go_simp <;> with_reducible rfl)
                try simp only [Act.put, List.setIfInBounds_toArray, List.set_cons_zero, List.set_cons_succ]
                refine wpAnyH_take (i := 14) (oi := { dst := some 41, op := Go.Op.indexAddr 33 (Go.Operand.tmp 2) (Go.Operand.tmp 40), type := 0, pos := "law.go:185", after := #[{ on := 13, ground := Go.Ground.data }, { on := 12, ground := Go.Ground.guard }], guard := some (12, true) }) (v := ?_) rfl (by kernel_rfl) (by kernel_rfl) (by kernel_rfl) (fun _ _ _ h => h) (Or.inl ⟨by rfl, ?_⟩) hHeld ?_
                case refine_2 => (intro wz hSw; (try dsimp only at hSw); obtain ⟨hS0, hS2, hS1⟩ := hSw; clear hS1; go_simp <;> with_reducible rfl)
                try simp only [Act.put, List.setIfInBounds_toArray, List.set_cons_zero, List.set_cons_succ]
                refine wpAnyH_take (i := 15) (oi := { dst := some 42, op := Go.Op.load 9 (Go.Operand.tmp 41), type := 9, pos := "law.go:185", after := #[{ on := 14, ground := Go.Ground.data }, { on := 12, ground := Go.Ground.guard }], guard := some (12, true) }) (v := ?_) rfl (by kernel_rfl) (by kernel_rfl) (by kernel_rfl) (fun _ _ _ h => h) (Or.inl ⟨by rfl, ?_⟩) hHeld ?_
                case refine_2 => (intro wz hSw; (try dsimp only at hSw); obtain ⟨hS0, hS2, hS1⟩ := hSw; clear hS1; go_simp <;> with_reducible rfl)
                try simp only [Act.put, List.setIfInBounds_toArray, List.set_cons_zero, List.set_cons_succ]
                refine wpAnyH_take (i := 16) (oi := { dst := some 43, op := Go.Op.binOp Go.BinOp.neq 9 (Go.Operand.tmp 42) (Go.Operand.const (Go.Value.string { data := #[] })) 9, type := 4, pos := "law.go:185", after := #[{ on := 15, ground := Go.Ground.data }, { on := 12, ground := Go.Ground.guard }], guard := some (12, true) }) (v := ?_) rfl (by kernel_rfl) (by kernel_rfl) (by kernel_rfl) (fun _ _ _ h => h) (Or.inl ⟨by rfl, ?_⟩) hHeld ?_
                case refine_2 => (intro wz hSw; (try dsimp only at hSw); obtain ⟨hS0, hS2, hS1⟩ := hSw; clear hS1; go_simp <;> with_reducible rfl)
                try simp only [Act.put, List.setIfInBounds_toArray, List.set_cons_zero, List.set_cons_succ]
                refine wpAnyH_take (i := 17) (oi := { dst := some 44, op := Go.Op.pick (Go.Operand.tmp 39) (Go.Operand.tmp 43) (Go.Operand.const (Go.Value.bool false)), type := 4, pos := "law.go:185", after := #[{ on := 12, ground := Go.Ground.data }, { on := 16, ground := Go.Ground.data }], guard := none }) (v := ?_) rfl (by kernel_rfl) (by kernel_rfl) (by kernel_rfl) (fun _ _ _ h => h) (Or.inl ⟨by rfl, ?_⟩) hHeld ?_
                case refine_2 => (intro wz hSw; (try dsimp only at hSw); obtain ⟨hS0, hS2, hS1⟩ := hSw; clear hS1; go_simp <;> with_reducible rfl)
                try simp only [Act.put, List.setIfInBounds_toArray, List.set_cons_zero, List.set_cons_succ]
                refine wpAnyH_take (i := 18) (oi := { dst := some 5, op := Go.Op.assign (Go.Operand.tmp 44), type := 4, pos := "law.go:185", after := #[{ on := 17, ground := Go.Ground.data }, { on := 12, ground := Go.Ground.chain }, { on := 0, ground := Go.Ground.phase }, { on := 1, ground := Go.Ground.phase }, { on := 2, ground := Go.Ground.phase }, { on := 3, ground := Go.Ground.phase }, { on := 4, ground := Go.Ground.phase }, { on := 5, ground := Go.Ground.phase }, { on := 6, ground := Go.Ground.phase }, { on := 7, ground := Go.Ground.phase }, { on := 8, ground := Go.Ground.phase }, { on := 9, ground := Go.Ground.phase }, { on := 10, ground := Go.Ground.phase }, { on := 11, ground := Go.Ground.phase }, { on := 12, ground := Go.Ground.phase }, { on := 13, ground := Go.Ground.phase }, { on := 14, ground := Go.Ground.phase }, { on := 15, ground := Go.Ground.phase }, { on := 16, ground := Go.Ground.phase }, { on := 17, ground := Go.Ground.phase }], guard := none }) (v := ?_) rfl (by kernel_rfl) (by kernel_rfl) (by kernel_rfl) (fun _ _ _ h => h) (Or.inl ⟨by rfl, ?_⟩) hHeld ?_
                case refine_2 => (intro wz hSw; (try dsimp only at hSw); obtain ⟨hS0, hS2, hS1⟩ := hSw; clear hS1; go_simp <;> with_reducible rfl)
                try simp only [Act.put, List.setIfInBounds_toArray, List.set_cons_zero, List.set_cons_succ]
                refine wpAnyH_done (by kernel_rfl) ?_ _
                have HBV : Hid ((okTo g k && oneL (g k).data.toList) = false) := Lib.hid (by rw [hok, one_len, ← emp_iff, he]; simp)
                have HGS2 := Lib.hid hHeld.2.2.1
                have HB2 := Lib.hid hHeld.2.2.2
                clear hHeld
                clear HGS HB hck
                go_wp2_with fail
                go_loopw [5, 7] (fun u i wr => ∃ j : Nat, j ≤ k ∧ i = .int .i64 j ∧ u = .bool (okTo g k && oneL (g k).data.toList && newTo g k j) ∧ Gs wr W.heap.size g ∧ Below W.heap.size W wr) (fun _ i _ => k - (intOf i).toNat)
                case atStart => exact ⟨0, Nat.zero_le _, rfl, by rw [newTo_zero, Bool.and_true, HBV.out], HGS2.out, HB2.out⟩
                case round =>
                  obtain ⟨j, hj, rfl, rfl, hgs, hb⟩ := hrel
                  have HGS := Lib.hid hgs
                  have HB := Lib.hid hb
                  clear hgs hb HGS2 HB2 HBV
                  by_cases hjk : (j : Int) < (k : Int)
                  · have hj10 : (j : Int) < 10 := by omega
                    cases hc : (okTo g k && oneL (g k).data.toList && newTo g k j) with
                    | false =>
                      go_wp2_with fail
                      refine wp_region_held_drew (S := fun w' => w'.cell? ⟨W.heap.size, k, none⟩ = some (.string (g k)) ∧ w'.cell? ⟨W.heap.size, j, none⟩ = some (.string (g j)) ∧ (Gs w' W.heap.size g ∧ Below W.heap.size W w')) (by kernel_rfl) ⟨HGS.out.2 k (by omega), HGS.out.2 j (by omega), HGS.out, HB.out.drew⟩ (fun hHeld => ?_)
                      refine wpAnyH_take (i := 0) (oi := { dst := some 50, op := Go.Op.move (Go.Operand.tmp 5), type := 4, pos := "law.go:187", after := #[], guard := none }) (v := ?_) rfl (by kernel_rfl) (by kernel_rfl) (by kernel_rfl) (fun _ _ _ h => h) (Or.inl ⟨by rfl, ?_⟩) hHeld ?_
                      case refine_2 => (intro wz hSw; (try dsimp only at hSw); obtain ⟨hS0, hS2, hS1⟩ := hSw; clear hS1; go_simp <;> with_reducible rfl)
                      try simp only [Act.put, List.setIfInBounds_toArray, List.set_cons_zero, List.set_cons_succ]
                      refine wpAnyH_take (i := 1) (oi := { dst := some 51, op := Go.Op.move (Go.Operand.tmp 50), type := 4, pos := "law.go:187", after := #[{ on := 0, ground := Go.Ground.data }], guard := none }) (v := ?_) rfl (by kernel_rfl) (by kernel_rfl) (by kernel_rfl) (fun _ _ _ h => h) (Or.inl ⟨by rfl, ?_⟩) hHeld ?_
                      case refine_2 => (intro wz hSw; (try dsimp only at hSw); obtain ⟨hS0, hS2, hS1⟩ := hSw; clear hS1; go_simp <;> with_reducible rfl)
                      try simp only [Act.put, List.setIfInBounds_toArray, List.set_cons_zero, List.set_cons_succ]
                      refine wpAnyH_take (i := 2) (oi := { dst := some 52, op := Go.Op.move (Go.Operand.tmp 6), type := 3, pos := "law.go:187", after := #[{ on := 1, ground := Go.Ground.guard }], guard := some (1, true) }) (v := undef) rfl (by kernel_rfl) (by kernel_rfl) (by kernel_rfl) (fun _ _ _ h => h) (Or.inr ⟨by rfl, rfl⟩) hHeld ?_
                      try simp only [Act.put, List.setIfInBounds_toArray, List.set_cons_zero, List.set_cons_succ]
                      refine wpAnyH_take (i := 3) (oi := { dst := some 53, op := Go.Op.indexAddr 33 (Go.Operand.tmp 2) (Go.Operand.tmp 52), type := 0, pos := "law.go:187", after := #[{ on := 2, ground := Go.Ground.data }, { on := 1, ground := Go.Ground.guard }], guard := some (1, true) }) (v := undef) rfl (by kernel_rfl) (by kernel_rfl) (by kernel_rfl) (fun _ _ _ h => h) (Or.inr ⟨by rfl, rfl⟩) hHeld ?_
                      try simp only [Act.put, List.setIfInBounds_toArray, List.set_cons_zero, List.set_cons_succ]
                      refine wpAnyH_take (i := 4) (oi := { dst := some 54, op := Go.Op.load 9 (Go.Operand.tmp 53), type := 9, pos := "law.go:187", after := #[{ on := 3, ground := Go.Ground.data }, { on := 1, ground := Go.Ground.guard }], guard := some (1, true) }) (v := undef) rfl (by kernel_rfl) (by kernel_rfl) (by kernel_rfl) (fun _ _ _ h => h) (Or.inr ⟨by rfl, rfl⟩) hHeld ?_
                      try simp only [Act.put, List.setIfInBounds_toArray, List.set_cons_zero, List.set_cons_succ]
                      refine wpAnyH_take (i := 5) (oi := { dst := some 55, op := Go.Op.move (Go.Operand.tmp 7), type := 3, pos := "law.go:187", after := #[{ on := 1, ground := Go.Ground.guard }], guard := some (1, true) }) (v := undef) rfl (by kernel_rfl) (by kernel_rfl) (by kernel_rfl) (fun _ _ _ h => h) (Or.inr ⟨by rfl, rfl⟩) hHeld ?_
                      try simp only [Act.put, List.setIfInBounds_toArray, List.set_cons_zero, List.set_cons_succ]
                      refine wpAnyH_take (i := 6) (oi := { dst := some 56, op := Go.Op.indexAddr 33 (Go.Operand.tmp 2) (Go.Operand.tmp 55), type := 0, pos := "law.go:187", after := #[{ on := 5, ground := Go.Ground.data }, { on := 1, ground := Go.Ground.guard }], guard := some (1, true) }) (v := undef) rfl (by kernel_rfl) (by kernel_rfl) (by kernel_rfl) (fun _ _ _ h => h) (Or.inr ⟨by rfl, rfl⟩) hHeld ?_
                      try simp only [Act.put, List.setIfInBounds_toArray, List.set_cons_zero, List.set_cons_succ]
                      refine wpAnyH_take (i := 7) (oi := { dst := some 57, op := Go.Op.load 9 (Go.Operand.tmp 56), type := 9, pos := "law.go:187", after := #[{ on := 6, ground := Go.Ground.data }, { on := 1, ground := Go.Ground.guard }], guard := some (1, true) }) (v := undef) rfl (by kernel_rfl) (by kernel_rfl) (by kernel_rfl) (fun _ _ _ h => h) (Or.inr ⟨by rfl, rfl⟩) hHeld ?_
                      try simp only [Act.put, List.setIfInBounds_toArray, List.set_cons_zero, List.set_cons_succ]
                      refine wpAnyH_take (i := 8) (oi := { dst := some 58, op := Go.Op.binOp Go.BinOp.neq 9 (Go.Operand.tmp 54) (Go.Operand.tmp 57) 9, type := 4, pos := "law.go:187", after := #[{ on := 4, ground := Go.Ground.data }, { on := 7, ground := Go.Ground.data }, { on := 1, ground := Go.Ground.guard }], guard := some (1, true) }) (v := undef) rfl (by kernel_rfl) (by kernel_rfl) (by kernel_rfl) (fun _ _ _ h => h) (Or.inr ⟨by rfl, rfl⟩) hHeld ?_
                      try simp only [Act.put, List.setIfInBounds_toArray, List.set_cons_zero, List.set_cons_succ]
                      refine wpAnyH_take (i := 9) (oi := { dst := some 59, op := Go.Op.pick (Go.Operand.tmp 51) (Go.Operand.tmp 58) (Go.Operand.const (Go.Value.bool false)), type := 4, pos := "law.go:187", after := #[{ on := 1, ground := Go.Ground.data }, { on := 8, ground := Go.Ground.data }], guard := none }) (v := ?_) rfl (by kernel_rfl) (by kernel_rfl) (by kernel_rfl) (fun _ _ _ h => h) (Or.inl ⟨by rfl, ?_⟩) hHeld ?_
                      case refine_2 => (intro wz hSw; (try dsimp only at hSw); obtain ⟨hS0, hS2, hS1⟩ := hSw; clear hS1; go_simp <;> with_reducible rfl)
                      try simp only [Act.put, List.setIfInBounds_toArray, List.set_cons_zero, List.set_cons_succ]
                      refine wpAnyH_take (i := 10) (oi := { dst := some 5, op := Go.Op.assign (Go.Operand.tmp 59), type := 4, pos := "law.go:187", after := #[{ on := 9, ground := Go.Ground.data }, { on := 1, ground := Go.Ground.chain }, { on := 0, ground := Go.Ground.phase }, { on := 1, ground := Go.Ground.phase }, { on := 2, ground := Go.Ground.phase }, { on := 3, ground := Go.Ground.phase }, { on := 4, ground := Go.Ground.phase }, { on := 5, ground := Go.Ground.phase }, { on := 6, ground := Go.Ground.phase }, { on := 7, ground := Go.Ground.phase }, { on := 8, ground := Go.Ground.phase }, { on := 9, ground := Go.Ground.phase }], guard := none }) (v := ?_) rfl (by kernel_rfl) (by kernel_rfl) (by kernel_rfl) (fun _ _ _ h => h) (Or.inl ⟨by rfl, ?_⟩) hHeld ?_
                      case refine_2 => (intro wz hSw; (try dsimp only at hSw); obtain ⟨hS0, hS2, hS1⟩ := hSw; clear hS1; go_simp <;> with_reducible rfl)
                      try simp only [Act.put, List.setIfInBounds_toArray, List.set_cons_zero, List.set_cons_succ]
                      refine wpAnyH_done (by kernel_rfl) ?_ _
                      have HGS2 := Lib.hid hHeld.2.2.1
                      have HB2 := Lib.hid hHeld.2.2.2
                      clear hHeld
                      go_wp2
                      go_roundw
                      case rel => exact ⟨j + 1, by omega, by go_num, by rw [newTo_succ, ← Bool.and_assoc, hc]; rfl, HGS2.out, HB2.out⟩
                      case measure => simp [intOf]; omega
                    | true =>
                      cases he : ((g k).toList != (g j).toList) with
                      | false =>
                        have he2 : ((g k).toList == (g j).toList) = true := by simpa using he
                        have he3 : (g k).toList = (g j).toList := by simpa using he2
                        go_wp2_with fail
                        refine wp_region_held_drew (S := fun w' => w'.cell? ⟨W.heap.size, k, none⟩ = some (.string (g k)) ∧ w'.cell? ⟨W.heap.size, j, none⟩ = some (.string (g j)) ∧ (Gs w' W.heap.size g ∧ Below W.heap.size W w')) (by kernel_rfl) ⟨HGS.out.2 k (by omega), HGS.out.2 j (by omega), HGS.out, HB.out.drew⟩ (fun hHeld => ?_)
                        refine wpAnyH_take (i := 0) (oi := { dst := some 50, op := Go.Op.move (Go.Operand.tmp 5), type := 4, pos := "law.go:187", after := #[], guard := none }) (v := ?_) rfl (by kernel_rfl) (by kernel_rfl) (by kernel_rfl) (fun _ _ _ h => h) (Or.inl ⟨by rfl, ?_⟩) hHeld ?_
                        case refine_2 => (intro wz hSw; (try dsimp only at hSw); obtain ⟨hS0, hS2, hS1⟩ := hSw; clear hS1; go_simp <;> with_reducible rfl)
                        try simp only [Act.put, List.setIfInBounds_toArray, List.set_cons_zero, List.set_cons_succ]
                        refine wpAnyH_take (i := 1) (oi := { dst := some 51, op := Go.Op.move (Go.Operand.tmp 50), type := 4, pos := "law.go:187", after := #[{ on := 0, ground := Go.Ground.data }], guard := none }) (v := ?_) rfl (by kernel_rfl) (by kernel_rfl) (by kernel_rfl) (fun _ _ _ h => h) (Or.inl ⟨by rfl, ?_⟩) hHeld ?_
                        case refine_2 => (intro wz hSw; (try dsimp only at hSw); obtain ⟨hS0, hS2, hS1⟩ := hSw; clear hS1; go_simp <;> with_reducible rfl)
                        try simp only [Act.put, List.setIfInBounds_toArray, List.set_cons_zero, List.set_cons_succ]
                        refine wpAnyH_take (i := 2) (oi := { dst := some 52, op := Go.Op.move (Go.Operand.tmp 6), type := 3, pos := "law.go:187", after := #[{ on := 1, ground := Go.Ground.guard }], guard := some (1, true) }) (v := ?_) rfl (by kernel_rfl) (by kernel_rfl) (by kernel_rfl) (fun _ _ _ h => h) (Or.inl ⟨by rfl, ?_⟩) hHeld ?_
                        case refine_2 => (intro wz hSw; (try dsimp only at hSw); obtain ⟨hS0, hS2, hS1⟩ := hSw; clear hS1; go_simp <;> with_reducible rfl)
                        try simp only [Act.put, List.setIfInBounds_toArray, List.set_cons_zero, List.set_cons_succ]
                        refine wpAnyH_take (i := 3) (oi := { dst := some 53, op := Go.Op.indexAddr 33 (Go.Operand.tmp 2) (Go.Operand.tmp 52), type := 0, pos := "law.go:187", after := #[{ on := 2, ground := Go.Ground.data }, { on := 1, ground := Go.Ground.guard }], guard := some (1, true) }) (v := ?_) rfl (by kernel_rfl) (by kernel_rfl) (by kernel_rfl) (fun _ _ _ h => h) (Or.inl ⟨by rfl, ?_⟩) hHeld ?_
                        case refine_2 => (intro wz hSw; (try dsimp only at hSw); obtain ⟨hS0, hS2, hS1⟩ := hSw; clear hS1; go_simp <;> with_reducible rfl)
                        try simp only [Act.put, List.setIfInBounds_toArray, List.set_cons_zero, List.set_cons_succ]
                        refine wpAnyH_take (i := 4) (oi := { dst := some 54, op := Go.Op.load 9 (Go.Operand.tmp 53), type := 9, pos := "law.go:187", after := #[{ on := 3, ground := Go.Ground.data }, { on := 1, ground := Go.Ground.guard }], guard := some (1, true) }) (v := ?_) rfl (by kernel_rfl) (by kernel_rfl) (by kernel_rfl) (fun _ _ _ h => h) (Or.inl ⟨by rfl, ?_⟩) hHeld ?_
                        case refine_2 => (intro wz hSw; (try dsimp only at hSw); obtain ⟨hS0, hS2, hS1⟩ := hSw; clear hS1; go_simp <;> with_reducible rfl)
                        try simp only [Act.put, List.setIfInBounds_toArray, List.set_cons_zero, List.set_cons_succ]
                        refine wpAnyH_take (i := 5) (oi := { dst := some 55, op := Go.Op.move (Go.Operand.tmp 7), type := 3, pos := "law.go:187", after := #[{ on := 1, ground := Go.Ground.guard }], guard := some (1, true) }) (v := ?_) rfl (by kernel_rfl) (by kernel_rfl) (by kernel_rfl) (fun _ _ _ h => h) (Or.inl ⟨by rfl, ?_⟩) hHeld ?_
                        case refine_2 => (intro wz hSw; (try dsimp only at hSw); obtain ⟨hS0, hS2, hS1⟩ := hSw; clear hS1; go_simp <;> with_reducible rfl)
                        try simp only [Act.put, List.setIfInBounds_toArray, List.set_cons_zero, List.set_cons_succ]
                        refine wpAnyH_take (i := 6) (oi := { dst := some 56, op := Go.Op.indexAddr 33 (Go.Operand.tmp 2) (Go.Operand.tmp 55), type := 0, pos := "law.go:187", after := #[{ on := 5, ground := Go.Ground.data }, { on := 1, ground := Go.Ground.guard }], guard := some (1, true) }) (v := ?_) rfl (by kernel_rfl) (by kernel_rfl) (by kernel_rfl) (fun _ _ _ h => h) (Or.inl ⟨by rfl, ?_⟩) hHeld ?_
                        case refine_2 => (intro wz hSw; (try dsimp only at hSw); obtain ⟨hS0, hS2, hS1⟩ := hSw; clear hS1; go_simp <;> with_reducible rfl)
                        try simp only [Act.put, List.setIfInBounds_toArray, List.set_cons_zero, List.set_cons_succ]
                        refine wpAnyH_take (i := 7) (oi := { dst := some 57, op := Go.Op.load 9 (Go.Operand.tmp 56), type := 9, pos := "law.go:187", after := #[{ on := 6, ground := Go.Ground.data }, { on := 1, ground := Go.Ground.guard }], guard := some (1, true) }) (v := ?_) rfl (by kernel_rfl) (by kernel_rfl) (by kernel_rfl) (fun _ _ _ h => h) (Or.inl ⟨by rfl, ?_⟩) hHeld ?_
                        case refine_2 => (intro wz hSw; (try dsimp only at hSw); obtain ⟨hS0, hS2, hS1⟩ := hSw; clear hS1; go_simp <;> with_reducible rfl)
                        try simp only [Act.put, List.setIfInBounds_toArray, List.set_cons_zero, List.set_cons_succ]
                        refine wpAnyH_take (i := 8) (oi := { dst := some 58, op := Go.Op.binOp Go.BinOp.neq 9 (Go.Operand.tmp 54) (Go.Operand.tmp 57) 9, type := 4, pos := "law.go:187", after := #[{ on := 4, ground := Go.Ground.data }, { on := 7, ground := Go.Ground.data }, { on := 1, ground := Go.Ground.guard }], guard := some (1, true) }) (v := ?_) rfl (by kernel_rfl) (by kernel_rfl) (by kernel_rfl) (fun _ _ _ h => h) (Or.inl ⟨by rfl, ?_⟩) hHeld ?_
                        case refine_2 => (intro wz hSw; (try dsimp only at hSw); obtain ⟨hS0, hS2, hS1⟩ := hSw; clear hS1; go_simp <;> with_reducible rfl)
                        try simp only [Act.put, List.setIfInBounds_toArray, List.set_cons_zero, List.set_cons_succ]
                        refine wpAnyH_take (i := 9) (oi := { dst := some 59, op := Go.Op.pick (Go.Operand.tmp 51) (Go.Operand.tmp 58) (Go.Operand.const (Go.Value.bool false)), type := 4, pos := "law.go:187", after := #[{ on := 1, ground := Go.Ground.data }, { on := 8, ground := Go.Ground.data }], guard := none }) (v := ?_) rfl (by kernel_rfl) (by kernel_rfl) (by kernel_rfl) (fun _ _ _ h => h) (Or.inl ⟨by rfl, ?_⟩) hHeld ?_
                        case refine_2 => (intro wz hSw; (try dsimp only at hSw); obtain ⟨hS0, hS2, hS1⟩ := hSw; clear hS1; go_simp <;> with_reducible rfl)
                        try simp only [Act.put, List.setIfInBounds_toArray, List.set_cons_zero, List.set_cons_succ]
                        refine wpAnyH_take (i := 10) (oi := { dst := some 5, op := Go.Op.assign (Go.Operand.tmp 59), type := 4, pos := "law.go:187", after := #[{ on := 9, ground := Go.Ground.data }, { on := 1, ground := Go.Ground.chain }, { on := 0, ground := Go.Ground.phase }, { on := 1, ground := Go.Ground.phase }, { on := 2, ground := Go.Ground.phase }, { on := 3, ground := Go.Ground.phase }, { on := 4, ground := Go.Ground.phase }, { on := 5, ground := Go.Ground.phase }, { on := 6, ground := Go.Ground.phase }, { on := 7, ground := Go.Ground.phase }, { on := 8, ground := Go.Ground.phase }, { on := 9, ground := Go.Ground.phase }], guard := none }) (v := ?_) rfl (by kernel_rfl) (by kernel_rfl) (by kernel_rfl) (fun _ _ _ h => h) (Or.inl ⟨by rfl, ?_⟩) hHeld ?_
                        case refine_2 => (intro wz hSw; (try dsimp only at hSw); obtain ⟨hS0, hS2, hS1⟩ := hSw; clear hS1; go_simp <;> with_reducible rfl)
                        try simp only [Act.put, List.setIfInBounds_toArray, List.set_cons_zero, List.set_cons_succ]
                        refine wpAnyH_done (by kernel_rfl) ?_ _
                        have HGS2 := Lib.hid hHeld.2.2.1
                        have HB2 := Lib.hid hHeld.2.2.2
                        clear hHeld
                        go_wp2
                        go_roundw
                        case rel => exact ⟨j + 1, by omega, by go_num, by rw [newTo_succ, ← Bool.and_assoc, hc, ← ByteArray.toList_eq, ← ByteArray.toList_eq, bne_comm, he]; rfl, HGS2.out, HB2.out⟩
                        case measure => simp [intOf]; omega
                      | true =>
                        have he2 : ((g k).toList == (g j).toList) = false := by simpa using he
                        have he3 : ¬ (g k).toList = (g j).toList := by simpa using he2
                        go_wp2_with fail
                        refine wp_region_held_drew (S := fun w' => w'.cell? ⟨W.heap.size, k, none⟩ = some (.string (g k)) ∧ w'.cell? ⟨W.heap.size, j, none⟩ = some (.string (g j)) ∧ (Gs w' W.heap.size g ∧ Below W.heap.size W w')) (by kernel_rfl) ⟨HGS.out.2 k (by omega), HGS.out.2 j (by omega), HGS.out, HB.out.drew⟩ (fun hHeld => ?_)
                        refine wpAnyH_take (i := 0) (oi := { dst := some 50, op := Go.Op.move (Go.Operand.tmp 5), type := 4, pos := "law.go:187", after := #[], guard := none }) (v := ?_) rfl (by kernel_rfl) (by kernel_rfl) (by kernel_rfl) (fun _ _ _ h => h) (Or.inl ⟨by rfl, ?_⟩) hHeld ?_
                        case refine_2 => (intro wz hSw; (try dsimp only at hSw); obtain ⟨hS0, hS2, hS1⟩ := hSw; clear hS1; go_simp <;> with_reducible rfl)
                        try simp only [Act.put, List.setIfInBounds_toArray, List.set_cons_zero, List.set_cons_succ]
                        refine wpAnyH_take (i := 1) (oi := { dst := some 51, op := Go.Op.move (Go.Operand.tmp 50), type := 4, pos := "law.go:187", after := #[{ on := 0, ground := Go.Ground.data }], guard := none }) (v := ?_) rfl (by kernel_rfl) (by kernel_rfl) (by kernel_rfl) (fun _ _ _ h => h) (Or.inl ⟨by rfl, ?_⟩) hHeld ?_
                        case refine_2 => (intro wz hSw; (try dsimp only at hSw); obtain ⟨hS0, hS2, hS1⟩ := hSw; clear hS1; go_simp <;> with_reducible rfl)
                        try simp only [Act.put, List.setIfInBounds_toArray, List.set_cons_zero, List.set_cons_succ]
                        refine wpAnyH_take (i := 2) (oi := { dst := some 52, op := Go.Op.move (Go.Operand.tmp 6), type := 3, pos := "law.go:187", after := #[{ on := 1, ground := Go.Ground.guard }], guard := some (1, true) }) (v := ?_) rfl (by kernel_rfl) (by kernel_rfl) (by kernel_rfl) (fun _ _ _ h => h) (Or.inl ⟨by rfl, ?_⟩) hHeld ?_
                        case refine_2 => (intro wz hSw; (try dsimp only at hSw); obtain ⟨hS0, hS2, hS1⟩ := hSw; clear hS1; go_simp <;> with_reducible rfl)
                        try simp only [Act.put, List.setIfInBounds_toArray, List.set_cons_zero, List.set_cons_succ]
                        refine wpAnyH_take (i := 3) (oi := { dst := some 53, op := Go.Op.indexAddr 33 (Go.Operand.tmp 2) (Go.Operand.tmp 52), type := 0, pos := "law.go:187", after := #[{ on := 2, ground := Go.Ground.data }, { on := 1, ground := Go.Ground.guard }], guard := some (1, true) }) (v := ?_) rfl (by kernel_rfl) (by kernel_rfl) (by kernel_rfl) (fun _ _ _ h => h) (Or.inl ⟨by rfl, ?_⟩) hHeld ?_
                        case refine_2 => (intro wz hSw; (try dsimp only at hSw); obtain ⟨hS0, hS2, hS1⟩ := hSw; clear hS1; go_simp <;> with_reducible rfl)
                        try simp only [Act.put, List.setIfInBounds_toArray, List.set_cons_zero, List.set_cons_succ]
                        refine wpAnyH_take (i := 4) (oi := { dst := some 54, op := Go.Op.load 9 (Go.Operand.tmp 53), type := 9, pos := "law.go:187", after := #[{ on := 3, ground := Go.Ground.data }, { on := 1, ground := Go.Ground.guard }], guard := some (1, true) }) (v := ?_) rfl (by kernel_rfl) (by kernel_rfl) (by kernel_rfl) (fun _ _ _ h => h) (Or.inl ⟨by rfl, ?_⟩) hHeld ?_
                        case refine_2 => (intro wz hSw; (try dsimp only at hSw); obtain ⟨hS0, hS2, hS1⟩ := hSw; clear hS1; go_simp <;> with_reducible rfl)
                        try simp only [Act.put, List.setIfInBounds_toArray, List.set_cons_zero, List.set_cons_succ]
                        refine wpAnyH_take (i := 5) (oi := { dst := some 55, op := Go.Op.move (Go.Operand.tmp 7), type := 3, pos := "law.go:187", after := #[{ on := 1, ground := Go.Ground.guard }], guard := some (1, true) }) (v := ?_) rfl (by kernel_rfl) (by kernel_rfl) (by kernel_rfl) (fun _ _ _ h => h) (Or.inl ⟨by rfl, ?_⟩) hHeld ?_
                        case refine_2 => (intro wz hSw; (try dsimp only at hSw); obtain ⟨hS0, hS2, hS1⟩ := hSw; clear hS1; go_simp <;> with_reducible rfl)
                        try simp only [Act.put, List.setIfInBounds_toArray, List.set_cons_zero, List.set_cons_succ]
                        refine wpAnyH_take (i := 6) (oi := { dst := some 56, op := Go.Op.indexAddr 33 (Go.Operand.tmp 2) (Go.Operand.tmp 55), type := 0, pos := "law.go:187", after := #[{ on := 5, ground := Go.Ground.data }, { on := 1, ground := Go.Ground.guard }], guard := some (1, true) }) (v := ?_) rfl (by kernel_rfl) (by kernel_rfl) (by kernel_rfl) (fun _ _ _ h => h) (Or.inl ⟨by rfl, ?_⟩) hHeld ?_
                        case refine_2 => (intro wz hSw; (try dsimp only at hSw); obtain ⟨hS0, hS2, hS1⟩ := hSw; clear hS1; go_simp <;> with_reducible rfl)
                        try simp only [Act.put, List.setIfInBounds_toArray, List.set_cons_zero, List.set_cons_succ]
                        refine wpAnyH_take (i := 7) (oi := { dst := some 57, op := Go.Op.load 9 (Go.Operand.tmp 56), type := 9, pos := "law.go:187", after := #[{ on := 6, ground := Go.Ground.data }, { on := 1, ground := Go.Ground.guard }], guard := some (1, true) }) (v := ?_) rfl (by kernel_rfl) (by kernel_rfl) (by kernel_rfl) (fun _ _ _ h => h) (Or.inl ⟨by rfl, ?_⟩) hHeld ?_
                        case refine_2 => (intro wz hSw; (try dsimp only at hSw); obtain ⟨hS0, hS2, hS1⟩ := hSw; clear hS1; go_simp <;> with_reducible rfl)
                        try simp only [Act.put, List.setIfInBounds_toArray, List.set_cons_zero, List.set_cons_succ]
                        refine wpAnyH_take (i := 8) (oi := { dst := some 58, op := Go.Op.binOp Go.BinOp.neq 9 (Go.Operand.tmp 54) (Go.Operand.tmp 57) 9, type := 4, pos := "law.go:187", after := #[{ on := 4, ground := Go.Ground.data }, { on := 7, ground := Go.Ground.data }, { on := 1, ground := Go.Ground.guard }], guard := some (1, true) }) (v := ?_) rfl (by kernel_rfl) (by kernel_rfl) (by kernel_rfl) (fun _ _ _ h => h) (Or.inl ⟨by rfl, ?_⟩) hHeld ?_
                        case refine_2 => (intro wz hSw; (try dsimp only at hSw); obtain ⟨hS0, hS2, hS1⟩ := hSw; clear hS1; go_simp <;> with_reducible rfl)
                        try simp only [Act.put, List.setIfInBounds_toArray, List.set_cons_zero, List.set_cons_succ]
                        refine wpAnyH_take (i := 9) (oi := { dst := some 59, op := Go.Op.pick (Go.Operand.tmp 51) (Go.Operand.tmp 58) (Go.Operand.const (Go.Value.bool false)), type := 4, pos := "law.go:187", after := #[{ on := 1, ground := Go.Ground.data }, { on := 8, ground := Go.Ground.data }], guard := none }) (v := ?_) rfl (by kernel_rfl) (by kernel_rfl) (by kernel_rfl) (fun _ _ _ h => h) (Or.inl ⟨by rfl, ?_⟩) hHeld ?_
                        case refine_2 => (intro wz hSw; (try dsimp only at hSw); obtain ⟨hS0, hS2, hS1⟩ := hSw; clear hS1; go_simp <;> with_reducible rfl)
                        try simp only [Act.put, List.setIfInBounds_toArray, List.set_cons_zero, List.set_cons_succ]
                        refine wpAnyH_take (i := 10) (oi := { dst := some 5, op := Go.Op.assign (Go.Operand.tmp 59), type := 4, pos := "law.go:187", after := #[{ on := 9, ground := Go.Ground.data }, { on := 1, ground := Go.Ground.chain }, { on := 0, ground := Go.Ground.phase }, { on := 1, ground := Go.Ground.phase }, { on := 2, ground := Go.Ground.phase }, { on := 3, ground := Go.Ground.phase }, { on := 4, ground := Go.Ground.phase }, { on := 5, ground := Go.Ground.phase }, { on := 6, ground := Go.Ground.phase }, { on := 7, ground := Go.Ground.phase }, { on := 8, ground := Go.Ground.phase }, { on := 9, ground := Go.Ground.phase }], guard := none }) (v := ?_) rfl (by kernel_rfl) (by kernel_rfl) (by kernel_rfl) (fun _ _ _ h => h) (Or.inl ⟨by rfl, ?_⟩) hHeld ?_
                        case refine_2 => (intro wz hSw; (try dsimp only at hSw); obtain ⟨hS0, hS2, hS1⟩ := hSw; clear hS1; go_simp <;> with_reducible rfl)
                        try simp only [Act.put, List.setIfInBounds_toArray, List.set_cons_zero, List.set_cons_succ]
                        refine wpAnyH_done (by kernel_rfl) ?_ _
                        have HGS2 := Lib.hid hHeld.2.2.1
                        have HB2 := Lib.hid hHeld.2.2.2
                        clear hHeld
                        go_wp2
                        go_roundw
                        case rel => exact ⟨j + 1, by omega, by go_num, by rw [newTo_succ, ← Bool.and_assoc, hc, ← ByteArray.toList_eq, ← ByteArray.toList_eq, bne_comm, he]; rfl, HGS2.out, HB2.out⟩
                        case measure => simp [intOf]; omega
                  · have hjk2 : j = k := by omega
                    subst hjk2
                    go_wp2
                    go_roundw
                    case rel => exact ⟨j + 1, by omega, by go_num, by rw [okTo_succ]; unfold okG newG; rw [← Bool.and_assoc]; rfl, fun i hi => by
                      rcases Nat.lt_or_ge i j with h | h
                      · exact H20.out i h
                      · obtain rfl : i = j := by omega
                        omega, HGS.out, HB.out⟩
                    case measure => simp [intOf]; omega
              | false =>
                go_wp2_with fail
                refine wp_region_held_drew (S := fun w' => w'.cell? ⟨W.heap.size, k, none⟩ = some (.string (g k)) ∧ w'.cell? ⟨W.heap.size, k, none⟩ = some (.string (g k)) ∧ (Gs w' W.heap.size g ∧ Below W.heap.size W w')) (by kernel_rfl) ⟨HGS.out.2 k (by omega), HGS.out.2 k (by omega), HGS.out, HB.out.drew⟩ (fun hHeld => ?_)
                refine wpAnyH_take (i := 0) (oi := { dst := some 27, op := Go.Op.move (Go.Operand.tmp 5), type := 4, pos := "law.go:185", after := #[], guard := none }) (v := ?_) rfl (by kernel_rfl) (by kernel_rfl) (by kernel_rfl) (fun _ _ _ h => h) (Or.inl ⟨by rfl, ?_⟩) hHeld ?_
                case refine_2 => (intro wz hSw; (try dsimp only at hSw); obtain ⟨hS0, hS2, hS1⟩ := hSw; clear hS1; go_simp <;> with_reducible rfl)
                try simp only [Act.put, List.setIfInBounds_toArray, List.set_cons_zero, List.set_cons_succ]
                refine wpAnyH_take (i := 1) (oi := { dst := some 28, op := Go.Op.move (Go.Operand.tmp 27), type := 4, pos := "law.go:185", after := #[{ on := 0, ground := Go.Ground.data }], guard := none }) (v := ?_) rfl (by kernel_rfl) (by kernel_rfl) (by kernel_rfl) (fun _ _ _ h => h) (Or.inl ⟨by rfl, ?_⟩) hHeld ?_
                case refine_2 => (intro wz hSw; (try dsimp only at hSw); obtain ⟨hS0, hS2, hS1⟩ := hSw; clear hS1; go_simp <;> with_reducible rfl)
                try simp only [Act.put, List.setIfInBounds_toArray, List.set_cons_zero, List.set_cons_succ]
                refine wpAnyH_take (i := 2) (oi := { dst := some 29, op := Go.Op.move (Go.Operand.tmp 6), type := 3, pos := "law.go:185", after := #[{ on := 1, ground := Go.Ground.guard }], guard := some (1, true) }) (v := ?_) rfl (by kernel_rfl) (by kernel_rfl) (by kernel_rfl) (fun _ _ _ h => h) (Or.inl ⟨by rfl, ?_⟩) hHeld ?_
                case refine_2 => (intro wz hSw; (try dsimp only at hSw); obtain ⟨hS0, hS2, hS1⟩ := hSw; clear hS1; go_simp <;> with_reducible rfl)
                try simp only [Act.put, List.setIfInBounds_toArray, List.set_cons_zero, List.set_cons_succ]
                refine wpAnyH_take (i := 3) (oi := { dst := some 30, op := Go.Op.indexAddr 33 (Go.Operand.tmp 2) (Go.Operand.tmp 29), type := 0, pos := "law.go:185", after := #[{ on := 2, ground := Go.Ground.data }, { on := 1, ground := Go.Ground.guard }], guard := some (1, true) }) (v := ?_) rfl (by kernel_rfl) (by kernel_rfl) (by kernel_rfl) (fun _ _ _ h => h) (Or.inl ⟨by rfl, ?_⟩) hHeld ?_
                case refine_2 => (intro wz hSw; (try dsimp only at hSw); obtain ⟨hS0, hS2, hS1⟩ := hSw; clear hS1; go_simp <;> with_reducible rfl)
                try simp only [Act.put, List.setIfInBounds_toArray, List.set_cons_zero, List.set_cons_succ]
                refine wpAnyH_take (i := 4) (oi := { dst := some 31, op := Go.Op.load 9 (Go.Operand.tmp 30), type := 9, pos := "law.go:185", after := #[{ on := 3, ground := Go.Ground.data }, { on := 1, ground := Go.Ground.guard }], guard := some (1, true) }) (v := ?_) rfl (by kernel_rfl) (by kernel_rfl) (by kernel_rfl) (fun _ _ _ h => h) (Or.inl ⟨by rfl, ?_⟩) hHeld ?_
                case refine_2 => (intro wz hSw; (try dsimp only at hSw); obtain ⟨hS0, hS2, hS1⟩ := hSw; clear hS1; go_simp <;> with_reducible rfl)
                try simp only [Act.put, List.setIfInBounds_toArray, List.set_cons_zero, List.set_cons_succ]
                refine wpAnyH_take (i := 6) (oi := { dst := some 33, op := Go.Op.move (Go.Operand.tmp 6), type := 3, pos := "law.go:185", after := #[{ on := 1, ground := Go.Ground.guard }], guard := some (1, true) }) (v := ?_) rfl (by kernel_rfl) (by kernel_rfl) (by kernel_rfl) (fun _ _ _ h => h) (Or.inl ⟨by rfl, ?_⟩) hHeld ?_
                case refine_2 => (intro wz hSw; (try dsimp only at hSw); obtain ⟨hS0, hS2, hS1⟩ := hSw; clear hS1; go_simp <;> with_reducible rfl)
                try simp only [Act.put, List.setIfInBounds_toArray, List.set_cons_zero, List.set_cons_succ]
                refine wpAnyH_take (i := 7) (oi := { dst := some 34, op := Go.Op.indexAddr 33 (Go.Operand.tmp 2) (Go.Operand.tmp 33), type := 0, pos := "law.go:185", after := #[{ on := 6, ground := Go.Ground.data }, { on := 1, ground := Go.Ground.guard }], guard := some (1, true) }) (v := ?_) rfl (by kernel_rfl) (by kernel_rfl) (by kernel_rfl) (fun _ _ _ h => h) (Or.inl ⟨by rfl, ?_⟩) hHeld ?_
                case refine_2 => (intro wz hSw; (try dsimp only at hSw); obtain ⟨hS0, hS2, hS1⟩ := hSw; clear hS1; go_simp <;> with_reducible rfl)
                try simp only [Act.put, List.setIfInBounds_toArray, List.set_cons_zero, List.set_cons_succ]
                refine wpAnyH_take (i := 8) (oi := { dst := some 35, op := Go.Op.load 9 (Go.Operand.tmp 34), type := 9, pos := "law.go:185", after := #[{ on := 7, ground := Go.Ground.data }, { on := 1, ground := Go.Ground.guard }], guard := some (1, true) }) (v := ?_) rfl (by kernel_rfl) (by kernel_rfl) (by kernel_rfl) (fun _ _ _ h => h) (Or.inl ⟨by rfl, ?_⟩) hHeld ?_
                case refine_2 => (intro wz hSw; (try dsimp only at hSw); obtain ⟨hS0, hS2, hS1⟩ := hSw; clear hS1; go_simp <;> with_reducible rfl)
                try simp only [Act.put, List.setIfInBounds_toArray, List.set_cons_zero, List.set_cons_succ]
                refine wpAnyH_take (i := 9) (oi := { dst := some 36, op := Go.Op.call { callee := Go.Callee.builtin Go.Builtin.len, args := #[Go.Operand.tmp 35], argTypes := #[9] }, type := 3, pos := "law.go:185", after := #[{ on := 8, ground := Go.Ground.data }, { on := 1, ground := Go.Ground.guard }], guard := some (1, true) }) (v := ?_) rfl (by kernel_rfl) (by kernel_rfl) (by kernel_rfl) (fun _ _ _ h => h) (Or.inl ⟨by rfl, ?_⟩) hHeld ?_
                case refine_2 => (intro wz hSw; (try dsimp only at hSw); obtain ⟨hS0, hS2, hS1⟩ := hSw; clear hS1; go_simp <;> with_reducible rfl)
                try simp only [Act.put, List.setIfInBounds_toArray, List.set_cons_zero, List.set_cons_succ]
                refine wpAnyH_ready (rs := [5]) (by kernel_rfl) (by simp) ?_
                refine AllReadyH.cons (o := { dst := some 32, op := Go.Op.call { callee := Go.Callee.value (Go.Operand.func 9), args := #[Go.Operand.tmp 31], argTypes := #[9] }, type := 3, pos := "law.go:185", after := #[{ on := 4, ground := Go.Ground.data }, { on := 1, ground := Go.Ground.chain }, { on := 1, ground := Go.Ground.guard }], guard := some (1, true) }) rfl (fun KK hK => ?_) AllReadyH.nil
                go_simp
                with_reducible refine (lead_as (g k) _ (by omega) m HM.out).mono ?_
                rintro x_ wz ⟨rfl, rfl⟩
                go_wp2_with fail
                refine hK.out _ _ hHeld (fun hHeld2 => ?_)
                clear hK hHeld
                have hHeld := hHeld2
                clear hHeld2
                try simp only [Act.put, List.setIfInBounds_toArray, List.set_cons_zero, List.set_cons_succ]
                refine wpAnyH_take (i := 10) (oi := { dst := some 37, op := Go.Op.binOp Go.BinOp.eql 3 (Go.Operand.tmp 32) (Go.Operand.tmp 36) 3, type := 4, pos := "law.go:185", after := #[{ on := 5, ground := Go.Ground.data }, { on := 9, ground := Go.Ground.data }, { on := 1, ground := Go.Ground.guard }], guard := some (1, true) }) (v := ?_) rfl (by kernel_rfl) (by kernel_rfl) (by kernel_rfl) (fun _ _ _ h => h) (Or.inl ⟨by rfl, ?_⟩) hHeld ?_
                case refine_2 => (intro wz hSw; (try dsimp only at hSw); obtain ⟨hS0, hS2, hS1⟩ := hSw; clear hS1; go_simp <;> with_reducible rfl)
                try simp only [Act.put, List.setIfInBounds_toArray, List.set_cons_zero, List.set_cons_succ]
                refine wpAnyH_take (i := 11) (oi := { dst := some 38, op := Go.Op.pick (Go.Operand.tmp 28) (Go.Operand.tmp 37) (Go.Operand.const (Go.Value.bool false)), type := 4, pos := "law.go:185", after := #[{ on := 1, ground := Go.Ground.data }, { on := 10, ground := Go.Ground.data }], guard := none }) (v := ?_) rfl (by kernel_rfl) (by kernel_rfl) (by kernel_rfl) (fun _ _ _ h => h) (Or.inl ⟨by rfl, ?_⟩) hHeld ?_
                case refine_2 => (intro wz hSw; (try dsimp only at hSw); obtain ⟨hS0, hS2, hS1⟩ := hSw; clear hS1; go_simp <;> with_reducible rfl)
                try simp only [Act.put, List.setIfInBounds_toArray, List.set_cons_zero, List.set_cons_succ]
                refine wpAnyH_take (i := 12) (oi := { dst := some 39, op := Go.Op.move (Go.Operand.tmp 38), type := 4, pos := "law.go:185", after := #[{ on := 11, ground := Go.Ground.data }, { on := 5, ground := Go.Ground.chain }], guard := none }) (v := ?_) rfl (by kernel_rfl) (by kernel_rfl) (by kernel_rfl) (fun _ _ _ h => h) (Or.inl ⟨by rfl, ?_⟩) hHeld ?_
                case refine_2 => (intro wz hSw; (try dsimp only at hSw); obtain ⟨hS0, hS2, hS1⟩ := hSw; clear hS1; go_simp <;> with_reducible rfl)
                try simp only [Act.put, List.setIfInBounds_toArray, List.set_cons_zero, List.set_cons_succ]
                refine wpAnyH_take (i := 13) (oi := { dst := some 40, op := Go.Op.move (Go.Operand.tmp 6), type := 3, pos := "law.go:185", after := #[{ on := 12, ground := Go.Ground.guard }], guard := some (12, true) }) (v := ?_) rfl (by kernel_rfl) (by kernel_rfl) (by kernel_rfl) (fun _ _ _ h => h) (Or.inl ⟨by rfl, ?_⟩) hHeld ?_
                case refine_2 => (intro wz hSw; (try dsimp only at hSw); obtain ⟨hS0, hS2, hS1⟩ := hSw; clear hS1; go_simp <;> with_reducible rfl)
                try simp only [Act.put, List.setIfInBounds_toArray, List.set_cons_zero, List.set_cons_succ]
                refine wpAnyH_take (i := 14) (oi := { dst := some 41, op := Go.Op.indexAddr 33 (Go.Operand.tmp 2) (Go.Operand.tmp 40), type := 0, pos := "law.go:185", after := #[{ on := 13, ground := Go.Ground.data }, { on := 12, ground := Go.Ground.guard }], guard := some (12, true) }) (v := ?_) rfl (by kernel_rfl) (by kernel_rfl) (by kernel_rfl) (fun _ _ _ h => h) (Or.inl ⟨by rfl, ?_⟩) hHeld ?_
                case refine_2 => (intro wz hSw; (try dsimp only at hSw); obtain ⟨hS0, hS2, hS1⟩ := hSw; clear hS1; go_simp <;> with_reducible rfl)
                try simp only [Act.put, List.setIfInBounds_toArray, List.set_cons_zero, List.set_cons_succ]
                refine wpAnyH_take (i := 15) (oi := { dst := some 42, op := Go.Op.load 9 (Go.Operand.tmp 41), type := 9, pos := "law.go:185", after := #[{ on := 14, ground := Go.Ground.data }, { on := 12, ground := Go.Ground.guard }], guard := some (12, true) }) (v := ?_) rfl (by kernel_rfl) (by kernel_rfl) (by kernel_rfl) (fun _ _ _ h => h) (Or.inl ⟨by rfl, ?_⟩) hHeld ?_
                case refine_2 => (intro wz hSw; (try dsimp only at hSw); obtain ⟨hS0, hS2, hS1⟩ := hSw; clear hS1; go_simp <;> with_reducible rfl)
                try simp only [Act.put, List.setIfInBounds_toArray, List.set_cons_zero, List.set_cons_succ]
                refine wpAnyH_take (i := 16) (oi := { dst := some 43, op := Go.Op.binOp Go.BinOp.neq 9 (Go.Operand.tmp 42) (Go.Operand.const (Go.Value.string { data := #[] })) 9, type := 4, pos := "law.go:185", after := #[{ on := 15, ground := Go.Ground.data }, { on := 12, ground := Go.Ground.guard }], guard := some (12, true) }) (v := ?_) rfl (by kernel_rfl) (by kernel_rfl) (by kernel_rfl) (fun _ _ _ h => h) (Or.inl ⟨by rfl, ?_⟩) hHeld ?_
                case refine_2 => (intro wz hSw; (try dsimp only at hSw); obtain ⟨hS0, hS2, hS1⟩ := hSw; clear hS1; go_simp <;> with_reducible rfl)
                try simp only [Act.put, List.setIfInBounds_toArray, List.set_cons_zero, List.set_cons_succ]
                refine wpAnyH_take (i := 17) (oi := { dst := some 44, op := Go.Op.pick (Go.Operand.tmp 39) (Go.Operand.tmp 43) (Go.Operand.const (Go.Value.bool false)), type := 4, pos := "law.go:185", after := #[{ on := 12, ground := Go.Ground.data }, { on := 16, ground := Go.Ground.data }], guard := none }) (v := ?_) rfl (by kernel_rfl) (by kernel_rfl) (by kernel_rfl) (fun _ _ _ h => h) (Or.inl ⟨by rfl, ?_⟩) hHeld ?_
                case refine_2 => (intro wz hSw; (try dsimp only at hSw); obtain ⟨hS0, hS2, hS1⟩ := hSw; clear hS1; go_simp <;> with_reducible rfl)
                try simp only [Act.put, List.setIfInBounds_toArray, List.set_cons_zero, List.set_cons_succ]
                refine wpAnyH_take (i := 18) (oi := { dst := some 5, op := Go.Op.assign (Go.Operand.tmp 44), type := 4, pos := "law.go:185", after := #[{ on := 17, ground := Go.Ground.data }, { on := 12, ground := Go.Ground.chain }, { on := 0, ground := Go.Ground.phase }, { on := 1, ground := Go.Ground.phase }, { on := 2, ground := Go.Ground.phase }, { on := 3, ground := Go.Ground.phase }, { on := 4, ground := Go.Ground.phase }, { on := 5, ground := Go.Ground.phase }, { on := 6, ground := Go.Ground.phase }, { on := 7, ground := Go.Ground.phase }, { on := 8, ground := Go.Ground.phase }, { on := 9, ground := Go.Ground.phase }, { on := 10, ground := Go.Ground.phase }, { on := 11, ground := Go.Ground.phase }, { on := 12, ground := Go.Ground.phase }, { on := 13, ground := Go.Ground.phase }, { on := 14, ground := Go.Ground.phase }, { on := 15, ground := Go.Ground.phase }, { on := 16, ground := Go.Ground.phase }, { on := 17, ground := Go.Ground.phase }], guard := none }) (v := ?_) rfl (by kernel_rfl) (by kernel_rfl) (by kernel_rfl) (fun _ _ _ h => h) (Or.inl ⟨by rfl, ?_⟩) hHeld ?_
                case refine_2 => (intro wz hSw; (try dsimp only at hSw); obtain ⟨hS0, hS2, hS1⟩ := hSw; clear hS1; go_simp <;> with_reducible rfl)
                try simp only [Act.put, List.setIfInBounds_toArray, List.set_cons_zero, List.set_cons_succ]
                refine wpAnyH_done (by kernel_rfl) ?_ _
                have HBV : Hid ((okTo g k && oneL (g k).data.toList) = true) := Lib.hid (by rw [hok, one_len, ← emp_iff, he, HM.out, hsz]; simp [hml])
                have HGS2 := Lib.hid hHeld.2.2.1
                have HB2 := Lib.hid hHeld.2.2.2
                clear hHeld
                clear HGS HB hck
                go_wp2_with fail
                go_loopw [5, 7] (fun u i wr => ∃ j : Nat, j ≤ k ∧ i = .int .i64 j ∧ u = .bool (okTo g k && oneL (g k).data.toList && newTo g k j) ∧ Gs wr W.heap.size g ∧ Below W.heap.size W wr) (fun _ i _ => k - (intOf i).toNat)
                case atStart => exact ⟨0, Nat.zero_le _, rfl, by rw [newTo_zero, Bool.and_true, HBV.out], HGS2.out, HB2.out⟩
                case round =>
                  obtain ⟨j, hj, rfl, rfl, hgs, hb⟩ := hrel
                  have HGS := Lib.hid hgs
                  have HB := Lib.hid hb
                  clear hgs hb HGS2 HB2 HBV
                  by_cases hjk : (j : Int) < (k : Int)
                  · have hj10 : (j : Int) < 10 := by omega
                    cases hc : (okTo g k && oneL (g k).data.toList && newTo g k j) with
                    | false =>
                      go_wp2_with fail
                      refine wp_region_held_drew (S := fun w' => w'.cell? ⟨W.heap.size, k, none⟩ = some (.string (g k)) ∧ w'.cell? ⟨W.heap.size, j, none⟩ = some (.string (g j)) ∧ (Gs w' W.heap.size g ∧ Below W.heap.size W w')) (by kernel_rfl) ⟨HGS.out.2 k (by omega), HGS.out.2 j (by omega), HGS.out, HB.out.drew⟩ (fun hHeld => ?_)
                      refine wpAnyH_take (i := 0) (oi := { dst := some 50, op := Go.Op.move (Go.Operand.tmp 5), type := 4, pos := "law.go:187", after := #[], guard := none }) (v := ?_) rfl (by kernel_rfl) (by kernel_rfl) (by kernel_rfl) (fun _ _ _ h => h) (Or.inl ⟨by rfl, ?_⟩) hHeld ?_
                      case refine_2 => (intro wz hSw; (try dsimp only at hSw); obtain ⟨hS0, hS2, hS1⟩ := hSw; clear hS1; go_simp <;> with_reducible rfl)
                      try simp only [Act.put, List.setIfInBounds_toArray, List.set_cons_zero, List.set_cons_succ]
                      refine wpAnyH_take (i := 1) (oi := { dst := some 51, op := Go.Op.move (Go.Operand.tmp 50), type := 4, pos := "law.go:187", after := #[{ on := 0, ground := Go.Ground.data }], guard := none }) (v := ?_) rfl (by kernel_rfl) (by kernel_rfl) (by kernel_rfl) (fun _ _ _ h => h) (Or.inl ⟨by rfl, ?_⟩) hHeld ?_
                      case refine_2 => (intro wz hSw; (try dsimp only at hSw); obtain ⟨hS0, hS2, hS1⟩ := hSw; clear hS1; go_simp <;> with_reducible rfl)
                      try simp only [Act.put, List.setIfInBounds_toArray, List.set_cons_zero, List.set_cons_succ]
                      refine wpAnyH_take (i := 2) (oi := { dst := some 52, op := Go.Op.move (Go.Operand.tmp 6), type := 3, pos := "law.go:187", after := #[{ on := 1, ground := Go.Ground.guard }], guard := some (1, true) }) (v := undef) rfl (by kernel_rfl) (by kernel_rfl) (by kernel_rfl) (fun _ _ _ h => h) (Or.inr ⟨by rfl, rfl⟩) hHeld ?_
                      try simp only [Act.put, List.setIfInBounds_toArray, List.set_cons_zero, List.set_cons_succ]
                      refine wpAnyH_take (i := 3) (oi := { dst := some 53, op := Go.Op.indexAddr 33 (Go.Operand.tmp 2) (Go.Operand.tmp 52), type := 0, pos := "law.go:187", after := #[{ on := 2, ground := Go.Ground.data }, { on := 1, ground := Go.Ground.guard }], guard := some (1, true) }) (v := undef) rfl (by kernel_rfl) (by kernel_rfl) (by kernel_rfl) (fun _ _ _ h => h) (Or.inr ⟨by rfl, rfl⟩) hHeld ?_
                      try simp only [Act.put, List.setIfInBounds_toArray, List.set_cons_zero, List.set_cons_succ]
                      refine wpAnyH_take (i := 4) (oi := { dst := some 54, op := Go.Op.load 9 (Go.Operand.tmp 53), type := 9, pos := "law.go:187", after := #[{ on := 3, ground := Go.Ground.data }, { on := 1, ground := Go.Ground.guard }], guard := some (1, true) }) (v := undef) rfl (by kernel_rfl) (by kernel_rfl) (by kernel_rfl) (fun _ _ _ h => h) (Or.inr ⟨by rfl, rfl⟩) hHeld ?_
                      try simp only [Act.put, List.setIfInBounds_toArray, List.set_cons_zero, List.set_cons_succ]
                      refine wpAnyH_take (i := 5) (oi := { dst := some 55, op := Go.Op.move (Go.Operand.tmp 7), type := 3, pos := "law.go:187", after := #[{ on := 1, ground := Go.Ground.guard }], guard := some (1, true) }) (v := undef) rfl (by kernel_rfl) (by kernel_rfl) (by kernel_rfl) (fun _ _ _ h => h) (Or.inr ⟨by rfl, rfl⟩) hHeld ?_
                      try simp only [Act.put, List.setIfInBounds_toArray, List.set_cons_zero, List.set_cons_succ]
                      refine wpAnyH_take (i := 6) (oi := { dst := some 56, op := Go.Op.indexAddr 33 (Go.Operand.tmp 2) (Go.Operand.tmp 55), type := 0, pos := "law.go:187", after := #[{ on := 5, ground := Go.Ground.data }, { on := 1, ground := Go.Ground.guard }], guard := some (1, true) }) (v := undef) rfl (by kernel_rfl) (by kernel_rfl) (by kernel_rfl) (fun _ _ _ h => h) (Or.inr ⟨by rfl, rfl⟩) hHeld ?_
                      try simp only [Act.put, List.setIfInBounds_toArray, List.set_cons_zero, List.set_cons_succ]
                      refine wpAnyH_take (i := 7) (oi := { dst := some 57, op := Go.Op.load 9 (Go.Operand.tmp 56), type := 9, pos := "law.go:187", after := #[{ on := 6, ground := Go.Ground.data }, { on := 1, ground := Go.Ground.guard }], guard := some (1, true) }) (v := undef) rfl (by kernel_rfl) (by kernel_rfl) (by kernel_rfl) (fun _ _ _ h => h) (Or.inr ⟨by rfl, rfl⟩) hHeld ?_
                      try simp only [Act.put, List.setIfInBounds_toArray, List.set_cons_zero, List.set_cons_succ]
                      refine wpAnyH_take (i := 8) (oi := { dst := some 58, op := Go.Op.binOp Go.BinOp.neq 9 (Go.Operand.tmp 54) (Go.Operand.tmp 57) 9, type := 4, pos := "law.go:187", after := #[{ on := 4, ground := Go.Ground.data }, { on := 7, ground := Go.Ground.data }, { on := 1, ground := Go.Ground.guard }], guard := some (1, true) }) (v := undef) rfl (by kernel_rfl) (by kernel_rfl) (by kernel_rfl) (fun _ _ _ h => h) (Or.inr ⟨by rfl, rfl⟩) hHeld ?_
                      try simp only [Act.put, List.setIfInBounds_toArray, List.set_cons_zero, List.set_cons_succ]
                      refine wpAnyH_take (i := 9) (oi := { dst := some 59, op := Go.Op.pick (Go.Operand.tmp 51) (Go.Operand.tmp 58) (Go.Operand.const (Go.Value.bool false)), type := 4, pos := "law.go:187", after := #[{ on := 1, ground := Go.Ground.data }, { on := 8, ground := Go.Ground.data }], guard := none }) (v := ?_) rfl (by kernel_rfl) (by kernel_rfl) (by kernel_rfl) (fun _ _ _ h => h) (Or.inl ⟨by rfl, ?_⟩) hHeld ?_
                      case refine_2 => (intro wz hSw; (try dsimp only at hSw); obtain ⟨hS0, hS2, hS1⟩ := hSw; clear hS1; go_simp <;> with_reducible rfl)
                      try simp only [Act.put, List.setIfInBounds_toArray, List.set_cons_zero, List.set_cons_succ]
                      refine wpAnyH_take (i := 10) (oi := { dst := some 5, op := Go.Op.assign (Go.Operand.tmp 59), type := 4, pos := "law.go:187", after := #[{ on := 9, ground := Go.Ground.data }, { on := 1, ground := Go.Ground.chain }, { on := 0, ground := Go.Ground.phase }, { on := 1, ground := Go.Ground.phase }, { on := 2, ground := Go.Ground.phase }, { on := 3, ground := Go.Ground.phase }, { on := 4, ground := Go.Ground.phase }, { on := 5, ground := Go.Ground.phase }, { on := 6, ground := Go.Ground.phase }, { on := 7, ground := Go.Ground.phase }, { on := 8, ground := Go.Ground.phase }, { on := 9, ground := Go.Ground.phase }], guard := none }) (v := ?_) rfl (by kernel_rfl) (by kernel_rfl) (by kernel_rfl) (fun _ _ _ h => h) (Or.inl ⟨by rfl, ?_⟩) hHeld ?_
                      case refine_2 => (intro wz hSw; (try dsimp only at hSw); obtain ⟨hS0, hS2, hS1⟩ := hSw; clear hS1; go_simp <;> with_reducible rfl)
                      try simp only [Act.put, List.setIfInBounds_toArray, List.set_cons_zero, List.set_cons_succ]
                      refine wpAnyH_done (by kernel_rfl) ?_ _
                      have HGS2 := Lib.hid hHeld.2.2.1
                      have HB2 := Lib.hid hHeld.2.2.2
                      clear hHeld
                      go_wp2
                      go_roundw
                      case rel => exact ⟨j + 1, by omega, by go_num, by rw [newTo_succ, ← Bool.and_assoc, hc]; rfl, HGS2.out, HB2.out⟩
                      case measure => simp [intOf]; omega
                    | true =>
                      cases he : ((g k).toList != (g j).toList) with
                      | false =>
                        have he2 : ((g k).toList == (g j).toList) = true := by simpa using he
                        have he3 : (g k).toList = (g j).toList := by simpa using he2
                        go_wp2_with fail
                        refine wp_region_held_drew (S := fun w' => w'.cell? ⟨W.heap.size, k, none⟩ = some (.string (g k)) ∧ w'.cell? ⟨W.heap.size, j, none⟩ = some (.string (g j)) ∧ (Gs w' W.heap.size g ∧ Below W.heap.size W w')) (by kernel_rfl) ⟨HGS.out.2 k (by omega), HGS.out.2 j (by omega), HGS.out, HB.out.drew⟩ (fun hHeld => ?_)
                        refine wpAnyH_take (i := 0) (oi := { dst := some 50, op := Go.Op.move (Go.Operand.tmp 5), type := 4, pos := "law.go:187", after := #[], guard := none }) (v := ?_) rfl (by kernel_rfl) (by kernel_rfl) (by kernel_rfl) (fun _ _ _ h => h) (Or.inl ⟨by rfl, ?_⟩) hHeld ?_
                        case refine_2 => (intro wz hSw; (try dsimp only at hSw); obtain ⟨hS0, hS2, hS1⟩ := hSw; clear hS1; go_simp <;> with_reducible rfl)
                        try simp only [Act.put, List.setIfInBounds_toArray, List.set_cons_zero, List.set_cons_succ]
                        refine wpAnyH_take (i := 1) (oi := { dst := some 51, op := Go.Op.move (Go.Operand.tmp 50), type := 4, pos := "law.go:187", after := #[{ on := 0, ground := Go.Ground.data }], guard := none }) (v := ?_) rfl (by kernel_rfl) (by kernel_rfl) (by kernel_rfl) (fun _ _ _ h => h) (Or.inl ⟨by rfl, ?_⟩) hHeld ?_
                        case refine_2 => (intro wz hSw; (try dsimp only at hSw); obtain ⟨hS0, hS2, hS1⟩ := hSw; clear hS1; go_simp <;> with_reducible rfl)
                        try simp only [Act.put, List.setIfInBounds_toArray, List.set_cons_zero, List.set_cons_succ]
                        refine wpAnyH_take (i := 2) (oi := { dst := some 52, op := Go.Op.move (Go.Operand.tmp 6), type := 3, pos := "law.go:187", after := #[{ on := 1, ground := Go.Ground.guard }], guard := some (1, true) }) (v := ?_) rfl (by kernel_rfl) (by kernel_rfl) (by kernel_rfl) (fun _ _ _ h => h) (Or.inl ⟨by rfl, ?_⟩) hHeld ?_
                        case refine_2 => (intro wz hSw; (try dsimp only at hSw); obtain ⟨hS0, hS2, hS1⟩ := hSw; clear hS1; go_simp <;> with_reducible rfl)
                        try simp only [Act.put, List.setIfInBounds_toArray, List.set_cons_zero, List.set_cons_succ]
                        refine wpAnyH_take (i := 3) (oi := { dst := some 53, op := Go.Op.indexAddr 33 (Go.Operand.tmp 2) (Go.Operand.tmp 52), type := 0, pos := "law.go:187", after := #[{ on := 2, ground := Go.Ground.data }, { on := 1, ground := Go.Ground.guard }], guard := some (1, true) }) (v := ?_) rfl (by kernel_rfl) (by kernel_rfl) (by kernel_rfl) (fun _ _ _ h => h) (Or.inl ⟨by rfl, ?_⟩) hHeld ?_
                        case refine_2 => (intro wz hSw; (try dsimp only at hSw); obtain ⟨hS0, hS2, hS1⟩ := hSw; clear hS1; go_simp <;> with_reducible rfl)
                        try simp only [Act.put, List.setIfInBounds_toArray, List.set_cons_zero, List.set_cons_succ]
                        refine wpAnyH_take (i := 4) (oi := { dst := some 54, op := Go.Op.load 9 (Go.Operand.tmp 53), type := 9, pos := "law.go:187", after := #[{ on := 3, ground := Go.Ground.data }, { on := 1, ground := Go.Ground.guard }], guard := some (1, true) }) (v := ?_) rfl (by kernel_rfl) (by kernel_rfl) (by kernel_rfl) (fun _ _ _ h => h) (Or.inl ⟨by rfl, ?_⟩) hHeld ?_
                        case refine_2 => (intro wz hSw; (try dsimp only at hSw); obtain ⟨hS0, hS2, hS1⟩ := hSw; clear hS1; go_simp <;> with_reducible rfl)
                        try simp only [Act.put, List.setIfInBounds_toArray, List.set_cons_zero, List.set_cons_succ]
                        refine wpAnyH_take (i := 5) (oi := { dst := some 55, op := Go.Op.move (Go.Operand.tmp 7), type := 3, pos := "law.go:187", after := #[{ on := 1, ground := Go.Ground.guard }], guard := some (1, true) }) (v := ?_) rfl (by kernel_rfl) (by kernel_rfl) (by kernel_rfl) (fun _ _ _ h => h) (Or.inl ⟨by rfl, ?_⟩) hHeld ?_
                        case refine_2 => (intro wz hSw; (try dsimp only at hSw); obtain ⟨hS0, hS2, hS1⟩ := hSw; clear hS1; go_simp <;> with_reducible rfl)
                        try simp only [Act.put, List.setIfInBounds_toArray, List.set_cons_zero, List.set_cons_succ]
                        refine wpAnyH_take (i := 6) (oi := { dst := some 56, op := Go.Op.indexAddr 33 (Go.Operand.tmp 2) (Go.Operand.tmp 55), type := 0, pos := "law.go:187", after := #[{ on := 5, ground := Go.Ground.data }, { on := 1, ground := Go.Ground.guard }], guard := some (1, true) }) (v := ?_) rfl (by kernel_rfl) (by kernel_rfl) (by kernel_rfl) (fun _ _ _ h => h) (Or.inl ⟨by rfl, ?_⟩) hHeld ?_
                        case refine_2 => (intro wz hSw; (try dsimp only at hSw); obtain ⟨hS0, hS2, hS1⟩ := hSw; clear hS1; go_simp <;> with_reducible rfl)
                        try simp only [Act.put, List.setIfInBounds_toArray, List.set_cons_zero, List.set_cons_succ]
                        refine wpAnyH_take (i := 7) (oi := { dst := some 57, op := Go.Op.load 9 (Go.Operand.tmp 56), type := 9, pos := "law.go:187", after := #[{ on := 6, ground := Go.Ground.data }, { on := 1, ground := Go.Ground.guard }], guard := some (1, true) }) (v := ?_) rfl (by kernel_rfl) (by kernel_rfl) (by kernel_rfl) (fun _ _ _ h => h) (Or.inl ⟨by rfl, ?_⟩) hHeld ?_
                        case refine_2 => (intro wz hSw; (try dsimp only at hSw); obtain ⟨hS0, hS2, hS1⟩ := hSw; clear hS1; go_simp <;> with_reducible rfl)
                        try simp only [Act.put, List.setIfInBounds_toArray, List.set_cons_zero, List.set_cons_succ]
                        refine wpAnyH_take (i := 8) (oi := { dst := some 58, op := Go.Op.binOp Go.BinOp.neq 9 (Go.Operand.tmp 54) (Go.Operand.tmp 57) 9, type := 4, pos := "law.go:187", after := #[{ on := 4, ground := Go.Ground.data }, { on := 7, ground := Go.Ground.data }, { on := 1, ground := Go.Ground.guard }], guard := some (1, true) }) (v := ?_) rfl (by kernel_rfl) (by kernel_rfl) (by kernel_rfl) (fun _ _ _ h => h) (Or.inl ⟨by rfl, ?_⟩) hHeld ?_
                        case refine_2 => (intro wz hSw; (try dsimp only at hSw); obtain ⟨hS0, hS2, hS1⟩ := hSw; clear hS1; go_simp <;> with_reducible rfl)
                        try simp only [Act.put, List.setIfInBounds_toArray, List.set_cons_zero, List.set_cons_succ]
                        refine wpAnyH_take (i := 9) (oi := { dst := some 59, op := Go.Op.pick (Go.Operand.tmp 51) (Go.Operand.tmp 58) (Go.Operand.const (Go.Value.bool false)), type := 4, pos := "law.go:187", after := #[{ on := 1, ground := Go.Ground.data }, { on := 8, ground := Go.Ground.data }], guard := none }) (v := ?_) rfl (by kernel_rfl) (by kernel_rfl) (by kernel_rfl) (fun _ _ _ h => h) (Or.inl ⟨by rfl, ?_⟩) hHeld ?_
                        case refine_2 => (intro wz hSw; (try dsimp only at hSw); obtain ⟨hS0, hS2, hS1⟩ := hSw; clear hS1; go_simp <;> with_reducible rfl)
                        try simp only [Act.put, List.setIfInBounds_toArray, List.set_cons_zero, List.set_cons_succ]
                        refine wpAnyH_take (i := 10) (oi := { dst := some 5, op := Go.Op.assign (Go.Operand.tmp 59), type := 4, pos := "law.go:187", after := #[{ on := 9, ground := Go.Ground.data }, { on := 1, ground := Go.Ground.chain }, { on := 0, ground := Go.Ground.phase }, { on := 1, ground := Go.Ground.phase }, { on := 2, ground := Go.Ground.phase }, { on := 3, ground := Go.Ground.phase }, { on := 4, ground := Go.Ground.phase }, { on := 5, ground := Go.Ground.phase }, { on := 6, ground := Go.Ground.phase }, { on := 7, ground := Go.Ground.phase }, { on := 8, ground := Go.Ground.phase }, { on := 9, ground := Go.Ground.phase }], guard := none }) (v := ?_) rfl (by kernel_rfl) (by kernel_rfl) (by kernel_rfl) (fun _ _ _ h => h) (Or.inl ⟨by rfl, ?_⟩) hHeld ?_
                        case refine_2 => (intro wz hSw; (try dsimp only at hSw); obtain ⟨hS0, hS2, hS1⟩ := hSw; clear hS1; go_simp <;> with_reducible rfl)
                        try simp only [Act.put, List.setIfInBounds_toArray, List.set_cons_zero, List.set_cons_succ]
                        refine wpAnyH_done (by kernel_rfl) ?_ _
                        have HGS2 := Lib.hid hHeld.2.2.1
                        have HB2 := Lib.hid hHeld.2.2.2
                        clear hHeld
                        go_wp2
                        go_roundw
                        case rel => exact ⟨j + 1, by omega, by go_num, by rw [newTo_succ, ← Bool.and_assoc, hc, ← ByteArray.toList_eq, ← ByteArray.toList_eq, bne_comm, he]; rfl, HGS2.out, HB2.out⟩
                        case measure => simp [intOf]; omega
                      | true =>
                        have he2 : ((g k).toList == (g j).toList) = false := by simpa using he
                        have he3 : ¬ (g k).toList = (g j).toList := by simpa using he2
                        go_wp2_with fail
                        refine wp_region_held_drew (S := fun w' => w'.cell? ⟨W.heap.size, k, none⟩ = some (.string (g k)) ∧ w'.cell? ⟨W.heap.size, j, none⟩ = some (.string (g j)) ∧ (Gs w' W.heap.size g ∧ Below W.heap.size W w')) (by kernel_rfl) ⟨HGS.out.2 k (by omega), HGS.out.2 j (by omega), HGS.out, HB.out.drew⟩ (fun hHeld => ?_)
                        refine wpAnyH_take (i := 0) (oi := { dst := some 50, op := Go.Op.move (Go.Operand.tmp 5), type := 4, pos := "law.go:187", after := #[], guard := none }) (v := ?_) rfl (by kernel_rfl) (by kernel_rfl) (by kernel_rfl) (fun _ _ _ h => h) (Or.inl ⟨by rfl, ?_⟩) hHeld ?_
                        case refine_2 => (intro wz hSw; (try dsimp only at hSw); obtain ⟨hS0, hS2, hS1⟩ := hSw; clear hS1; go_simp <;> with_reducible rfl)
                        try simp only [Act.put, List.setIfInBounds_toArray, List.set_cons_zero, List.set_cons_succ]
                        refine wpAnyH_take (i := 1) (oi := { dst := some 51, op := Go.Op.move (Go.Operand.tmp 50), type := 4, pos := "law.go:187", after := #[{ on := 0, ground := Go.Ground.data }], guard := none }) (v := ?_) rfl (by kernel_rfl) (by kernel_rfl) (by kernel_rfl) (fun _ _ _ h => h) (Or.inl ⟨by rfl, ?_⟩) hHeld ?_
                        case refine_2 => (intro wz hSw; (try dsimp only at hSw); obtain ⟨hS0, hS2, hS1⟩ := hSw; clear hS1; go_simp <;> with_reducible rfl)
                        try simp only [Act.put, List.setIfInBounds_toArray, List.set_cons_zero, List.set_cons_succ]
                        refine wpAnyH_take (i := 2) (oi := { dst := some 52, op := Go.Op.move (Go.Operand.tmp 6), type := 3, pos := "law.go:187", after := #[{ on := 1, ground := Go.Ground.guard }], guard := some (1, true) }) (v := ?_) rfl (by kernel_rfl) (by kernel_rfl) (by kernel_rfl) (fun _ _ _ h => h) (Or.inl ⟨by rfl, ?_⟩) hHeld ?_
                        case refine_2 => (intro wz hSw; (try dsimp only at hSw); obtain ⟨hS0, hS2, hS1⟩ := hSw; clear hS1; go_simp <;> with_reducible rfl)
                        try simp only [Act.put, List.setIfInBounds_toArray, List.set_cons_zero, List.set_cons_succ]
                        refine wpAnyH_take (i := 3) (oi := { dst := some 53, op := Go.Op.indexAddr 33 (Go.Operand.tmp 2) (Go.Operand.tmp 52), type := 0, pos := "law.go:187", after := #[{ on := 2, ground := Go.Ground.data }, { on := 1, ground := Go.Ground.guard }], guard := some (1, true) }) (v := ?_) rfl (by kernel_rfl) (by kernel_rfl) (by kernel_rfl) (fun _ _ _ h => h) (Or.inl ⟨by rfl, ?_⟩) hHeld ?_
                        case refine_2 => (intro wz hSw; (try dsimp only at hSw); obtain ⟨hS0, hS2, hS1⟩ := hSw; clear hS1; go_simp <;> with_reducible rfl)
                        try simp only [Act.put, List.setIfInBounds_toArray, List.set_cons_zero, List.set_cons_succ]
                        refine wpAnyH_take (i := 4) (oi := { dst := some 54, op := Go.Op.load 9 (Go.Operand.tmp 53), type := 9, pos := "law.go:187", after := #[{ on := 3, ground := Go.Ground.data }, { on := 1, ground := Go.Ground.guard }], guard := some (1, true) }) (v := ?_) rfl (by kernel_rfl) (by kernel_rfl) (by kernel_rfl) (fun _ _ _ h => h) (Or.inl ⟨by rfl, ?_⟩) hHeld ?_
                        case refine_2 => (intro wz hSw; (try dsimp only at hSw); obtain ⟨hS0, hS2, hS1⟩ := hSw; clear hS1; go_simp <;> with_reducible rfl)
                        try simp only [Act.put, List.setIfInBounds_toArray, List.set_cons_zero, List.set_cons_succ]
                        refine wpAnyH_take (i := 5) (oi := { dst := some 55, op := Go.Op.move (Go.Operand.tmp 7), type := 3, pos := "law.go:187", after := #[{ on := 1, ground := Go.Ground.guard }], guard := some (1, true) }) (v := ?_) rfl (by kernel_rfl) (by kernel_rfl) (by kernel_rfl) (fun _ _ _ h => h) (Or.inl ⟨by rfl, ?_⟩) hHeld ?_
                        case refine_2 => (intro wz hSw; (try dsimp only at hSw); obtain ⟨hS0, hS2, hS1⟩ := hSw; clear hS1; go_simp <;> with_reducible rfl)
                        try simp only [Act.put, List.setIfInBounds_toArray, List.set_cons_zero, List.set_cons_succ]
                        refine wpAnyH_take (i := 6) (oi := { dst := some 56, op := Go.Op.indexAddr 33 (Go.Operand.tmp 2) (Go.Operand.tmp 55), type := 0, pos := "law.go:187", after := #[{ on := 5, ground := Go.Ground.data }, { on := 1, ground := Go.Ground.guard }], guard := some (1, true) }) (v := ?_) rfl (by kernel_rfl) (by kernel_rfl) (by kernel_rfl) (fun _ _ _ h => h) (Or.inl ⟨by rfl, ?_⟩) hHeld ?_
                        case refine_2 => (intro wz hSw; (try dsimp only at hSw); obtain ⟨hS0, hS2, hS1⟩ := hSw; clear hS1; go_simp <;> with_reducible rfl)
                        try simp only [Act.put, List.setIfInBounds_toArray, List.set_cons_zero, List.set_cons_succ]
                        refine wpAnyH_take (i := 7) (oi := { dst := some 57, op := Go.Op.load 9 (Go.Operand.tmp 56), type := 9, pos := "law.go:187", after := #[{ on := 6, ground := Go.Ground.data }, { on := 1, ground := Go.Ground.guard }], guard := some (1, true) }) (v := ?_) rfl (by kernel_rfl) (by kernel_rfl) (by kernel_rfl) (fun _ _ _ h => h) (Or.inl ⟨by rfl, ?_⟩) hHeld ?_
                        case refine_2 => (intro wz hSw; (try dsimp only at hSw); obtain ⟨hS0, hS2, hS1⟩ := hSw; clear hS1; go_simp <;> with_reducible rfl)
                        try simp only [Act.put, List.setIfInBounds_toArray, List.set_cons_zero, List.set_cons_succ]
                        refine wpAnyH_take (i := 8) (oi := { dst := some 58, op := Go.Op.binOp Go.BinOp.neq 9 (Go.Operand.tmp 54) (Go.Operand.tmp 57) 9, type := 4, pos := "law.go:187", after := #[{ on := 4, ground := Go.Ground.data }, { on := 7, ground := Go.Ground.data }, { on := 1, ground := Go.Ground.guard }], guard := some (1, true) }) (v := ?_) rfl (by kernel_rfl) (by kernel_rfl) (by kernel_rfl) (fun _ _ _ h => h) (Or.inl ⟨by rfl, ?_⟩) hHeld ?_
                        case refine_2 => (intro wz hSw; (try dsimp only at hSw); obtain ⟨hS0, hS2, hS1⟩ := hSw; clear hS1; go_simp <;> with_reducible rfl)
                        try simp only [Act.put, List.setIfInBounds_toArray, List.set_cons_zero, List.set_cons_succ]
                        refine wpAnyH_take (i := 9) (oi := { dst := some 59, op := Go.Op.pick (Go.Operand.tmp 51) (Go.Operand.tmp 58) (Go.Operand.const (Go.Value.bool false)), type := 4, pos := "law.go:187", after := #[{ on := 1, ground := Go.Ground.data }, { on := 8, ground := Go.Ground.data }], guard := none }) (v := ?_) rfl (by kernel_rfl) (by kernel_rfl) (by kernel_rfl) (fun _ _ _ h => h) (Or.inl ⟨by rfl, ?_⟩) hHeld ?_
                        case refine_2 => (intro wz hSw; (try dsimp only at hSw); obtain ⟨hS0, hS2, hS1⟩ := hSw; clear hS1; go_simp <;> with_reducible rfl)
                        try simp only [Act.put, List.setIfInBounds_toArray, List.set_cons_zero, List.set_cons_succ]
                        refine wpAnyH_take (i := 10) (oi := { dst := some 5, op := Go.Op.assign (Go.Operand.tmp 59), type := 4, pos := "law.go:187", after := #[{ on := 9, ground := Go.Ground.data }, { on := 1, ground := Go.Ground.chain }, { on := 0, ground := Go.Ground.phase }, { on := 1, ground := Go.Ground.phase }, { on := 2, ground := Go.Ground.phase }, { on := 3, ground := Go.Ground.phase }, { on := 4, ground := Go.Ground.phase }, { on := 5, ground := Go.Ground.phase }, { on := 6, ground := Go.Ground.phase }, { on := 7, ground := Go.Ground.phase }, { on := 8, ground := Go.Ground.phase }, { on := 9, ground := Go.Ground.phase }], guard := none }) (v := ?_) rfl (by kernel_rfl) (by kernel_rfl) (by kernel_rfl) (fun _ _ _ h => h) (Or.inl ⟨by rfl, ?_⟩) hHeld ?_
                        case refine_2 => (intro wz hSw; (try dsimp only at hSw); obtain ⟨hS0, hS2, hS1⟩ := hSw; clear hS1; go_simp <;> with_reducible rfl)
                        try simp only [Act.put, List.setIfInBounds_toArray, List.set_cons_zero, List.set_cons_succ]
                        refine wpAnyH_done (by kernel_rfl) ?_ _
                        have HGS2 := Lib.hid hHeld.2.2.1
                        have HB2 := Lib.hid hHeld.2.2.2
                        clear hHeld
                        go_wp2
                        go_roundw
                        case rel => exact ⟨j + 1, by omega, by go_num, by rw [newTo_succ, ← Bool.and_assoc, hc, ← ByteArray.toList_eq, ← ByteArray.toList_eq, bne_comm, he]; rfl, HGS2.out, HB2.out⟩
                        case measure => simp [intOf]; omega
                  · have hjk2 : j = k := by omega
                    subst hjk2
                    go_wp2
                    go_roundw
                    case rel => exact ⟨j + 1, by omega, by go_num, by rw [okTo_succ]; unfold okG newG; rw [← Bool.and_assoc]; rfl, fun i hi => by
                      rcases Nat.lt_or_ge i j with h | h
                      · exact H20.out i h
                      · obtain rfl : i = j := by omega
                        omega, HGS.out, HB.out⟩
                    case measure => simp [intOf]; omega
            · have hmi : ((m : Int) == ((g k).size : Int)) = false := by simp; omega
              have hmi2 : ¬ (m : Int) = ((g k).size : Int) := by omega
              go_wp2_with fail
              refine wp_region_held_drew (S := fun w' => w'.cell? ⟨W.heap.size, k, none⟩ = some (.string (g k)) ∧ w'.cell? ⟨W.heap.size, k, none⟩ = some (.string (g k)) ∧ (Gs w' W.heap.size g ∧ Below W.heap.size W w')) (by kernel_rfl) ⟨HGS.out.2 k (by omega), HGS.out.2 k (by omega), HGS.out, HB.out.drew⟩ (fun hHeld => ?_)
              refine wpAnyH_take (i := 0) (oi := { dst := some 27, op := Go.Op.move (Go.Operand.tmp 5), type := 4, pos := "law.go:185", after := #[], guard := none }) (v := ?_) rfl (by kernel_rfl) (by kernel_rfl) (by kernel_rfl) (fun _ _ _ h => h) (Or.inl ⟨by rfl, ?_⟩) hHeld ?_
              case refine_2 => (intro wz hSw; (try dsimp only at hSw); obtain ⟨hS0, hS2, hS1⟩ := hSw; clear hS1; go_simp <;> with_reducible rfl)
              try simp only [Act.put, List.setIfInBounds_toArray, List.set_cons_zero, List.set_cons_succ]
              refine wpAnyH_take (i := 1) (oi := { dst := some 28, op := Go.Op.move (Go.Operand.tmp 27), type := 4, pos := "law.go:185", after := #[{ on := 0, ground := Go.Ground.data }], guard := none }) (v := ?_) rfl (by kernel_rfl) (by kernel_rfl) (by kernel_rfl) (fun _ _ _ h => h) (Or.inl ⟨by rfl, ?_⟩) hHeld ?_
              case refine_2 => (intro wz hSw; (try dsimp only at hSw); obtain ⟨hS0, hS2, hS1⟩ := hSw; clear hS1; go_simp <;> with_reducible rfl)
              try simp only [Act.put, List.setIfInBounds_toArray, List.set_cons_zero, List.set_cons_succ]
              refine wpAnyH_take (i := 2) (oi := { dst := some 29, op := Go.Op.move (Go.Operand.tmp 6), type := 3, pos := "law.go:185", after := #[{ on := 1, ground := Go.Ground.guard }], guard := some (1, true) }) (v := ?_) rfl (by kernel_rfl) (by kernel_rfl) (by kernel_rfl) (fun _ _ _ h => h) (Or.inl ⟨by rfl, ?_⟩) hHeld ?_
              case refine_2 => (intro wz hSw; (try dsimp only at hSw); obtain ⟨hS0, hS2, hS1⟩ := hSw; clear hS1; go_simp <;> with_reducible rfl)
              try simp only [Act.put, List.setIfInBounds_toArray, List.set_cons_zero, List.set_cons_succ]
              refine wpAnyH_take (i := 3) (oi := { dst := some 30, op := Go.Op.indexAddr 33 (Go.Operand.tmp 2) (Go.Operand.tmp 29), type := 0, pos := "law.go:185", after := #[{ on := 2, ground := Go.Ground.data }, { on := 1, ground := Go.Ground.guard }], guard := some (1, true) }) (v := ?_) rfl (by kernel_rfl) (by kernel_rfl) (by kernel_rfl) (fun _ _ _ h => h) (Or.inl ⟨by rfl, ?_⟩) hHeld ?_
              case refine_2 => (intro wz hSw; (try dsimp only at hSw); obtain ⟨hS0, hS2, hS1⟩ := hSw; clear hS1; go_simp <;> with_reducible rfl)
              try simp only [Act.put, List.setIfInBounds_toArray, List.set_cons_zero, List.set_cons_succ]
              refine wpAnyH_take (i := 4) (oi := { dst := some 31, op := Go.Op.load 9 (Go.Operand.tmp 30), type := 9, pos := "law.go:185", after := #[{ on := 3, ground := Go.Ground.data }, { on := 1, ground := Go.Ground.guard }], guard := some (1, true) }) (v := ?_) rfl (by kernel_rfl) (by kernel_rfl) (by kernel_rfl) (fun _ _ _ h => h) (Or.inl ⟨by rfl, ?_⟩) hHeld ?_
              case refine_2 => (intro wz hSw; (try dsimp only at hSw); obtain ⟨hS0, hS2, hS1⟩ := hSw; clear hS1; go_simp <;> with_reducible rfl)
              try simp only [Act.put, List.setIfInBounds_toArray, List.set_cons_zero, List.set_cons_succ]
              refine wpAnyH_take (i := 6) (oi := { dst := some 33, op := Go.Op.move (Go.Operand.tmp 6), type := 3, pos := "law.go:185", after := #[{ on := 1, ground := Go.Ground.guard }], guard := some (1, true) }) (v := ?_) rfl (by kernel_rfl) (by kernel_rfl) (by kernel_rfl) (fun _ _ _ h => h) (Or.inl ⟨by rfl, ?_⟩) hHeld ?_
              case refine_2 => (intro wz hSw; (try dsimp only at hSw); obtain ⟨hS0, hS2, hS1⟩ := hSw; clear hS1; go_simp <;> with_reducible rfl)
              try simp only [Act.put, List.setIfInBounds_toArray, List.set_cons_zero, List.set_cons_succ]
              refine wpAnyH_take (i := 7) (oi := { dst := some 34, op := Go.Op.indexAddr 33 (Go.Operand.tmp 2) (Go.Operand.tmp 33), type := 0, pos := "law.go:185", after := #[{ on := 6, ground := Go.Ground.data }, { on := 1, ground := Go.Ground.guard }], guard := some (1, true) }) (v := ?_) rfl (by kernel_rfl) (by kernel_rfl) (by kernel_rfl) (fun _ _ _ h => h) (Or.inl ⟨by rfl, ?_⟩) hHeld ?_
              case refine_2 => (intro wz hSw; (try dsimp only at hSw); obtain ⟨hS0, hS2, hS1⟩ := hSw; clear hS1; go_simp <;> with_reducible rfl)
              try simp only [Act.put, List.setIfInBounds_toArray, List.set_cons_zero, List.set_cons_succ]
              refine wpAnyH_take (i := 8) (oi := { dst := some 35, op := Go.Op.load 9 (Go.Operand.tmp 34), type := 9, pos := "law.go:185", after := #[{ on := 7, ground := Go.Ground.data }, { on := 1, ground := Go.Ground.guard }], guard := some (1, true) }) (v := ?_) rfl (by kernel_rfl) (by kernel_rfl) (by kernel_rfl) (fun _ _ _ h => h) (Or.inl ⟨by rfl, ?_⟩) hHeld ?_
              case refine_2 => (intro wz hSw; (try dsimp only at hSw); obtain ⟨hS0, hS2, hS1⟩ := hSw; clear hS1; go_simp <;> with_reducible rfl)
              try simp only [Act.put, List.setIfInBounds_toArray, List.set_cons_zero, List.set_cons_succ]
              refine wpAnyH_take (i := 9) (oi := { dst := some 36, op := Go.Op.call { callee := Go.Callee.builtin Go.Builtin.len, args := #[Go.Operand.tmp 35], argTypes := #[9] }, type := 3, pos := "law.go:185", after := #[{ on := 8, ground := Go.Ground.data }, { on := 1, ground := Go.Ground.guard }], guard := some (1, true) }) (v := ?_) rfl (by kernel_rfl) (by kernel_rfl) (by kernel_rfl) (fun _ _ _ h => h) (Or.inl ⟨by rfl, ?_⟩) hHeld ?_
              case refine_2 => (intro wz hSw; (try dsimp only at hSw); obtain ⟨hS0, hS2, hS1⟩ := hSw; clear hS1; go_simp <;> with_reducible rfl)
              try simp only [Act.put, List.setIfInBounds_toArray, List.set_cons_zero, List.set_cons_succ]
              refine wpAnyH_ready (rs := [5]) (by kernel_rfl) (by simp) ?_
              refine AllReadyH.cons (o := { dst := some 32, op := Go.Op.call { callee := Go.Callee.value (Go.Operand.func 9), args := #[Go.Operand.tmp 31], argTypes := #[9] }, type := 3, pos := "law.go:185", after := #[{ on := 4, ground := Go.Ground.data }, { on := 1, ground := Go.Ground.chain }, { on := 1, ground := Go.Ground.guard }], guard := some (1, true) }) rfl (fun KK hK => ?_) AllReadyH.nil
              go_simp
              with_reducible refine (lead_as (g k) _ (by omega) m HM.out).mono ?_
              rintro x_ wz ⟨rfl, rfl⟩
              go_wp2_with fail
              refine hK.out _ _ hHeld (fun hHeld2 => ?_)
              clear hK hHeld
              have hHeld := hHeld2
              clear hHeld2
              try simp only [Act.put, List.setIfInBounds_toArray, List.set_cons_zero, List.set_cons_succ]
              refine wpAnyH_take (i := 10) (oi := { dst := some 37, op := Go.Op.binOp Go.BinOp.eql 3 (Go.Operand.tmp 32) (Go.Operand.tmp 36) 3, type := 4, pos := "law.go:185", after := #[{ on := 5, ground := Go.Ground.data }, { on := 9, ground := Go.Ground.data }, { on := 1, ground := Go.Ground.guard }], guard := some (1, true) }) (v := ?_) rfl (by kernel_rfl) (by kernel_rfl) (by kernel_rfl) (fun _ _ _ h => h) (Or.inl ⟨by rfl, ?_⟩) hHeld ?_
              case refine_2 => (intro wz hSw; (try dsimp only at hSw); obtain ⟨hS0, hS2, hS1⟩ := hSw; clear hS1; go_simp <;> with_reducible rfl)
              try simp only [Act.put, List.setIfInBounds_toArray, List.set_cons_zero, List.set_cons_succ]
              refine wpAnyH_take (i := 11) (oi := { dst := some 38, op := Go.Op.pick (Go.Operand.tmp 28) (Go.Operand.tmp 37) (Go.Operand.const (Go.Value.bool false)), type := 4, pos := "law.go:185", after := #[{ on := 1, ground := Go.Ground.data }, { on := 10, ground := Go.Ground.data }], guard := none }) (v := ?_) rfl (by kernel_rfl) (by kernel_rfl) (by kernel_rfl) (fun _ _ _ h => h) (Or.inl ⟨by rfl, ?_⟩) hHeld ?_
              case refine_2 => (intro wz hSw; (try dsimp only at hSw); obtain ⟨hS0, hS2, hS1⟩ := hSw; clear hS1; go_simp <;> with_reducible rfl)
              try simp only [Act.put, List.setIfInBounds_toArray, List.set_cons_zero, List.set_cons_succ]
              refine wpAnyH_take (i := 12) (oi := { dst := some 39, op := Go.Op.move (Go.Operand.tmp 38), type := 4, pos := "law.go:185", after := #[{ on := 11, ground := Go.Ground.data }, { on := 5, ground := Go.Ground.chain }], guard := none }) (v := ?_) rfl (by kernel_rfl) (by kernel_rfl) (by kernel_rfl) (fun _ _ _ h => h) (Or.inl ⟨by rfl, ?_⟩) hHeld ?_
              case refine_2 => (intro wz hSw; (try dsimp only at hSw); obtain ⟨hS0, hS2, hS1⟩ := hSw; clear hS1; go_simp <;> with_reducible rfl)
              try simp only [Act.put, List.setIfInBounds_toArray, List.set_cons_zero, List.set_cons_succ]
              refine wpAnyH_take (i := 13) (oi := { dst := some 40, op := Go.Op.move (Go.Operand.tmp 6), type := 3, pos := "law.go:185", after := #[{ on := 12, ground := Go.Ground.guard }], guard := some (12, true) }) (v := undef) rfl (by kernel_rfl) (by kernel_rfl) (by kernel_rfl) (fun _ _ _ h => h) (Or.inr ⟨by rfl, rfl⟩) hHeld ?_
              try simp only [Act.put, List.setIfInBounds_toArray, List.set_cons_zero, List.set_cons_succ]
              refine wpAnyH_take (i := 14) (oi := { dst := some 41, op := Go.Op.indexAddr 33 (Go.Operand.tmp 2) (Go.Operand.tmp 40), type := 0, pos := "law.go:185", after := #[{ on := 13, ground := Go.Ground.data }, { on := 12, ground := Go.Ground.guard }], guard := some (12, true) }) (v := undef) rfl (by kernel_rfl) (by kernel_rfl) (by kernel_rfl) (fun _ _ _ h => h) (Or.inr ⟨by rfl, rfl⟩) hHeld ?_
              try simp only [Act.put, List.setIfInBounds_toArray, List.set_cons_zero, List.set_cons_succ]
              refine wpAnyH_take (i := 15) (oi := { dst := some 42, op := Go.Op.load 9 (Go.Operand.tmp 41), type := 9, pos := "law.go:185", after := #[{ on := 14, ground := Go.Ground.data }, { on := 12, ground := Go.Ground.guard }], guard := some (12, true) }) (v := undef) rfl (by kernel_rfl) (by kernel_rfl) (by kernel_rfl) (fun _ _ _ h => h) (Or.inr ⟨by rfl, rfl⟩) hHeld ?_
              try simp only [Act.put, List.setIfInBounds_toArray, List.set_cons_zero, List.set_cons_succ]
              refine wpAnyH_take (i := 16) (oi := { dst := some 43, op := Go.Op.binOp Go.BinOp.neq 9 (Go.Operand.tmp 42) (Go.Operand.const (Go.Value.string { data := #[] })) 9, type := 4, pos := "law.go:185", after := #[{ on := 15, ground := Go.Ground.data }, { on := 12, ground := Go.Ground.guard }], guard := some (12, true) }) (v := undef) rfl (by kernel_rfl) (by kernel_rfl) (by kernel_rfl) (fun _ _ _ h => h) (Or.inr ⟨by rfl, rfl⟩) hHeld ?_
              try simp only [Act.put, List.setIfInBounds_toArray, List.set_cons_zero, List.set_cons_succ]
              refine wpAnyH_take (i := 17) (oi := { dst := some 44, op := Go.Op.pick (Go.Operand.tmp 39) (Go.Operand.tmp 43) (Go.Operand.const (Go.Value.bool false)), type := 4, pos := "law.go:185", after := #[{ on := 12, ground := Go.Ground.data }, { on := 16, ground := Go.Ground.data }], guard := none }) (v := ?_) rfl (by kernel_rfl) (by kernel_rfl) (by kernel_rfl) (fun _ _ _ h => h) (Or.inl ⟨by rfl, ?_⟩) hHeld ?_
              case refine_2 => (intro wz hSw; (try dsimp only at hSw); obtain ⟨hS0, hS2, hS1⟩ := hSw; clear hS1; go_simp <;> with_reducible rfl)
              try simp only [Act.put, List.setIfInBounds_toArray, List.set_cons_zero, List.set_cons_succ]
              refine wpAnyH_take (i := 18) (oi := { dst := some 5, op := Go.Op.assign (Go.Operand.tmp 44), type := 4, pos := "law.go:185", after := #[{ on := 17, ground := Go.Ground.data }, { on := 12, ground := Go.Ground.chain }, { on := 0, ground := Go.Ground.phase }, { on := 1, ground := Go.Ground.phase }, { on := 2, ground := Go.Ground.phase }, { on := 3, ground := Go.Ground.phase }, { on := 4, ground := Go.Ground.phase }, { on := 5, ground := Go.Ground.phase }, { on := 6, ground := Go.Ground.phase }, { on := 7, ground := Go.Ground.phase }, { on := 8, ground := Go.Ground.phase }, { on := 9, ground := Go.Ground.phase }, { on := 10, ground := Go.Ground.phase }, { on := 11, ground := Go.Ground.phase }, { on := 12, ground := Go.Ground.phase }, { on := 13, ground := Go.Ground.phase }, { on := 14, ground := Go.Ground.phase }, { on := 15, ground := Go.Ground.phase }, { on := 16, ground := Go.Ground.phase }, { on := 17, ground := Go.Ground.phase }], guard := none }) (v := ?_) rfl (by kernel_rfl) (by kernel_rfl) (by kernel_rfl) (fun _ _ _ h => h) (Or.inl ⟨by rfl, ?_⟩) hHeld ?_
              case refine_2 => (intro wz hSw; (try dsimp only at hSw); obtain ⟨hS0, hS2, hS1⟩ := hSw; clear hS1; go_simp <;> with_reducible rfl)
              try simp only [Act.put, List.setIfInBounds_toArray, List.set_cons_zero, List.set_cons_succ]
              refine wpAnyH_done (by kernel_rfl) ?_ _
              have HBV : Hid ((okTo g k && oneL (g k).data.toList) = false) := Lib.hid (by rw [hok, one_len, HM.out, hsz]; simp [hml])
              have HGS2 := Lib.hid hHeld.2.2.1
              have HB2 := Lib.hid hHeld.2.2.2
              clear hHeld
              clear HGS HB hck
              go_wp2_with fail
              go_loopw [5, 7] (fun u i wr => ∃ j : Nat, j ≤ k ∧ i = .int .i64 j ∧ u = .bool (okTo g k && oneL (g k).data.toList && newTo g k j) ∧ Gs wr W.heap.size g ∧ Below W.heap.size W wr) (fun _ i _ => k - (intOf i).toNat)
              case atStart => exact ⟨0, Nat.zero_le _, rfl, by rw [newTo_zero, Bool.and_true, HBV.out], HGS2.out, HB2.out⟩
              case round =>
                obtain ⟨j, hj, rfl, rfl, hgs, hb⟩ := hrel
                have HGS := Lib.hid hgs
                have HB := Lib.hid hb
                clear hgs hb HGS2 HB2 HBV
                by_cases hjk : (j : Int) < (k : Int)
                · have hj10 : (j : Int) < 10 := by omega
                  cases hc : (okTo g k && oneL (g k).data.toList && newTo g k j) with
                  | false =>
                    go_wp2_with fail
                    refine wp_region_held_drew (S := fun w' => w'.cell? ⟨W.heap.size, k, none⟩ = some (.string (g k)) ∧ w'.cell? ⟨W.heap.size, j, none⟩ = some (.string (g j)) ∧ (Gs w' W.heap.size g ∧ Below W.heap.size W w')) (by kernel_rfl) ⟨HGS.out.2 k (by omega), HGS.out.2 j (by omega), HGS.out, HB.out.drew⟩ (fun hHeld => ?_)
                    refine wpAnyH_take (i := 0) (oi := { dst := some 50, op := Go.Op.move (Go.Operand.tmp 5), type := 4, pos := "law.go:187", after := #[], guard := none }) (v := ?_) rfl (by kernel_rfl) (by kernel_rfl) (by kernel_rfl) (fun _ _ _ h => h) (Or.inl ⟨by rfl, ?_⟩) hHeld ?_
                    case refine_2 => (intro wz hSw; (try dsimp only at hSw); obtain ⟨hS0, hS2, hS1⟩ := hSw; clear hS1; go_simp <;> with_reducible rfl)
                    try simp only [Act.put, List.setIfInBounds_toArray, List.set_cons_zero, List.set_cons_succ]
                    refine wpAnyH_take (i := 1) (oi := { dst := some 51, op := Go.Op.move (Go.Operand.tmp 50), type := 4, pos := "law.go:187", after := #[{ on := 0, ground := Go.Ground.data }], guard := none }) (v := ?_) rfl (by kernel_rfl) (by kernel_rfl) (by kernel_rfl) (fun _ _ _ h => h) (Or.inl ⟨by rfl, ?_⟩) hHeld ?_
                    case refine_2 => (intro wz hSw; (try dsimp only at hSw); obtain ⟨hS0, hS2, hS1⟩ := hSw; clear hS1; go_simp <;> with_reducible rfl)
                    try simp only [Act.put, List.setIfInBounds_toArray, List.set_cons_zero, List.set_cons_succ]
                    refine wpAnyH_take (i := 2) (oi := { dst := some 52, op := Go.Op.move (Go.Operand.tmp 6), type := 3, pos := "law.go:187", after := #[{ on := 1, ground := Go.Ground.guard }], guard := some (1, true) }) (v := undef) rfl (by kernel_rfl) (by kernel_rfl) (by kernel_rfl) (fun _ _ _ h => h) (Or.inr ⟨by rfl, rfl⟩) hHeld ?_
                    try simp only [Act.put, List.setIfInBounds_toArray, List.set_cons_zero, List.set_cons_succ]
                    refine wpAnyH_take (i := 3) (oi := { dst := some 53, op := Go.Op.indexAddr 33 (Go.Operand.tmp 2) (Go.Operand.tmp 52), type := 0, pos := "law.go:187", after := #[{ on := 2, ground := Go.Ground.data }, { on := 1, ground := Go.Ground.guard }], guard := some (1, true) }) (v := undef) rfl (by kernel_rfl) (by kernel_rfl) (by kernel_rfl) (fun _ _ _ h => h) (Or.inr ⟨by rfl, rfl⟩) hHeld ?_
                    try simp only [Act.put, List.setIfInBounds_toArray, List.set_cons_zero, List.set_cons_succ]
                    refine wpAnyH_take (i := 4) (oi := { dst := some 54, op := Go.Op.load 9 (Go.Operand.tmp 53), type := 9, pos := "law.go:187", after := #[{ on := 3, ground := Go.Ground.data }, { on := 1, ground := Go.Ground.guard }], guard := some (1, true) }) (v := undef) rfl (by kernel_rfl) (by kernel_rfl) (by kernel_rfl) (fun _ _ _ h => h) (Or.inr ⟨by rfl, rfl⟩) hHeld ?_
                    try simp only [Act.put, List.setIfInBounds_toArray, List.set_cons_zero, List.set_cons_succ]
                    refine wpAnyH_take (i := 5) (oi := { dst := some 55, op := Go.Op.move (Go.Operand.tmp 7), type := 3, pos := "law.go:187", after := #[{ on := 1, ground := Go.Ground.guard }], guard := some (1, true) }) (v := undef) rfl (by kernel_rfl) (by kernel_rfl) (by kernel_rfl) (fun _ _ _ h => h) (Or.inr ⟨by rfl, rfl⟩) hHeld ?_
                    try simp only [Act.put, List.setIfInBounds_toArray, List.set_cons_zero, List.set_cons_succ]
                    refine wpAnyH_take (i := 6) (oi := { dst := some 56, op := Go.Op.indexAddr 33 (Go.Operand.tmp 2) (Go.Operand.tmp 55), type := 0, pos := "law.go:187", after := #[{ on := 5, ground := Go.Ground.data }, { on := 1, ground := Go.Ground.guard }], guard := some (1, true) }) (v := undef) rfl (by kernel_rfl) (by kernel_rfl) (by kernel_rfl) (fun _ _ _ h => h) (Or.inr ⟨by rfl, rfl⟩) hHeld ?_
                    try simp only [Act.put, List.setIfInBounds_toArray, List.set_cons_zero, List.set_cons_succ]
                    refine wpAnyH_take (i := 7) (oi := { dst := some 57, op := Go.Op.load 9 (Go.Operand.tmp 56), type := 9, pos := "law.go:187", after := #[{ on := 6, ground := Go.Ground.data }, { on := 1, ground := Go.Ground.guard }], guard := some (1, true) }) (v := undef) rfl (by kernel_rfl) (by kernel_rfl) (by kernel_rfl) (fun _ _ _ h => h) (Or.inr ⟨by rfl, rfl⟩) hHeld ?_
                    try simp only [Act.put, List.setIfInBounds_toArray, List.set_cons_zero, List.set_cons_succ]
                    refine wpAnyH_take (i := 8) (oi := { dst := some 58, op := Go.Op.binOp Go.BinOp.neq 9 (Go.Operand.tmp 54) (Go.Operand.tmp 57) 9, type := 4, pos := "law.go:187", after := #[{ on := 4, ground := Go.Ground.data }, { on := 7, ground := Go.Ground.data }, { on := 1, ground := Go.Ground.guard }], guard := some (1, true) }) (v := undef) rfl (by kernel_rfl) (by kernel_rfl) (by kernel_rfl) (fun _ _ _ h => h) (Or.inr ⟨by rfl, rfl⟩) hHeld ?_
                    try simp only [Act.put, List.setIfInBounds_toArray, List.set_cons_zero, List.set_cons_succ]
                    refine wpAnyH_take (i := 9) (oi := { dst := some 59, op := Go.Op.pick (Go.Operand.tmp 51) (Go.Operand.tmp 58) (Go.Operand.const (Go.Value.bool false)), type := 4, pos := "law.go:187", after := #[{ on := 1, ground := Go.Ground.data }, { on := 8, ground := Go.Ground.data }], guard := none }) (v := ?_) rfl (by kernel_rfl) (by kernel_rfl) (by kernel_rfl) (fun _ _ _ h => h) (Or.inl ⟨by rfl, ?_⟩) hHeld ?_
                    case refine_2 => (intro wz hSw; (try dsimp only at hSw); obtain ⟨hS0, hS2, hS1⟩ := hSw; clear hS1; go_simp <;> with_reducible rfl)
                    try simp only [Act.put, List.setIfInBounds_toArray, List.set_cons_zero, List.set_cons_succ]
                    refine wpAnyH_take (i := 10) (oi := { dst := some 5, op := Go.Op.assign (Go.Operand.tmp 59), type := 4, pos := "law.go:187", after := #[{ on := 9, ground := Go.Ground.data }, { on := 1, ground := Go.Ground.chain }, { on := 0, ground := Go.Ground.phase }, { on := 1, ground := Go.Ground.phase }, { on := 2, ground := Go.Ground.phase }, { on := 3, ground := Go.Ground.phase }, { on := 4, ground := Go.Ground.phase }, { on := 5, ground := Go.Ground.phase }, { on := 6, ground := Go.Ground.phase }, { on := 7, ground := Go.Ground.phase }, { on := 8, ground := Go.Ground.phase }, { on := 9, ground := Go.Ground.phase }], guard := none }) (v := ?_) rfl (by kernel_rfl) (by kernel_rfl) (by kernel_rfl) (fun _ _ _ h => h) (Or.inl ⟨by rfl, ?_⟩) hHeld ?_
                    case refine_2 => (intro wz hSw; (try dsimp only at hSw); obtain ⟨hS0, hS2, hS1⟩ := hSw; clear hS1; go_simp <;> with_reducible rfl)
                    try simp only [Act.put, List.setIfInBounds_toArray, List.set_cons_zero, List.set_cons_succ]
                    refine wpAnyH_done (by kernel_rfl) ?_ _
                    have HGS2 := Lib.hid hHeld.2.2.1
                    have HB2 := Lib.hid hHeld.2.2.2
                    clear hHeld
                    go_wp2
                    go_roundw
                    case rel => exact ⟨j + 1, by omega, by go_num, by rw [newTo_succ, ← Bool.and_assoc, hc]; rfl, HGS2.out, HB2.out⟩
                    case measure => simp [intOf]; omega
                  | true =>
                    cases he : ((g k).toList != (g j).toList) with
                    | false =>
                      have he2 : ((g k).toList == (g j).toList) = true := by simpa using he
                      have he3 : (g k).toList = (g j).toList := by simpa using he2
                      go_wp2_with fail
                      refine wp_region_held_drew (S := fun w' => w'.cell? ⟨W.heap.size, k, none⟩ = some (.string (g k)) ∧ w'.cell? ⟨W.heap.size, j, none⟩ = some (.string (g j)) ∧ (Gs w' W.heap.size g ∧ Below W.heap.size W w')) (by kernel_rfl) ⟨HGS.out.2 k (by omega), HGS.out.2 j (by omega), HGS.out, HB.out.drew⟩ (fun hHeld => ?_)
                      refine wpAnyH_take (i := 0) (oi := { dst := some 50, op := Go.Op.move (Go.Operand.tmp 5), type := 4, pos := "law.go:187", after := #[], guard := none }) (v := ?_) rfl (by kernel_rfl) (by kernel_rfl) (by kernel_rfl) (fun _ _ _ h => h) (Or.inl ⟨by rfl, ?_⟩) hHeld ?_
                      case refine_2 => (intro wz hSw; (try dsimp only at hSw); obtain ⟨hS0, hS2, hS1⟩ := hSw; clear hS1; go_simp <;> with_reducible rfl)
                      try simp only [Act.put, List.setIfInBounds_toArray, List.set_cons_zero, List.set_cons_succ]
                      refine wpAnyH_take (i := 1) (oi := { dst := some 51, op := Go.Op.move (Go.Operand.tmp 50), type := 4, pos := "law.go:187", after := #[{ on := 0, ground := Go.Ground.data }], guard := none }) (v := ?_) rfl (by kernel_rfl) (by kernel_rfl) (by kernel_rfl) (fun _ _ _ h => h) (Or.inl ⟨by rfl, ?_⟩) hHeld ?_
                      case refine_2 => (intro wz hSw; (try dsimp only at hSw); obtain ⟨hS0, hS2, hS1⟩ := hSw; clear hS1; go_simp <;> with_reducible rfl)
                      try simp only [Act.put, List.setIfInBounds_toArray, List.set_cons_zero, List.set_cons_succ]
                      refine wpAnyH_take (i := 2) (oi := { dst := some 52, op := Go.Op.move (Go.Operand.tmp 6), type := 3, pos := "law.go:187", after := #[{ on := 1, ground := Go.Ground.guard }], guard := some (1, true) }) (v := ?_) rfl (by kernel_rfl) (by kernel_rfl) (by kernel_rfl) (fun _ _ _ h => h) (Or.inl ⟨by rfl, ?_⟩) hHeld ?_
                      case refine_2 => (intro wz hSw; (try dsimp only at hSw); obtain ⟨hS0, hS2, hS1⟩ := hSw; clear hS1; go_simp <;> with_reducible rfl)
                      try simp only [Act.put, List.setIfInBounds_toArray, List.set_cons_zero, List.set_cons_succ]
                      refine wpAnyH_take (i := 3) (oi := { dst := some 53, op := Go.Op.indexAddr 33 (Go.Operand.tmp 2) (Go.Operand.tmp 52), type := 0, pos := "law.go:187", after := #[{ on := 2, ground := Go.Ground.data }, { on := 1, ground := Go.Ground.guard }], guard := some (1, true) }) (v := ?_) rfl (by kernel_rfl) (by kernel_rfl) (by kernel_rfl) (fun _ _ _ h => h) (Or.inl ⟨by rfl, ?_⟩) hHeld ?_
                      case refine_2 => (intro wz hSw; (try dsimp only at hSw); obtain ⟨hS0, hS2, hS1⟩ := hSw; clear hS1; go_simp <;> with_reducible rfl)
                      try simp only [Act.put, List.setIfInBounds_toArray, List.set_cons_zero, List.set_cons_succ]
                      refine wpAnyH_take (i := 4) (oi := { dst := some 54, op := Go.Op.load 9 (Go.Operand.tmp 53), type := 9, pos := "law.go:187", after := #[{ on := 3, ground := Go.Ground.data }, { on := 1, ground := Go.Ground.guard }], guard := some (1, true) }) (v := ?_) rfl (by kernel_rfl) (by kernel_rfl) (by kernel_rfl) (fun _ _ _ h => h) (Or.inl ⟨by rfl, ?_⟩) hHeld ?_
                      case refine_2 => (intro wz hSw; (try dsimp only at hSw); obtain ⟨hS0, hS2, hS1⟩ := hSw; clear hS1; go_simp <;> with_reducible rfl)
                      try simp only [Act.put, List.setIfInBounds_toArray, List.set_cons_zero, List.set_cons_succ]
                      refine wpAnyH_take (i := 5) (oi := { dst := some 55, op := Go.Op.move (Go.Operand.tmp 7), type := 3, pos := "law.go:187", after := #[{ on := 1, ground := Go.Ground.guard }], guard := some (1, true) }) (v := ?_) rfl (by kernel_rfl) (by kernel_rfl) (by kernel_rfl) (fun _ _ _ h => h) (Or.inl ⟨by rfl, ?_⟩) hHeld ?_
                      case refine_2 => (intro wz hSw; (try dsimp only at hSw); obtain ⟨hS0, hS2, hS1⟩ := hSw; clear hS1; go_simp <;> with_reducible rfl)
                      try simp only [Act.put, List.setIfInBounds_toArray, List.set_cons_zero, List.set_cons_succ]
                      refine wpAnyH_take (i := 6) (oi := { dst := some 56, op := Go.Op.indexAddr 33 (Go.Operand.tmp 2) (Go.Operand.tmp 55), type := 0, pos := "law.go:187", after := #[{ on := 5, ground := Go.Ground.data }, { on := 1, ground := Go.Ground.guard }], guard := some (1, true) }) (v := ?_) rfl (by kernel_rfl) (by kernel_rfl) (by kernel_rfl) (fun _ _ _ h => h) (Or.inl ⟨by rfl, ?_⟩) hHeld ?_
                      case refine_2 => (intro wz hSw; (try dsimp only at hSw); obtain ⟨hS0, hS2, hS1⟩ := hSw; clear hS1; go_simp <;> with_reducible rfl)
                      try simp only [Act.put, List.setIfInBounds_toArray, List.set_cons_zero, List.set_cons_succ]
                      refine wpAnyH_take (i := 7) (oi := { dst := some 57, op := Go.Op.load 9 (Go.Operand.tmp 56), type := 9, pos := "law.go:187", after := #[{ on := 6, ground := Go.Ground.data }, { on := 1, ground := Go.Ground.guard }], guard := some (1, true) }) (v := ?_) rfl (by kernel_rfl) (by kernel_rfl) (by kernel_rfl) (fun _ _ _ h => h) (Or.inl ⟨by rfl, ?_⟩) hHeld ?_
                      case refine_2 => (intro wz hSw; (try dsimp only at hSw); obtain ⟨hS0, hS2, hS1⟩ := hSw; clear hS1; go_simp <;> with_reducible rfl)
                      try simp only [Act.put, List.setIfInBounds_toArray, List.set_cons_zero, List.set_cons_succ]
                      refine wpAnyH_take (i := 8) (oi := { dst := some 58, op := Go.Op.binOp Go.BinOp.neq 9 (Go.Operand.tmp 54) (Go.Operand.tmp 57) 9, type := 4, pos := "law.go:187", after := #[{ on := 4, ground := Go.Ground.data }, { on := 7, ground := Go.Ground.data }, { on := 1, ground := Go.Ground.guard }], guard := some (1, true) }) (v := ?_) rfl (by kernel_rfl) (by kernel_rfl) (by kernel_rfl) (fun _ _ _ h => h) (Or.inl ⟨by rfl, ?_⟩) hHeld ?_
                      case refine_2 => (intro wz hSw; (try dsimp only at hSw); obtain ⟨hS0, hS2, hS1⟩ := hSw; clear hS1; go_simp <;> with_reducible rfl)
                      try simp only [Act.put, List.setIfInBounds_toArray, List.set_cons_zero, List.set_cons_succ]
                      refine wpAnyH_take (i := 9) (oi := { dst := some 59, op := Go.Op.pick (Go.Operand.tmp 51) (Go.Operand.tmp 58) (Go.Operand.const (Go.Value.bool false)), type := 4, pos := "law.go:187", after := #[{ on := 1, ground := Go.Ground.data }, { on := 8, ground := Go.Ground.data }], guard := none }) (v := ?_) rfl (by kernel_rfl) (by kernel_rfl) (by kernel_rfl) (fun _ _ _ h => h) (Or.inl ⟨by rfl, ?_⟩) hHeld ?_
                      case refine_2 => (intro wz hSw; (try dsimp only at hSw); obtain ⟨hS0, hS2, hS1⟩ := hSw; clear hS1; go_simp <;> with_reducible rfl)
                      try simp only [Act.put, List.setIfInBounds_toArray, List.set_cons_zero, List.set_cons_succ]
                      refine wpAnyH_take (i := 10) (oi := { dst := some 5, op := Go.Op.assign (Go.Operand.tmp 59), type := 4, pos := "law.go:187", after := #[{ on := 9, ground := Go.Ground.data }, { on := 1, ground := Go.Ground.chain }, { on := 0, ground := Go.Ground.phase }, { on := 1, ground := Go.Ground.phase }, { on := 2, ground := Go.Ground.phase }, { on := 3, ground := Go.Ground.phase }, { on := 4, ground := Go.Ground.phase }, { on := 5, ground := Go.Ground.phase }, { on := 6, ground := Go.Ground.phase }, { on := 7, ground := Go.Ground.phase }, { on := 8, ground := Go.Ground.phase }, { on := 9, ground := Go.Ground.phase }], guard := none }) (v := ?_) rfl (by kernel_rfl) (by kernel_rfl) (by kernel_rfl) (fun _ _ _ h => h) (Or.inl ⟨by rfl, ?_⟩) hHeld ?_
                      case refine_2 => (intro wz hSw; (try dsimp only at hSw); obtain ⟨hS0, hS2, hS1⟩ := hSw; clear hS1; go_simp <;> with_reducible rfl)
                      try simp only [Act.put, List.setIfInBounds_toArray, List.set_cons_zero, List.set_cons_succ]
                      refine wpAnyH_done (by kernel_rfl) ?_ _
                      have HGS2 := Lib.hid hHeld.2.2.1
                      have HB2 := Lib.hid hHeld.2.2.2
                      clear hHeld
                      go_wp2
                      go_roundw
                      case rel => exact ⟨j + 1, by omega, by go_num, by rw [newTo_succ, ← Bool.and_assoc, hc, ← ByteArray.toList_eq, ← ByteArray.toList_eq, bne_comm, he]; rfl, HGS2.out, HB2.out⟩
                      case measure => simp [intOf]; omega
                    | true =>
                      have he2 : ((g k).toList == (g j).toList) = false := by simpa using he
                      have he3 : ¬ (g k).toList = (g j).toList := by simpa using he2
                      go_wp2_with fail
                      refine wp_region_held_drew (S := fun w' => w'.cell? ⟨W.heap.size, k, none⟩ = some (.string (g k)) ∧ w'.cell? ⟨W.heap.size, j, none⟩ = some (.string (g j)) ∧ (Gs w' W.heap.size g ∧ Below W.heap.size W w')) (by kernel_rfl) ⟨HGS.out.2 k (by omega), HGS.out.2 j (by omega), HGS.out, HB.out.drew⟩ (fun hHeld => ?_)
                      refine wpAnyH_take (i := 0) (oi := { dst := some 50, op := Go.Op.move (Go.Operand.tmp 5), type := 4, pos := "law.go:187", after := #[], guard := none }) (v := ?_) rfl (by kernel_rfl) (by kernel_rfl) (by kernel_rfl) (fun _ _ _ h => h) (Or.inl ⟨by rfl, ?_⟩) hHeld ?_
                      case refine_2 => (intro wz hSw; (try dsimp only at hSw); obtain ⟨hS0, hS2, hS1⟩ := hSw; clear hS1; go_simp <;> with_reducible rfl)
                      try simp only [Act.put, List.setIfInBounds_toArray, List.set_cons_zero, List.set_cons_succ]
                      refine wpAnyH_take (i := 1) (oi := { dst := some 51, op := Go.Op.move (Go.Operand.tmp 50), type := 4, pos := "law.go:187", after := #[{ on := 0, ground := Go.Ground.data }], guard := none }) (v := ?_) rfl (by kernel_rfl) (by kernel_rfl) (by kernel_rfl) (fun _ _ _ h => h) (Or.inl ⟨by rfl, ?_⟩) hHeld ?_
                      case refine_2 => (intro wz hSw; (try dsimp only at hSw); obtain ⟨hS0, hS2, hS1⟩ := hSw; clear hS1; go_simp <;> with_reducible rfl)
                      try simp only [Act.put, List.setIfInBounds_toArray, List.set_cons_zero, List.set_cons_succ]
                      refine wpAnyH_take (i := 2) (oi := { dst := some 52, op := Go.Op.move (Go.Operand.tmp 6), type := 3, pos := "law.go:187", after := #[{ on := 1, ground := Go.Ground.guard }], guard := some (1, true) }) (v := ?_) rfl (by kernel_rfl) (by kernel_rfl) (by kernel_rfl) (fun _ _ _ h => h) (Or.inl ⟨by rfl, ?_⟩) hHeld ?_
                      case refine_2 => (intro wz hSw; (try dsimp only at hSw); obtain ⟨hS0, hS2, hS1⟩ := hSw; clear hS1; go_simp <;> with_reducible rfl)
                      try simp only [Act.put, List.setIfInBounds_toArray, List.set_cons_zero, List.set_cons_succ]
                      refine wpAnyH_take (i := 3) (oi := { dst := some 53, op := Go.Op.indexAddr 33 (Go.Operand.tmp 2) (Go.Operand.tmp 52), type := 0, pos := "law.go:187", after := #[{ on := 2, ground := Go.Ground.data }, { on := 1, ground := Go.Ground.guard }], guard := some (1, true) }) (v := ?_) rfl (by kernel_rfl) (by kernel_rfl) (by kernel_rfl) (fun _ _ _ h => h) (Or.inl ⟨by rfl, ?_⟩) hHeld ?_
                      case refine_2 => (intro wz hSw; (try dsimp only at hSw); obtain ⟨hS0, hS2, hS1⟩ := hSw; clear hS1; go_simp <;> with_reducible rfl)
                      try simp only [Act.put, List.setIfInBounds_toArray, List.set_cons_zero, List.set_cons_succ]
                      refine wpAnyH_take (i := 4) (oi := { dst := some 54, op := Go.Op.load 9 (Go.Operand.tmp 53), type := 9, pos := "law.go:187", after := #[{ on := 3, ground := Go.Ground.data }, { on := 1, ground := Go.Ground.guard }], guard := some (1, true) }) (v := ?_) rfl (by kernel_rfl) (by kernel_rfl) (by kernel_rfl) (fun _ _ _ h => h) (Or.inl ⟨by rfl, ?_⟩) hHeld ?_
                      case refine_2 => (intro wz hSw; (try dsimp only at hSw); obtain ⟨hS0, hS2, hS1⟩ := hSw; clear hS1; go_simp <;> with_reducible rfl)
                      try simp only [Act.put, List.setIfInBounds_toArray, List.set_cons_zero, List.set_cons_succ]
                      refine wpAnyH_take (i := 5) (oi := { dst := some 55, op := Go.Op.move (Go.Operand.tmp 7), type := 3, pos := "law.go:187", after := #[{ on := 1, ground := Go.Ground.guard }], guard := some (1, true) }) (v := ?_) rfl (by kernel_rfl) (by kernel_rfl) (by kernel_rfl) (fun _ _ _ h => h) (Or.inl ⟨by rfl, ?_⟩) hHeld ?_
                      case refine_2 => (intro wz hSw; (try dsimp only at hSw); obtain ⟨hS0, hS2, hS1⟩ := hSw; clear hS1; go_simp <;> with_reducible rfl)
                      try simp only [Act.put, List.setIfInBounds_toArray, List.set_cons_zero, List.set_cons_succ]
                      refine wpAnyH_take (i := 6) (oi := { dst := some 56, op := Go.Op.indexAddr 33 (Go.Operand.tmp 2) (Go.Operand.tmp 55), type := 0, pos := "law.go:187", after := #[{ on := 5, ground := Go.Ground.data }, { on := 1, ground := Go.Ground.guard }], guard := some (1, true) }) (v := ?_) rfl (by kernel_rfl) (by kernel_rfl) (by kernel_rfl) (fun _ _ _ h => h) (Or.inl ⟨by rfl, ?_⟩) hHeld ?_
                      case refine_2 => (intro wz hSw; (try dsimp only at hSw); obtain ⟨hS0, hS2, hS1⟩ := hSw; clear hS1; go_simp <;> with_reducible rfl)
                      try simp only [Act.put, List.setIfInBounds_toArray, List.set_cons_zero, List.set_cons_succ]
                      refine wpAnyH_take (i := 7) (oi := { dst := some 57, op := Go.Op.load 9 (Go.Operand.tmp 56), type := 9, pos := "law.go:187", after := #[{ on := 6, ground := Go.Ground.data }, { on := 1, ground := Go.Ground.guard }], guard := some (1, true) }) (v := ?_) rfl (by kernel_rfl) (by kernel_rfl) (by kernel_rfl) (fun _ _ _ h => h) (Or.inl ⟨by rfl, ?_⟩) hHeld ?_
                      case refine_2 => (intro wz hSw; (try dsimp only at hSw); obtain ⟨hS0, hS2, hS1⟩ := hSw; clear hS1; go_simp <;> with_reducible rfl)
                      try simp only [Act.put, List.setIfInBounds_toArray, List.set_cons_zero, List.set_cons_succ]
                      refine wpAnyH_take (i := 8) (oi := { dst := some 58, op := Go.Op.binOp Go.BinOp.neq 9 (Go.Operand.tmp 54) (Go.Operand.tmp 57) 9, type := 4, pos := "law.go:187", after := #[{ on := 4, ground := Go.Ground.data }, { on := 7, ground := Go.Ground.data }, { on := 1, ground := Go.Ground.guard }], guard := some (1, true) }) (v := ?_) rfl (by kernel_rfl) (by kernel_rfl) (by kernel_rfl) (fun _ _ _ h => h) (Or.inl ⟨by rfl, ?_⟩) hHeld ?_
                      case refine_2 => (intro wz hSw; (try dsimp only at hSw); obtain ⟨hS0, hS2, hS1⟩ := hSw; clear hS1; go_simp <;> with_reducible rfl)
                      try simp only [Act.put, List.setIfInBounds_toArray, List.set_cons_zero, List.set_cons_succ]
                      refine wpAnyH_take (i := 9) (oi := { dst := some 59, op := Go.Op.pick (Go.Operand.tmp 51) (Go.Operand.tmp 58) (Go.Operand.const (Go.Value.bool false)), type := 4, pos := "law.go:187", after := #[{ on := 1, ground := Go.Ground.data }, { on := 8, ground := Go.Ground.data }], guard := none }) (v := ?_) rfl (by kernel_rfl) (by kernel_rfl) (by kernel_rfl) (fun _ _ _ h => h) (Or.inl ⟨by rfl, ?_⟩) hHeld ?_
                      case refine_2 => (intro wz hSw; (try dsimp only at hSw); obtain ⟨hS0, hS2, hS1⟩ := hSw; clear hS1; go_simp <;> with_reducible rfl)
                      try simp only [Act.put, List.setIfInBounds_toArray, List.set_cons_zero, List.set_cons_succ]
                      refine wpAnyH_take (i := 10) (oi := { dst := some 5, op := Go.Op.assign (Go.Operand.tmp 59), type := 4, pos := "law.go:187", after := #[{ on := 9, ground := Go.Ground.data }, { on := 1, ground := Go.Ground.chain }, { on := 0, ground := Go.Ground.phase }, { on := 1, ground := Go.Ground.phase }, { on := 2, ground := Go.Ground.phase }, { on := 3, ground := Go.Ground.phase }, { on := 4, ground := Go.Ground.phase }, { on := 5, ground := Go.Ground.phase }, { on := 6, ground := Go.Ground.phase }, { on := 7, ground := Go.Ground.phase }, { on := 8, ground := Go.Ground.phase }, { on := 9, ground := Go.Ground.phase }], guard := none }) (v := ?_) rfl (by kernel_rfl) (by kernel_rfl) (by kernel_rfl) (fun _ _ _ h => h) (Or.inl ⟨by rfl, ?_⟩) hHeld ?_
                      case refine_2 => (intro wz hSw; (try dsimp only at hSw); obtain ⟨hS0, hS2, hS1⟩ := hSw; clear hS1; go_simp <;> with_reducible rfl)
                      try simp only [Act.put, List.setIfInBounds_toArray, List.set_cons_zero, List.set_cons_succ]
                      refine wpAnyH_done (by kernel_rfl) ?_ _
                      have HGS2 := Lib.hid hHeld.2.2.1
                      have HB2 := Lib.hid hHeld.2.2.2
                      clear hHeld
                      go_wp2
                      go_roundw
                      case rel => exact ⟨j + 1, by omega, by go_num, by rw [newTo_succ, ← Bool.and_assoc, hc, ← ByteArray.toList_eq, ← ByteArray.toList_eq, bne_comm, he]; rfl, HGS2.out, HB2.out⟩
                      case measure => simp [intOf]; omega
                · have hjk2 : j = k := by omega
                  subst hjk2
                  go_wp2
                  go_roundw
                  case rel => exact ⟨j + 1, by omega, by go_num, by rw [okTo_succ]; unfold okG newG; rw [← Bool.and_assoc]; rfl, fun i hi => by
                    rcases Nat.lt_or_ge i j with h | h
                    · exact H20.out i h
                    · obtain rfl : i = j := by omega
                      omega, HGS.out, HB.out⟩
                  case measure => simp [intOf]; omega
      · obtain rfl : k = 10 := by omega
        have HG3 : Hid (∀ j, (g j).size ≤ 1000) := Lib.hid (fun j => by
          by_cases hj : j < 10
          · have := H20.out j hj; omega
          · exact HZ.out j (by omega))
        go_wp2_with fail
        go_loopw [8, 9] (fun v i wr => ∃ (p : Nat) (acc : List UInt8), p ≤ s.size ∧ acc.length ≤ p ∧ i = .int .i64 p ∧ v = S acc ∧ rdG g s.data.toList = (acc ++ (rdG g (s.data.toList.drop p)).1, p + (rdG g (s.data.toList.drop p)).2) ∧ Gs wr W.heap.size g ∧ Below W.heap.size W wr) (fun _ i _ => s.size - (intOf i).toNat)
        case atStart => exact ⟨0, [], Nat.zero_le _, Nat.le_refl _, rfl, rfl, by simp, HGS.out, HB.out⟩
        case round =>
          obtain ⟨p, acc, hp, hac, rfl, rfl, hrd, hgs, hb⟩ := hrel
          have HGS2 := Lib.hid hgs
          have HB2 := Lib.hid hb
          have HRD := Lib.hid hrd
          clear hgs hb hrd HGS HB
          have hpi : (p : Int) ≤ (s.size : Int) := by omega
          have hwp : IntKind.i64.wrap ((s.size : Int) - (p : Int)) = (s.size : Int) - (p : Int) := by rw [IntKind.wrap_i64]; omega
          go_wp2_with fail
          go_loopw [10, 11] (fun u i wr => ∃ v : Int, u = .int .i64 v ∧ ((∃ m : Nat, m < 10 ∧ i = .int .i64 (m : Int) ∧ hitV g (s.data.toList.drop p) (m + 1) v) ∨ (i = .int .i64 (-1) ∧ hitV g (s.data.toList.drop p) 0 v)) ∧ Gs wr W.heap.size g ∧ Below W.heap.size W wr) (fun _ i _ => (intOf i + 1).toNat)
          case atStart => exact ⟨-1, rfl, .inl ⟨9, by omega, rfl, .inl ⟨rfl, fun j hj hj2 => absurd hj2 (by omega)⟩⟩, HGS2.out, HB2.out⟩
          case round =>
            obtain ⟨v, rfl, hcase, hgs, hb⟩ := hrel
            have HGS := Lib.hid hgs
            have HB := Lib.hid hb
            clear hgs hb HGS2 HB2
            rcases hcase with ⟨m, hm, rfl, hv⟩ | ⟨rfl, hv⟩
            · have HV := Lib.hid hv
              clear hv
              have hmi : (0 : Int) ≤ (m : Int) := by omega
              have hm10 : (m : Int) < 10 := by omega
              have h20m := H20.out m hm
              cases he : (g m).toList.isEmpty with
              | true =>
                go_wp2_with fail
                refine wp_region_held_drew (S := fun w' => w'.cell? ⟨W.heap.size, m, none⟩ = some (.string (g m)) ∧ w'.cell? ⟨W.heap.size, m, none⟩ = some (.string (g m)) ∧ (Gs w' W.heap.size g ∧ Below W.heap.size W w')) (by kernel_rfl) ⟨HGS.out.2 m (by omega), HGS.out.2 m (by omega), HGS.out, HB.out.drew⟩ (fun hHeld => ?_)
                refine wpAnyH_take (i := 0) (oi := { dst := some 65, op := Go.Op.move (Go.Operand.tmp 11), type := 3, pos := "law.go:195", after := #[], guard := none }) (v := ?_) rfl (by kernel_rfl) (by kernel_rfl) (by kernel_rfl) (fun _ _ _ h => h) (Or.inl ⟨by rfl, ?_⟩) hHeld ?_
                case refine_2 => (intro wz hSw; (try dsimp only at hSw); obtain ⟨hS0, hS2, hS1⟩ := hSw; clear hS1; go_simp <;> with_reducible rfl)
                try simp only [Act.put, List.setIfInBounds_toArray, List.set_cons_zero, List.set_cons_succ]
                refine wpAnyH_take (i := 1) (oi := { dst := some 66, op := Go.Op.indexAddr 33 (Go.Operand.tmp 2) (Go.Operand.tmp 65), type := 0, pos := "law.go:195", after := #[{ on := 0, ground := Go.Ground.data }], guard := none }) (v := ?_) rfl (by kernel_rfl) (by kernel_rfl) (by kernel_rfl) (fun _ _ _ h => h) (Or.inl ⟨by rfl, ?_⟩) hHeld ?_
                case refine_2 => (intro wz hSw; (try dsimp only at hSw); obtain ⟨hS0, hS2, hS1⟩ := hSw; clear hS1; go_simp <;> with_reducible rfl)
                try simp only [Act.put, List.setIfInBounds_toArray, List.set_cons_zero, List.set_cons_succ]
                refine wpAnyH_take (i := 2) (oi := { dst := some 67, op := Go.Op.load 9 (Go.Operand.tmp 66), type := 9, pos := "law.go:195", after := #[{ on := 1, ground := Go.Ground.data }], guard := none }) (v := ?_) rfl (by kernel_rfl) (by kernel_rfl) (by kernel_rfl) (fun _ _ _ h => h) (Or.inl ⟨by rfl, ?_⟩) hHeld ?_
                case refine_2 => (intro wz hSw; (try dsimp only at hSw); obtain ⟨hS0, hS2, hS1⟩ := hSw; clear hS1; go_simp <;> with_reducible rfl)
                try simp only [Act.put, List.setIfInBounds_toArray, List.set_cons_zero, List.set_cons_succ]
                refine wpAnyH_take (i := 3) (oi := { dst := some 68, op := Go.Op.binOp Go.BinOp.neq 9 (Go.Operand.tmp 67) (Go.Operand.const (Go.Value.string { data := #[] })) 9, type := 4, pos := "law.go:195", after := #[{ on := 2, ground := Go.Ground.data }], guard := none }) (v := ?_) rfl (by kernel_rfl) (by kernel_rfl) (by kernel_rfl) (fun _ _ _ h => h) (Or.inl ⟨by rfl, ?_⟩) hHeld ?_
                case refine_2 => (intro wz hSw; (try dsimp only at hSw); obtain ⟨hS0, hS2, hS1⟩ := hSw; clear hS1; go_simp <;> with_reducible rfl)
                try simp only [Act.put, List.setIfInBounds_toArray, List.set_cons_zero, List.set_cons_succ]
                refine wpAnyH_take (i := 4) (oi := { dst := some 69, op := Go.Op.move (Go.Operand.tmp 68), type := 4, pos := "law.go:195", after := #[{ on := 3, ground := Go.Ground.data }], guard := none }) (v := ?_) rfl (by kernel_rfl) (by kernel_rfl) (by kernel_rfl) (fun _ _ _ h => h) (Or.inl ⟨by rfl, ?_⟩) hHeld ?_
                case refine_2 => (intro wz hSw; (try dsimp only at hSw); obtain ⟨hS0, hS2, hS1⟩ := hSw; clear hS1; go_simp <;> with_reducible rfl)
                try simp only [Act.put, List.setIfInBounds_toArray, List.set_cons_zero, List.set_cons_succ]
                refine wpAnyH_take (i := 5) (oi := { dst := some 70, op := Go.Op.move (Go.Operand.tmp 11), type := 3, pos := "law.go:195", after := #[{ on := 4, ground := Go.Ground.guard }], guard := some (4, true) }) (v := undef) rfl (by kernel_rfl) (by kernel_rfl) (by kernel_rfl) (fun _ _ _ h => h) (Or.inr ⟨by rfl, rfl⟩) hHeld ?_
                try simp only [Act.put, List.setIfInBounds_toArray, List.set_cons_zero, List.set_cons_succ]
                refine wpAnyH_take (i := 6) (oi := { dst := some 71, op := Go.Op.indexAddr 33 (Go.Operand.tmp 2) (Go.Operand.tmp 70), type := 0, pos := "law.go:195", after := #[{ on := 5, ground := Go.Ground.data }, { on := 4, ground := Go.Ground.guard }], guard := some (4, true) }) (v := undef) rfl (by kernel_rfl) (by kernel_rfl) (by kernel_rfl) (fun _ _ _ h => h) (Or.inr ⟨by rfl, rfl⟩) hHeld ?_
                try simp only [Act.put, List.setIfInBounds_toArray, List.set_cons_zero, List.set_cons_succ]
                refine wpAnyH_take (i := 7) (oi := { dst := some 72, op := Go.Op.load 9 (Go.Operand.tmp 71), type := 9, pos := "law.go:195", after := #[{ on := 6, ground := Go.Ground.data }, { on := 4, ground := Go.Ground.guard }], guard := some (4, true) }) (v := undef) rfl (by kernel_rfl) (by kernel_rfl) (by kernel_rfl) (fun _ _ _ h => h) (Or.inr ⟨by rfl, rfl⟩) hHeld ?_
                try simp only [Act.put, List.setIfInBounds_toArray, List.set_cons_zero, List.set_cons_succ]
                refine wpAnyH_take (i := 8) (oi := { dst := some 73, op := Go.Op.call { callee := Go.Callee.builtin Go.Builtin.len, args := #[Go.Operand.tmp 72], argTypes := #[9] }, type := 3, pos := "law.go:195", after := #[{ on := 7, ground := Go.Ground.data }, { on := 4, ground := Go.Ground.guard }], guard := some (4, true) }) (v := undef) rfl (by kernel_rfl) (by kernel_rfl) (by kernel_rfl) (fun _ _ _ h => h) (Or.inr ⟨by rfl, rfl⟩) hHeld ?_
                try simp only [Act.put, List.setIfInBounds_toArray, List.set_cons_zero, List.set_cons_succ]
                refine wpAnyH_take (i := 9) (oi := { dst := some 74, op := Go.Op.move (Go.Operand.tmp 1), type := 9, pos := "law.go:195", after := #[{ on := 4, ground := Go.Ground.guard }], guard := some (4, true) }) (v := undef) rfl (by kernel_rfl) (by kernel_rfl) (by kernel_rfl) (fun _ _ _ h => h) (Or.inr ⟨by rfl, rfl⟩) hHeld ?_
                try simp only [Act.put, List.setIfInBounds_toArray, List.set_cons_zero, List.set_cons_succ]
                refine wpAnyH_take (i := 10) (oi := { dst := some 75, op := Go.Op.call { callee := Go.Callee.builtin Go.Builtin.len, args := #[Go.Operand.tmp 74], argTypes := #[9] }, type := 3, pos := "law.go:195", after := #[{ on := 9, ground := Go.Ground.data }, { on := 4, ground := Go.Ground.guard }], guard := some (4, true) }) (v := undef) rfl (by kernel_rfl) (by kernel_rfl) (by kernel_rfl) (fun _ _ _ h => h) (Or.inr ⟨by rfl, rfl⟩) hHeld ?_
                try simp only [Act.put, List.setIfInBounds_toArray, List.set_cons_zero, List.set_cons_succ]
                refine wpAnyH_take (i := 11) (oi := { dst := some 76, op := Go.Op.move (Go.Operand.tmp 9), type := 3, pos := "law.go:195", after := #[{ on := 4, ground := Go.Ground.guard }], guard := some (4, true) }) (v := undef) rfl (by kernel_rfl) (by kernel_rfl) (by kernel_rfl) (fun _ _ _ h => h) (Or.inr ⟨by rfl, rfl⟩) hHeld ?_
                try simp only [Act.put, List.setIfInBounds_toArray, List.set_cons_zero, List.set_cons_succ]
                refine wpAnyH_take (i := 12) (oi := { dst := some 77, op := Go.Op.binOp Go.BinOp.sub 3 (Go.Operand.tmp 75) (Go.Operand.tmp 76) 3, type := 3, pos := "law.go:195", after := #[{ on := 10, ground := Go.Ground.data }, { on := 11, ground := Go.Ground.data }, { on := 4, ground := Go.Ground.guard }], guard := some (4, true) }) (v := undef) rfl (by kernel_rfl) (by kernel_rfl) (by kernel_rfl) (fun _ _ _ h => h) (Or.inr ⟨by rfl, rfl⟩) hHeld ?_
                try simp only [Act.put, List.setIfInBounds_toArray, List.set_cons_zero, List.set_cons_succ]
                refine wpAnyH_take (i := 13) (oi := { dst := some 78, op := Go.Op.binOp Go.BinOp.leq 3 (Go.Operand.tmp 73) (Go.Operand.tmp 77) 3, type := 4, pos := "law.go:195", after := #[{ on := 8, ground := Go.Ground.data }, { on := 12, ground := Go.Ground.data }, { on := 4, ground := Go.Ground.guard }], guard := some (4, true) }) (v := undef) rfl (by kernel_rfl) (by kernel_rfl) (by kernel_rfl) (fun _ _ _ h => h) (Or.inr ⟨by rfl, rfl⟩) hHeld ?_
                try simp only [Act.put, List.setIfInBounds_toArray, List.set_cons_zero, List.set_cons_succ]
                refine wpAnyH_take (i := 14) (oi := { dst := some 79, op := Go.Op.pick (Go.Operand.tmp 69) (Go.Operand.tmp 78) (Go.Operand.const (Go.Value.bool false)), type := 4, pos := "law.go:195", after := #[{ on := 4, ground := Go.Ground.data }, { on := 13, ground := Go.Ground.data }], guard := none }) (v := ?_) rfl (by kernel_rfl) (by kernel_rfl) (by kernel_rfl) (fun _ _ _ h => h) (Or.inl ⟨by rfl, ?_⟩) hHeld ?_
                case refine_2 => (intro wz hSw; (try dsimp only at hSw); obtain ⟨hS0, hS2, hS1⟩ := hSw; clear hS1; go_simp <;> with_reducible rfl)
                try simp only [Act.put, List.setIfInBounds_toArray, List.set_cons_zero, List.set_cons_succ]
                refine wpAnyH_take (i := 15) (oi := { dst := some 80, op := Go.Op.move (Go.Operand.tmp 79), type := 4, pos := "law.go:195", after := #[{ on := 14, ground := Go.Ground.data }, { on := 4, ground := Go.Ground.chain }], guard := none }) (v := ?_) rfl (by kernel_rfl) (by kernel_rfl) (by kernel_rfl) (fun _ _ _ h => h) (Or.inl ⟨by rfl, ?_⟩) hHeld ?_
                case refine_2 => (intro wz hSw; (try dsimp only at hSw); obtain ⟨hS0, hS2, hS1⟩ := hSw; clear hS1; go_simp <;> with_reducible rfl)
                try simp only [Act.put, List.setIfInBounds_toArray, List.set_cons_zero, List.set_cons_succ]
                refine wpAnyH_take (i := 16) (oi := { dst := some 81, op := Go.Op.move (Go.Operand.tmp 1), type := 9, pos := "law.go:195", after := #[{ on := 15, ground := Go.Ground.guard }], guard := some (15, true) }) (v := undef) rfl (by kernel_rfl) (by kernel_rfl) (by kernel_rfl) (fun _ _ _ h => h) (Or.inr ⟨by rfl, rfl⟩) hHeld ?_
                try simp only [Act.put, List.setIfInBounds_toArray, List.set_cons_zero, List.set_cons_succ]
                refine wpAnyH_take (i := 17) (oi := { dst := some 82, op := Go.Op.move (Go.Operand.tmp 9), type := 3, pos := "law.go:195", after := #[{ on := 15, ground := Go.Ground.guard }], guard := some (15, true) }) (v := undef) rfl (by kernel_rfl) (by kernel_rfl) (by kernel_rfl) (fun _ _ _ h => h) (Or.inr ⟨by rfl, rfl⟩) hHeld ?_
                try simp only [Act.put, List.setIfInBounds_toArray, List.set_cons_zero, List.set_cons_succ]
                refine wpAnyH_take (i := 18) (oi := { dst := some 83, op := Go.Op.move (Go.Operand.tmp 9), type := 3, pos := "law.go:195", after := #[{ on := 15, ground := Go.Ground.guard }], guard := some (15, true) }) (v := undef) rfl (by kernel_rfl) (by kernel_rfl) (by kernel_rfl) (fun _ _ _ h => h) (Or.inr ⟨by rfl, rfl⟩) hHeld ?_
                try simp only [Act.put, List.setIfInBounds_toArray, List.set_cons_zero, List.set_cons_succ]
                refine wpAnyH_take (i := 19) (oi := { dst := some 84, op := Go.Op.move (Go.Operand.tmp 11), type := 3, pos := "law.go:195", after := #[{ on := 15, ground := Go.Ground.guard }], guard := some (15, true) }) (v := undef) rfl (by kernel_rfl) (by kernel_rfl) (by kernel_rfl) (fun _ _ _ h => h) (Or.inr ⟨by rfl, rfl⟩) hHeld ?_
                try simp only [Act.put, List.setIfInBounds_toArray, List.set_cons_zero, List.set_cons_succ]
                refine wpAnyH_take (i := 20) (oi := { dst := some 85, op := Go.Op.indexAddr 33 (Go.Operand.tmp 2) (Go.Operand.tmp 84), type := 0, pos := "law.go:195", after := #[{ on := 19, ground := Go.Ground.data }, { on := 15, ground := Go.Ground.guard }], guard := some (15, true) }) (v := undef) rfl (by kernel_rfl) (by kernel_rfl) (by kernel_rfl) (fun _ _ _ h => h) (Or.inr ⟨by rfl, rfl⟩) hHeld ?_
                try simp only [Act.put, List.setIfInBounds_toArray, List.set_cons_zero, List.set_cons_succ]
                refine wpAnyH_take (i := 21) (oi := { dst := some 86, op := Go.Op.load 9 (Go.Operand.tmp 85), type := 9, pos := "law.go:195", after := #[{ on := 20, ground := Go.Ground.data }, { on := 15, ground := Go.Ground.guard }], guard := some (15, true) }) (v := undef) rfl (by kernel_rfl) (by kernel_rfl) (by kernel_rfl) (fun _ _ _ h => h) (Or.inr ⟨by rfl, rfl⟩) hHeld ?_
                try simp only [Act.put, List.setIfInBounds_toArray, List.set_cons_zero, List.set_cons_succ]
                refine wpAnyH_take (i := 22) (oi := { dst := some 87, op := Go.Op.call { callee := Go.Callee.builtin Go.Builtin.len, args := #[Go.Operand.tmp 86], argTypes := #[9] }, type := 3, pos := "law.go:195", after := #[{ on := 21, ground := Go.Ground.data }, { on := 15, ground := Go.Ground.guard }], guard := some (15, true) }) (v := undef) rfl (by kernel_rfl) (by kernel_rfl) (by kernel_rfl) (fun _ _ _ h => h) (Or.inr ⟨by rfl, rfl⟩) hHeld ?_
                try simp only [Act.put, List.setIfInBounds_toArray, List.set_cons_zero, List.set_cons_succ]
                refine wpAnyH_take (i := 23) (oi := { dst := some 88, op := Go.Op.binOp Go.BinOp.add 3 (Go.Operand.tmp 83) (Go.Operand.tmp 87) 3, type := 3, pos := "law.go:195", after := #[{ on := 18, ground := Go.Ground.data }, { on := 22, ground := Go.Ground.data }, { on := 15, ground := Go.Ground.guard }], guard := some (15, true) }) (v := undef) rfl (by kernel_rfl) (by kernel_rfl) (by kernel_rfl) (fun _ _ _ h => h) (Or.inr ⟨by rfl, rfl⟩) hHeld ?_
                try simp only [Act.put, List.setIfInBounds_toArray, List.set_cons_zero, List.set_cons_succ]
                refine wpAnyH_take (i := 24) (oi := { dst := some 89, op := Go.Op.slice 9 (Go.Operand.tmp 81) (some (Go.Operand.tmp 82)) (some (Go.Operand.tmp 88)) none, type := 9, pos := "law.go:195", after := #[{ on := 16, ground := Go.Ground.data }, { on := 17, ground := Go.Ground.data }, { on := 23, ground := Go.Ground.data }, { on := 15, ground := Go.Ground.guard }], guard := some (15, true) }) (v := undef) rfl (by kernel_rfl) (by kernel_rfl) (by kernel_rfl) (fun _ _ _ h => h) (Or.inr ⟨by rfl, rfl⟩) hHeld ?_
                try simp only [Act.put, List.setIfInBounds_toArray, List.set_cons_zero, List.set_cons_succ]
                refine wpAnyH_take (i := 25) (oi := { dst := some 90, op := Go.Op.move (Go.Operand.tmp 11), type := 3, pos := "law.go:195", after := #[{ on := 15, ground := Go.Ground.guard }], guard := some (15, true) }) (v := undef) rfl (by kernel_rfl) (by kernel_rfl) (by kernel_rfl) (fun _ _ _ h => h) (Or.inr ⟨by rfl, rfl⟩) hHeld ?_
                try simp only [Act.put, List.setIfInBounds_toArray, List.set_cons_zero, List.set_cons_succ]
                refine wpAnyH_take (i := 26) (oi := { dst := some 91, op := Go.Op.indexAddr 33 (Go.Operand.tmp 2) (Go.Operand.tmp 90), type := 0, pos := "law.go:195", after := #[{ on := 25, ground := Go.Ground.data }, { on := 15, ground := Go.Ground.guard }], guard := some (15, true) }) (v := undef) rfl (by kernel_rfl) (by kernel_rfl) (by kernel_rfl) (fun _ _ _ h => h) (Or.inr ⟨by rfl, rfl⟩) hHeld ?_
                try simp only [Act.put, List.setIfInBounds_toArray, List.set_cons_zero, List.set_cons_succ]
                refine wpAnyH_take (i := 27) (oi := { dst := some 92, op := Go.Op.load 9 (Go.Operand.tmp 91), type := 9, pos := "law.go:195", after := #[{ on := 26, ground := Go.Ground.data }, { on := 15, ground := Go.Ground.guard }], guard := some (15, true) }) (v := undef) rfl (by kernel_rfl) (by kernel_rfl) (by kernel_rfl) (fun _ _ _ h => h) (Or.inr ⟨by rfl, rfl⟩) hHeld ?_
                try simp only [Act.put, List.setIfInBounds_toArray, List.set_cons_zero, List.set_cons_succ]
                refine wpAnyH_take (i := 28) (oi := { dst := some 93, op := Go.Op.binOp Go.BinOp.eql 9 (Go.Operand.tmp 89) (Go.Operand.tmp 92) 9, type := 4, pos := "law.go:195", after := #[{ on := 24, ground := Go.Ground.data }, { on := 27, ground := Go.Ground.data }, { on := 15, ground := Go.Ground.guard }], guard := some (15, true) }) (v := undef) rfl (by kernel_rfl) (by kernel_rfl) (by kernel_rfl) (fun _ _ _ h => h) (Or.inr ⟨by rfl, rfl⟩) hHeld ?_
                try simp only [Act.put, List.setIfInBounds_toArray, List.set_cons_zero, List.set_cons_succ]
                refine wpAnyH_take (i := 29) (oi := { dst := some 94, op := Go.Op.pick (Go.Operand.tmp 80) (Go.Operand.tmp 93) (Go.Operand.const (Go.Value.bool false)), type := 4, pos := "law.go:195", after := #[{ on := 15, ground := Go.Ground.data }, { on := 28, ground := Go.Ground.data }], guard := none }) (v := ?_) rfl (by kernel_rfl) (by kernel_rfl) (by kernel_rfl) (fun _ _ _ h => h) (Or.inl ⟨by rfl, ?_⟩) hHeld ?_
                case refine_2 => (intro wz hSw; (try dsimp only at hSw); obtain ⟨hS0, hS2, hS1⟩ := hSw; clear hS1; go_simp <;> with_reducible rfl)
                try simp only [Act.put, List.setIfInBounds_toArray, List.set_cons_zero, List.set_cons_succ]
                refine wpAnyH_done (by kernel_rfl) ?_ _
                have HGS2 := Lib.hid hHeld.2.2.1
                have HB2 := Lib.hid hHeld.2.2.2
                clear hHeld
                go_wp2
                go_roundw
                case rel =>
                  refine ⟨_, rfl, ?_, HGS2.out, HB2.out⟩
                  have hv2 := hitV_no HV.out (hit_empty g _ m he)
                  cases m with
                  | zero => exact .inr ⟨rfl, hv2⟩
                  | succ m => exact .inl ⟨m, by omega, by go_num, hv2⟩
                case measure => (try simp [intOf]) <;> (try omega)
              | false =>
                by_cases hfit : ((g m).size : Int) ≤ (s.size : Int) - (p : Int)
                · have hn : (g m).size ≤ s.size - p := by omega
                  have d1 : decide (((g m).size : Int) ≤ (s.size : Int) - (p : Int)) = true := decide_eq_true hfit
                  have d2 : ((g m).size : Int) ≤ ((s.size - p : Nat) : Int) := by omega
                  have d3 : decide (((g m).size : Int) ≤ ((s.size - p : Nat) : Int)) = true := decide_eq_true d2
                  have d4 : decide ((g m).size ≤ s.size - p) = true := decide_eq_true hn
                  have hsub := hit_sub g s p m hp hn he
                  have e0 : (0 : Int) ≤ (p : Int) + ((g m).size : Int) := by omega
                  have e1 : (p : Int) ≤ (p : Int) + ((g m).size : Int) := by omega
                  have e2 : (p : Int) + ((g m).size : Int) ≤ (s.size : Int) := by omega
                  have e3 : ((p : Int) + ((g m).size : Int)).toNat = p + (g m).size := by omega
                  have hwq : IntKind.i64.wrap ((p : Int) + ((g m).size : Int)) = (p : Int) + ((g m).size : Int) := by rw [IntKind.wrap_i64]; omega
                  cases hh : hitG g (s.data.toList.drop p) m with
                  | true =>
                    rw [hh] at hsub
                    have HH := Lib.hid hh
                    clear hh
                    go_wp2_with fail
                    refine wp_region_held_drew (S := fun w' => w'.cell? ⟨W.heap.size, m, none⟩ = some (.string (g m)) ∧ w'.cell? ⟨W.heap.size, m, none⟩ = some (.string (g m)) ∧ (Gs w' W.heap.size g ∧ Below W.heap.size W w')) (by kernel_rfl) ⟨HGS.out.2 m (by omega), HGS.out.2 m (by omega), HGS.out, HB.out.drew⟩ (fun hHeld => ?_)
                    refine wpAnyH_take (i := 0) (oi := { dst := some 65, op := Go.Op.move (Go.Operand.tmp 11), type := 3, pos := "law.go:195", after := #[], guard := none }) (v := ?_) rfl (by kernel_rfl) (by kernel_rfl) (by kernel_rfl) (fun _ _ _ h => h) (Or.inl ⟨by rfl, ?_⟩) hHeld ?_
                    case refine_2 => (intro wz hSw; (try dsimp only at hSw); obtain ⟨hS0, hS2, hS1⟩ := hSw; clear hS1; go_simp <;> with_reducible rfl)
                    try simp only [Act.put, List.setIfInBounds_toArray, List.set_cons_zero, List.set_cons_succ]
                    refine wpAnyH_take (i := 1) (oi := { dst := some 66, op := Go.Op.indexAddr 33 (Go.Operand.tmp 2) (Go.Operand.tmp 65), type := 0, pos := "law.go:195", after := #[{ on := 0, ground := Go.Ground.data }], guard := none }) (v := ?_) rfl (by kernel_rfl) (by kernel_rfl) (by kernel_rfl) (fun _ _ _ h => h) (Or.inl ⟨by rfl, ?_⟩) hHeld ?_
                    case refine_2 => (intro wz hSw; (try dsimp only at hSw); obtain ⟨hS0, hS2, hS1⟩ := hSw; clear hS1; go_simp <;> with_reducible rfl)
                    try simp only [Act.put, List.setIfInBounds_toArray, List.set_cons_zero, List.set_cons_succ]
                    refine wpAnyH_take (i := 2) (oi := { dst := some 67, op := Go.Op.load 9 (Go.Operand.tmp 66), type := 9, pos := "law.go:195", after := #[{ on := 1, ground := Go.Ground.data }], guard := none }) (v := ?_) rfl (by kernel_rfl) (by kernel_rfl) (by kernel_rfl) (fun _ _ _ h => h) (Or.inl ⟨by rfl, ?_⟩) hHeld ?_
                    case refine_2 => (intro wz hSw; (try dsimp only at hSw); obtain ⟨hS0, hS2, hS1⟩ := hSw; clear hS1; go_simp <;> with_reducible rfl)
                    try simp only [Act.put, List.setIfInBounds_toArray, List.set_cons_zero, List.set_cons_succ]
                    refine wpAnyH_take (i := 3) (oi := { dst := some 68, op := Go.Op.binOp Go.BinOp.neq 9 (Go.Operand.tmp 67) (Go.Operand.const (Go.Value.string { data := #[] })) 9, type := 4, pos := "law.go:195", after := #[{ on := 2, ground := Go.Ground.data }], guard := none }) (v := ?_) rfl (by kernel_rfl) (by kernel_rfl) (by kernel_rfl) (fun _ _ _ h => h) (Or.inl ⟨by rfl, ?_⟩) hHeld ?_
                    case refine_2 => (intro wz hSw; (try dsimp only at hSw); obtain ⟨hS0, hS2, hS1⟩ := hSw; clear hS1; go_simp <;> with_reducible rfl)
                    try simp only [Act.put, List.setIfInBounds_toArray, List.set_cons_zero, List.set_cons_succ]
                    refine wpAnyH_take (i := 4) (oi := { dst := some 69, op := Go.Op.move (Go.Operand.tmp 68), type := 4, pos := "law.go:195", after := #[{ on := 3, ground := Go.Ground.data }], guard := none }) (v := ?_) rfl (by kernel_rfl) (by kernel_rfl) (by kernel_rfl) (fun _ _ _ h => h) (Or.inl ⟨by rfl, ?_⟩) hHeld ?_
                    case refine_2 => (intro wz hSw; (try dsimp only at hSw); obtain ⟨hS0, hS2, hS1⟩ := hSw; clear hS1; go_simp <;> with_reducible rfl)
                    try simp only [Act.put, List.setIfInBounds_toArray, List.set_cons_zero, List.set_cons_succ]
                    refine wpAnyH_take (i := 5) (oi := { dst := some 70, op := Go.Op.move (Go.Operand.tmp 11), type := 3, pos := "law.go:195", after := #[{ on := 4, ground := Go.Ground.guard }], guard := some (4, true) }) (v := ?_) rfl (by kernel_rfl) (by kernel_rfl) (by kernel_rfl) (fun _ _ _ h => h) (Or.inl ⟨by rfl, ?_⟩) hHeld ?_
                    case refine_2 => (intro wz hSw; (try dsimp only at hSw); obtain ⟨hS0, hS2, hS1⟩ := hSw; clear hS1; go_simp <;> with_reducible rfl)
                    try simp only [Act.put, List.setIfInBounds_toArray, List.set_cons_zero, List.set_cons_succ]
                    refine wpAnyH_take (i := 6) (oi := { dst := some 71, op := Go.Op.indexAddr 33 (Go.Operand.tmp 2) (Go.Operand.tmp 70), type := 0, pos := "law.go:195", after := #[{ on := 5, ground := Go.Ground.data }, { on := 4, ground := Go.Ground.guard }], guard := some (4, true) }) (v := ?_) rfl (by kernel_rfl) (by kernel_rfl) (by kernel_rfl) (fun _ _ _ h => h) (Or.inl ⟨by rfl, ?_⟩) hHeld ?_
                    case refine_2 => (intro wz hSw; (try dsimp only at hSw); obtain ⟨hS0, hS2, hS1⟩ := hSw; clear hS1; go_simp <;> with_reducible rfl)
                    try simp only [Act.put, List.setIfInBounds_toArray, List.set_cons_zero, List.set_cons_succ]
                    refine wpAnyH_take (i := 7) (oi := { dst := some 72, op := Go.Op.load 9 (Go.Operand.tmp 71), type := 9, pos := "law.go:195", after := #[{ on := 6, ground := Go.Ground.data }, { on := 4, ground := Go.Ground.guard }], guard := some (4, true) }) (v := ?_) rfl (by kernel_rfl) (by kernel_rfl) (by kernel_rfl) (fun _ _ _ h => h) (Or.inl ⟨by rfl, ?_⟩) hHeld ?_
                    case refine_2 => (intro wz hSw; (try dsimp only at hSw); obtain ⟨hS0, hS2, hS1⟩ := hSw; clear hS1; go_simp <;> with_reducible rfl)
                    try simp only [Act.put, List.setIfInBounds_toArray, List.set_cons_zero, List.set_cons_succ]
                    refine wpAnyH_take (i := 8) (oi := { dst := some 73, op := Go.Op.call { callee := Go.Callee.builtin Go.Builtin.len, args := #[Go.Operand.tmp 72], argTypes := #[9] }, type := 3, pos := "law.go:195", after := #[{ on := 7, ground := Go.Ground.data }, { on := 4, ground := Go.Ground.guard }], guard := some (4, true) }) (v := ?_) rfl (by kernel_rfl) (by kernel_rfl) (by kernel_rfl) (fun _ _ _ h => h) (Or.inl ⟨by rfl, ?_⟩) hHeld ?_
                    case refine_2 => (intro wz hSw; (try dsimp only at hSw); obtain ⟨hS0, hS2, hS1⟩ := hSw; clear hS1; go_simp <;> with_reducible rfl)
                    try simp only [Act.put, List.setIfInBounds_toArray, List.set_cons_zero, List.set_cons_succ]
                    refine wpAnyH_take (i := 9) (oi := { dst := some 74, op := Go.Op.move (Go.Operand.tmp 1), type := 9, pos := "law.go:195", after := #[{ on := 4, ground := Go.Ground.guard }], guard := some (4, true) }) (v := ?_) rfl (by kernel_rfl) (by kernel_rfl) (by kernel_rfl) (fun _ _ _ h => h) (Or.inl ⟨by rfl, ?_⟩) hHeld ?_
                    case refine_2 => (intro wz hSw; (try dsimp only at hSw); obtain ⟨hS0, hS2, hS1⟩ := hSw; clear hS1; go_simp <;> with_reducible rfl)
                    try simp only [Act.put, List.setIfInBounds_toArray, List.set_cons_zero, List.set_cons_succ]
                    refine wpAnyH_take (i := 10) (oi := { dst := some 75, op := Go.Op.call { callee := Go.Callee.builtin Go.Builtin.len, args := #[Go.Operand.tmp 74], argTypes := #[9] }, type := 3, pos := "law.go:195", after := #[{ on := 9, ground := Go.Ground.data }, { on := 4, ground := Go.Ground.guard }], guard := some (4, true) }) (v := ?_) rfl (by kernel_rfl) (by kernel_rfl) (by kernel_rfl) (fun _ _ _ h => h) (Or.inl ⟨by rfl, ?_⟩) hHeld ?_
                    case refine_2 => (intro wz hSw; (try dsimp only at hSw); obtain ⟨hS0, hS2, hS1⟩ := hSw; clear hS1; go_simp <;> with_reducible rfl)
                    try simp only [Act.put, List.setIfInBounds_toArray, List.set_cons_zero, List.set_cons_succ]
                    refine wpAnyH_take (i := 11) (oi := { dst := some 76, op := Go.Op.move (Go.Operand.tmp 9), type := 3, pos := "law.go:195", after := #[{ on := 4, ground := Go.Ground.guard }], guard := some (4, true) }) (v := ?_) rfl (by kernel_rfl) (by kernel_rfl) (by kernel_rfl) (fun _ _ _ h => h) (Or.inl ⟨by rfl, ?_⟩) hHeld ?_
                    case refine_2 => (intro wz hSw; (try dsimp only at hSw); obtain ⟨hS0, hS2, hS1⟩ := hSw; clear hS1; go_simp <;> with_reducible rfl)
                    try simp only [Act.put, List.setIfInBounds_toArray, List.set_cons_zero, List.set_cons_succ]
                    refine wpAnyH_take (i := 12) (oi := { dst := some 77, op := Go.Op.binOp Go.BinOp.sub 3 (Go.Operand.tmp 75) (Go.Operand.tmp 76) 3, type := 3, pos := "law.go:195", after := #[{ on := 10, ground := Go.Ground.data }, { on := 11, ground := Go.Ground.data }, { on := 4, ground := Go.Ground.guard }], guard := some (4, true) }) (v := ?_) rfl (by kernel_rfl) (by kernel_rfl) (by kernel_rfl) (fun _ _ _ h => h) (Or.inl ⟨by rfl, ?_⟩) hHeld ?_
                    case refine_2 => (intro wz hSw; (try dsimp only at hSw); obtain ⟨hS0, hS2, hS1⟩ := hSw; clear hS1; go_simp <;> with_reducible rfl)
                    try simp only [Act.put, List.setIfInBounds_toArray, List.set_cons_zero, List.set_cons_succ]
                    refine wpAnyH_take (i := 13) (oi := { dst := some 78, op := Go.Op.binOp Go.BinOp.leq 3 (Go.Operand.tmp 73) (Go.Operand.tmp 77) 3, type := 4, pos := "law.go:195", after := #[{ on := 8, ground := Go.Ground.data }, { on := 12, ground := Go.Ground.data }, { on := 4, ground := Go.Ground.guard }], guard := some (4, true) }) (v := ?_) rfl (by kernel_rfl) (by kernel_rfl) (by kernel_rfl) (fun _ _ _ h => h) (Or.inl ⟨by rfl, ?_⟩) hHeld ?_
                    case refine_2 => (intro wz hSw; (try dsimp only at hSw); obtain ⟨hS0, hS2, hS1⟩ := hSw; clear hS1; go_simp <;> with_reducible rfl)
                    try simp only [Act.put, List.setIfInBounds_toArray, List.set_cons_zero, List.set_cons_succ]
                    refine wpAnyH_take (i := 14) (oi := { dst := some 79, op := Go.Op.pick (Go.Operand.tmp 69) (Go.Operand.tmp 78) (Go.Operand.const (Go.Value.bool false)), type := 4, pos := "law.go:195", after := #[{ on := 4, ground := Go.Ground.data }, { on := 13, ground := Go.Ground.data }], guard := none }) (v := ?_) rfl (by kernel_rfl) (by kernel_rfl) (by kernel_rfl) (fun _ _ _ h => h) (Or.inl ⟨by rfl, ?_⟩) hHeld ?_
                    case refine_2 => (intro wz hSw; (try dsimp only at hSw); obtain ⟨hS0, hS2, hS1⟩ := hSw; clear hS1; go_simp <;> with_reducible rfl)
                    try simp only [Act.put, List.setIfInBounds_toArray, List.set_cons_zero, List.set_cons_succ]
                    refine wpAnyH_take (i := 15) (oi := { dst := some 80, op := Go.Op.move (Go.Operand.tmp 79), type := 4, pos := "law.go:195", after := #[{ on := 14, ground := Go.Ground.data }, { on := 4, ground := Go.Ground.chain }], guard := none }) (v := ?_) rfl (by kernel_rfl) (by kernel_rfl) (by kernel_rfl) (fun _ _ _ h => h) (Or.inl ⟨by rfl, ?_⟩) hHeld ?_
                    case refine_2 => (intro wz hSw; (try dsimp only at hSw); obtain ⟨hS0, hS2, hS1⟩ := hSw; clear hS1; go_simp <;> with_reducible rfl)
                    try simp only [Act.put, List.setIfInBounds_toArray, List.set_cons_zero, List.set_cons_succ]
                    refine wpAnyH_take (i := 16) (oi := { dst := some 81, op := Go.Op.move (Go.Operand.tmp 1), type := 9, pos := "law.go:195", after := #[{ on := 15, ground := Go.Ground.guard }], guard := some (15, true) }) (v := ?_) rfl (by kernel_rfl) (by kernel_rfl) (by kernel_rfl) (fun _ _ _ h => h) (Or.inl ⟨by rfl, ?_⟩) hHeld ?_
                    case refine_2 => (intro wz hSw; (try dsimp only at hSw); obtain ⟨hS0, hS2, hS1⟩ := hSw; clear hS1; go_simp <;> with_reducible rfl)
                    try simp only [Act.put, List.setIfInBounds_toArray, List.set_cons_zero, List.set_cons_succ]
                    refine wpAnyH_take (i := 17) (oi := { dst := some 82, op := Go.Op.move (Go.Operand.tmp 9), type := 3, pos := "law.go:195", after := #[{ on := 15, ground := Go.Ground.guard }], guard := some (15, true) }) (v := ?_) rfl (by kernel_rfl) (by kernel_rfl) (by kernel_rfl) (fun _ _ _ h => h) (Or.inl ⟨by rfl, ?_⟩) hHeld ?_
                    case refine_2 => (intro wz hSw; (try dsimp only at hSw); obtain ⟨hS0, hS2, hS1⟩ := hSw; clear hS1; go_simp <;> with_reducible rfl)
                    try simp only [Act.put, List.setIfInBounds_toArray, List.set_cons_zero, List.set_cons_succ]
                    refine wpAnyH_take (i := 18) (oi := { dst := some 83, op := Go.Op.move (Go.Operand.tmp 9), type := 3, pos := "law.go:195", after := #[{ on := 15, ground := Go.Ground.guard }], guard := some (15, true) }) (v := ?_) rfl (by kernel_rfl) (by kernel_rfl) (by kernel_rfl) (fun _ _ _ h => h) (Or.inl ⟨by rfl, ?_⟩) hHeld ?_
                    case refine_2 => (intro wz hSw; (try dsimp only at hSw); obtain ⟨hS0, hS2, hS1⟩ := hSw; clear hS1; go_simp <;> with_reducible rfl)
                    try simp only [Act.put, List.setIfInBounds_toArray, List.set_cons_zero, List.set_cons_succ]
                    refine wpAnyH_take (i := 19) (oi := { dst := some 84, op := Go.Op.move (Go.Operand.tmp 11), type := 3, pos := "law.go:195", after := #[{ on := 15, ground := Go.Ground.guard }], guard := some (15, true) }) (v := ?_) rfl (by kernel_rfl) (by kernel_rfl) (by kernel_rfl) (fun _ _ _ h => h) (Or.inl ⟨by rfl, ?_⟩) hHeld ?_
                    case refine_2 => (intro wz hSw; (try dsimp only at hSw); obtain ⟨hS0, hS2, hS1⟩ := hSw; clear hS1; go_simp <;> with_reducible rfl)
                    try simp only [Act.put, List.setIfInBounds_toArray, List.set_cons_zero, List.set_cons_succ]
                    refine wpAnyH_take (i := 20) (oi := { dst := some 85, op := Go.Op.indexAddr 33 (Go.Operand.tmp 2) (Go.Operand.tmp 84), type := 0, pos := "law.go:195", after := #[{ on := 19, ground := Go.Ground.data }, { on := 15, ground := Go.Ground.guard }], guard := some (15, true) }) (v := ?_) rfl (by kernel_rfl) (by kernel_rfl) (by kernel_rfl) (fun _ _ _ h => h) (Or.inl ⟨by rfl, ?_⟩) hHeld ?_
                    case refine_2 => (intro wz hSw; (try dsimp only at hSw); obtain ⟨hS0, hS2, hS1⟩ := hSw; clear hS1; go_simp <;> with_reducible rfl)
                    try simp only [Act.put, List.setIfInBounds_toArray, List.set_cons_zero, List.set_cons_succ]
                    refine wpAnyH_take (i := 21) (oi := { dst := some 86, op := Go.Op.load 9 (Go.Operand.tmp 85), type := 9, pos := "law.go:195", after := #[{ on := 20, ground := Go.Ground.data }, { on := 15, ground := Go.Ground.guard }], guard := some (15, true) }) (v := ?_) rfl (by kernel_rfl) (by kernel_rfl) (by kernel_rfl) (fun _ _ _ h => h) (Or.inl ⟨by rfl, ?_⟩) hHeld ?_
                    case refine_2 => (intro wz hSw; (try dsimp only at hSw); obtain ⟨hS0, hS2, hS1⟩ := hSw; clear hS1; go_simp <;> with_reducible rfl)
                    try simp only [Act.put, List.setIfInBounds_toArray, List.set_cons_zero, List.set_cons_succ]
                    refine wpAnyH_take (i := 22) (oi := { dst := some 87, op := Go.Op.call { callee := Go.Callee.builtin Go.Builtin.len, args := #[Go.Operand.tmp 86], argTypes := #[9] }, type := 3, pos := "law.go:195", after := #[{ on := 21, ground := Go.Ground.data }, { on := 15, ground := Go.Ground.guard }], guard := some (15, true) }) (v := ?_) rfl (by kernel_rfl) (by kernel_rfl) (by kernel_rfl) (fun _ _ _ h => h) (Or.inl ⟨by rfl, ?_⟩) hHeld ?_
                    case refine_2 => (intro wz hSw; (try dsimp only at hSw); obtain ⟨hS0, hS2, hS1⟩ := hSw; clear hS1; go_simp <;> with_reducible rfl)
                    try simp only [Act.put, List.setIfInBounds_toArray, List.set_cons_zero, List.set_cons_succ]
                    refine wpAnyH_take (i := 23) (oi := { dst := some 88, op := Go.Op.binOp Go.BinOp.add 3 (Go.Operand.tmp 83) (Go.Operand.tmp 87) 3, type := 3, pos := "law.go:195", after := #[{ on := 18, ground := Go.Ground.data }, { on := 22, ground := Go.Ground.data }, { on := 15, ground := Go.Ground.guard }], guard := some (15, true) }) (v := ?_) rfl (by kernel_rfl) (by kernel_rfl) (by kernel_rfl) (fun _ _ _ h => h) (Or.inl ⟨by rfl, ?_⟩) hHeld ?_
                    case refine_2 => (intro wz hSw; (try dsimp only at hSw); obtain ⟨hS0, hS2, hS1⟩ := hSw; clear hS1; go_simp <;> with_reducible rfl)
                    try simp only [Act.put, List.setIfInBounds_toArray, List.set_cons_zero, List.set_cons_succ]
                    refine wpAnyH_take (i := 24) (oi := { dst := some 89, op := Go.Op.slice 9 (Go.Operand.tmp 81) (some (Go.Operand.tmp 82)) (some (Go.Operand.tmp 88)) none, type := 9, pos := "law.go:195", after := #[{ on := 16, ground := Go.Ground.data }, { on := 17, ground := Go.Ground.data }, { on := 23, ground := Go.Ground.data }, { on := 15, ground := Go.Ground.guard }], guard := some (15, true) }) (v := ?_) rfl (by kernel_rfl) (by kernel_rfl) (by kernel_rfl) (fun _ _ _ h => h) (Or.inl ⟨by rfl, ?_⟩) hHeld ?_
                    case refine_2 => (intro wz hSw; (try dsimp only at hSw); obtain ⟨hS0, hS2, hS1⟩ := hSw; clear hS1; go_simp <;> with_reducible rfl)
                    try simp only [Act.put, List.setIfInBounds_toArray, List.set_cons_zero, List.set_cons_succ]
                    refine wpAnyH_take (i := 25) (oi := { dst := some 90, op := Go.Op.move (Go.Operand.tmp 11), type := 3, pos := "law.go:195", after := #[{ on := 15, ground := Go.Ground.guard }], guard := some (15, true) }) (v := ?_) rfl (by kernel_rfl) (by kernel_rfl) (by kernel_rfl) (fun _ _ _ h => h) (Or.inl ⟨by rfl, ?_⟩) hHeld ?_
                    case refine_2 => (intro wz hSw; (try dsimp only at hSw); obtain ⟨hS0, hS2, hS1⟩ := hSw; clear hS1; go_simp <;> with_reducible rfl)
                    try simp only [Act.put, List.setIfInBounds_toArray, List.set_cons_zero, List.set_cons_succ]
                    refine wpAnyH_take (i := 26) (oi := { dst := some 91, op := Go.Op.indexAddr 33 (Go.Operand.tmp 2) (Go.Operand.tmp 90), type := 0, pos := "law.go:195", after := #[{ on := 25, ground := Go.Ground.data }, { on := 15, ground := Go.Ground.guard }], guard := some (15, true) }) (v := ?_) rfl (by kernel_rfl) (by kernel_rfl) (by kernel_rfl) (fun _ _ _ h => h) (Or.inl ⟨by rfl, ?_⟩) hHeld ?_
                    case refine_2 => (intro wz hSw; (try dsimp only at hSw); obtain ⟨hS0, hS2, hS1⟩ := hSw; clear hS1; go_simp <;> with_reducible rfl)
                    try simp only [Act.put, List.setIfInBounds_toArray, List.set_cons_zero, List.set_cons_succ]
                    refine wpAnyH_take (i := 27) (oi := { dst := some 92, op := Go.Op.load 9 (Go.Operand.tmp 91), type := 9, pos := "law.go:195", after := #[{ on := 26, ground := Go.Ground.data }, { on := 15, ground := Go.Ground.guard }], guard := some (15, true) }) (v := ?_) rfl (by kernel_rfl) (by kernel_rfl) (by kernel_rfl) (fun _ _ _ h => h) (Or.inl ⟨by rfl, ?_⟩) hHeld ?_
                    case refine_2 => (intro wz hSw; (try dsimp only at hSw); obtain ⟨hS0, hS2, hS1⟩ := hSw; clear hS1; go_simp <;> with_reducible rfl)
                    try simp only [Act.put, List.setIfInBounds_toArray, List.set_cons_zero, List.set_cons_succ]
                    refine wpAnyH_take (i := 28) (oi := { dst := some 93, op := Go.Op.binOp Go.BinOp.eql 9 (Go.Operand.tmp 89) (Go.Operand.tmp 92) 9, type := 4, pos := "law.go:195", after := #[{ on := 24, ground := Go.Ground.data }, { on := 27, ground := Go.Ground.data }, { on := 15, ground := Go.Ground.guard }], guard := some (15, true) }) (v := ?_) rfl (by kernel_rfl) (by kernel_rfl) (by kernel_rfl) (fun _ _ _ h => h) (Or.inl ⟨by rfl, ?_⟩) hHeld ?_
                    case refine_2 => (intro wz hSw; (try dsimp only at hSw); obtain ⟨hS0, hS2, hS1⟩ := hSw; clear hS1; go_simp <;> with_reducible rfl)
                    try simp only [Act.put, List.setIfInBounds_toArray, List.set_cons_zero, List.set_cons_succ]
                    refine wpAnyH_take (i := 29) (oi := { dst := some 94, op := Go.Op.pick (Go.Operand.tmp 80) (Go.Operand.tmp 93) (Go.Operand.const (Go.Value.bool false)), type := 4, pos := "law.go:195", after := #[{ on := 15, ground := Go.Ground.data }, { on := 28, ground := Go.Ground.data }], guard := none }) (v := ?_) rfl (by kernel_rfl) (by kernel_rfl) (by kernel_rfl) (fun _ _ _ h => h) (Or.inl ⟨by rfl, ?_⟩) hHeld ?_
                    case refine_2 => (intro wz hSw; (try dsimp only at hSw); obtain ⟨hS0, hS2, hS1⟩ := hSw; clear hS1; go_simp <;> with_reducible rfl)
                    try simp only [Act.put, List.setIfInBounds_toArray, List.set_cons_zero, List.set_cons_succ]
                    refine wpAnyH_done (by kernel_rfl) ?_ _
                    have HGS2 := Lib.hid hHeld.2.2.1
                    have HB2 := Lib.hid hHeld.2.2.2
                    clear hHeld
                    go_wp2
                    go_roundw
                    case rel =>
                      refine ⟨_, rfl, ?_, HGS2.out, HB2.out⟩
                      have hv2 := hitV_yes hm HH.out
                      cases m with
                      | zero => exact .inr ⟨rfl, hv2⟩
                      | succ m => exact .inl ⟨m, by omega, by go_num, hv2⟩
                    case measure => (try simp [intOf]) <;> (try omega)
                  | false =>
                    rw [hh] at hsub
                    have HH := Lib.hid hh
                    clear hh
                    go_wp2_with fail
                    refine wp_region_held_drew (S := fun w' => w'.cell? ⟨W.heap.size, m, none⟩ = some (.string (g m)) ∧ w'.cell? ⟨W.heap.size, m, none⟩ = some (.string (g m)) ∧ (Gs w' W.heap.size g ∧ Below W.heap.size W w')) (by kernel_rfl) ⟨HGS.out.2 m (by omega), HGS.out.2 m (by omega), HGS.out, HB.out.drew⟩ (fun hHeld => ?_)
                    refine wpAnyH_take (i := 0) (oi := { dst := some 65, op := Go.Op.move (Go.Operand.tmp 11), type := 3, pos := "law.go:195", after := #[], guard := none }) (v := ?_) rfl (by kernel_rfl) (by kernel_rfl) (by kernel_rfl) (fun _ _ _ h => h) (Or.inl ⟨by rfl, ?_⟩) hHeld ?_
                    case refine_2 => (intro wz hSw; (try dsimp only at hSw); obtain ⟨hS0, hS2, hS1⟩ := hSw; clear hS1; go_simp <;> with_reducible rfl)
                    try simp only [Act.put, List.setIfInBounds_toArray, List.set_cons_zero, List.set_cons_succ]
                    refine wpAnyH_take (i := 1) (oi := { dst := some 66, op := Go.Op.indexAddr 33 (Go.Operand.tmp 2) (Go.Operand.tmp 65), type := 0, pos := "law.go:195", after := #[{ on := 0, ground := Go.Ground.data }], guard := none }) (v := ?_) rfl (by kernel_rfl) (by kernel_rfl) (by kernel_rfl) (fun _ _ _ h => h) (Or.inl ⟨by rfl, ?_⟩) hHeld ?_
                    case refine_2 => (intro wz hSw; (try dsimp only at hSw); obtain ⟨hS0, hS2, hS1⟩ := hSw; clear hS1; go_simp <;> with_reducible rfl)
                    try simp only [Act.put, List.setIfInBounds_toArray, List.set_cons_zero, List.set_cons_succ]
                    refine wpAnyH_take (i := 2) (oi := { dst := some 67, op := Go.Op.load 9 (Go.Operand.tmp 66), type := 9, pos := "law.go:195", after := #[{ on := 1, ground := Go.Ground.data }], guard := none }) (v := ?_) rfl (by kernel_rfl) (by kernel_rfl) (by kernel_rfl) (fun _ _ _ h => h) (Or.inl ⟨by rfl, ?_⟩) hHeld ?_
                    case refine_2 => (intro wz hSw; (try dsimp only at hSw); obtain ⟨hS0, hS2, hS1⟩ := hSw; clear hS1; go_simp <;> with_reducible rfl)
                    try simp only [Act.put, List.setIfInBounds_toArray, List.set_cons_zero, List.set_cons_succ]
                    refine wpAnyH_take (i := 3) (oi := { dst := some 68, op := Go.Op.binOp Go.BinOp.neq 9 (Go.Operand.tmp 67) (Go.Operand.const (Go.Value.string { data := #[] })) 9, type := 4, pos := "law.go:195", after := #[{ on := 2, ground := Go.Ground.data }], guard := none }) (v := ?_) rfl (by kernel_rfl) (by kernel_rfl) (by kernel_rfl) (fun _ _ _ h => h) (Or.inl ⟨by rfl, ?_⟩) hHeld ?_
                    case refine_2 => (intro wz hSw; (try dsimp only at hSw); obtain ⟨hS0, hS2, hS1⟩ := hSw; clear hS1; go_simp <;> with_reducible rfl)
                    try simp only [Act.put, List.setIfInBounds_toArray, List.set_cons_zero, List.set_cons_succ]
                    refine wpAnyH_take (i := 4) (oi := { dst := some 69, op := Go.Op.move (Go.Operand.tmp 68), type := 4, pos := "law.go:195", after := #[{ on := 3, ground := Go.Ground.data }], guard := none }) (v := ?_) rfl (by kernel_rfl) (by kernel_rfl) (by kernel_rfl) (fun _ _ _ h => h) (Or.inl ⟨by rfl, ?_⟩) hHeld ?_
                    case refine_2 => (intro wz hSw; (try dsimp only at hSw); obtain ⟨hS0, hS2, hS1⟩ := hSw; clear hS1; go_simp <;> with_reducible rfl)
                    try simp only [Act.put, List.setIfInBounds_toArray, List.set_cons_zero, List.set_cons_succ]
                    refine wpAnyH_take (i := 5) (oi := { dst := some 70, op := Go.Op.move (Go.Operand.tmp 11), type := 3, pos := "law.go:195", after := #[{ on := 4, ground := Go.Ground.guard }], guard := some (4, true) }) (v := ?_) rfl (by kernel_rfl) (by kernel_rfl) (by kernel_rfl) (fun _ _ _ h => h) (Or.inl ⟨by rfl, ?_⟩) hHeld ?_
                    case refine_2 => (intro wz hSw; (try dsimp only at hSw); obtain ⟨hS0, hS2, hS1⟩ := hSw; clear hS1; go_simp <;> with_reducible rfl)
                    try simp only [Act.put, List.setIfInBounds_toArray, List.set_cons_zero, List.set_cons_succ]
                    refine wpAnyH_take (i := 6) (oi := { dst := some 71, op := Go.Op.indexAddr 33 (Go.Operand.tmp 2) (Go.Operand.tmp 70), type := 0, pos := "law.go:195", after := #[{ on := 5, ground := Go.Ground.data }, { on := 4, ground := Go.Ground.guard }], guard := some (4, true) }) (v := ?_) rfl (by kernel_rfl) (by kernel_rfl) (by kernel_rfl) (fun _ _ _ h => h) (Or.inl ⟨by rfl, ?_⟩) hHeld ?_
                    case refine_2 => (intro wz hSw; (try dsimp only at hSw); obtain ⟨hS0, hS2, hS1⟩ := hSw; clear hS1; go_simp <;> with_reducible rfl)
                    try simp only [Act.put, List.setIfInBounds_toArray, List.set_cons_zero, List.set_cons_succ]
                    refine wpAnyH_take (i := 7) (oi := { dst := some 72, op := Go.Op.load 9 (Go.Operand.tmp 71), type := 9, pos := "law.go:195", after := #[{ on := 6, ground := Go.Ground.data }, { on := 4, ground := Go.Ground.guard }], guard := some (4, true) }) (v := ?_) rfl (by kernel_rfl) (by kernel_rfl) (by kernel_rfl) (fun _ _ _ h => h) (Or.inl ⟨by rfl, ?_⟩) hHeld ?_
                    case refine_2 => (intro wz hSw; (try dsimp only at hSw); obtain ⟨hS0, hS2, hS1⟩ := hSw; clear hS1; go_simp <;> with_reducible rfl)
                    try simp only [Act.put, List.setIfInBounds_toArray, List.set_cons_zero, List.set_cons_succ]
                    refine wpAnyH_take (i := 8) (oi := { dst := some 73, op := Go.Op.call { callee := Go.Callee.builtin Go.Builtin.len, args := #[Go.Operand.tmp 72], argTypes := #[9] }, type := 3, pos := "law.go:195", after := #[{ on := 7, ground := Go.Ground.data }, { on := 4, ground := Go.Ground.guard }], guard := some (4, true) }) (v := ?_) rfl (by kernel_rfl) (by kernel_rfl) (by kernel_rfl) (fun _ _ _ h => h) (Or.inl ⟨by rfl, ?_⟩) hHeld ?_
                    case refine_2 => (intro wz hSw; (try dsimp only at hSw); obtain ⟨hS0, hS2, hS1⟩ := hSw; clear hS1; go_simp <;> with_reducible rfl)
                    try simp only [Act.put, List.setIfInBounds_toArray, List.set_cons_zero, List.set_cons_succ]
                    refine wpAnyH_take (i := 9) (oi := { dst := some 74, op := Go.Op.move (Go.Operand.tmp 1), type := 9, pos := "law.go:195", after := #[{ on := 4, ground := Go.Ground.guard }], guard := some (4, true) }) (v := ?_) rfl (by kernel_rfl) (by kernel_rfl) (by kernel_rfl) (fun _ _ _ h => h) (Or.inl ⟨by rfl, ?_⟩) hHeld ?_
                    case refine_2 => (intro wz hSw; (try dsimp only at hSw); obtain ⟨hS0, hS2, hS1⟩ := hSw; clear hS1; go_simp <;> with_reducible rfl)
                    try simp only [Act.put, List.setIfInBounds_toArray, List.set_cons_zero, List.set_cons_succ]
                    refine wpAnyH_take (i := 10) (oi := { dst := some 75, op := Go.Op.call { callee := Go.Callee.builtin Go.Builtin.len, args := #[Go.Operand.tmp 74], argTypes := #[9] }, type := 3, pos := "law.go:195", after := #[{ on := 9, ground := Go.Ground.data }, { on := 4, ground := Go.Ground.guard }], guard := some (4, true) }) (v := ?_) rfl (by kernel_rfl) (by kernel_rfl) (by kernel_rfl) (fun _ _ _ h => h) (Or.inl ⟨by rfl, ?_⟩) hHeld ?_
                    case refine_2 => (intro wz hSw; (try dsimp only at hSw); obtain ⟨hS0, hS2, hS1⟩ := hSw; clear hS1; go_simp <;> with_reducible rfl)
                    try simp only [Act.put, List.setIfInBounds_toArray, List.set_cons_zero, List.set_cons_succ]
                    refine wpAnyH_take (i := 11) (oi := { dst := some 76, op := Go.Op.move (Go.Operand.tmp 9), type := 3, pos := "law.go:195", after := #[{ on := 4, ground := Go.Ground.guard }], guard := some (4, true) }) (v := ?_) rfl (by kernel_rfl) (by kernel_rfl) (by kernel_rfl) (fun _ _ _ h => h) (Or.inl ⟨by rfl, ?_⟩) hHeld ?_
                    case refine_2 => (intro wz hSw; (try dsimp only at hSw); obtain ⟨hS0, hS2, hS1⟩ := hSw; clear hS1; go_simp <;> with_reducible rfl)
                    try simp only [Act.put, List.setIfInBounds_toArray, List.set_cons_zero, List.set_cons_succ]
                    refine wpAnyH_take (i := 12) (oi := { dst := some 77, op := Go.Op.binOp Go.BinOp.sub 3 (Go.Operand.tmp 75) (Go.Operand.tmp 76) 3, type := 3, pos := "law.go:195", after := #[{ on := 10, ground := Go.Ground.data }, { on := 11, ground := Go.Ground.data }, { on := 4, ground := Go.Ground.guard }], guard := some (4, true) }) (v := ?_) rfl (by kernel_rfl) (by kernel_rfl) (by kernel_rfl) (fun _ _ _ h => h) (Or.inl ⟨by rfl, ?_⟩) hHeld ?_
                    case refine_2 => (intro wz hSw; (try dsimp only at hSw); obtain ⟨hS0, hS2, hS1⟩ := hSw; clear hS1; go_simp <;> with_reducible rfl)
                    try simp only [Act.put, List.setIfInBounds_toArray, List.set_cons_zero, List.set_cons_succ]
                    refine wpAnyH_take (i := 13) (oi := { dst := some 78, op := Go.Op.binOp Go.BinOp.leq 3 (Go.Operand.tmp 73) (Go.Operand.tmp 77) 3, type := 4, pos := "law.go:195", after := #[{ on := 8, ground := Go.Ground.data }, { on := 12, ground := Go.Ground.data }, { on := 4, ground := Go.Ground.guard }], guard := some (4, true) }) (v := ?_) rfl (by kernel_rfl) (by kernel_rfl) (by kernel_rfl) (fun _ _ _ h => h) (Or.inl ⟨by rfl, ?_⟩) hHeld ?_
                    case refine_2 => (intro wz hSw; (try dsimp only at hSw); obtain ⟨hS0, hS2, hS1⟩ := hSw; clear hS1; go_simp <;> with_reducible rfl)
                    try simp only [Act.put, List.setIfInBounds_toArray, List.set_cons_zero, List.set_cons_succ]
                    refine wpAnyH_take (i := 14) (oi := { dst := some 79, op := Go.Op.pick (Go.Operand.tmp 69) (Go.Operand.tmp 78) (Go.Operand.const (Go.Value.bool false)), type := 4, pos := "law.go:195", after := #[{ on := 4, ground := Go.Ground.data }, { on := 13, ground := Go.Ground.data }], guard := none }) (v := ?_) rfl (by kernel_rfl) (by kernel_rfl) (by kernel_rfl) (fun _ _ _ h => h) (Or.inl ⟨by rfl, ?_⟩) hHeld ?_
                    case refine_2 => (intro wz hSw; (try dsimp only at hSw); obtain ⟨hS0, hS2, hS1⟩ := hSw; clear hS1; go_simp <;> with_reducible rfl)
                    try simp only [Act.put, List.setIfInBounds_toArray, List.set_cons_zero, List.set_cons_succ]
                    refine wpAnyH_take (i := 15) (oi := { dst := some 80, op := Go.Op.move (Go.Operand.tmp 79), type := 4, pos := "law.go:195", after := #[{ on := 14, ground := Go.Ground.data }, { on := 4, ground := Go.Ground.chain }], guard := none }) (v := ?_) rfl (by kernel_rfl) (by kernel_rfl) (by kernel_rfl) (fun _ _ _ h => h) (Or.inl ⟨by rfl, ?_⟩) hHeld ?_
                    case refine_2 => (intro wz hSw; (try dsimp only at hSw); obtain ⟨hS0, hS2, hS1⟩ := hSw; clear hS1; go_simp <;> with_reducible rfl)
                    try simp only [Act.put, List.setIfInBounds_toArray, List.set_cons_zero, List.set_cons_succ]
                    refine wpAnyH_take (i := 16) (oi := { dst := some 81, op := Go.Op.move (Go.Operand.tmp 1), type := 9, pos := "law.go:195", after := #[{ on := 15, ground := Go.Ground.guard }], guard := some (15, true) }) (v := ?_) rfl (by kernel_rfl) (by kernel_rfl) (by kernel_rfl) (fun _ _ _ h => h) (Or.inl ⟨by rfl, ?_⟩) hHeld ?_
                    case refine_2 => (intro wz hSw; (try dsimp only at hSw); obtain ⟨hS0, hS2, hS1⟩ := hSw; clear hS1; go_simp <;> with_reducible rfl)
                    try simp only [Act.put, List.setIfInBounds_toArray, List.set_cons_zero, List.set_cons_succ]
                    refine wpAnyH_take (i := 17) (oi := { dst := some 82, op := Go.Op.move (Go.Operand.tmp 9), type := 3, pos := "law.go:195", after := #[{ on := 15, ground := Go.Ground.guard }], guard := some (15, true) }) (v := ?_) rfl (by kernel_rfl) (by kernel_rfl) (by kernel_rfl) (fun _ _ _ h => h) (Or.inl ⟨by rfl, ?_⟩) hHeld ?_
                    case refine_2 => (intro wz hSw; (try dsimp only at hSw); obtain ⟨hS0, hS2, hS1⟩ := hSw; clear hS1; go_simp <;> with_reducible rfl)
                    try simp only [Act.put, List.setIfInBounds_toArray, List.set_cons_zero, List.set_cons_succ]
                    refine wpAnyH_take (i := 18) (oi := { dst := some 83, op := Go.Op.move (Go.Operand.tmp 9), type := 3, pos := "law.go:195", after := #[{ on := 15, ground := Go.Ground.guard }], guard := some (15, true) }) (v := ?_) rfl (by kernel_rfl) (by kernel_rfl) (by kernel_rfl) (fun _ _ _ h => h) (Or.inl ⟨by rfl, ?_⟩) hHeld ?_
                    case refine_2 => (intro wz hSw; (try dsimp only at hSw); obtain ⟨hS0, hS2, hS1⟩ := hSw; clear hS1; go_simp <;> with_reducible rfl)
                    try simp only [Act.put, List.setIfInBounds_toArray, List.set_cons_zero, List.set_cons_succ]
                    refine wpAnyH_take (i := 19) (oi := { dst := some 84, op := Go.Op.move (Go.Operand.tmp 11), type := 3, pos := "law.go:195", after := #[{ on := 15, ground := Go.Ground.guard }], guard := some (15, true) }) (v := ?_) rfl (by kernel_rfl) (by kernel_rfl) (by kernel_rfl) (fun _ _ _ h => h) (Or.inl ⟨by rfl, ?_⟩) hHeld ?_
                    case refine_2 => (intro wz hSw; (try dsimp only at hSw); obtain ⟨hS0, hS2, hS1⟩ := hSw; clear hS1; go_simp <;> with_reducible rfl)
                    try simp only [Act.put, List.setIfInBounds_toArray, List.set_cons_zero, List.set_cons_succ]
                    refine wpAnyH_take (i := 20) (oi := { dst := some 85, op := Go.Op.indexAddr 33 (Go.Operand.tmp 2) (Go.Operand.tmp 84), type := 0, pos := "law.go:195", after := #[{ on := 19, ground := Go.Ground.data }, { on := 15, ground := Go.Ground.guard }], guard := some (15, true) }) (v := ?_) rfl (by kernel_rfl) (by kernel_rfl) (by kernel_rfl) (fun _ _ _ h => h) (Or.inl ⟨by rfl, ?_⟩) hHeld ?_
                    case refine_2 => (intro wz hSw; (try dsimp only at hSw); obtain ⟨hS0, hS2, hS1⟩ := hSw; clear hS1; go_simp <;> with_reducible rfl)
                    try simp only [Act.put, List.setIfInBounds_toArray, List.set_cons_zero, List.set_cons_succ]
                    refine wpAnyH_take (i := 21) (oi := { dst := some 86, op := Go.Op.load 9 (Go.Operand.tmp 85), type := 9, pos := "law.go:195", after := #[{ on := 20, ground := Go.Ground.data }, { on := 15, ground := Go.Ground.guard }], guard := some (15, true) }) (v := ?_) rfl (by kernel_rfl) (by kernel_rfl) (by kernel_rfl) (fun _ _ _ h => h) (Or.inl ⟨by rfl, ?_⟩) hHeld ?_
                    case refine_2 => (intro wz hSw; (try dsimp only at hSw); obtain ⟨hS0, hS2, hS1⟩ := hSw; clear hS1; go_simp <;> with_reducible rfl)
                    try simp only [Act.put, List.setIfInBounds_toArray, List.set_cons_zero, List.set_cons_succ]
                    refine wpAnyH_take (i := 22) (oi := { dst := some 87, op := Go.Op.call { callee := Go.Callee.builtin Go.Builtin.len, args := #[Go.Operand.tmp 86], argTypes := #[9] }, type := 3, pos := "law.go:195", after := #[{ on := 21, ground := Go.Ground.data }, { on := 15, ground := Go.Ground.guard }], guard := some (15, true) }) (v := ?_) rfl (by kernel_rfl) (by kernel_rfl) (by kernel_rfl) (fun _ _ _ h => h) (Or.inl ⟨by rfl, ?_⟩) hHeld ?_
                    case refine_2 => (intro wz hSw; (try dsimp only at hSw); obtain ⟨hS0, hS2, hS1⟩ := hSw; clear hS1; go_simp <;> with_reducible rfl)
                    try simp only [Act.put, List.setIfInBounds_toArray, List.set_cons_zero, List.set_cons_succ]
                    refine wpAnyH_take (i := 23) (oi := { dst := some 88, op := Go.Op.binOp Go.BinOp.add 3 (Go.Operand.tmp 83) (Go.Operand.tmp 87) 3, type := 3, pos := "law.go:195", after := #[{ on := 18, ground := Go.Ground.data }, { on := 22, ground := Go.Ground.data }, { on := 15, ground := Go.Ground.guard }], guard := some (15, true) }) (v := ?_) rfl (by kernel_rfl) (by kernel_rfl) (by kernel_rfl) (fun _ _ _ h => h) (Or.inl ⟨by rfl, ?_⟩) hHeld ?_
                    case refine_2 => (intro wz hSw; (try dsimp only at hSw); obtain ⟨hS0, hS2, hS1⟩ := hSw; clear hS1; go_simp <;> with_reducible rfl)
                    try simp only [Act.put, List.setIfInBounds_toArray, List.set_cons_zero, List.set_cons_succ]
                    refine wpAnyH_take (i := 24) (oi := { dst := some 89, op := Go.Op.slice 9 (Go.Operand.tmp 81) (some (Go.Operand.tmp 82)) (some (Go.Operand.tmp 88)) none, type := 9, pos := "law.go:195", after := #[{ on := 16, ground := Go.Ground.data }, { on := 17, ground := Go.Ground.data }, { on := 23, ground := Go.Ground.data }, { on := 15, ground := Go.Ground.guard }], guard := some (15, true) }) (v := ?_) rfl (by kernel_rfl) (by kernel_rfl) (by kernel_rfl) (fun _ _ _ h => h) (Or.inl ⟨by rfl, ?_⟩) hHeld ?_
                    case refine_2 => (intro wz hSw; (try dsimp only at hSw); obtain ⟨hS0, hS2, hS1⟩ := hSw; clear hS1; go_simp <;> with_reducible rfl)
                    try simp only [Act.put, List.setIfInBounds_toArray, List.set_cons_zero, List.set_cons_succ]
                    refine wpAnyH_take (i := 25) (oi := { dst := some 90, op := Go.Op.move (Go.Operand.tmp 11), type := 3, pos := "law.go:195", after := #[{ on := 15, ground := Go.Ground.guard }], guard := some (15, true) }) (v := ?_) rfl (by kernel_rfl) (by kernel_rfl) (by kernel_rfl) (fun _ _ _ h => h) (Or.inl ⟨by rfl, ?_⟩) hHeld ?_
                    case refine_2 => (intro wz hSw; (try dsimp only at hSw); obtain ⟨hS0, hS2, hS1⟩ := hSw; clear hS1; go_simp <;> with_reducible rfl)
                    try simp only [Act.put, List.setIfInBounds_toArray, List.set_cons_zero, List.set_cons_succ]
                    refine wpAnyH_take (i := 26) (oi := { dst := some 91, op := Go.Op.indexAddr 33 (Go.Operand.tmp 2) (Go.Operand.tmp 90), type := 0, pos := "law.go:195", after := #[{ on := 25, ground := Go.Ground.data }, { on := 15, ground := Go.Ground.guard }], guard := some (15, true) }) (v := ?_) rfl (by kernel_rfl) (by kernel_rfl) (by kernel_rfl) (fun _ _ _ h => h) (Or.inl ⟨by rfl, ?_⟩) hHeld ?_
                    case refine_2 => (intro wz hSw; (try dsimp only at hSw); obtain ⟨hS0, hS2, hS1⟩ := hSw; clear hS1; go_simp <;> with_reducible rfl)
                    try simp only [Act.put, List.setIfInBounds_toArray, List.set_cons_zero, List.set_cons_succ]
                    refine wpAnyH_take (i := 27) (oi := { dst := some 92, op := Go.Op.load 9 (Go.Operand.tmp 91), type := 9, pos := "law.go:195", after := #[{ on := 26, ground := Go.Ground.data }, { on := 15, ground := Go.Ground.guard }], guard := some (15, true) }) (v := ?_) rfl (by kernel_rfl) (by kernel_rfl) (by kernel_rfl) (fun _ _ _ h => h) (Or.inl ⟨by rfl, ?_⟩) hHeld ?_
                    case refine_2 => (intro wz hSw; (try dsimp only at hSw); obtain ⟨hS0, hS2, hS1⟩ := hSw; clear hS1; go_simp <;> with_reducible rfl)
                    try simp only [Act.put, List.setIfInBounds_toArray, List.set_cons_zero, List.set_cons_succ]
                    refine wpAnyH_take (i := 28) (oi := { dst := some 93, op := Go.Op.binOp Go.BinOp.eql 9 (Go.Operand.tmp 89) (Go.Operand.tmp 92) 9, type := 4, pos := "law.go:195", after := #[{ on := 24, ground := Go.Ground.data }, { on := 27, ground := Go.Ground.data }, { on := 15, ground := Go.Ground.guard }], guard := some (15, true) }) (v := ?_) rfl (by kernel_rfl) (by kernel_rfl) (by kernel_rfl) (fun _ _ _ h => h) (Or.inl ⟨by rfl, ?_⟩) hHeld ?_
                    case refine_2 => (intro wz hSw; (try dsimp only at hSw); obtain ⟨hS0, hS2, hS1⟩ := hSw; clear hS1; go_simp <;> with_reducible rfl)
                    try simp only [Act.put, List.setIfInBounds_toArray, List.set_cons_zero, List.set_cons_succ]
                    refine wpAnyH_take (i := 29) (oi := { dst := some 94, op := Go.Op.pick (Go.Operand.tmp 80) (Go.Operand.tmp 93) (Go.Operand.const (Go.Value.bool false)), type := 4, pos := "law.go:195", after := #[{ on := 15, ground := Go.Ground.data }, { on := 28, ground := Go.Ground.data }], guard := none }) (v := ?_) rfl (by kernel_rfl) (by kernel_rfl) (by kernel_rfl) (fun _ _ _ h => h) (Or.inl ⟨by rfl, ?_⟩) hHeld ?_
                    case refine_2 => (intro wz hSw; (try dsimp only at hSw); obtain ⟨hS0, hS2, hS1⟩ := hSw; clear hS1; go_simp <;> with_reducible rfl)
                    try simp only [Act.put, List.setIfInBounds_toArray, List.set_cons_zero, List.set_cons_succ]
                    refine wpAnyH_done (by kernel_rfl) ?_ _
                    have HGS2 := Lib.hid hHeld.2.2.1
                    have HB2 := Lib.hid hHeld.2.2.2
                    clear hHeld
                    go_wp2
                    go_roundw
                    case rel =>
                      refine ⟨_, rfl, ?_, HGS2.out, HB2.out⟩
                      have hv2 := hitV_no HV.out HH.out
                      cases m with
                      | zero => exact .inr ⟨rfl, hv2⟩
                      | succ m => exact .inl ⟨m, by omega, by go_num, hv2⟩
                    case measure => (try simp [intOf]) <;> (try omega)
                · have hn : ¬ (g m).size ≤ s.size - p := by omega
                  have d1 : decide (((g m).size : Int) ≤ (s.size : Int) - (p : Int)) = false := decide_eq_false hfit
                  have d2 : ¬ ((g m).size : Int) ≤ ((s.size - p : Nat) : Int) := by omega
                  have d3 : decide (((g m).size : Int) ≤ ((s.size - p : Nat) : Int)) = false := decide_eq_false d2
                  have d4 : decide ((g m).size ≤ s.size - p) = false := decide_eq_false hn
                  go_wp2_with fail
                  refine wp_region_held_drew (S := fun w' => w'.cell? ⟨W.heap.size, m, none⟩ = some (.string (g m)) ∧ w'.cell? ⟨W.heap.size, m, none⟩ = some (.string (g m)) ∧ (Gs w' W.heap.size g ∧ Below W.heap.size W w')) (by kernel_rfl) ⟨HGS.out.2 m (by omega), HGS.out.2 m (by omega), HGS.out, HB.out.drew⟩ (fun hHeld => ?_)
                  refine wpAnyH_take (i := 0) (oi := { dst := some 65, op := Go.Op.move (Go.Operand.tmp 11), type := 3, pos := "law.go:195", after := #[], guard := none }) (v := ?_) rfl (by kernel_rfl) (by kernel_rfl) (by kernel_rfl) (fun _ _ _ h => h) (Or.inl ⟨by rfl, ?_⟩) hHeld ?_
                  case refine_2 => (intro wz hSw; (try dsimp only at hSw); obtain ⟨hS0, hS2, hS1⟩ := hSw; clear hS1; go_simp <;> with_reducible rfl)
                  try simp only [Act.put, List.setIfInBounds_toArray, List.set_cons_zero, List.set_cons_succ]
                  refine wpAnyH_take (i := 1) (oi := { dst := some 66, op := Go.Op.indexAddr 33 (Go.Operand.tmp 2) (Go.Operand.tmp 65), type := 0, pos := "law.go:195", after := #[{ on := 0, ground := Go.Ground.data }], guard := none }) (v := ?_) rfl (by kernel_rfl) (by kernel_rfl) (by kernel_rfl) (fun _ _ _ h => h) (Or.inl ⟨by rfl, ?_⟩) hHeld ?_
                  case refine_2 => (intro wz hSw; (try dsimp only at hSw); obtain ⟨hS0, hS2, hS1⟩ := hSw; clear hS1; go_simp <;> with_reducible rfl)
                  try simp only [Act.put, List.setIfInBounds_toArray, List.set_cons_zero, List.set_cons_succ]
                  refine wpAnyH_take (i := 2) (oi := { dst := some 67, op := Go.Op.load 9 (Go.Operand.tmp 66), type := 9, pos := "law.go:195", after := #[{ on := 1, ground := Go.Ground.data }], guard := none }) (v := ?_) rfl (by kernel_rfl) (by kernel_rfl) (by kernel_rfl) (fun _ _ _ h => h) (Or.inl ⟨by rfl, ?_⟩) hHeld ?_
                  case refine_2 => (intro wz hSw; (try dsimp only at hSw); obtain ⟨hS0, hS2, hS1⟩ := hSw; clear hS1; go_simp <;> with_reducible rfl)
                  try simp only [Act.put, List.setIfInBounds_toArray, List.set_cons_zero, List.set_cons_succ]
                  refine wpAnyH_take (i := 3) (oi := { dst := some 68, op := Go.Op.binOp Go.BinOp.neq 9 (Go.Operand.tmp 67) (Go.Operand.const (Go.Value.string { data := #[] })) 9, type := 4, pos := "law.go:195", after := #[{ on := 2, ground := Go.Ground.data }], guard := none }) (v := ?_) rfl (by kernel_rfl) (by kernel_rfl) (by kernel_rfl) (fun _ _ _ h => h) (Or.inl ⟨by rfl, ?_⟩) hHeld ?_
                  case refine_2 => (intro wz hSw; (try dsimp only at hSw); obtain ⟨hS0, hS2, hS1⟩ := hSw; clear hS1; go_simp <;> with_reducible rfl)
                  try simp only [Act.put, List.setIfInBounds_toArray, List.set_cons_zero, List.set_cons_succ]
                  refine wpAnyH_take (i := 4) (oi := { dst := some 69, op := Go.Op.move (Go.Operand.tmp 68), type := 4, pos := "law.go:195", after := #[{ on := 3, ground := Go.Ground.data }], guard := none }) (v := ?_) rfl (by kernel_rfl) (by kernel_rfl) (by kernel_rfl) (fun _ _ _ h => h) (Or.inl ⟨by rfl, ?_⟩) hHeld ?_
                  case refine_2 => (intro wz hSw; (try dsimp only at hSw); obtain ⟨hS0, hS2, hS1⟩ := hSw; clear hS1; go_simp <;> with_reducible rfl)
                  try simp only [Act.put, List.setIfInBounds_toArray, List.set_cons_zero, List.set_cons_succ]
                  refine wpAnyH_take (i := 5) (oi := { dst := some 70, op := Go.Op.move (Go.Operand.tmp 11), type := 3, pos := "law.go:195", after := #[{ on := 4, ground := Go.Ground.guard }], guard := some (4, true) }) (v := ?_) rfl (by kernel_rfl) (by kernel_rfl) (by kernel_rfl) (fun _ _ _ h => h) (Or.inl ⟨by rfl, ?_⟩) hHeld ?_
                  case refine_2 => (intro wz hSw; (try dsimp only at hSw); obtain ⟨hS0, hS2, hS1⟩ := hSw; clear hS1; go_simp <;> with_reducible rfl)
                  try simp only [Act.put, List.setIfInBounds_toArray, List.set_cons_zero, List.set_cons_succ]
                  refine wpAnyH_take (i := 6) (oi := { dst := some 71, op := Go.Op.indexAddr 33 (Go.Operand.tmp 2) (Go.Operand.tmp 70), type := 0, pos := "law.go:195", after := #[{ on := 5, ground := Go.Ground.data }, { on := 4, ground := Go.Ground.guard }], guard := some (4, true) }) (v := ?_) rfl (by kernel_rfl) (by kernel_rfl) (by kernel_rfl) (fun _ _ _ h => h) (Or.inl ⟨by rfl, ?_⟩) hHeld ?_
                  case refine_2 => (intro wz hSw; (try dsimp only at hSw); obtain ⟨hS0, hS2, hS1⟩ := hSw; clear hS1; go_simp <;> with_reducible rfl)
                  try simp only [Act.put, List.setIfInBounds_toArray, List.set_cons_zero, List.set_cons_succ]
                  refine wpAnyH_take (i := 7) (oi := { dst := some 72, op := Go.Op.load 9 (Go.Operand.tmp 71), type := 9, pos := "law.go:195", after := #[{ on := 6, ground := Go.Ground.data }, { on := 4, ground := Go.Ground.guard }], guard := some (4, true) }) (v := ?_) rfl (by kernel_rfl) (by kernel_rfl) (by kernel_rfl) (fun _ _ _ h => h) (Or.inl ⟨by rfl, ?_⟩) hHeld ?_
                  case refine_2 => (intro wz hSw; (try dsimp only at hSw); obtain ⟨hS0, hS2, hS1⟩ := hSw; clear hS1; go_simp <;> with_reducible rfl)
                  try simp only [Act.put, List.setIfInBounds_toArray, List.set_cons_zero, List.set_cons_succ]
                  refine wpAnyH_take (i := 8) (oi := { dst := some 73, op := Go.Op.call { callee := Go.Callee.builtin Go.Builtin.len, args := #[Go.Operand.tmp 72], argTypes := #[9] }, type := 3, pos := "law.go:195", after := #[{ on := 7, ground := Go.Ground.data }, { on := 4, ground := Go.Ground.guard }], guard := some (4, true) }) (v := ?_) rfl (by kernel_rfl) (by kernel_rfl) (by kernel_rfl) (fun _ _ _ h => h) (Or.inl ⟨by rfl, ?_⟩) hHeld ?_
                  case refine_2 => (intro wz hSw; (try dsimp only at hSw); obtain ⟨hS0, hS2, hS1⟩ := hSw; clear hS1; go_simp <;> with_reducible rfl)
                  try simp only [Act.put, List.setIfInBounds_toArray, List.set_cons_zero, List.set_cons_succ]
                  refine wpAnyH_take (i := 9) (oi := { dst := some 74, op := Go.Op.move (Go.Operand.tmp 1), type := 9, pos := "law.go:195", after := #[{ on := 4, ground := Go.Ground.guard }], guard := some (4, true) }) (v := ?_) rfl (by kernel_rfl) (by kernel_rfl) (by kernel_rfl) (fun _ _ _ h => h) (Or.inl ⟨by rfl, ?_⟩) hHeld ?_
                  case refine_2 => (intro wz hSw; (try dsimp only at hSw); obtain ⟨hS0, hS2, hS1⟩ := hSw; clear hS1; go_simp <;> with_reducible rfl)
                  try simp only [Act.put, List.setIfInBounds_toArray, List.set_cons_zero, List.set_cons_succ]
                  refine wpAnyH_take (i := 10) (oi := { dst := some 75, op := Go.Op.call { callee := Go.Callee.builtin Go.Builtin.len, args := #[Go.Operand.tmp 74], argTypes := #[9] }, type := 3, pos := "law.go:195", after := #[{ on := 9, ground := Go.Ground.data }, { on := 4, ground := Go.Ground.guard }], guard := some (4, true) }) (v := ?_) rfl (by kernel_rfl) (by kernel_rfl) (by kernel_rfl) (fun _ _ _ h => h) (Or.inl ⟨by rfl, ?_⟩) hHeld ?_
                  case refine_2 => (intro wz hSw; (try dsimp only at hSw); obtain ⟨hS0, hS2, hS1⟩ := hSw; clear hS1; go_simp <;> with_reducible rfl)
                  try simp only [Act.put, List.setIfInBounds_toArray, List.set_cons_zero, List.set_cons_succ]
                  refine wpAnyH_take (i := 11) (oi := { dst := some 76, op := Go.Op.move (Go.Operand.tmp 9), type := 3, pos := "law.go:195", after := #[{ on := 4, ground := Go.Ground.guard }], guard := some (4, true) }) (v := ?_) rfl (by kernel_rfl) (by kernel_rfl) (by kernel_rfl) (fun _ _ _ h => h) (Or.inl ⟨by rfl, ?_⟩) hHeld ?_
                  case refine_2 => (intro wz hSw; (try dsimp only at hSw); obtain ⟨hS0, hS2, hS1⟩ := hSw; clear hS1; go_simp <;> with_reducible rfl)
                  try simp only [Act.put, List.setIfInBounds_toArray, List.set_cons_zero, List.set_cons_succ]
                  refine wpAnyH_take (i := 12) (oi := { dst := some 77, op := Go.Op.binOp Go.BinOp.sub 3 (Go.Operand.tmp 75) (Go.Operand.tmp 76) 3, type := 3, pos := "law.go:195", after := #[{ on := 10, ground := Go.Ground.data }, { on := 11, ground := Go.Ground.data }, { on := 4, ground := Go.Ground.guard }], guard := some (4, true) }) (v := ?_) rfl (by kernel_rfl) (by kernel_rfl) (by kernel_rfl) (fun _ _ _ h => h) (Or.inl ⟨by rfl, ?_⟩) hHeld ?_
                  case refine_2 => (intro wz hSw; (try dsimp only at hSw); obtain ⟨hS0, hS2, hS1⟩ := hSw; clear hS1; go_simp <;> with_reducible rfl)
                  try simp only [Act.put, List.setIfInBounds_toArray, List.set_cons_zero, List.set_cons_succ]
                  refine wpAnyH_take (i := 13) (oi := { dst := some 78, op := Go.Op.binOp Go.BinOp.leq 3 (Go.Operand.tmp 73) (Go.Operand.tmp 77) 3, type := 4, pos := "law.go:195", after := #[{ on := 8, ground := Go.Ground.data }, { on := 12, ground := Go.Ground.data }, { on := 4, ground := Go.Ground.guard }], guard := some (4, true) }) (v := ?_) rfl (by kernel_rfl) (by kernel_rfl) (by kernel_rfl) (fun _ _ _ h => h) (Or.inl ⟨by rfl, ?_⟩) hHeld ?_
                  case refine_2 => (intro wz hSw; (try dsimp only at hSw); obtain ⟨hS0, hS2, hS1⟩ := hSw; clear hS1; go_simp <;> with_reducible rfl)
                  try simp only [Act.put, List.setIfInBounds_toArray, List.set_cons_zero, List.set_cons_succ]
                  refine wpAnyH_take (i := 14) (oi := { dst := some 79, op := Go.Op.pick (Go.Operand.tmp 69) (Go.Operand.tmp 78) (Go.Operand.const (Go.Value.bool false)), type := 4, pos := "law.go:195", after := #[{ on := 4, ground := Go.Ground.data }, { on := 13, ground := Go.Ground.data }], guard := none }) (v := ?_) rfl (by kernel_rfl) (by kernel_rfl) (by kernel_rfl) (fun _ _ _ h => h) (Or.inl ⟨by rfl, ?_⟩) hHeld ?_
                  case refine_2 => (intro wz hSw; (try dsimp only at hSw); obtain ⟨hS0, hS2, hS1⟩ := hSw; clear hS1; go_simp <;> with_reducible rfl)
                  try simp only [Act.put, List.setIfInBounds_toArray, List.set_cons_zero, List.set_cons_succ]
                  refine wpAnyH_take (i := 15) (oi := { dst := some 80, op := Go.Op.move (Go.Operand.tmp 79), type := 4, pos := "law.go:195", after := #[{ on := 14, ground := Go.Ground.data }, { on := 4, ground := Go.Ground.chain }], guard := none }) (v := ?_) rfl (by kernel_rfl) (by kernel_rfl) (by kernel_rfl) (fun _ _ _ h => h) (Or.inl ⟨by rfl, ?_⟩) hHeld ?_
                  case refine_2 => (intro wz hSw; (try dsimp only at hSw); obtain ⟨hS0, hS2, hS1⟩ := hSw; clear hS1; go_simp <;> with_reducible rfl)
                  try simp only [Act.put, List.setIfInBounds_toArray, List.set_cons_zero, List.set_cons_succ]
                  refine wpAnyH_take (i := 16) (oi := { dst := some 81, op := Go.Op.move (Go.Operand.tmp 1), type := 9, pos := "law.go:195", after := #[{ on := 15, ground := Go.Ground.guard }], guard := some (15, true) }) (v := undef) rfl (by kernel_rfl) (by kernel_rfl) (by kernel_rfl) (fun _ _ _ h => h) (Or.inr ⟨by rfl, rfl⟩) hHeld ?_
                  try simp only [Act.put, List.setIfInBounds_toArray, List.set_cons_zero, List.set_cons_succ]
                  refine wpAnyH_take (i := 17) (oi := { dst := some 82, op := Go.Op.move (Go.Operand.tmp 9), type := 3, pos := "law.go:195", after := #[{ on := 15, ground := Go.Ground.guard }], guard := some (15, true) }) (v := undef) rfl (by kernel_rfl) (by kernel_rfl) (by kernel_rfl) (fun _ _ _ h => h) (Or.inr ⟨by rfl, rfl⟩) hHeld ?_
                  try simp only [Act.put, List.setIfInBounds_toArray, List.set_cons_zero, List.set_cons_succ]
                  refine wpAnyH_take (i := 18) (oi := { dst := some 83, op := Go.Op.move (Go.Operand.tmp 9), type := 3, pos := "law.go:195", after := #[{ on := 15, ground := Go.Ground.guard }], guard := some (15, true) }) (v := undef) rfl (by kernel_rfl) (by kernel_rfl) (by kernel_rfl) (fun _ _ _ h => h) (Or.inr ⟨by rfl, rfl⟩) hHeld ?_
                  try simp only [Act.put, List.setIfInBounds_toArray, List.set_cons_zero, List.set_cons_succ]
                  refine wpAnyH_take (i := 19) (oi := { dst := some 84, op := Go.Op.move (Go.Operand.tmp 11), type := 3, pos := "law.go:195", after := #[{ on := 15, ground := Go.Ground.guard }], guard := some (15, true) }) (v := undef) rfl (by kernel_rfl) (by kernel_rfl) (by kernel_rfl) (fun _ _ _ h => h) (Or.inr ⟨by rfl, rfl⟩) hHeld ?_
                  try simp only [Act.put, List.setIfInBounds_toArray, List.set_cons_zero, List.set_cons_succ]
                  refine wpAnyH_take (i := 20) (oi := { dst := some 85, op := Go.Op.indexAddr 33 (Go.Operand.tmp 2) (Go.Operand.tmp 84), type := 0, pos := "law.go:195", after := #[{ on := 19, ground := Go.Ground.data }, { on := 15, ground := Go.Ground.guard }], guard := some (15, true) }) (v := undef) rfl (by kernel_rfl) (by kernel_rfl) (by kernel_rfl) (fun _ _ _ h => h) (Or.inr ⟨by rfl, rfl⟩) hHeld ?_
                  try simp only [Act.put, List.setIfInBounds_toArray, List.set_cons_zero, List.set_cons_succ]
                  refine wpAnyH_take (i := 21) (oi := { dst := some 86, op := Go.Op.load 9 (Go.Operand.tmp 85), type := 9, pos := "law.go:195", after := #[{ on := 20, ground := Go.Ground.data }, { on := 15, ground := Go.Ground.guard }], guard := some (15, true) }) (v := undef) rfl (by kernel_rfl) (by kernel_rfl) (by kernel_rfl) (fun _ _ _ h => h) (Or.inr ⟨by rfl, rfl⟩) hHeld ?_
                  try simp only [Act.put, List.setIfInBounds_toArray, List.set_cons_zero, List.set_cons_succ]
                  refine wpAnyH_take (i := 22) (oi := { dst := some 87, op := Go.Op.call { callee := Go.Callee.builtin Go.Builtin.len, args := #[Go.Operand.tmp 86], argTypes := #[9] }, type := 3, pos := "law.go:195", after := #[{ on := 21, ground := Go.Ground.data }, { on := 15, ground := Go.Ground.guard }], guard := some (15, true) }) (v := undef) rfl (by kernel_rfl) (by kernel_rfl) (by kernel_rfl) (fun _ _ _ h => h) (Or.inr ⟨by rfl, rfl⟩) hHeld ?_
                  try simp only [Act.put, List.setIfInBounds_toArray, List.set_cons_zero, List.set_cons_succ]
                  refine wpAnyH_take (i := 23) (oi := { dst := some 88, op := Go.Op.binOp Go.BinOp.add 3 (Go.Operand.tmp 83) (Go.Operand.tmp 87) 3, type := 3, pos := "law.go:195", after := #[{ on := 18, ground := Go.Ground.data }, { on := 22, ground := Go.Ground.data }, { on := 15, ground := Go.Ground.guard }], guard := some (15, true) }) (v := undef) rfl (by kernel_rfl) (by kernel_rfl) (by kernel_rfl) (fun _ _ _ h => h) (Or.inr ⟨by rfl, rfl⟩) hHeld ?_
                  try simp only [Act.put, List.setIfInBounds_toArray, List.set_cons_zero, List.set_cons_succ]
                  refine wpAnyH_take (i := 24) (oi := { dst := some 89, op := Go.Op.slice 9 (Go.Operand.tmp 81) (some (Go.Operand.tmp 82)) (some (Go.Operand.tmp 88)) none, type := 9, pos := "law.go:195", after := #[{ on := 16, ground := Go.Ground.data }, { on := 17, ground := Go.Ground.data }, { on := 23, ground := Go.Ground.data }, { on := 15, ground := Go.Ground.guard }], guard := some (15, true) }) (v := undef) rfl (by kernel_rfl) (by kernel_rfl) (by kernel_rfl) (fun _ _ _ h => h) (Or.inr ⟨by rfl, rfl⟩) hHeld ?_
                  try simp only [Act.put, List.setIfInBounds_toArray, List.set_cons_zero, List.set_cons_succ]
                  refine wpAnyH_take (i := 25) (oi := { dst := some 90, op := Go.Op.move (Go.Operand.tmp 11), type := 3, pos := "law.go:195", after := #[{ on := 15, ground := Go.Ground.guard }], guard := some (15, true) }) (v := undef) rfl (by kernel_rfl) (by kernel_rfl) (by kernel_rfl) (fun _ _ _ h => h) (Or.inr ⟨by rfl, rfl⟩) hHeld ?_
                  try simp only [Act.put, List.setIfInBounds_toArray, List.set_cons_zero, List.set_cons_succ]
                  refine wpAnyH_take (i := 26) (oi := { dst := some 91, op := Go.Op.indexAddr 33 (Go.Operand.tmp 2) (Go.Operand.tmp 90), type := 0, pos := "law.go:195", after := #[{ on := 25, ground := Go.Ground.data }, { on := 15, ground := Go.Ground.guard }], guard := some (15, true) }) (v := undef) rfl (by kernel_rfl) (by kernel_rfl) (by kernel_rfl) (fun _ _ _ h => h) (Or.inr ⟨by rfl, rfl⟩) hHeld ?_
                  try simp only [Act.put, List.setIfInBounds_toArray, List.set_cons_zero, List.set_cons_succ]
                  refine wpAnyH_take (i := 27) (oi := { dst := some 92, op := Go.Op.load 9 (Go.Operand.tmp 91), type := 9, pos := "law.go:195", after := #[{ on := 26, ground := Go.Ground.data }, { on := 15, ground := Go.Ground.guard }], guard := some (15, true) }) (v := undef) rfl (by kernel_rfl) (by kernel_rfl) (by kernel_rfl) (fun _ _ _ h => h) (Or.inr ⟨by rfl, rfl⟩) hHeld ?_
                  try simp only [Act.put, List.setIfInBounds_toArray, List.set_cons_zero, List.set_cons_succ]
                  refine wpAnyH_take (i := 28) (oi := { dst := some 93, op := Go.Op.binOp Go.BinOp.eql 9 (Go.Operand.tmp 89) (Go.Operand.tmp 92) 9, type := 4, pos := "law.go:195", after := #[{ on := 24, ground := Go.Ground.data }, { on := 27, ground := Go.Ground.data }, { on := 15, ground := Go.Ground.guard }], guard := some (15, true) }) (v := undef) rfl (by kernel_rfl) (by kernel_rfl) (by kernel_rfl) (fun _ _ _ h => h) (Or.inr ⟨by rfl, rfl⟩) hHeld ?_
                  try simp only [Act.put, List.setIfInBounds_toArray, List.set_cons_zero, List.set_cons_succ]
                  refine wpAnyH_take (i := 29) (oi := { dst := some 94, op := Go.Op.pick (Go.Operand.tmp 80) (Go.Operand.tmp 93) (Go.Operand.const (Go.Value.bool false)), type := 4, pos := "law.go:195", after := #[{ on := 15, ground := Go.Ground.data }, { on := 28, ground := Go.Ground.data }], guard := none }) (v := ?_) rfl (by kernel_rfl) (by kernel_rfl) (by kernel_rfl) (fun _ _ _ h => h) (Or.inl ⟨by rfl, ?_⟩) hHeld ?_
                  case refine_2 => (intro wz hSw; (try dsimp only at hSw); obtain ⟨hS0, hS2, hS1⟩ := hSw; clear hS1; go_simp <;> with_reducible rfl)
                  try simp only [Act.put, List.setIfInBounds_toArray, List.set_cons_zero, List.set_cons_succ]
                  refine wpAnyH_done (by kernel_rfl) ?_ _
                  have HGS2 := Lib.hid hHeld.2.2.1
                  have HB2 := Lib.hid hHeld.2.2.2
                  clear hHeld
                  go_wp2
                  go_roundw
                  case rel =>
                    refine ⟨_, rfl, ?_, HGS2.out, HB2.out⟩
                    have hv2 := hitV_no HV.out (hit_long g s p m hn)
                    cases m with
                    | zero => exact .inr ⟨rfl, hv2⟩
                    | succ m => exact .inl ⟨m, by omega, by go_num, hv2⟩
                  case measure => (try simp [intOf]) <;> (try omega)
            · rcases hitV_end hv with ⟨rfl, ho⟩ | ⟨d, rfl, hd10, ho⟩
              · have HO := Lib.hid ho
                clear ho hv
                have hrd := HRD.out
                rw [rdG_no HO.out] at hrd
                simp only [List.append_nil, Nat.add_zero] at hrd
                have HRD2 := Lib.hid hrd
                clear hrd
                have G0 := HGS
                have B0 := HB
                clear HGS HB
                obtain ⟨q0, q1, q2, q3, q4, q5, q6, q7, q8, q9⟩ := G0.out.all
                go_wp2_with fail
                with_reducible refine (read_as g s _ HG3.out (by omega) _ _ HRD2.out).mono ?_
                rintro e w1 ⟨rfl, b1⟩
                clear q0 q1 q2 q3 q4 q5 q6 q7 q8 q9
                have B1 := Lib.hid (B0.out.trans (b1.mono B0.out.size))
                have G1 := Lib.hid (G0.out.below (B := World.heap _ |>.size) G0.out.1 b1 b1.size)
                clear G0
                clear b1 B0
                have HVB : Hid (validG g = okTo g 10) := Lib.hid rfl
                cases hb10 : okTo g 10 with
                | false =>
                  rw [hb10] at HVB
                  obtain ⟨q0, q1, q2, q3, q4, q5, q6, q7, q8, q9⟩ := G1.out.all
                  go_wp2_with fail
                  with_reducible refine (gvalid_as g _ (HT.out.below B1.out) HG3.out false HVB.out).mono ?_
                  rintro e w2 ⟨rfl, b2⟩
                  clear q0 q1 q2 q3 q4 q5 q6 q7 q8 q9
                  have B2 := Lib.hid (B1.out.trans (b2.mono B1.out.size))
                  have G2 := Lib.hid (G1.out.below (B := World.heap _ |>.size) G1.out.1 b2 b2.size)
                  clear G1
                  clear b2 B1
                  obtain ⟨q0, q1, q2, q3, q4, q5, q6, q7, q8, q9⟩ := G2.out.all
                  go_wp2_with fail
                  with_reducible refine (plain_as _).mono ?_
                  rintro e w3 ⟨rfl, b3⟩
                  clear q0 q1 q2 q3 q4 q5 q6 q7 q8 q9
                  have B3 := Lib.hid (B2.out.trans (b3.mono B2.out.size))
                  have G3 := Lib.hid (G2.out.below (B := World.heap _ |>.size) G2.out.1 b3 b3.size)
                  clear G2
                  clear b3 B2
                  obtain ⟨q0, q1, q2, q3, q4, q5, q6, q7, q8, q9⟩ := G3.out.all
                  go_wp2_with fail
                  with_reducible refine (gvalid_as plainG _ (HT.out.below B3.out) plain_size true ex_valid).mono ?_
                  rintro e w4 ⟨rfl, b4⟩
                  clear q0 q1 q2 q3 q4 q5 q6 q7 q8 q9
                  have B4 := Lib.hid (B3.out.trans (b4.mono B3.out.size))
                  have G4 := Lib.hid (G3.out.below (B := World.heap _ |>.size) G3.out.1 b4 b4.size)
                  clear G3
                  clear b4 B3
                  obtain ⟨q0, q1, q2, q3, q4, q5, q6, q7, q8, q9⟩ := G4.out.all
                  go_wp2_with fail
                  with_reducible refine (plain_as _).mono ?_
                  rintro e w5 ⟨rfl, b5⟩
                  clear q0 q1 q2 q3 q4 q5 q6 q7 q8 q9
                  have B5 := Lib.hid (B4.out.trans (b5.mono B4.out.size))
                  have G5 := Lib.hid (G4.out.below (B := World.heap _ |>.size) G4.out.1 b5 b5.size)
                  clear G4
                  clear b5 B4
                  obtain ⟨q0, q1, q2, q3, q4, q5, q6, q7, q8, q9⟩ := G5.out.all
                  go_wp2_with fail
                  with_reducible refine (write_ex _).mono ?_
                  rintro e w6 ⟨rfl, b6⟩
                  clear q0 q1 q2 q3 q4 q5 q6 q7 q8 q9
                  have B6 := Lib.hid (B5.out.trans (b6.mono B5.out.size))
                  have G6 := Lib.hid (G5.out.below (B := World.heap _ |>.size) G5.out.1 b6 b6.size)
                  clear G5
                  clear b6 B5
                  go_wp2
                  go_ret
                  exact ⟨rfl, B6.out⟩
                | true =>
                  rw [hb10] at HVB
                  obtain ⟨q0, q1, q2, q3, q4, q5, q6, q7, q8, q9⟩ := G1.out.all
                  go_wp2_with fail
                  with_reducible refine (gvalid_as g _ (HT.out.below B1.out) HG3.out true HVB.out).mono ?_
                  rintro e w2 ⟨rfl, b2⟩
                  clear q0 q1 q2 q3 q4 q5 q6 q7 q8 q9
                  have B2 := Lib.hid (B1.out.trans (b2.mono B1.out.size))
                  have G2 := Lib.hid (G1.out.below (B := World.heap _ |>.size) G1.out.1 b2 b2.size)
                  clear G1
                  clear b2 B1
                  obtain ⟨q0, q1, q2, q3, q4, q5, q6, q7, q8, q9⟩ := G2.out.all
                  go_wp2_with fail
                  with_reducible refine (plain_as _).mono ?_
                  rintro e w3 ⟨rfl, b3⟩
                  clear q0 q1 q2 q3 q4 q5 q6 q7 q8 q9
                  have B3 := Lib.hid (B2.out.trans (b3.mono B2.out.size))
                  have G3 := Lib.hid (G2.out.below (B := World.heap _ |>.size) G2.out.1 b3 b3.size)
                  clear G2
                  clear b3 B2
                  obtain ⟨q0, q1, q2, q3, q4, q5, q6, q7, q8, q9⟩ := G3.out.all
                  go_wp2_with fail
                  with_reducible refine (gvalid_as plainG _ (HT.out.below B3.out) plain_size true ex_valid).mono ?_
                  rintro e w4 ⟨rfl, b4⟩
                  clear q0 q1 q2 q3 q4 q5 q6 q7 q8 q9
                  have B4 := Lib.hid (B3.out.trans (b4.mono B3.out.size))
                  have G4 := Lib.hid (G3.out.below (B := World.heap _ |>.size) G3.out.1 b4 b4.size)
                  clear G3
                  clear b4 B3
                  obtain ⟨q0, q1, q2, q3, q4, q5, q6, q7, q8, q9⟩ := G4.out.all
                  go_wp2_with fail
                  with_reducible refine (plain_as _).mono ?_
                  rintro e w5 ⟨rfl, b5⟩
                  clear q0 q1 q2 q3 q4 q5 q6 q7 q8 q9
                  have B5 := Lib.hid (B4.out.trans (b5.mono B4.out.size))
                  have G5 := Lib.hid (G4.out.below (B := World.heap _ |>.size) G4.out.1 b5 b5.size)
                  clear G4
                  clear b5 B4
                  obtain ⟨q0, q1, q2, q3, q4, q5, q6, q7, q8, q9⟩ := G5.out.all
                  go_wp2_with fail
                  with_reducible refine (write_ex _).mono ?_
                  rintro e w6 ⟨rfl, b6⟩
                  clear q0 q1 q2 q3 q4 q5 q6 q7 q8 q9
                  have B6 := Lib.hid (B5.out.trans (b6.mono B5.out.size))
                  have G6 := Lib.hid (G5.out.below (B := World.heap _ |>.size) G5.out.1 b6 b6.size)
                  clear G5
                  clear b6 B5
                  go_wp2
                  go_ret
                  exact ⟨rfl, B6.out⟩
              · have HO := Lib.hid ho
                have HL := Lib.hid (hit_len (oneG_hit ho).2.1)
                clear ho hv
                have hdi : ¬ (d : Int) < 0 := by omega
                have hd10i : (d : Int) < 10 := by omega
                have hcd := HGS.out.2 d hd10
                have h20d := H20.out d hd10
                have hcv := fun w_ => conv1 w_ (Florin.u8 (48 + d)) (48 + (d : Int)) (by rw [u8_toNat (by omega)]; omega)
                have hcv1 := hcv wr
                clear hcv
                have hzz := arr_size acc
                have hl1 := HL.out.2.1
                rw [List.length_drop, size_list] at hl1
                have hl0 := HL.out.1
                have G2 := Lib.hid (HGS.out.below (B := wr.heap.size) HGS.out.1 ((Below.refl _ _).alloc (Nat.le_refl _) (.cells #[.int .u8 (48 + (d : Int))] 5)) (by simp))
                have hcd2 := G2.out.2 d hd10
                go_wp2
                go_roundw
                case rel =>
                  have hr := rdG_at HO.out
                  rw [List.drop_drop] at hr
                  refine ⟨p + (g d).size, acc ++ [Florin.u8 (48 + d)], by omega, by rw [List.length_append]; simp; omega, by go_num, by rw [show ((⟨#[Florin.u8 (48 + d)]⟩ : ByteArray)) = ⟨[Florin.u8 (48 + d)].toArray⟩ from rfl, arr_append], ?_, G2.out, HB.out.alloc HB.out.size _⟩
                  rw [HRD.out, hr]
                  simp
                  omega
                case measure => simp [intOf]; omega
theorem glyphReads_walk (g : Nat → ByteArray) (s : ByteArray) (W : World) (w0 : ∀ k, k < 10 → (g k).size ≤ maxLen) (w1 : s.size ≤ maxLen) (hT : Tabs W) :
    Calls Tryd.prog 6 #[SV g, .string s] W fun e w' => e = .returned (.bool true) ∧ Below W.heap.size W w' := by
  have := reads_main (cutG g) s W (fun k hk => by unfold cutG; rw [if_pos hk]; exact w0 k hk) (fun k hk => by unfold cutG; rw [if_neg (by omega)]; exact Nat.zero_le _) w1 hT
  rw [cut_sv] at this
  exact this
end Go.Proofs.YtcdjclidckohpaaDoor
