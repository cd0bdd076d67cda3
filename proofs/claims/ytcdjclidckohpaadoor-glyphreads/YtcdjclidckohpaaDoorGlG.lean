/- Sets of signs that are valid; the digits themselves. -/
import Derived.Test.YtcdjclidckohpaaDoorGlF
namespace Go.Proofs.YtcdjclidckohpaaDoor
open Go.RowKit Florin
set_option linter.unusedVariables false
set_option linter.unusedSimpArgs false
/-- A sign is none of those ahead of it. -/
def newG (g : Nat → ByteArray) (d : Nat) : Bool := (List.range d).all fun j => (g j).data.toList != (g d).data.toList
def okG (g : Nat → ByteArray) (d : Nat) : Bool := oneL (g d).data.toList && newG g d
def validG (g : Nat → ByteArray) : Bool := (List.range 10).all (okG g)
theorem bytes_inj {a b : ByteArray} : a.data.toList = b.data.toList ↔ a = b := by
  constructor
  · intro h
    cases a; cases b
    simpa using h
  · rintro rfl; rfl
theorem cont_new (g : Nat → ByteArray) (d : Nat) (hd : d ≤ 10) : Lib.containsS (((List.range 10).map g).take d) (g d) = !newG g d := by
  rw [Bool.eq_iff_iff, Lib.containsS_iff, ← List.map_take, List.take_range, Nat.min_eq_left hd]
  unfold newG
  simp only [Bool.not_eq_true', List.all_eq_false, List.mem_map, List.mem_range]
  constructor
  · rintro ⟨j, hj, e⟩
    exact ⟨j, hj, by simp [e]⟩
  · rintro ⟨j, hj, e⟩
    refine ⟨j, hj, bytes_inj.1 ?_⟩
    simpa using e
theorem cont_as (g : Nat → ByteArray) (b d : Nat) (hd : d ≤ 10) (w : World) (h : Gs w b g) (c : Bool) (hc : (!newG g d) = c) :
    Calls Tryd.prog 31 #[.slice (some ⟨b, 0, none⟩) d 10, .string (g d)] w fun e w' => e = .returned (.bool c) ∧ w' = w := by
  have := Tryd.slices_Contains_string b 0 d 10 ((List.range 10).map g) (g d) w (by simpa using hd) (by omega) (fun j hj => by
    have hj2 : j < 10 := by simpa using hj
    rw [Nat.zero_add, h.2 j hj2]
    simp [List.getD_eq_getElem?_getD, hj2])
  rw [cont_new g d hd, hc] at this
  exact this
theorem slice_g (b k : Nat) (hk : k ≤ 10) (w : World) : (Instr.sliceAt 33 (.pointer (some ⟨b, 0, none⟩)) none (some (.int .i64 (k : Int))) none).run Tryd.prog w = .ok (.slice (some ⟨b, 0, none⟩) k 10) w := by
  have hn : Tryd.prog.arrayLen 33 = 10 := by kernel_rfl
  have he : Tryd.prog.elem 33 = 9 := by kernel_rfl
  rw [run_sliceAt_array_h w 33 ⟨b, 0, none⟩ (by rw [hn, he]; exact Tryd.underlying33) .i64 (k : Int) (by omega) (by rw [hn]; omega), he, Tryd.sizeOf9 w]
  simp [slicedAt, hn, Result.andThen, Addr.add]
set_option maxHeartbeats 1600000 in
set_option maxRecDepth 100000 in
theorem gvalid_as (g : Nat → ByteArray) (w : World) (hT : Tabs w) (hg : ∀ k, (g k).size ≤ 1000) (r : Bool) (hr : validG g = r) :
    Calls Tryd.prog 19 #[SV g] w fun e w' => e = .returned (.bool r) ∧ Below w.heap.size w w' := by
  have HR := Lib.hid hr
  have HG := Lib.hid hg
  have HT := Lib.hid hT
  clear hr hg hT
  go_enter Tryd.func19, Tryd.ntmps19
  go_wp2_with fail
  go_loopw [4] (fun i wr => ∃ k : Nat, k ≤ 10 ∧ i = .int .i64 k ∧ Gs wr w.heap.size g ∧ (∀ j, j < k → okG g j = true) ∧ Below w.heap.size w wr) (fun i _ => 10 - (intOf i).toNat)
  case atStart => exact ⟨0, Nat.zero_le _, rfl, Gs.new w g 33, fun j hj => absurd hj (by omega), (Below.refl _ _).alloc (Nat.le_refl _) _⟩
  case round =>
    obtain ⟨k, hk, rfl, hgs, hj, hb⟩ := hrel
    have HGS := Lib.hid hgs
    have HJ := Lib.hid hj
    have HB := Lib.hid hb
    clear hj hb hgs
    by_cases hlt : (k : Int) < 10
    · cases h1 : oneL (g k).data.toList with
      | false =>
        have H1 := Lib.hid h1
        clear h1
        go_wp2_with fail
        refine wp_region_held_drew (S := fun w' => w'.cell? ⟨w.heap.size, k, none⟩ = some (.string (g k)) ∧ (Gs w' w.heap.size g ∧ Below wr.heap.size wr w')) (by kernel_rfl) ⟨HGS.out.2 k (by omega), HGS.out, (Below.refl _ _).drew⟩ (fun hHeld => ?_)
        refine wpAnyH_take (i := 0) (oi := { dst := some 7, op := Go.Op.move (Go.Operand.tmp 3), type := 3, pos := "glyph.go:41", after := #[], guard := none }) (v := ?_) rfl (by kernel_rfl) (by kernel_rfl) (by kernel_rfl) (fun _ _ _ h => h) (Or.inl ⟨by rfl, ?_⟩) hHeld ?_
        case refine_2 => (intro wz hSw; (try dsimp only at hSw); obtain ⟨hS0, hS1⟩ := hSw; (try (obtain ⟨q0, q1, q2, q3, q4, q5, q6, q7, q8, q9⟩ := hS0)); clear hS1; go_simp <;> with_reducible rfl)
        try simp only [Act.put, List.setIfInBounds_toArray, List.set_cons_zero, List.set_cons_succ]
        refine wpAnyH_take (i := 1) (oi := { dst := some 8, op := Go.Op.indexAddr 33 (Go.Operand.tmp 1) (Go.Operand.tmp 7), type := 0, pos := "glyph.go:41", after := #[{ on := 0, ground := Go.Ground.data }], guard := none }) (v := ?_) rfl (by kernel_rfl) (by kernel_rfl) (by kernel_rfl) (fun _ _ _ h => h) (Or.inl ⟨by rfl, ?_⟩) hHeld ?_
        case refine_2 => (intro wz hSw; (try dsimp only at hSw); obtain ⟨hS0, hS1⟩ := hSw; (try (obtain ⟨q0, q1, q2, q3, q4, q5, q6, q7, q8, q9⟩ := hS0)); clear hS1; go_simp <;> with_reducible rfl)
        try simp only [Act.put, List.setIfInBounds_toArray, List.set_cons_zero, List.set_cons_succ]
        refine wpAnyH_take (i := 2) (oi := { dst := some 9, op := Go.Op.load 9 (Go.Operand.tmp 8), type := 9, pos := "glyph.go:41", after := #[{ on := 1, ground := Go.Ground.data }], guard := none }) (v := ?_) rfl (by kernel_rfl) (by kernel_rfl) (by kernel_rfl) (fun _ _ _ h => h) (Or.inl ⟨by rfl, ?_⟩) hHeld ?_
        case refine_2 => (intro wz hSw; (try dsimp only at hSw); obtain ⟨hS0, hS1⟩ := hSw; (try (obtain ⟨q0, q1, q2, q3, q4, q5, q6, q7, q8, q9⟩ := hS0)); clear hS1; go_simp <;> with_reducible rfl)
        try simp only [Act.put, List.setIfInBounds_toArray, List.set_cons_zero, List.set_cons_succ]
        refine wpAnyH_ready (rs := [3]) (by kernel_rfl) (by simp) ?_
        refine AllReadyH.cons (o := { dst := some 10, op := Go.Op.call { callee := Go.Callee.value (Go.Operand.func 13), args := #[Go.Operand.tmp 9], argTypes := #[9] }, type := 4, pos := "glyph.go:41", after := #[{ on := 2, ground := Go.Ground.data }], guard := none }) rfl (fun KK hK => ?_) AllReadyH.nil
        go_simp
        with_reducible refine (one_as _ _ (HT.out.below (HB.out.trans (hHeld.2.2.mono HB.out.size))) (by have := HG.out k; omega) _ H1.out).mono ?_
        rintro x_ w5 ⟨rfl, hb⟩
        go_wp2_with fail
        refine hK.out _ _ ⟨(hHeld.2.1.below (B := wr.heap.size) HGS.out.1 (hb.mono hHeld.2.2.size) hb.size).2 k (by omega), hHeld.2.1.below (B := wr.heap.size) HGS.out.1 (hb.mono hHeld.2.2.size) hb.size, hHeld.2.2.trans (hb.mono hHeld.2.2.size)⟩ (fun hHeld2 => ?_)
        clear hK hHeld
        have hHeld := hHeld2
        clear hHeld2
        try simp only [Act.put, List.setIfInBounds_toArray, List.set_cons_zero, List.set_cons_succ]
        refine wpAnyH_take (i := 4) (oi := { dst := some 11, op := Go.Op.unOp Go.UnOp.not 4 (Go.Operand.tmp 10), type := 4, pos := "glyph.go:41", after := #[{ on := 3, ground := Go.Ground.data }], guard := none }) (v := ?_) rfl (by kernel_rfl) (by kernel_rfl) (by kernel_rfl) (fun _ _ _ h => h) (Or.inl ⟨by rfl, ?_⟩) hHeld ?_
        case refine_2 => (intro wz hSw; (try dsimp only at hSw); obtain ⟨hS0, hS1⟩ := hSw; (try (obtain ⟨q0, q1, q2, q3, q4, q5, q6, q7, q8, q9⟩ := hS0)); clear hS1; go_simp <;> with_reducible rfl)
        try simp only [Act.put, List.setIfInBounds_toArray, List.set_cons_zero, List.set_cons_succ]
        refine wpAnyH_take (i := 5) (oi := { dst := some 12, op := Go.Op.move (Go.Operand.tmp 11), type := 4, pos := "glyph.go:41", after := #[{ on := 4, ground := Go.Ground.data }, { on := 3, ground := Go.Ground.chain }], guard := none }) (v := ?_) rfl (by kernel_rfl) (by kernel_rfl) (by kernel_rfl) (fun _ _ _ h => h) (Or.inl ⟨by rfl, ?_⟩) hHeld ?_
        case refine_2 => (intro wz hSw; (try dsimp only at hSw); obtain ⟨hS0, hS1⟩ := hSw; (try (obtain ⟨q0, q1, q2, q3, q4, q5, q6, q7, q8, q9⟩ := hS0)); clear hS1; go_simp <;> with_reducible rfl)
        try simp only [Act.put, List.setIfInBounds_toArray, List.set_cons_zero, List.set_cons_succ]
        refine wpAnyH_take (i := 6) (oi := { dst := some 13, op := Go.Op.move (Go.Operand.tmp 3), type := 3, pos := "glyph.go:41", after := #[{ on := 5, ground := Go.Ground.guard }], guard := some (5, false) }) (v := undef) rfl (by kernel_rfl) (by kernel_rfl) (by kernel_rfl) (fun _ _ _ h => h) (Or.inr ⟨by rfl, rfl⟩) hHeld ?_
        try simp only [Act.put, List.setIfInBounds_toArray, List.set_cons_zero, List.set_cons_succ]
        refine wpAnyH_take (i := 7) (oi := { dst := some 14, op := Go.Op.slice 33 (Go.Operand.tmp 1) none (some (Go.Operand.tmp 13)) none, type := 58, pos := "glyph.go:41", after := #[{ on := 6, ground := Go.Ground.data }, { on := 5, ground := Go.Ground.guard }], guard := some (5, false) }) (v := undef) rfl (by kernel_rfl) (by kernel_rfl) (by kernel_rfl) (fun _ _ _ h => h) (Or.inr ⟨by rfl, rfl⟩) hHeld ?_
        try simp only [Act.put, List.setIfInBounds_toArray, List.set_cons_zero, List.set_cons_succ]
        refine wpAnyH_take (i := 8) (oi := { dst := some 15, op := Go.Op.move (Go.Operand.tmp 3), type := 3, pos := "glyph.go:41", after := #[{ on := 5, ground := Go.Ground.guard }], guard := some (5, false) }) (v := undef) rfl (by kernel_rfl) (by kernel_rfl) (by kernel_rfl) (fun _ _ _ h => h) (Or.inr ⟨by rfl, rfl⟩) hHeld ?_
        try simp only [Act.put, List.setIfInBounds_toArray, List.set_cons_zero, List.set_cons_succ]
        refine wpAnyH_take (i := 9) (oi := { dst := some 16, op := Go.Op.indexAddr 33 (Go.Operand.tmp 1) (Go.Operand.tmp 15), type := 0, pos := "glyph.go:41", after := #[{ on := 8, ground := Go.Ground.data }, { on := 5, ground := Go.Ground.guard }], guard := some (5, false) }) (v := undef) rfl (by kernel_rfl) (by kernel_rfl) (by kernel_rfl) (fun _ _ _ h => h) (Or.inr ⟨by rfl, rfl⟩) hHeld ?_
        try simp only [Act.put, List.setIfInBounds_toArray, List.set_cons_zero, List.set_cons_succ]
        refine wpAnyH_take (i := 10) (oi := { dst := some 17, op := Go.Op.load 9 (Go.Operand.tmp 16), type := 9, pos := "glyph.go:41", after := #[{ on := 9, ground := Go.Ground.data }, { on := 5, ground := Go.Ground.guard }], guard := some (5, false) }) (v := undef) rfl (by kernel_rfl) (by kernel_rfl) (by kernel_rfl) (fun _ _ _ h => h) (Or.inr ⟨by rfl, rfl⟩) hHeld ?_
        try simp only [Act.put, List.setIfInBounds_toArray, List.set_cons_zero, List.set_cons_succ]
        refine wpAnyH_take (i := 11) (oi := { dst := some 18, op := Go.Op.call { callee := Go.Callee.value (Go.Operand.func 31), args := #[Go.Operand.tmp 14, Go.Operand.tmp 17], argTypes := #[58, 9] }, type := 4, pos := "glyph.go:41", after := #[{ on := 7, ground := Go.Ground.data }, { on := 10, ground := Go.Ground.data }, { on := 5, ground := Go.Ground.chain }, { on := 5, ground := Go.Ground.guard }], guard := some (5, false) }) (v := undef) rfl (by kernel_rfl) (by kernel_rfl) (by kernel_rfl) (fun _ _ _ h => h) (Or.inr ⟨by rfl, rfl⟩) hHeld ?_
        try simp only [Act.put, List.setIfInBounds_toArray, List.set_cons_zero, List.set_cons_succ]
        refine wpAnyH_take (i := 12) (oi := { dst := some 19, op := Go.Op.pick (Go.Operand.tmp 12) (Go.Operand.const (Go.Value.bool true)) (Go.Operand.tmp 18), type := 4, pos := "glyph.go:41", after := #[{ on := 5, ground := Go.Ground.data }, { on := 11, ground := Go.Ground.data }], guard := none }) (v := ?_) rfl (by kernel_rfl) (by kernel_rfl) (by kernel_rfl) (fun _ _ _ h => h) (Or.inl ⟨by rfl, ?_⟩) hHeld ?_
        case refine_2 => (intro wz hSw; (try dsimp only at hSw); obtain ⟨hS0, hS1⟩ := hSw; (try (obtain ⟨q0, q1, q2, q3, q4, q5, q6, q7, q8, q9⟩ := hS0)); clear hS1; go_simp <;> with_reducible rfl)
        try simp only [Act.put, List.setIfInBounds_toArray, List.set_cons_zero, List.set_cons_succ]
        refine wpAnyH_done (by kernel_rfl) ?_ _
        have HB2 := Lib.hid (HB.out.trans (hHeld.2.2.mono HB.out.size))
        clear hHeld
        go_wp2
        go_ret
        exact ⟨ret_boolG (by rw [← HR.out]; exact (List.all_eq_false.2 ⟨k, List.mem_range.2 (by omega), by unfold okG; rw [H1.out]; simp⟩).symm), HB2.out⟩
      | true =>
        cases h2 : newG g k with
        | false =>
          have H1 := Lib.hid h1
          have H2 := Lib.hid h2
          clear h1 h2
          go_wp2_with fail
          refine wp_region_held_drew (S := fun w' => w'.cell? ⟨w.heap.size, k, none⟩ = some (.string (g k)) ∧ (Gs w' w.heap.size g ∧ Below wr.heap.size wr w')) (by kernel_rfl) ⟨HGS.out.2 k (by omega), HGS.out, (Below.refl _ _).drew⟩ (fun hHeld => ?_)
          refine wpAnyH_take (i := 0) (oi := { dst := some 7, op := Go.Op.move (Go.Operand.tmp 3), type := 3, pos := "glyph.go:41", after := #[], guard := none }) (v := ?_) rfl (by kernel_rfl) (by kernel_rfl) (by kernel_rfl) (fun _ _ _ h => h) (Or.inl ⟨by rfl, ?_⟩) hHeld ?_
          case refine_2 => (intro wz hSw; (try dsimp only at hSw); obtain ⟨hS0, hS1⟩ := hSw; (try (obtain ⟨q0, q1, q2, q3, q4, q5, q6, q7, q8, q9⟩ := hS0)); clear hS1; go_simp <;> with_reducible rfl)
          try simp only [Act.put, List.setIfInBounds_toArray, List.set_cons_zero, List.set_cons_succ]
          refine wpAnyH_take (i := 1) (oi := { dst := some 8, op := Go.Op.indexAddr 33 (Go.Operand.tmp 1) (Go.Operand.tmp 7), type := 0, pos := "glyph.go:41", after := #[{ on := 0, ground := Go.Ground.data }], guard := none }) (v := ?_) rfl (by kernel_rfl) (by kernel_rfl) (by kernel_rfl) (fun _ _ _ h => h) (Or.inl ⟨by rfl, ?_⟩) hHeld ?_
          case refine_2 => (intro wz hSw; (try dsimp only at hSw); obtain ⟨hS0, hS1⟩ := hSw; (try (obtain ⟨q0, q1, q2, q3, q4, q5, q6, q7, q8, q9⟩ := hS0)); clear hS1; go_simp <;> with_reducible rfl)
          try simp only [Act.put, List.setIfInBounds_toArray, List.set_cons_zero, List.set_cons_succ]
          refine wpAnyH_take (i := 2) (oi := { dst := some 9, op := Go.Op.load 9 (Go.Operand.tmp 8), type := 9, pos := "glyph.go:41", after := #[{ on := 1, ground := Go.Ground.data }], guard := none }) (v := ?_) rfl (by kernel_rfl) (by kernel_rfl) (by kernel_rfl) (fun _ _ _ h => h) (Or.inl ⟨by rfl, ?_⟩) hHeld ?_
          case refine_2 => (intro wz hSw; (try dsimp only at hSw); obtain ⟨hS0, hS1⟩ := hSw; (try (obtain ⟨q0, q1, q2, q3, q4, q5, q6, q7, q8, q9⟩ := hS0)); clear hS1; go_simp <;> with_reducible rfl)
          try simp only [Act.put, List.setIfInBounds_toArray, List.set_cons_zero, List.set_cons_succ]
          refine wpAnyH_ready (rs := [3]) (by kernel_rfl) (by simp) ?_
          refine AllReadyH.cons (o := { dst := some 10, op := Go.Op.call { callee := Go.Callee.value (Go.Operand.func 13), args := #[Go.Operand.tmp 9], argTypes := #[9] }, type := 4, pos := "glyph.go:41", after := #[{ on := 2, ground := Go.Ground.data }], guard := none }) rfl (fun KK hK => ?_) AllReadyH.nil
          go_simp
          with_reducible refine (one_as _ _ (HT.out.below (HB.out.trans (hHeld.2.2.mono HB.out.size))) (by have := HG.out k; omega) _ H1.out).mono ?_
          rintro x_ w5 ⟨rfl, hb⟩
          go_wp2_with fail
          refine hK.out _ _ ⟨(hHeld.2.1.below (B := wr.heap.size) HGS.out.1 (hb.mono hHeld.2.2.size) hb.size).2 k (by omega), hHeld.2.1.below (B := wr.heap.size) HGS.out.1 (hb.mono hHeld.2.2.size) hb.size, hHeld.2.2.trans (hb.mono hHeld.2.2.size)⟩ (fun hHeld2 => ?_)
          clear hK hHeld
          have hHeld := hHeld2
          clear hHeld2
          try simp only [Act.put, List.setIfInBounds_toArray, List.set_cons_zero, List.set_cons_succ]
          refine wpAnyH_take (i := 4) (oi := { dst := some 11, op := Go.Op.unOp Go.UnOp.not 4 (Go.Operand.tmp 10), type := 4, pos := "glyph.go:41", after := #[{ on := 3, ground := Go.Ground.data }], guard := none }) (v := ?_) rfl (by kernel_rfl) (by kernel_rfl) (by kernel_rfl) (fun _ _ _ h => h) (Or.inl ⟨by rfl, ?_⟩) hHeld ?_
          case refine_2 => (intro wz hSw; (try dsimp only at hSw); obtain ⟨hS0, hS1⟩ := hSw; (try (obtain ⟨q0, q1, q2, q3, q4, q5, q6, q7, q8, q9⟩ := hS0)); clear hS1; go_simp <;> with_reducible rfl)
          try simp only [Act.put, List.setIfInBounds_toArray, List.set_cons_zero, List.set_cons_succ]
          refine wpAnyH_take (i := 5) (oi := { dst := some 12, op := Go.Op.move (Go.Operand.tmp 11), type := 4, pos := "glyph.go:41", after := #[{ on := 4, ground := Go.Ground.data }, { on := 3, ground := Go.Ground.chain }], guard := none }) (v := ?_) rfl (by kernel_rfl) (by kernel_rfl) (by kernel_rfl) (fun _ _ _ h => h) (Or.inl ⟨by rfl, ?_⟩) hHeld ?_
          case refine_2 => (intro wz hSw; (try dsimp only at hSw); obtain ⟨hS0, hS1⟩ := hSw; (try (obtain ⟨q0, q1, q2, q3, q4, q5, q6, q7, q8, q9⟩ := hS0)); clear hS1; go_simp <;> with_reducible rfl)
          try simp only [Act.put, List.setIfInBounds_toArray, List.set_cons_zero, List.set_cons_succ]
          refine wpAnyH_take (i := 6) (oi := { dst := some 13, op := Go.Op.move (Go.Operand.tmp 3), type := 3, pos := "glyph.go:41", after := #[{ on := 5, ground := Go.Ground.guard }], guard := some (5, false) }) (v := ?_) rfl (by kernel_rfl) (by kernel_rfl) (by kernel_rfl) (fun _ _ _ h => h) (Or.inl ⟨by rfl, ?_⟩) hHeld ?_
          case refine_2 => (intro wz hSw; (try dsimp only at hSw); obtain ⟨hS0, hS1⟩ := hSw; (try (obtain ⟨q0, q1, q2, q3, q4, q5, q6, q7, q8, q9⟩ := hS0)); clear hS1; go_simp <;> with_reducible rfl)
          try simp only [Act.put, List.setIfInBounds_toArray, List.set_cons_zero, List.set_cons_succ]
          refine wpAnyH_take (i := 7) (oi := { dst := some 14, op := Go.Op.slice 33 (Go.Operand.tmp 1) none (some (Go.Operand.tmp 13)) none, type := 58, pos := "glyph.go:41", after := #[{ on := 6, ground := Go.Ground.data }, { on := 5, ground := Go.Ground.guard }], guard := some (5, false) }) (v := ?_) rfl (by kernel_rfl) (by kernel_rfl) (by kernel_rfl) (fun _ _ _ h => h) (Or.inl ⟨by rfl, ?_⟩) hHeld ?_
          case refine_2 => (intro wz hSw; (try dsimp only at hSw); obtain ⟨hS0, hS1⟩ := hSw; (try (obtain ⟨q0, q1, q2, q3, q4, q5, q6, q7, q8, q9⟩ := hS0)); clear hS1; have sl := slice_g w.heap.size k hk wz; go_simp <;> with_reducible rfl)
          try simp only [Act.put, List.setIfInBounds_toArray, List.set_cons_zero, List.set_cons_succ]
          refine wpAnyH_take (i := 8) (oi := { dst := some 15, op := Go.Op.move (Go.Operand.tmp 3), type := 3, pos := "glyph.go:41", after := #[{ on := 5, ground := Go.Ground.guard }], guard := some (5, false) }) (v := ?_) rfl (by kernel_rfl) (by kernel_rfl) (by kernel_rfl) (fun _ _ _ h => h) (Or.inl ⟨by rfl, ?_⟩) hHeld ?_
          case refine_2 => (intro wz hSw; (try dsimp only at hSw); obtain ⟨hS0, hS1⟩ := hSw; (try (obtain ⟨q0, q1, q2, q3, q4, q5, q6, q7, q8, q9⟩ := hS0)); clear hS1; go_simp <;> with_reducible rfl)
          try simp only [Act.put, List.setIfInBounds_toArray, List.set_cons_zero, List.set_cons_succ]
          refine wpAnyH_take (i := 9) (oi := { dst := some 16, op := Go.Op.indexAddr 33 (Go.Operand.tmp 1) (Go.Operand.tmp 15), type := 0, pos := "glyph.go:41", after := #[{ on := 8, ground := Go.Ground.data }, { on := 5, ground := Go.Ground.guard }], guard := some (5, false) }) (v := ?_) rfl (by kernel_rfl) (by kernel_rfl) (by kernel_rfl) (fun _ _ _ h => h) (Or.inl ⟨by rfl, ?_⟩) hHeld ?_
          case refine_2 => (intro wz hSw; (try dsimp only at hSw); obtain ⟨hS0, hS1⟩ := hSw; (try (obtain ⟨q0, q1, q2, q3, q4, q5, q6, q7, q8, q9⟩ := hS0)); clear hS1; go_simp <;> with_reducible rfl)
          try simp only [Act.put, List.setIfInBounds_toArray, List.set_cons_zero, List.set_cons_succ]
          refine wpAnyH_take (i := 10) (oi := { dst := some 17, op := Go.Op.load 9 (Go.Operand.tmp 16), type := 9, pos := "glyph.go:41", after := #[{ on := 9, ground := Go.Ground.data }, { on := 5, ground := Go.Ground.guard }], guard := some (5, false) }) (v := ?_) rfl (by kernel_rfl) (by kernel_rfl) (by kernel_rfl) (fun _ _ _ h => h) (Or.inl ⟨by rfl, ?_⟩) hHeld ?_
          case refine_2 => (intro wz hSw; (try dsimp only at hSw); obtain ⟨hS0, hS1⟩ := hSw; (try (obtain ⟨q0, q1, q2, q3, q4, q5, q6, q7, q8, q9⟩ := hS0)); clear hS1; go_simp <;> with_reducible rfl)
          try simp only [Act.put, List.setIfInBounds_toArray, List.set_cons_zero, List.set_cons_succ]
          refine wpAnyH_ready (rs := [11]) (by kernel_rfl) (by simp) ?_
          refine AllReadyH.cons (o := { dst := some 18, op := Go.Op.call { callee := Go.Callee.value (Go.Operand.func 31), args := #[Go.Operand.tmp 14, Go.Operand.tmp 17], argTypes := #[58, 9] }, type := 4, pos := "glyph.go:41", after := #[{ on := 7, ground := Go.Ground.data }, { on := 10, ground := Go.Ground.data }, { on := 5, ground := Go.Ground.chain }, { on := 5, ground := Go.Ground.guard }], guard := some (5, false) }) rfl (fun KK hK => ?_) AllReadyH.nil
          go_simp
          with_reducible refine (cont_as g _ k hk _ hHeld.2.1 true (by rw [H2.out, Bool.not_false])).mono ?_
          rintro x_ w6 ⟨rfl, rfl⟩
          go_wp2_with fail
          refine hK.out _ _ hHeld (fun hHeld2 => ?_)
          clear hK hHeld
          have hHeld := hHeld2
          clear hHeld2
          try simp only [Act.put, List.setIfInBounds_toArray, List.set_cons_zero, List.set_cons_succ]
          refine wpAnyH_take (i := 12) (oi := { dst := some 19, op := Go.Op.pick (Go.Operand.tmp 12) (Go.Operand.const (Go.Value.bool true)) (Go.Operand.tmp 18), type := 4, pos := "glyph.go:41", after := #[{ on := 5, ground := Go.Ground.data }, { on := 11, ground := Go.Ground.data }], guard := none }) (v := ?_) rfl (by kernel_rfl) (by kernel_rfl) (by kernel_rfl) (fun _ _ _ h => h) (Or.inl ⟨by rfl, ?_⟩) hHeld ?_
          case refine_2 => (intro wz hSw; (try dsimp only at hSw); obtain ⟨hS0, hS1⟩ := hSw; (try (obtain ⟨q0, q1, q2, q3, q4, q5, q6, q7, q8, q9⟩ := hS0)); clear hS1; go_simp <;> with_reducible rfl)
          try simp only [Act.put, List.setIfInBounds_toArray, List.set_cons_zero, List.set_cons_succ]
          refine wpAnyH_done (by kernel_rfl) ?_ _
          have HB2 := Lib.hid (HB.out.trans (hHeld.2.2.mono HB.out.size))
          clear hHeld
          go_wp2
          go_ret
          exact ⟨ret_boolG (by rw [← HR.out]; exact (List.all_eq_false.2 ⟨k, List.mem_range.2 (by omega), by unfold okG; rw [H1.out, H2.out]; simp⟩).symm), HB2.out⟩
        | true =>
          have H1 := Lib.hid h1
          have H2 := Lib.hid h2
          clear h1 h2
          go_wp2_with fail
          refine wp_region_held_drew (S := fun w' => w'.cell? ⟨w.heap.size, k, none⟩ = some (.string (g k)) ∧ (Gs w' w.heap.size g ∧ Below wr.heap.size wr w')) (by kernel_rfl) ⟨HGS.out.2 k (by omega), HGS.out, (Below.refl _ _).drew⟩ (fun hHeld => ?_)
          refine wpAnyH_take (i := 0) (oi := { dst := some 7, op := Go.Op.move (Go.Operand.tmp 3), type := 3, pos := "glyph.go:41", after := #[], guard := none }) (v := ?_) rfl (by kernel_rfl) (by kernel_rfl) (by kernel_rfl) (fun _ _ _ h => h) (Or.inl ⟨by rfl, ?_⟩) hHeld ?_
          case refine_2 => (intro wz hSw; (try dsimp only at hSw); obtain ⟨hS0, hS1⟩ := hSw; (try (obtain ⟨q0, q1, q2, q3, q4, q5, q6, q7, q8, q9⟩ := hS0)); clear hS1; go_simp <;> with_reducible rfl)
          try simp only [Act.put, List.setIfInBounds_toArray, List.set_cons_zero, List.set_cons_succ]
          refine wpAnyH_take (i := 1) (oi := { dst := some 8, op := Go.Op.indexAddr 33 (Go.Operand.tmp 1) (Go.Operand.tmp 7), type := 0, pos := "glyph.go:41", after := #[{ on := 0, ground := Go.Ground.data }], guard := none }) (v := ?_) rfl (by kernel_rfl) (by kernel_rfl) (by kernel_rfl) (fun _ _ _ h => h) (Or.inl ⟨by rfl, ?_⟩) hHeld ?_
          case refine_2 => (intro wz hSw; (try dsimp only at hSw); obtain ⟨hS0, hS1⟩ := hSw; (try (obtain ⟨q0, q1, q2, q3, q4, q5, q6, q7, q8, q9⟩ := hS0)); clear hS1; go_simp <;> with_reducible rfl)
          try simp only [Act.put, List.setIfInBounds_toArray, List.set_cons_zero, List.set_cons_succ]
          refine wpAnyH_take (i := 2) (oi := { dst := some 9, op := Go.Op.load 9 (Go.Operand.tmp 8), type := 9, pos := "glyph.go:41", after := #[{ on := 1, ground := Go.Ground.data }], guard := none }) (v := ?_) rfl (by kernel_rfl) (by kernel_rfl) (by kernel_rfl) (fun _ _ _ h => h) (Or.inl ⟨by rfl, ?_⟩) hHeld ?_
          case refine_2 => (intro wz hSw; (try dsimp only at hSw); obtain ⟨hS0, hS1⟩ := hSw; (try (obtain ⟨q0, q1, q2, q3, q4, q5, q6, q7, q8, q9⟩ := hS0)); clear hS1; go_simp <;> with_reducible rfl)
          try simp only [Act.put, List.setIfInBounds_toArray, List.set_cons_zero, List.set_cons_succ]
          refine wpAnyH_ready (rs := [3]) (by kernel_rfl) (by simp) ?_
          refine AllReadyH.cons (o := { dst := some 10, op := Go.Op.call { callee := Go.Callee.value (Go.Operand.func 13), args := #[Go.Operand.tmp 9], argTypes := #[9] }, type := 4, pos := "glyph.go:41", after := #[{ on := 2, ground := Go.Ground.data }], guard := none }) rfl (fun KK hK => ?_) AllReadyH.nil
          go_simp
          with_reducible refine (one_as _ _ (HT.out.below (HB.out.trans (hHeld.2.2.mono HB.out.size))) (by have := HG.out k; omega) _ H1.out).mono ?_
          rintro x_ w5 ⟨rfl, hb⟩
          go_wp2_with fail
          refine hK.out _ _ ⟨(hHeld.2.1.below (B := wr.heap.size) HGS.out.1 (hb.mono hHeld.2.2.size) hb.size).2 k (by omega), hHeld.2.1.below (B := wr.heap.size) HGS.out.1 (hb.mono hHeld.2.2.size) hb.size, hHeld.2.2.trans (hb.mono hHeld.2.2.size)⟩ (fun hHeld2 => ?_)
          clear hK hHeld
          have hHeld := hHeld2
          clear hHeld2
          try simp only [Act.put, List.setIfInBounds_toArray, List.set_cons_zero, List.set_cons_succ]
          refine wpAnyH_take (i := 4) (oi := { dst := some 11, op := Go.Op.unOp Go.UnOp.not 4 (Go.Operand.tmp 10), type := 4, pos := "glyph.go:41", after := #[{ on := 3, ground := Go.Ground.data }], guard := none }) (v := ?_) rfl (by kernel_rfl) (by kernel_rfl) (by kernel_rfl) (fun _ _ _ h => h) (Or.inl ⟨by rfl, ?_⟩) hHeld ?_
          case refine_2 => (intro wz hSw; (try dsimp only at hSw); obtain ⟨hS0, hS1⟩ := hSw; (try (obtain ⟨q0, q1, q2, q3, q4, q5, q6, q7, q8, q9⟩ := hS0)); clear hS1; go_simp <;> with_reducible rfl)
          try simp only [Act.put, List.setIfInBounds_toArray, List.set_cons_zero, List.set_cons_succ]
          refine wpAnyH_take (i := 5) (oi := { dst := some 12, op := Go.Op.move (Go.Operand.tmp 11), type := 4, pos := "glyph.go:41", after := #[{ on := 4, ground := Go.Ground.data }, { on := 3, ground := Go.Ground.chain }], guard := none }) (v := ?_) rfl (by kernel_rfl) (by kernel_rfl) (by kernel_rfl) (fun _ _ _ h => h) (Or.inl ⟨by rfl, ?_⟩) hHeld ?_
          case refine_2 => (intro wz hSw; (try dsimp only at hSw); obtain ⟨hS0, hS1⟩ := hSw; (try (obtain ⟨q0, q1, q2, q3, q4, q5, q6, q7, q8, q9⟩ := hS0)); clear hS1; go_simp <;> with_reducible rfl)
          try simp only [Act.put, List.setIfInBounds_toArray, List.set_cons_zero, List.set_cons_succ]
          refine wpAnyH_take (i := 6) (oi := { dst := some 13, op := Go.Op.move (Go.Operand.tmp 3), type := 3, pos := "glyph.go:41", after := #[{ on := 5, ground := Go.Ground.guard }], guard := some (5, false) }) (v := ?_) rfl (by kernel_rfl) (by kernel_rfl) (by kernel_rfl) (fun _ _ _ h => h) (Or.inl ⟨by rfl, ?_⟩) hHeld ?_
          case refine_2 => (intro wz hSw; (try dsimp only at hSw); obtain ⟨hS0, hS1⟩ := hSw; (try (obtain ⟨q0, q1, q2, q3, q4, q5, q6, q7, q8, q9⟩ := hS0)); clear hS1; go_simp <;> with_reducible rfl)
          try simp only [Act.put, List.setIfInBounds_toArray, List.set_cons_zero, List.set_cons_succ]
          refine wpAnyH_take (i := 7) (oi := { dst := some 14, op := Go.Op.slice 33 (Go.Operand.tmp 1) none (some (Go.Operand.tmp 13)) none, type := 58, pos := "glyph.go:41", after := #[{ on := 6, ground := Go.Ground.data }, { on := 5, ground := Go.Ground.guard }], guard := some (5, false) }) (v := ?_) rfl (by kernel_rfl) (by kernel_rfl) (by kernel_rfl) (fun _ _ _ h => h) (Or.inl ⟨by rfl, ?_⟩) hHeld ?_
          case refine_2 => (intro wz hSw; (try dsimp only at hSw); obtain ⟨hS0, hS1⟩ := hSw; (try (obtain ⟨q0, q1, q2, q3, q4, q5, q6, q7, q8, q9⟩ := hS0)); clear hS1; have sl := slice_g w.heap.size k hk wz; go_simp <;> with_reducible rfl)
          try simp only [Act.put, List.setIfInBounds_toArray, List.set_cons_zero, List.set_cons_succ]
          refine wpAnyH_take (i := 8) (oi := { dst := some 15, op := Go.Op.move (Go.Operand.tmp 3), type := 3, pos := "glyph.go:41", after := #[{ on := 5, ground := Go.Ground.guard }], guard := some (5, false) }) (v := ?_) rfl (by kernel_rfl) (by kernel_rfl) (by kernel_rfl) (fun _ _ _ h => h) (Or.inl ⟨by rfl, ?_⟩) hHeld ?_
          case refine_2 => (intro wz hSw; (try dsimp only at hSw); obtain ⟨hS0, hS1⟩ := hSw; (try (obtain ⟨q0, q1, q2, q3, q4, q5, q6, q7, q8, q9⟩ := hS0)); clear hS1; go_simp <;> with_reducible rfl)
          try simp only [Act.put, List.setIfInBounds_toArray, List.set_cons_zero, List.set_cons_succ]
          refine wpAnyH_take (i := 9) (oi := { dst := some 16, op := Go.Op.indexAddr 33 (Go.Operand.tmp 1) (Go.Operand.tmp 15), type := 0, pos := "glyph.go:41", after := #[{ on := 8, ground := Go.Ground.data }, { on := 5, ground := Go.Ground.guard }], guard := some (5, false) }) (v := ?_) rfl (by kernel_rfl) (by kernel_rfl) (by kernel_rfl) (fun _ _ _ h => h) (Or.inl ⟨by rfl, ?_⟩) hHeld ?_
          case refine_2 => (intro wz hSw; (try dsimp only at hSw); obtain ⟨hS0, hS1⟩ := hSw; (try (obtain ⟨q0, q1, q2, q3, q4, q5, q6, q7, q8, q9⟩ := hS0)); clear hS1; go_simp <;> with_reducible rfl)
          try simp only [Act.put, List.setIfInBounds_toArray, List.set_cons_zero, List.set_cons_succ]
          refine wpAnyH_take (i := 10) (oi := { dst := some 17, op := Go.Op.load 9 (Go.Operand.tmp 16), type := 9, pos := "glyph.go:41", after := #[{ on := 9, ground := Go.Ground.data }, { on := 5, ground := Go.Ground.guard }], guard := some (5, false) }) (v := ?_) rfl (by kernel_rfl) (by kernel_rfl) (by kernel_rfl) (fun _ _ _ h => h) (Or.inl ⟨by rfl, ?_⟩) hHeld ?_
          case refine_2 => (intro wz hSw; (try dsimp only at hSw); obtain ⟨hS0, hS1⟩ := hSw; (try (obtain ⟨q0, q1, q2, q3, q4, q5, q6, q7, q8, q9⟩ := hS0)); clear hS1; go_simp <;> with_reducible rfl)
          try simp only [Act.put, List.setIfInBounds_toArray, List.set_cons_zero, List.set_cons_succ]
          refine wpAnyH_ready (rs := [11]) (by kernel_rfl) (by simp) ?_
          refine AllReadyH.cons (o := { dst := some 18, op := Go.Op.call { callee := Go.Callee.value (Go.Operand.func 31), args := #[Go.Operand.tmp 14, Go.Operand.tmp 17], argTypes := #[58, 9] }, type := 4, pos := "glyph.go:41", after := #[{ on := 7, ground := Go.Ground.data }, { on := 10, ground := Go.Ground.data }, { on := 5, ground := Go.Ground.chain }, { on := 5, ground := Go.Ground.guard }], guard := some (5, false) }) rfl (fun KK hK => ?_) AllReadyH.nil
          go_simp
          with_reducible refine (cont_as g _ k hk _ hHeld.2.1 false (by rw [H2.out, Bool.not_true])).mono ?_
          rintro x_ w6 ⟨rfl, rfl⟩
          go_wp2_with fail
          refine hK.out _ _ hHeld (fun hHeld2 => ?_)
          clear hK hHeld
          have hHeld := hHeld2
          clear hHeld2
          try simp only [Act.put, List.setIfInBounds_toArray, List.set_cons_zero, List.set_cons_succ]
          refine wpAnyH_take (i := 12) (oi := { dst := some 19, op := Go.Op.pick (Go.Operand.tmp 12) (Go.Operand.const (Go.Value.bool true)) (Go.Operand.tmp 18), type := 4, pos := "glyph.go:41", after := #[{ on := 5, ground := Go.Ground.data }, { on := 11, ground := Go.Ground.data }], guard := none }) (v := ?_) rfl (by kernel_rfl) (by kernel_rfl) (by kernel_rfl) (fun _ _ _ h => h) (Or.inl ⟨by rfl, ?_⟩) hHeld ?_
          case refine_2 => (intro wz hSw; (try dsimp only at hSw); obtain ⟨hS0, hS1⟩ := hSw; (try (obtain ⟨q0, q1, q2, q3, q4, q5, q6, q7, q8, q9⟩ := hS0)); clear hS1; go_simp <;> with_reducible rfl)
          try simp only [Act.put, List.setIfInBounds_toArray, List.set_cons_zero, List.set_cons_succ]
          refine wpAnyH_done (by kernel_rfl) ?_ _
          have HB2 := Lib.hid (HB.out.trans (hHeld.2.2.mono HB.out.size))
          have GS2 := Lib.hid hHeld.2.1
          clear hHeld
          go_wp2
          go_roundw
          case rel =>
            exact ⟨k + 1, by omega, by go_num, GS2.out, fun j hj => by
              rcases Nat.lt_or_ge j k with h | h
              · exact HJ.out j h
              · obtain rfl : j = k := by omega
                unfold okG; rw [H1.out, H2.out]; rfl, HB2.out⟩
          case measure => simp [intOf]; omega
    · go_wp2
      go_ret
      exact ⟨ret_boolG (by rw [← HR.out]; exact (List.all_eq_true.2 fun j hj => HJ.out j (by have := List.mem_range.1 hj; omega)).symm), HB.out⟩
/-- The digits themselves. -/
def plainG (k : Nat) : ByteArray := ⟨#[Florin.u8 (48 + k)]⟩
set_option maxHeartbeats 800000 in
theorem plain_as (w : World) : Calls Tryd.prog 22 #[] w fun e w' => e = .returned (SV plainG) ∧ Below w.heap.size w w' := by
  go_enter Tryd.func22, Tryd.ntmps22
  go_wp2
  refine bodyPost_ret (v := SV plainG) (by simp [results, Tryd.results22, go_sem]; exact ⟨rfl, rfl, rfl, rfl, rfl, rfl, rfl, rfl, rfl, rfl⟩) rfl ⟨rfl, (Below.refl _ _).alloc (Nat.le_refl _) _⟩
end Go.Proofs.YtcdjclidckohpaaDoor
