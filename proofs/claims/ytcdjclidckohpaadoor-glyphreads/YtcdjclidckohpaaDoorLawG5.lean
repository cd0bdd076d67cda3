/- GlyphJoins: digits side by side are written side by side, and read as one row. -/
import Derived.Test.YtcdjclidckohpaaDoorLawG3
namespace Go.Proofs.YtcdjclidckohpaaDoor
open Go.RowKit Florin
set_option linter.unusedVariables false
set_option linter.unusedSimpArgs false
theorem dig_join {a b : List UInt8} (ha : isDig a = true) (hb : isDig b = true) : isDig (a ++ b) = true := by
  unfold isDig at *
  rw [List.all_append, ha, hb]; rfl
theorem write_join (g : Nat → ByteArray) (x y : List UInt8) (w : World) (hl : (x ++ y).length ≤ 1000) (hg : ∀ k, (g k).size ≤ 1000) (hi : isDig (x ++ y) = true) (ew : wrL g (x ++ y) = wrL g x ++ wrL g y) :
    Calls Tryd.prog 18 #[SV g, .string ((⟨x.toArray⟩ : ByteArray) ++ ⟨y.toArray⟩)] w fun e w' => e = .returned (S (wrL g x ++ wrL g y)) ∧ Below w.heap.size w w' := by
  rw [arr_append, ← ew]
  exact writeL g (x ++ y) w hl hg hi
set_option maxHeartbeats 6400000 in
set_option maxRecDepth 100000 in
theorem glyphJoins_walk (n : Nat → Int) (a : Option Addr) (len cap : Nat) (L : List UInt8) (a' : Option Addr) (len' cap' : Nat) (L' : List UInt8) (W : World) (w0 : ∀ k, k < 10 → (Lit.int .i64 (n k)).wf = true) (hin : InB W a len cap L) (hin' : InB W a' len' cap' L') (hT : Tabs W) :
    Calls Tryd.prog 7 #[IV n, .slice a len cap, .slice a' len' cap'] W fun e w' => e = .returned (.bool true) ∧ Below W.heap.size W w' := by
  have HT := Lib.hid hT
  have HIN := Lib.hid hin
  have HIN' := Lib.hid hin'
  have hll : L.length = len := hin.1
  have hll' : L'.length = len' := hin'.1
  clear hT w0 hin hin'
  have B0 : Hid (Below W.heap.size W (W.alloc (.cells #[.int .i64 (n 0), .int .i64 (n 1), .int .i64 (n 2), .int .i64 (n 3), .int .i64 (n 4), .int .i64 (n 5), .int .i64 (n 6), .int .i64 (n 7), .int .i64 (n 8), .int .i64 (n 9)] 30))) := Lib.hid ((Below.refl _ _).alloc (Nat.le_refl _) _)
  have N0 := Lib.hid (Nm.new W n 30)
  by_cases h60 : (60 : Int) < (len : Int)
  · go_enter Tryd.func7, Tryd.ntmps7
    go_wp2_with fail
    with_reducible refine (head9 _ (HT.out.below B0.out)).mono ?_
    rintro e w1 ⟨rfl, b1⟩
    have B1 := Lib.hid (B0.out.trans (b1.mono B0.out.size))
    clear b1
    go_wp2
    go_ret
    exact ⟨rfl, B1.out⟩
  · by_cases h60' : (60 : Int) < (len' : Int)
    · go_enter Tryd.func7, Tryd.ntmps7
      go_wp2_with fail
      with_reducible refine (head9 _ (HT.out.below B0.out)).mono ?_
      rintro e w1 ⟨rfl, b1⟩
      have B1 := Lib.hid (B0.out.trans (b1.mono B0.out.size))
      clear b1
      go_wp2
      go_ret
      exact ⟨rfl, B1.out⟩
    · go_enter Tryd.func7, Tryd.ntmps7
      go_wp2_with fail
      with_reducible refine (head9 _ (HT.out.below B0.out)).mono ?_
      rintro e w1 ⟨rfl, b1⟩
      have B1 := Lib.hid (B0.out.trans (b1.mono B0.out.size))
      obtain ⟨q0, q1, q2, q3, q4, q5, q6, q7, q8, q9⟩ := nm_all (N0.out.below (B := World.heap _ |>.size) (by simp) b1)
      clear b1 B0 N0
      go_wp2_with fail
      with_reducible refine (set_as2 n _).mono ?_
      rintro e w2 ⟨g, hs, hg, rfl, b2⟩
      clear q0 q1 q2 q3 q4 q5 q6 q7 q8 q9
      have HS := Lib.hid hs
      have HG := Lib.hid hg
      have HG3 : Hid (∀ k, (g k).size ≤ 1000) := Lib.hid (fun k => by have := hg k; omega)
      have b3 := B1.out.trans (b2.mono B1.out.size)
      have B2 := Lib.hid (b3.alloc b3.size (.cells (SC g) 33))
      have G0 := Lib.hid (Gs.new w2 g 33)
      clear hs hg b2 b3 B1
      have hdl := dgs_length L
      have hdl' := dgs_length L'
      obtain ⟨q0, q1, q2, q3, q4, q5, q6, q7, q8, q9⟩ := G0.out.all
      go_wp2_with fail
      with_reducible refine (digits_any a len cap L _ (HIN.out.below B2.out) (by omega)).mono ?_
      rintro e w3 ⟨rfl, b3⟩
      clear q0 q1 q2 q3 q4 q5 q6 q7 q8 q9
      have B3 := Lib.hid (B2.out.trans (b3.mono B2.out.size))
      have G1 := Lib.hid (G0.out.below (B := World.heap _ |>.size) G0.out.1 b3 b3.size)
      clear G0
      clear b3 B2
      obtain ⟨q0, q1, q2, q3, q4, q5, q6, q7, q8, q9⟩ := G1.out.all
      go_wp2_with fail
      with_reducible refine (digits_any a' len' cap' L' _ (HIN'.out.below B3.out) (by omega)).mono ?_
      rintro e w4 ⟨rfl, b4⟩
      clear q0 q1 q2 q3 q4 q5 q6 q7 q8 q9
      have B4 := Lib.hid (B3.out.trans (b4.mono B3.out.size))
      have G2 := Lib.hid (G1.out.below (B := World.heap _ |>.size) G1.out.1 b4 b4.size)
      clear G1
      clear b4 B3
      have hwl := wrL_len g 4 HG.out (dgs L)
      have hwl' := wrL_len g 4 HG.out (dgs L')
      have zx := arr_size (dgs L)
      have zy := arr_size (dgs L')
      have zw := arr_size (wrL g (dgs L))
      have zw' := arr_size (wrL g (dgs L'))
      have hno : ¬ 9223372036854775807 < (wrL g (dgs L)).length + (wrL g (dgs L')).length := by omega
      have hno2 : ¬ 9223372036854775807 < (dgs L).length + (dgs L').length := by omega
      go_wp2_with fail
      refine wp_region_held_drew (S := fun w' => (w'.cell? ⟨w2.heap.size, 0, none⟩ = some (.string (g 0)) ∧ w'.cell? ⟨w2.heap.size, 1, none⟩ = some (.string (g 1)) ∧ w'.cell? ⟨w2.heap.size, 2, none⟩ = some (.string (g 2)) ∧ w'.cell? ⟨w2.heap.size, 3, none⟩ = some (.string (g 3)) ∧ w'.cell? ⟨w2.heap.size, 4, none⟩ = some (.string (g 4)) ∧ w'.cell? ⟨w2.heap.size, 5, none⟩ = some (.string (g 5)) ∧ w'.cell? ⟨w2.heap.size, 6, none⟩ = some (.string (g 6)) ∧ w'.cell? ⟨w2.heap.size, 7, none⟩ = some (.string (g 7)) ∧ w'.cell? ⟨w2.heap.size, 8, none⟩ = some (.string (g 8)) ∧ w'.cell? ⟨w2.heap.size, 9, none⟩ = some (.string (g 9))) ∧ (Gs w' w2.heap.size g ∧ Below W.heap.size W w')) (by kernel_rfl) ⟨G2.out.all, G2.out, B4.out.drew⟩ (fun hHeld => ?_)
      refine wpAnyH_take (i := 0) (oi := { dst := some 29, op := Go.Op.load 33 (Go.Operand.tmp 7), type := 33, pos := "law.go:220", after := #[], guard := none }) (v := ?_) rfl (by kernel_rfl) (by kernel_rfl) (by kernel_rfl) (fun _ _ _ h => h) (Or.inl ⟨by rfl, ?_⟩) hHeld ?_
      case refine_2 => (intro wz hSw; (try dsimp only at hSw); obtain ⟨hS0, hS1⟩ := hSw; (try (obtain ⟨q0, q1, q2, q3, q4, q5, q6, q7, q8, q9⟩ := hS0)); clear hS1; go_simp <;> with_reducible rfl)
      try simp only [Act.put, List.setIfInBounds_toArray, List.set_cons_zero, List.set_cons_succ]
      refine wpAnyH_take (i := 1) (oi := { dst := some 30, op := Go.Op.move (Go.Operand.tmp 8), type := 9, pos := "law.go:220", after := #[], guard := none }) (v := ?_) rfl (by kernel_rfl) (by kernel_rfl) (by kernel_rfl) (fun _ _ _ h => h) (Or.inl ⟨by rfl, ?_⟩) hHeld ?_
      case refine_2 => (intro wz hSw; (try dsimp only at hSw); obtain ⟨hS0, hS1⟩ := hSw; (try (obtain ⟨q0, q1, q2, q3, q4, q5, q6, q7, q8, q9⟩ := hS0)); clear hS1; go_simp <;> with_reducible rfl)
      try simp only [Act.put, List.setIfInBounds_toArray, List.set_cons_zero, List.set_cons_succ]
      refine wpAnyH_take (i := 3) (oi := { dst := some 32, op := Go.Op.load 33 (Go.Operand.tmp 7), type := 33, pos := "law.go:220", after := #[], guard := none }) (v := ?_) rfl (by kernel_rfl) (by kernel_rfl) (by kernel_rfl) (fun _ _ _ h => h) (Or.inl ⟨by rfl, ?_⟩) hHeld ?_
      case refine_2 => (intro wz hSw; (try dsimp only at hSw); obtain ⟨hS0, hS1⟩ := hSw; (try (obtain ⟨q0, q1, q2, q3, q4, q5, q6, q7, q8, q9⟩ := hS0)); clear hS1; go_simp <;> with_reducible rfl)
      try simp only [Act.put, List.setIfInBounds_toArray, List.set_cons_zero, List.set_cons_succ]
      refine wpAnyH_take (i := 4) (oi := { dst := some 33, op := Go.Op.move (Go.Operand.tmp 9), type := 9, pos := "law.go:220", after := #[], guard := none }) (v := ?_) rfl (by kernel_rfl) (by kernel_rfl) (by kernel_rfl) (fun _ _ _ h => h) (Or.inl ⟨by rfl, ?_⟩) hHeld ?_
      case refine_2 => (intro wz hSw; (try dsimp only at hSw); obtain ⟨hS0, hS1⟩ := hSw; (try (obtain ⟨q0, q1, q2, q3, q4, q5, q6, q7, q8, q9⟩ := hS0)); clear hS1; go_simp <;> with_reducible rfl)
      try simp only [Act.put, List.setIfInBounds_toArray, List.set_cons_zero, List.set_cons_succ]
      refine wpAnyH_ready (rs := [2]) (by kernel_rfl) (by simp) ?_
      refine AllReadyH.cons (o := { dst := some 31, op := Go.Op.call { callee := Go.Callee.value (Go.Operand.func 18), args := #[Go.Operand.tmp 29, Go.Operand.tmp 30], argTypes := #[33, 9] }, type := 9, pos := "law.go:220", after := #[{ on := 0, ground := Go.Ground.data }, { on := 1, ground := Go.Ground.data }], guard := none }) rfl (fun KK hK => ?_) AllReadyH.nil
      go_simp
      with_reducible refine (writeL g (dgs L) _ (by omega) HG3.out (dgs_dig L)).mono ?_
      rintro x_ w5 ⟨rfl, hb⟩
      go_wp2_with fail
      have gz := hHeld.2.1.below (B := World.heap _ |>.size) hHeld.2.1.1 hb hb.size
      refine hK.out _ _ ⟨gz.all, gz, hHeld.2.2.trans (hb.mono hHeld.2.2.size)⟩ (fun hHeld2 => ?_)
      clear hK hHeld hb gz
      have hHeld := hHeld2
      clear hHeld2
      try simp only [Act.put, List.setIfInBounds_toArray, List.set_cons_zero, List.set_cons_succ]
      refine wpAnyH_ready (rs := [5]) (by kernel_rfl) (by simp) ?_
      refine AllReadyH.cons (o := { dst := some 34, op := Go.Op.call { callee := Go.Callee.value (Go.Operand.func 18), args := #[Go.Operand.tmp 32, Go.Operand.tmp 33], argTypes := #[33, 9] }, type := 9, pos := "law.go:220", after := #[{ on := 3, ground := Go.Ground.data }, { on := 4, ground := Go.Ground.data }, { on := 2, ground := Go.Ground.chain }], guard := none }) rfl (fun KK hK => ?_) AllReadyH.nil
      go_simp
      with_reducible refine (writeL g (dgs L') _ (by omega) HG3.out (dgs_dig L')).mono ?_
      rintro x_ w6 ⟨rfl, hb⟩
      go_wp2_with fail
      have gz := hHeld.2.1.below (B := World.heap _ |>.size) hHeld.2.1.1 hb hb.size
      refine hK.out _ _ ⟨gz.all, gz, hHeld.2.2.trans (hb.mono hHeld.2.2.size)⟩ (fun hHeld2 => ?_)
      clear hK hHeld hb gz
      have hHeld := hHeld2
      clear hHeld2
      try simp only [Act.put, List.setIfInBounds_toArray, List.set_cons_zero, List.set_cons_succ]
      refine wpAnyH_take (i := 6) (oi := { dst := some 35, op := Go.Op.binOp Go.BinOp.add 9 (Go.Operand.tmp 31) (Go.Operand.tmp 34) 9, type := 9, pos := "law.go:220", after := #[{ on := 2, ground := Go.Ground.data }, { on := 5, ground := Go.Ground.data }], guard := none }) (v := ?_) rfl (by kernel_rfl) (by kernel_rfl) (by kernel_rfl) (fun _ _ _ h => h) (Or.inl ⟨by rfl, ?_⟩) hHeld ?_
      case refine_2 => (intro wz hSw; (try dsimp only at hSw); obtain ⟨hS0, hS1⟩ := hSw; (try (obtain ⟨q0, q1, q2, q3, q4, q5, q6, q7, q8, q9⟩ := hS0)); clear hS1; go_simp <;> with_reducible rfl)
      try simp only [Act.put, List.setIfInBounds_toArray, List.set_cons_zero, List.set_cons_succ]
      refine wpAnyH_take (i := 7) (oi := { dst := some 10, op := Go.Op.assign (Go.Operand.tmp 35), type := 9, pos := "law.go:220", after := #[{ on := 6, ground := Go.Ground.data }, { on := 5, ground := Go.Ground.chain }, { on := 0, ground := Go.Ground.phase }, { on := 1, ground := Go.Ground.phase }, { on := 2, ground := Go.Ground.phase }, { on := 3, ground := Go.Ground.phase }, { on := 4, ground := Go.Ground.phase }, { on := 5, ground := Go.Ground.phase }, { on := 6, ground := Go.Ground.phase }], guard := none }) (v := ?_) rfl (by kernel_rfl) (by kernel_rfl) (by kernel_rfl) (fun _ _ _ h => h) (Or.inl ⟨by rfl, ?_⟩) hHeld ?_
      case refine_2 => (intro wz hSw; (try dsimp only at hSw); obtain ⟨hS0, hS1⟩ := hSw; (try (obtain ⟨q0, q1, q2, q3, q4, q5, q6, q7, q8, q9⟩ := hS0)); clear hS1; go_simp <;> with_reducible rfl)
      try simp only [Act.put, List.setIfInBounds_toArray, List.set_cons_zero, List.set_cons_succ]
      refine wpAnyH_done (by kernel_rfl) ?_ _
      have G3 := Lib.hid hHeld.2.1
      have B5 := Lib.hid hHeld.2.2
      clear hHeld G2 B4
      have ea := arr_append (dgs L) (dgs L')
      have eb := arr_append (wrL g (dgs L)) (wrL g (dgs L'))
      have ew := wrL_append g (dgs L) (dgs L')
      have zz := arr_size (wrL g (dgs L) ++ wrL g (dgs L'))
      have zz2 := @List.length_append _ (wrL g (dgs L)) (wrL g (dgs L'))
      rw [eb]
      have EA := Lib.hid ea
      clear ea eb
      obtain ⟨⟨D, m⟩, hr⟩ : ∃ x, rdG g (wrL g (dgs L) ++ wrL g (dgs L')) = x := ⟨_, rfl⟩
      have HR := Lib.hid hr
      have EW := Lib.hid ew
      clear hr ew
      obtain ⟨q0, q1, q2, q3, q4, q5, q6, q7, q8, q9⟩ := G3.out.all
      go_wp2_with fail
      with_reducible refine (write_join g (dgs L) (dgs L') _ (by rw [List.length_append]; omega) HG3.out (dig_join (dgs_dig L) (dgs_dig L')) EW.out).mono ?_
      rintro e w6 ⟨rfl, b6⟩
      clear q0 q1 q2 q3 q4 q5 q6 q7 q8 q9
      have B6 := Lib.hid (B5.out.trans (b6.mono B5.out.size))
      have G4 := Lib.hid (G3.out.below (B := World.heap _ |>.size) G3.out.1 b6 b6.size)
      clear G3
      clear b6 B5
      obtain ⟨q0, q1, q2, q3, q4, q5, q6, q7, q8, q9⟩ := G4.out.all
      go_wp2_with fail
      with_reducible refine (read_as g _ _ HG3.out (by rw [arr_size, List.length_append]; omega) D m (by rw [arr_list]; exact HR.out)).mono ?_
      rintro e w7 ⟨rfl, b7⟩
      clear q0 q1 q2 q3 q4 q5 q6 q7 q8 q9
      have B7 := Lib.hid (B6.out.trans (b7.mono B6.out.size))
      have G5 := Lib.hid (G4.out.below (B := World.heap _ |>.size) G4.out.1 b7 b7.size)
      clear G4
      clear b7 B6
      cases hv : validG g with
      | false =>
        obtain ⟨q0, q1, q2, q3, q4, q5, q6, q7, q8, q9⟩ := G5.out.all
        go_wp2_with fail
        with_reducible refine (gvalid_as g _ (HT.out.below B7.out) HG3.out false hv).mono ?_
        rintro e w8 ⟨rfl, b8⟩
        clear q0 q1 q2 q3 q4 q5 q6 q7 q8 q9
        have B8 := Lib.hid (B7.out.trans (b8.mono B7.out.size))
        have G6 := Lib.hid (G5.out.below (B := World.heap _ |>.size) G5.out.1 b8 b8.size)
        clear G5
        clear b8 B7
        clear hv
        go_wp2
        go_ret
        exact ⟨rfl, B8.out⟩
      | true =>
        have hd : D = dgs L ++ dgs L' ∧ m = (wrL g (dgs L) ++ wrL g (dgs L')).length := by
          have := rd_all HS.out hv (dgs L ++ dgs L') (dig_join (dgs_dig L) (dgs_dig L'))
          rw [EW.out, HR.out] at this
          simpa using this
        obtain ⟨rfl, rfl⟩ := hd
        obtain ⟨q0, q1, q2, q3, q4, q5, q6, q7, q8, q9⟩ := G5.out.all
        go_wp2_with fail
        with_reducible refine (gvalid_as g _ (HT.out.below B7.out) HG3.out true hv).mono ?_
        rintro e w8 ⟨rfl, b8⟩
        clear q0 q1 q2 q3 q4 q5 q6 q7 q8 q9
        have B8 := Lib.hid (B7.out.trans (b8.mono B7.out.size))
        have G6 := Lib.hid (G5.out.below (B := World.heap _ |>.size) G5.out.1 b8 b8.size)
        clear G5
        clear b8 B7
        clear hv
        have ea := EA.out
        go_wp2
        go_ret
        exact ⟨rfl, B8.out⟩
end Go.Proofs.YtcdjclidckohpaaDoor
