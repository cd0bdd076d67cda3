/- Sets of signs: what they read, whether they are valid; the digits themselves. -/
import Derived.Test.YtcdjclidckohpaaDoorGlE
import Derived.Deep.RegionHeld3
namespace Go.Proofs.YtcdjclidckohpaaDoor
open Go.RowKit Florin
set_option linter.unusedVariables false
set_option linter.unusedSimpArgs false
theorem Gs.all {w : World} {b : Nat} {g : Nat → ByteArray} (h : Gs w b g) : w.cell? ⟨b, 0, none⟩ = some (.string (g 0)) ∧ w.cell? ⟨b, 1, none⟩ = some (.string (g 1)) ∧ w.cell? ⟨b, 2, none⟩ = some (.string (g 2)) ∧ w.cell? ⟨b, 3, none⟩ = some (.string (g 3)) ∧ w.cell? ⟨b, 4, none⟩ = some (.string (g 4)) ∧ w.cell? ⟨b, 5, none⟩ = some (.string (g 5)) ∧ w.cell? ⟨b, 6, none⟩ = some (.string (g 6)) ∧ w.cell? ⟨b, 7, none⟩ = some (.string (g 7)) ∧ w.cell? ⟨b, 8, none⟩ = some (.string (g 8)) ∧ w.cell? ⟨b, 9, none⟩ = some (.string (g 9)) :=
  ⟨h.2 0 (by omega), h.2 1 (by omega), h.2 2 (by omega), h.2 3 (by omega), h.2 4 (by omega), h.2 5 (by omega), h.2 6 (by omega), h.2 7 (by omega), h.2 8 (by omega), h.2 9 (by omega)⟩
set_option maxHeartbeats 1600000 in
set_option maxRecDepth 100000 in
theorem read_as (g : Nat → ByteArray) (s : ByteArray) (w : World) (hg : ∀ k, (g k).size ≤ 1000) (hs : s.size ≤ 1000) (D : List UInt8) (n : Nat) (hr : rdG g s.data.toList = (D, n)) :
    Calls Tryd.prog 21 #[SV g, .string s] w fun e w' => e = .returned (.tuple #[S D, .int .i64 (n : Int)]) ∧ Below w.heap.size w w' := by
  have HR := Lib.hid hr
  have HG := Lib.hid hg
  clear hr hg
  obtain ⟨i0, hi, hz0, hz1, hz2⟩ := info_parts infoB
  go_enter Tryd.func21, Tryd.ntmps21
  go_wp2_with fail
  go_loopw [6, 7] (fun v i wr => ∃ (k : Nat) (acc : List UInt8), k ≤ s.size ∧ i = .int .i64 k ∧ acc.length ≤ k ∧ Gs wr w.heap.size g ∧ OwnB wr (w.heap.size + 1) v acc ∧ D = acc ++ (rdG g (s.data.toList.drop k)).1 ∧ n = k + (rdG g (s.data.toList.drop k)).2 ∧ w.heap.size + 1 ≤ wr.heap.size ∧ Below w.heap.size w wr) (fun _ i _ => s.size - (intOf i).toNat)
  case atStart => exact ⟨0, [], Nat.zero_le _, rfl, Nat.le_refl _, Gs.new w g 33, World.ownsRow_nil _ _ _ _, by rw [List.drop_zero, HR.out]; rfl, by rw [List.drop_zero, HR.out]; simp, by simp, (Below.refl _ _).alloc (Nat.le_refl _) _⟩
  case round =>
    obtain ⟨k, acc, hk, rfl, hac, hgs, hown, hD, hn, hsz, hb⟩ := hrel
    have HGS := Lib.hid hgs
    have HOW := Lib.hid hown
    have HD := Lib.hid hD
    have HN := Lib.hid hn
    have HB := Lib.hid hb
    have hki : (k : Int) ≤ (s.size : Int) := by omega
    clear hgs hD hn hb hown
    cases ho : oneG g (s.extract k s.size).data.toList with
    | none =>
      have HO := Lib.hid ho
      clear ho
      go_wp2_with fail
      refine wp_region_held_drew (S := fun w' => (w'.cell? ⟨w.heap.size, 0, none⟩ = some (.string (g 0)) ∧ w'.cell? ⟨w.heap.size, 1, none⟩ = some (.string (g 1)) ∧ w'.cell? ⟨w.heap.size, 2, none⟩ = some (.string (g 2)) ∧ w'.cell? ⟨w.heap.size, 3, none⟩ = some (.string (g 3)) ∧ w'.cell? ⟨w.heap.size, 4, none⟩ = some (.string (g 4)) ∧ w'.cell? ⟨w.heap.size, 5, none⟩ = some (.string (g 5)) ∧ w'.cell? ⟨w.heap.size, 6, none⟩ = some (.string (g 6)) ∧ w'.cell? ⟨w.heap.size, 7, none⟩ = some (.string (g 7)) ∧ w'.cell? ⟨w.heap.size, 8, none⟩ = some (.string (g 8)) ∧ w'.cell? ⟨w.heap.size, 9, none⟩ = some (.string (g 9))) ∧ Below wr.heap.size wr w') (by kernel_rfl) ⟨HGS.out.all, (Below.refl _ _).drew⟩ (fun hHeld => ?_)
      refine wpAnyH_take (i := 0) (oi := { dst := some 11, op := Go.Op.load 33 (Go.Operand.tmp 2), type := 33, pos := "glyph.go:75", after := #[], guard := none }) (v := ?_) rfl (by kernel_rfl) (by kernel_rfl) (by kernel_rfl) (fun _ _ _ h => h) (Or.inl ⟨by rfl, ?_⟩) hHeld ?_
      case refine_2 => (intro wz hSw; (try dsimp only at hSw); obtain ⟨hS0, hS1⟩ := hSw; (try (obtain ⟨q0, q1, q2, q3, q4, q5, q6, q7, q8, q9⟩ := hS0)); clear hS1; go_simp <;> with_reducible rfl)
      try simp only [Act.put, List.setIfInBounds_toArray, List.set_cons_zero, List.set_cons_succ]
      refine wpAnyH_take (i := 1) (oi := { dst := some 12, op := Go.Op.move (Go.Operand.tmp 1), type := 9, pos := "glyph.go:75", after := #[], guard := none }) (v := ?_) rfl (by kernel_rfl) (by kernel_rfl) (by kernel_rfl) (fun _ _ _ h => h) (Or.inl ⟨by rfl, ?_⟩) hHeld ?_
      case refine_2 => (intro wz hSw; (try dsimp only at hSw); obtain ⟨hS0, hS1⟩ := hSw; (try (obtain ⟨q0, q1, q2, q3, q4, q5, q6, q7, q8, q9⟩ := hS0)); clear hS1; go_simp <;> with_reducible rfl)
      try simp only [Act.put, List.setIfInBounds_toArray, List.set_cons_zero, List.set_cons_succ]
      refine wpAnyH_take (i := 2) (oi := { dst := some 13, op := Go.Op.move (Go.Operand.tmp 7), type := 3, pos := "glyph.go:75", after := #[], guard := none }) (v := ?_) rfl (by kernel_rfl) (by kernel_rfl) (by kernel_rfl) (fun _ _ _ h => h) (Or.inl ⟨by rfl, ?_⟩) hHeld ?_
      case refine_2 => (intro wz hSw; (try dsimp only at hSw); obtain ⟨hS0, hS1⟩ := hSw; (try (obtain ⟨q0, q1, q2, q3, q4, q5, q6, q7, q8, q9⟩ := hS0)); clear hS1; go_simp <;> with_reducible rfl)
      try simp only [Act.put, List.setIfInBounds_toArray, List.set_cons_zero, List.set_cons_succ]
      refine wpAnyH_take (i := 3) (oi := { dst := some 14, op := Go.Op.slice 9 (Go.Operand.tmp 12) (some (Go.Operand.tmp 13)) none none, type := 9, pos := "glyph.go:75", after := #[{ on := 1, ground := Go.Ground.data }, { on := 2, ground := Go.Ground.data }], guard := none }) (v := ?_) rfl (by kernel_rfl) (by kernel_rfl) (by kernel_rfl) (fun _ _ _ h => h) (Or.inl ⟨by rfl, ?_⟩) hHeld ?_
      case refine_2 => (intro wz hSw; (try dsimp only at hSw); obtain ⟨hS0, hS1⟩ := hSw; (try (obtain ⟨q0, q1, q2, q3, q4, q5, q6, q7, q8, q9⟩ := hS0)); clear hS1; go_simp <;> with_reducible rfl)
      try simp only [Act.put, List.setIfInBounds_toArray, List.set_cons_zero, List.set_cons_succ]
      refine wpAnyH_ready (rs := [4]) (by kernel_rfl) (by simp) ?_
      refine AllReadyH.cons (o := { dst := some 15, op := Go.Op.call { callee := Go.Callee.value (Go.Operand.func 20), args := #[Go.Operand.tmp 11, Go.Operand.tmp 14], argTypes := #[33, 9] }, type := 37, pos := "glyph.go:75", after := #[{ on := 0, ground := Go.Ground.data }, { on := 3, ground := Go.Ground.data }], guard := none }) rfl (fun KK hK => ?_) AllReadyH.nil
      go_simp
      with_reducible refine (gone_as g _ _ HG.out _ (oneV_no HO.out)).mono ?_
      rintro x_ w5 ⟨rfl, hb⟩
      go_wp2_with fail
      refine hK.out _ _ ⟨(HGS.out.below (B := wr.heap.size) HGS.out.1 (hHeld.2.trans (hb.mono hHeld.2.size)) (hHeld.2.trans (hb.mono hHeld.2.size)).size).all, hHeld.2.trans (hb.mono hHeld.2.size)⟩ (fun hHeld2 => ?_)
      clear hK hHeld
      have hHeld := hHeld2
      clear hHeld2
      try simp only [Act.put, List.setIfInBounds_toArray, List.set_cons_zero, List.set_cons_succ]
      refine wpAnyH_take (i := 5) (oi := { dst := some 10, op := Go.Op.move (Go.Operand.tmp 15), type := 37, pos := "glyph.go:75", after := #[{ on := 4, ground := Go.Ground.data }], guard := none }) (v := ?_) rfl (by kernel_rfl) (by kernel_rfl) (by kernel_rfl) (fun _ _ _ h => h) (Or.inl ⟨by rfl, ?_⟩) hHeld ?_
      case refine_2 => (intro wz hSw; (try dsimp only at hSw); obtain ⟨hS0, hS1⟩ := hSw; (try (obtain ⟨q0, q1, q2, q3, q4, q5, q6, q7, q8, q9⟩ := hS0)); clear hS1; go_simp <;> with_reducible rfl)
      try simp only [Act.put, List.setIfInBounds_toArray, List.set_cons_zero, List.set_cons_succ]
      refine wpAnyH_take (i := 6) (oi := { dst := some 16, op := Go.Op.extract (Go.Operand.tmp 10) 0, type := 3, pos := "glyph.go:75", after := #[{ on := 5, ground := Go.Ground.data }], guard := none }) (v := ?_) rfl (by kernel_rfl) (by kernel_rfl) (by kernel_rfl) (fun _ _ _ h => h) (Or.inl ⟨by rfl, ?_⟩) hHeld ?_
      case refine_2 => (intro wz hSw; (try dsimp only at hSw); obtain ⟨hS0, hS1⟩ := hSw; (try (obtain ⟨q0, q1, q2, q3, q4, q5, q6, q7, q8, q9⟩ := hS0)); clear hS1; go_simp <;> with_reducible rfl)
      try simp only [Act.put, List.setIfInBounds_toArray, List.set_cons_zero, List.set_cons_succ]
      refine wpAnyH_take (i := 7) (oi := { dst := some 17, op := Go.Op.extract (Go.Operand.tmp 10) 1, type := 3, pos := "glyph.go:75", after := #[{ on := 5, ground := Go.Ground.data }, { on := 8, ground := Go.Ground.gcOnly Go.Departure.lateStores }], guard := none }) (v := ?_) rfl (by kernel_rfl) (by kernel_rfl) (by kernel_rfl) (fun _ _ _ h => h) (Or.inl ⟨by rfl, ?_⟩) hHeld ?_
      case refine_2 => (intro wz hSw; (try dsimp only at hSw); obtain ⟨hS0, hS1⟩ := hSw; (try (obtain ⟨q0, q1, q2, q3, q4, q5, q6, q7, q8, q9⟩ := hS0)); clear hS1; go_simp <;> with_reducible rfl)
      try simp only [Act.put, List.setIfInBounds_toArray, List.set_cons_zero, List.set_cons_succ]
      refine wpAnyH_take (i := 8) (oi := { dst := some 8, op := Go.Op.assign (Go.Operand.tmp 16), type := 3, pos := "glyph.go:75", after := #[{ on := 6, ground := Go.Ground.data }, { on := 4, ground := Go.Ground.chain }, { on := 0, ground := Go.Ground.phase }, { on := 1, ground := Go.Ground.phase }, { on := 2, ground := Go.Ground.phase }, { on := 3, ground := Go.Ground.phase }, { on := 4, ground := Go.Ground.phase }, { on := 5, ground := Go.Ground.phase }, { on := 6, ground := Go.Ground.phase }, { on := 7, ground := Go.Ground.textOnly Go.Departure.lateStores }], guard := none }) (v := ?_) rfl (by kernel_rfl) (by kernel_rfl) (by kernel_rfl) (fun _ _ _ h => h) (Or.inl ⟨by rfl, ?_⟩) hHeld ?_
      case refine_2 => (intro wz hSw; (try dsimp only at hSw); obtain ⟨hS0, hS1⟩ := hSw; (try (obtain ⟨q0, q1, q2, q3, q4, q5, q6, q7, q8, q9⟩ := hS0)); clear hS1; go_simp <;> with_reducible rfl)
      try simp only [Act.put, List.setIfInBounds_toArray, List.set_cons_zero, List.set_cons_succ]
      refine wpAnyH_take (i := 9) (oi := { dst := some 9, op := Go.Op.assign (Go.Operand.tmp 17), type := 3, pos := "glyph.go:75", after := #[{ on := 7, ground := Go.Ground.data }, { on := 8, ground := Go.Ground.chain }, { on := 0, ground := Go.Ground.phase }, { on := 1, ground := Go.Ground.phase }, { on := 2, ground := Go.Ground.phase }, { on := 3, ground := Go.Ground.phase }, { on := 4, ground := Go.Ground.phase }, { on := 5, ground := Go.Ground.phase }, { on := 6, ground := Go.Ground.phase }, { on := 7, ground := Go.Ground.phase }, { on := 8, ground := Go.Ground.phase }], guard := none }) (v := ?_) rfl (by kernel_rfl) (by kernel_rfl) (by kernel_rfl) (fun _ _ _ h => h) (Or.inl ⟨by rfl, ?_⟩) hHeld ?_
      case refine_2 => (intro wz hSw; (try dsimp only at hSw); obtain ⟨hS0, hS1⟩ := hSw; (try (obtain ⟨q0, q1, q2, q3, q4, q5, q6, q7, q8, q9⟩ := hS0)); clear hS1; go_simp <;> with_reducible rfl)
      try simp only [Act.put, List.setIfInBounds_toArray, List.set_cons_zero, List.set_cons_succ]
      refine wpAnyH_done (by kernel_rfl) ?_ _
      have HOW2 := (HOW.out.below hHeld.2)
      have hb5 := HB.out.trans (hHeld.2.mono HB.out.size)
      have HB2 := Lib.hid hHeld
      have CV := conv_own HOW2
      clear hHeld
      go_wp2
      go_ret2
      exact ⟨by rw [HD.out, HN.out, ← ext_list, rdG_no HO.out]; simp, hb5⟩
    | some d =>
      have HO := Lib.hid ho
      clear ho
      have h10 := (oneG_hit HO.out).1
      have HL := Lib.hid (hit_len (oneG_hit HO.out).2.1)
      go_wp2_with fail
      refine wp_region_held_drew (S := fun w' => (w'.cell? ⟨w.heap.size, 0, none⟩ = some (.string (g 0)) ∧ w'.cell? ⟨w.heap.size, 1, none⟩ = some (.string (g 1)) ∧ w'.cell? ⟨w.heap.size, 2, none⟩ = some (.string (g 2)) ∧ w'.cell? ⟨w.heap.size, 3, none⟩ = some (.string (g 3)) ∧ w'.cell? ⟨w.heap.size, 4, none⟩ = some (.string (g 4)) ∧ w'.cell? ⟨w.heap.size, 5, none⟩ = some (.string (g 5)) ∧ w'.cell? ⟨w.heap.size, 6, none⟩ = some (.string (g 6)) ∧ w'.cell? ⟨w.heap.size, 7, none⟩ = some (.string (g 7)) ∧ w'.cell? ⟨w.heap.size, 8, none⟩ = some (.string (g 8)) ∧ w'.cell? ⟨w.heap.size, 9, none⟩ = some (.string (g 9))) ∧ Below wr.heap.size wr w') (by kernel_rfl) ⟨HGS.out.all, (Below.refl _ _).drew⟩ (fun hHeld => ?_)
      refine wpAnyH_take (i := 0) (oi := { dst := some 11, op := Go.Op.load 33 (Go.Operand.tmp 2), type := 33, pos := "glyph.go:75", after := #[], guard := none }) (v := ?_) rfl (by kernel_rfl) (by kernel_rfl) (by kernel_rfl) (fun _ _ _ h => h) (Or.inl ⟨by rfl, ?_⟩) hHeld ?_
      case refine_2 => (intro wz hSw; (try dsimp only at hSw); obtain ⟨hS0, hS1⟩ := hSw; (try (obtain ⟨q0, q1, q2, q3, q4, q5, q6, q7, q8, q9⟩ := hS0)); clear hS1; go_simp <;> with_reducible rfl)
      try simp only [Act.put, List.setIfInBounds_toArray, List.set_cons_zero, List.set_cons_succ]
      refine wpAnyH_take (i := 1) (oi := { dst := some 12, op := Go.Op.move (Go.Operand.tmp 1), type := 9, pos := "glyph.go:75", after := #[], guard := none }) (v := ?_) rfl (by kernel_rfl) (by kernel_rfl) (by kernel_rfl) (fun _ _ _ h => h) (Or.inl ⟨by rfl, ?_⟩) hHeld ?_
      case refine_2 => (intro wz hSw; (try dsimp only at hSw); obtain ⟨hS0, hS1⟩ := hSw; (try (obtain ⟨q0, q1, q2, q3, q4, q5, q6, q7, q8, q9⟩ := hS0)); clear hS1; go_simp <;> with_reducible rfl)
      try simp only [Act.put, List.setIfInBounds_toArray, List.set_cons_zero, List.set_cons_succ]
      refine wpAnyH_take (i := 2) (oi := { dst := some 13, op := Go.Op.move (Go.Operand.tmp 7), type := 3, pos := "glyph.go:75", after := #[], guard := none }) (v := ?_) rfl (by kernel_rfl) (by kernel_rfl) (by kernel_rfl) (fun _ _ _ h => h) (Or.inl ⟨by rfl, ?_⟩) hHeld ?_
      case refine_2 => (intro wz hSw; (try dsimp only at hSw); obtain ⟨hS0, hS1⟩ := hSw; (try (obtain ⟨q0, q1, q2, q3, q4, q5, q6, q7, q8, q9⟩ := hS0)); clear hS1; go_simp <;> with_reducible rfl)
      try simp only [Act.put, List.setIfInBounds_toArray, List.set_cons_zero, List.set_cons_succ]
      refine wpAnyH_take (i := 3) (oi := { dst := some 14, op := Go.Op.slice 9 (Go.Operand.tmp 12) (some (Go.Operand.tmp 13)) none none, type := 9, pos := "glyph.go:75", after := #[{ on := 1, ground := Go.Ground.data }, { on := 2, ground := Go.Ground.data }], guard := none }) (v := ?_) rfl (by kernel_rfl) (by kernel_rfl) (by kernel_rfl) (fun _ _ _ h => h) (Or.inl ⟨by rfl, ?_⟩) hHeld ?_
      case refine_2 => (intro wz hSw; (try dsimp only at hSw); obtain ⟨hS0, hS1⟩ := hSw; (try (obtain ⟨q0, q1, q2, q3, q4, q5, q6, q7, q8, q9⟩ := hS0)); clear hS1; go_simp <;> with_reducible rfl)
      try simp only [Act.put, List.setIfInBounds_toArray, List.set_cons_zero, List.set_cons_succ]
      refine wpAnyH_ready (rs := [4]) (by kernel_rfl) (by simp) ?_
      refine AllReadyH.cons (o := { dst := some 15, op := Go.Op.call { callee := Go.Callee.value (Go.Operand.func 20), args := #[Go.Operand.tmp 11, Go.Operand.tmp 14], argTypes := #[33, 9] }, type := 37, pos := "glyph.go:75", after := #[{ on := 0, ground := Go.Ground.data }, { on := 3, ground := Go.Ground.data }], guard := none }) rfl (fun KK hK => ?_) AllReadyH.nil
      go_simp
      with_reducible refine (gone_as g _ _ HG.out _ (oneV_at HO.out)).mono ?_
      rintro x_ w5 ⟨rfl, hb⟩
      go_wp2_with fail
      refine hK.out _ _ ⟨(HGS.out.below (B := wr.heap.size) HGS.out.1 (hHeld.2.trans (hb.mono hHeld.2.size)) (hHeld.2.trans (hb.mono hHeld.2.size)).size).all, hHeld.2.trans (hb.mono hHeld.2.size)⟩ (fun hHeld2 => ?_)
      clear hK hHeld
      have hHeld := hHeld2
      clear hHeld2
      try simp only [Act.put, List.setIfInBounds_toArray, List.set_cons_zero, List.set_cons_succ]
      refine wpAnyH_take (i := 5) (oi := { dst := some 10, op := Go.Op.move (Go.Operand.tmp 15), type := 37, pos := "glyph.go:75", after := #[{ on := 4, ground := Go.Ground.data }], guard := none }) (v := ?_) rfl (by kernel_rfl) (by kernel_rfl) (by kernel_rfl) (fun _ _ _ h => h) (Or.inl ⟨by rfl, ?_⟩) hHeld ?_
      case refine_2 => (intro wz hSw; (try dsimp only at hSw); obtain ⟨hS0, hS1⟩ := hSw; (try (obtain ⟨q0, q1, q2, q3, q4, q5, q6, q7, q8, q9⟩ := hS0)); clear hS1; go_simp <;> with_reducible rfl)
      try simp only [Act.put, List.setIfInBounds_toArray, List.set_cons_zero, List.set_cons_succ]
      refine wpAnyH_take (i := 6) (oi := { dst := some 16, op := Go.Op.extract (Go.Operand.tmp 10) 0, type := 3, pos := "glyph.go:75", after := #[{ on := 5, ground := Go.Ground.data }], guard := none }) (v := ?_) rfl (by kernel_rfl) (by kernel_rfl) (by kernel_rfl) (fun _ _ _ h => h) (Or.inl ⟨by rfl, ?_⟩) hHeld ?_
      case refine_2 => (intro wz hSw; (try dsimp only at hSw); obtain ⟨hS0, hS1⟩ := hSw; (try (obtain ⟨q0, q1, q2, q3, q4, q5, q6, q7, q8, q9⟩ := hS0)); clear hS1; go_simp <;> with_reducible rfl)
      try simp only [Act.put, List.setIfInBounds_toArray, List.set_cons_zero, List.set_cons_succ]
      refine wpAnyH_take (i := 7) (oi := { dst := some 17, op := Go.Op.extract (Go.Operand.tmp 10) 1, type := 3, pos := "glyph.go:75", after := #[{ on := 5, ground := Go.Ground.data }, { on := 8, ground := Go.Ground.gcOnly Go.Departure.lateStores }], guard := none }) (v := ?_) rfl (by kernel_rfl) (by kernel_rfl) (by kernel_rfl) (fun _ _ _ h => h) (Or.inl ⟨by rfl, ?_⟩) hHeld ?_
      case refine_2 => (intro wz hSw; (try dsimp only at hSw); obtain ⟨hS0, hS1⟩ := hSw; (try (obtain ⟨q0, q1, q2, q3, q4, q5, q6, q7, q8, q9⟩ := hS0)); clear hS1; go_simp <;> with_reducible rfl)
      try simp only [Act.put, List.setIfInBounds_toArray, List.set_cons_zero, List.set_cons_succ]
      refine wpAnyH_take (i := 8) (oi := { dst := some 8, op := Go.Op.assign (Go.Operand.tmp 16), type := 3, pos := "glyph.go:75", after := #[{ on := 6, ground := Go.Ground.data }, { on := 4, ground := Go.Ground.chain }, { on := 0, ground := Go.Ground.phase }, { on := 1, ground := Go.Ground.phase }, { on := 2, ground := Go.Ground.phase }, { on := 3, ground := Go.Ground.phase }, { on := 4, ground := Go.Ground.phase }, { on := 5, ground := Go.Ground.phase }, { on := 6, ground := Go.Ground.phase }, { on := 7, ground := Go.Ground.textOnly Go.Departure.lateStores }], guard := none }) (v := ?_) rfl (by kernel_rfl) (by kernel_rfl) (by kernel_rfl) (fun _ _ _ h => h) (Or.inl ⟨by rfl, ?_⟩) hHeld ?_
      case refine_2 => (intro wz hSw; (try dsimp only at hSw); obtain ⟨hS0, hS1⟩ := hSw; (try (obtain ⟨q0, q1, q2, q3, q4, q5, q6, q7, q8, q9⟩ := hS0)); clear hS1; go_simp <;> with_reducible rfl)
      try simp only [Act.put, List.setIfInBounds_toArray, List.set_cons_zero, List.set_cons_succ]
      refine wpAnyH_take (i := 9) (oi := { dst := some 9, op := Go.Op.assign (Go.Operand.tmp 17), type := 3, pos := "glyph.go:75", after := #[{ on := 7, ground := Go.Ground.data }, { on := 8, ground := Go.Ground.chain }, { on := 0, ground := Go.Ground.phase }, { on := 1, ground := Go.Ground.phase }, { on := 2, ground := Go.Ground.phase }, { on := 3, ground := Go.Ground.phase }, { on := 4, ground := Go.Ground.phase }, { on := 5, ground := Go.Ground.phase }, { on := 6, ground := Go.Ground.phase }, { on := 7, ground := Go.Ground.phase }, { on := 8, ground := Go.Ground.phase }], guard := none }) (v := ?_) rfl (by kernel_rfl) (by kernel_rfl) (by kernel_rfl) (fun _ _ _ h => h) (Or.inl ⟨by rfl, ?_⟩) hHeld ?_
      case refine_2 => (intro wz hSw; (try dsimp only at hSw); obtain ⟨hS0, hS1⟩ := hSw; (try (obtain ⟨q0, q1, q2, q3, q4, q5, q6, q7, q8, q9⟩ := hS0)); clear hS1; go_simp <;> with_reducible rfl)
      try simp only [Act.put, List.setIfInBounds_toArray, List.set_cons_zero, List.set_cons_succ]
      refine wpAnyH_done (by kernel_rfl) ?_ _
      have HOW2 := (HOW.out.below hHeld.2)
      have GS5 := (HGS.out.below (B := wr.heap.size) HGS.out.1 hHeld.2 hHeld.2.size)
      have hb5 := HB.out.trans (hHeld.2.mono HB.out.size)
      have hs5 := hHeld.2.size
      clear hHeld hb
      have GS5h := Lib.hid GS5
      have HB5 := Lib.hid hb5
      have hgd := HG.out d
      have h48 : (48 : Int) + (d : Int) < 256 := by omega
      clear GS5 hb5
      go_wp2_with (at_builtin; refine wpList_append_own _ rfl _ _ 31 rfl (w.heap.size + 1) 5 i0 (.int .u8 0) 1 1 Tryd.underlying31 hi hz0 hz1 hz2 rfl (by decide) _ _ _ rfl (HOW2.alloc _) ⟨w5.heap.size, 0, none⟩ 1 1 [.int .u8 (48 + (d : Int))] rfl rfl ?c1 ?c2 ?c3 ?c4 ?c5 ?_)
      case c1 =>
        intro j u hj
        match j, hj with
        | 0, hj => simp at hj; subst hj; simp [Addr.add]
      case c2 => intro u hu; simp at hu; subst hu; rfl
      case c3 => unfold maxLen; omega
      case c4 => omega
      case c5 => simp; omega
      intro v6 w6 hown6 hgr6 _
      have BEL : Hid (Below (w.heap.size + 1) w5 w6) := Lib.hid (((Below.refl _ _).alloc (by omega) _).grown hgr6 (by simp; omega) (fun j hj => (HOW2.lt j hj).1))
      have OW6 : Hid (OwnB w6 (w.heap.size + 1) v6 (acc ++ [Florin.u8 (48 + d)])) := Lib.hid (by
        show w6.ownsRow _ _ _ _ _ _
        rw [List.length_append, List.map_append]
        have e : bv (Florin.u8 (48 + d)) = .int .u8 (48 + (d : Int)) := by show Value.int .u8 _ = _; rw [u8_toNat (by omega)]; rfl
        rw [List.map_singleton, e]
        exact hown6)
      clear hown6 hgr6 HOW2
      go_wp2
      go_roundw
      case rel =>
        have hl := HL.out
        rw [size_list, ext_size] at hl
        have hr := rdG_at HO.out
        rw [ext_list, List.drop_drop] at hr
        have hsb := BEL.out.size
        refine ⟨k + (g d).size, acc ++ [Florin.u8 (48 + d)], by omega, by go_num, by rw [List.length_append]; simp; omega, GS5h.out.below (B := w.heap.size + 1) (by omega) BEL.out hsb, OW6.out, ?_, ?_, by omega, HB5.out.trans (BEL.out.mono (by omega))⟩
        · rw [HD.out, hr]; simp
        · rw [HN.out, hr]; simp; omega
      case measure =>
        have hl := HL.out
        rw [size_list, ext_size] at hl
        simp [intOf]; omega
end Go.Proofs.YtcdjclidckohpaaDoor
