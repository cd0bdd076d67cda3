/- The walk of the law DecPlaces. -/
import Derived.Test.YtlppofjmkepceaaDoorDawK0
namespace Go.Proofs.YtlppofjmkepceaaDoor
open Go.RowKit Florin
set_option linter.unusedVariables false
set_option linter.unusedSimpArgs false

set_option maxRecDepth 100000 in
set_option maxHeartbeats 6400000 in
theorem places_z (n0 : Bool) (a0 : Option Addr) (len0 cap0 : Nat) (L0 : List UInt8) (e0 : Int) (w : World) (hin0 : InB w a0 len0 cap0 L0) (htab : Tab w) (g0 : len0 ≤ 80) (lo0 : -80 ≤ e0) (hi0 : e0 ≤ 80) (hd : made n0 (dgs L0) e0 = ⟨false, [], 0⟩) :
    Calls Tryd.prog 6 #[RV n0 a0 len0 cap0 e0] w fun x w' => x = .returned (.bool true) ∧ Below w.heap.size w w' := by
  have l0 : (dgs L0).length ≤ 80 := by rw [dgs_length, hin0.1]; exact g0
  have HD := Lib.hid hd
  have HI := Lib.hid (idem_of hd)
  obtain ⟨uw, huw⟩ := bytes_of ([])
  obtain ⟨up, hup⟩ := bytes_of ([] : List UInt8)
  have sw : uw.size = ([] : List UInt8).length := by rw [← size_list, huw]
  have sp : up.size = ([] : List UInt8).length := by rw [← size_list, hup]
  have HZ0 : Hid (made false (⟨#[]⟩ : ByteArray).data.toList 0 = zero) := Lib.hid rfl
  have HP : Hid (partsT ⟨false, [], 0⟩ = (uw.data.toList, up.data.toList)) := Lib.hid (by rw [huw, hup]; rfl)
  have HB : Hid (uw.data.toList = bare uw.data.toList) := Lib.hid (by rw [huw]; rfl)
  have HM : Hid (made false (uw ++ up).data.toList (-(up.size : Int)) = ⟨false, [], 0⟩) := Lib.hid (by rw [app_data, huw, hup]; exact made_zero _ _ rfl)
  have su : up.size = 0 := by simpa using sp
  have sw0 : uw.size = 0 := by simpa using sw
  have EW : uw.toList.isEmpty = true := by rw [Lib.toList_data, huw]; rfl
  have EP : up.toList.isEmpty = true := by rw [Lib.toList_data, hup]; rfl
  have zu : up.size ≤ 300 := by rw [su]; omega
  have zw1 : uw.size ≤ 400 := by omega
  have hw1 : IntKind.i64.wrap (-(up.size : Int)) = -(up.size : Int) := by rw [IntKind.wrap_i64]; omega
  have i4 : decide (0 < up.size) = false := decide_eq_false (by omega)
  have hcat : ¬ 9223372036854775807 < uw.size + up.size := by omega
  have HSU := Lib.hid su
  have HT := Lib.hid htab
  have HIN0 := Lib.hid hin0
  have hc0 := hin0.2.1
  have hm0 := hin0.2.2.1
  clear htab hin0 hd huw hup sw sp su sw0
  go_enter Tryd.func6, Tryd.ntmps6
  go_wp2_with fail
  with_reducible refine (headD _ (HT.out.below ((Below.refl w.heap.size w).alloc (by simp <;> omega) _))).mono ?_
  rintro x w1 ⟨rfl, hb⟩
  have Cr := Lib.hid (((Box.new w #[.bool n0, .slice a0 len0 cap0, .int .i64 e0] 24).at (b' := w.heap.size) (by simp)).below hb (by simp <;> omega))
  have b1 := Lib.hid (((Below.refl w.heap.size w).alloc (by simp <;> omega) _).trans (hb.mono (B' := w.heap.size) (by simp <;> omega)))
  clear hb
  have Br : Hid (Box w1 (w.heap.size) #[.bool n0, .slice a0 len0 cap0, .int .i64 e0]) := Cr
  clear Cr
  obtain ⟨r0, r1, r2, r3, r4, r5, r6⟩ := Br.out.three
  go_wp2_with fail
  with_reducible refine (few_yes n0 a0 len0 cap0 e0 80 _ hc0 hm0 (by decide) (by decide) (by omega) lo0 hi0).mono ?_
  rintro x w2 ⟨rfl, hb⟩
  have Cr := Lib.hid (Br.out.below hb (by have := Br.out.lt; simp <;> omega))
  have b2 := Lib.hid (b1.out.trans (hb.mono (B' := w.heap.size) (by have := b1.out.size; simp <;> omega)))
  clear r0 r1 r2 r3 r4 r5 r6
  clear hb Br
  have Br : Hid (Box w2 (w.heap.size) #[.bool n0, .slice a0 len0 cap0, .int .i64 e0]) := Cr
  clear Cr
  obtain ⟨r0, r1, r2, r3, r4, r5, r6⟩ := Br.out.three
  go_wp2_with fail
  with_reducible refine (make_as n0 a0 len0 cap0 L0 e0 _ (HIN0.out.below b2.out) (by omega)).mono ?_
  rintro x w3 ⟨rfl, hb⟩
  have Cr := Lib.hid (Br.out.below hb (by have := Br.out.lt; simp <;> omega))
  have b3 := Lib.hid (b2.out.trans (hb.mono (B' := w.heap.size) (by have := b2.out.size; simp <;> omega)))
  clear r0 r1 r2 r3 r4 r5 r6
  clear hb Br
  have Br : Hid (Box w3 (w.heap.size) #[.bool n0, .slice a0 len0 cap0, .int .i64 e0]) := Cr
  clear Cr
  obtain ⟨r0, r1, r2, r3, r4, r5, r6⟩ := Br.out.three
  go_wp2_with fail
  with_reducible refine (norm_as n0 ⟨(dgs L0).toArray⟩ e0 _ (by rw [arr_size]; omega) ⟨false, [], 0⟩ (by rw [arr_list]; exact HD.out)).mono ?_
  rintro x w4 ⟨rfl, hb⟩
  have Cr := Lib.hid (Br.out.below hb (by have := Br.out.lt; simp <;> omega))
  have b4 := Lib.hid (b3.out.trans (hb.mono (B' := w.heap.size) (by have := b3.out.size; simp <;> omega)))
  clear r0 r1 r2 r3 r4 r5 r6
  clear hb Br
  have Br : Hid (Box w4 (w.heap.size) #[.bool n0, .slice a0 len0 cap0, .int .i64 e0]) := Cr
  clear Cr
  obtain ⟨r0, r1, r2, r3, r4, r5, r6⟩ := Br.out.three
  go_wp2_with fail
  with_reducible refine (make_as n0 a0 len0 cap0 L0 e0 _ (HIN0.out.below (b4.out.alloc (by have := b4.out.size; simp <;> omega) _)) (by omega)).mono ?_
  rintro x w5 ⟨rfl, hb⟩
  have Cr := Lib.hid ((Br.out.alloc (.cells #[.bool false, .string ⟨#[]⟩, .int .i64 0] 28)).below hb (by have := Br.out.lt; simp <;> omega))
  have Cm := Lib.hid (((Box.new w4 #[.bool false, .string ⟨#[]⟩, .int .i64 0] 28).at (b' := w4.heap.size) (by simp)).below hb (by simp <;> omega))
  have b5 := Lib.hid ((b4.out.alloc (by have := b4.out.size; simp <;> omega) _).trans (hb.mono (B' := w.heap.size) (by have := b4.out.size; simp <;> omega)))
  clear r0 r1 r2 r3 r4 r5 r6
  clear hb Br
  have Br : Hid (Box w5 (w.heap.size) #[.bool n0, .slice a0 len0 cap0, .int .i64 e0]) := Cr
  have Bm : Hid (Box w5 (w4.heap.size) #[.bool false, .string ⟨#[]⟩, .int .i64 0]) := Cm
  clear Cr Cm
  obtain ⟨r0, r1, r2, r3, r4, r5, r6⟩ := Br.out.three
  obtain ⟨m0, m1, m2, m3, m4, m5, m6⟩ := Bm.out.three
  go_wp2_with fail
  with_reducible refine (parts_u n0 ⟨(dgs L0).toArray⟩ e0 _ (by rw [arr_size]; omega) ⟨false, [], 0⟩ (by rw [arr_list]; exact HD.out) uw up HP.out).mono ?_
  rintro x w6 ⟨rfl, hb⟩
  have Cr := Lib.hid (Br.out.below hb (by have := Br.out.lt; simp <;> omega))
  have Cm := Lib.hid (Bm.out.below hb (by have := Bm.out.lt; simp <;> omega))
  have b6 := Lib.hid (b5.out.trans (hb.mono (B' := w.heap.size) (by have := b5.out.size; simp <;> omega)))
  clear r0 r1 r2 r3 r4 r5 r6 m0 m1 m2 m3 m4 m5 m6
  clear hb Br Bm
  have Br : Hid (Box w6 (w.heap.size) #[.bool n0, .slice a0 len0 cap0, .int .i64 e0]) := Cr
  have Bm : Hid (Box w6 (w4.heap.size) #[.bool false, .string ⟨#[]⟩, .int .i64 0]) := Cm
  clear Cr Cm
  obtain ⟨r0, r1, r2, r3, r4, r5, r6⟩ := Br.out.three
  obtain ⟨m0, m1, m2, m3, m4, m5, m6⟩ := Bm.out.three
  go_wp2_with fail
  have Q0 : Hid (Held1 w (w4.heap.size) (.bool false) (.string ⟨#[]⟩) (.int .i64 0) w6) := Lib.hid ⟨Bm.out, b6.out⟩
  refine wp_region_held_drew (S := fun w' => w'.cell? ⟨w4.heap.size, 0, none⟩ = some (.bool false) ∧ w'.cell? ⟨w4.heap.size, 1, none⟩ = some (.string ⟨#[]⟩) ∧ w'.cell? ⟨w4.heap.size, 2, none⟩ = some (.int .i64 0) ∧ Held1 w (w4.heap.size) (.bool false) (.string ⟨#[]⟩) (.int .i64 0) w') (by kernel_rfl) (Held1.all (Held1.drew Q0.out)) (fun hHeld => ?_)
  refine wpAnyH_take (i := 0) (oi := { dst := some 24, op := Op.move (Operand.tmp 4), type := 9, pos := "law.go:220", after := #[], guard := none }) (v := ?_) rfl (by kernel_rfl) (by kernel_rfl) (by kernel_rfl) (fun _ _ _ h => h) (Or.inl ⟨by rfl, ?_⟩) hHeld ?_
  case refine_2 => (intro w hSw; (try dsimp only at hSw); go_simp <;> with_reducible rfl)
  try simp only [Act.put, List.setIfInBounds_toArray, List.set_cons_zero, List.set_cons_succ]
  refine wpAnyH_take (i := 1) (oi := { dst := some 25, op := Op.move (Operand.tmp 4), type := 9, pos := "law.go:220", after := #[], guard := none }) (v := ?_) rfl (by kernel_rfl) (by kernel_rfl) (by kernel_rfl) (fun _ _ _ h => h) (Or.inl ⟨by rfl, ?_⟩) hHeld ?_
  case refine_2 => (intro w hSw; (try dsimp only at hSw); go_simp <;> with_reducible rfl)
  try simp only [Act.put, List.setIfInBounds_toArray, List.set_cons_zero, List.set_cons_succ]
  refine wpAnyH_ready (rs := [2]) (by kernel_rfl) (by simp) ?_
  refine AllReadyH.cons (o := { dst := some 26, op := Op.call { callee := Callee.value (Operand.func 18), args := #[Operand.tmp 25], argTypes := #[9] }, type := 9, pos := "law.go:220", after := #[{ on := 1, ground := Ground.data }], guard := none }) rfl (fun KK hK => ?_) AllReadyH.nil
  go_simp
  (with_reducible refine (trim_bare_some uw _ (by unfold maxLen; omega) uw HB.out).mono ?_); rintro v wA ⟨rfl, rfl⟩
  go_wp2_with fail
  refine hK.out _ _ hHeld (fun _ => ?_)
  clear hK
  try simp only [Act.put, List.setIfInBounds_toArray, List.set_cons_zero, List.set_cons_succ]
  refine wpAnyH_take (i := 3) (oi := { dst := some 27, op := Op.binOp BinOp.neq 9 (Operand.tmp 24) (Operand.tmp 26) 9, type := 4, pos := "law.go:220", after := #[{ on := 0, ground := Ground.data }, { on := 2, ground := Ground.data }], guard := none }) (v := ?_) rfl (by kernel_rfl) (by kernel_rfl) (by kernel_rfl) (fun _ _ _ h => h) (Or.inl ⟨by rfl, ?_⟩) hHeld ?_
  case refine_2 => (intro w hSw; (try dsimp only at hSw); go_simp <;> with_reducible rfl)
  try simp only [Act.put, List.setIfInBounds_toArray, List.set_cons_zero, List.set_cons_succ]
  refine wpAnyH_take (i := 4) (oi := { dst := some 28, op := Op.move (Operand.tmp 27), type := 4, pos := "law.go:220", after := #[{ on := 3, ground := Ground.data }, { on := 2, ground := Ground.chain }], guard := none }) (v := ?_) rfl (by kernel_rfl) (by kernel_rfl) (by kernel_rfl) (fun _ _ _ h => h) (Or.inl ⟨by rfl, ?_⟩) hHeld ?_
  case refine_2 => (intro w hSw; (try dsimp only at hSw); go_simp <;> with_reducible rfl)
  try simp only [Act.put, List.setIfInBounds_toArray, List.set_cons_zero, List.set_cons_succ]
  refine wpAnyH_take (i := 5) (oi := { dst := some 29, op := Op.move (Operand.tmp 5), type := 9, pos := "law.go:220", after := #[{ on := 4, ground := Ground.guard }], guard := some (4, false) }) (v := ?_) rfl (by kernel_rfl) (by kernel_rfl) (by kernel_rfl) (fun _ _ _ h => h) (Or.inl ⟨by rfl, ?_⟩) hHeld ?_
  case refine_2 => (intro w hSw; (try dsimp only at hSw); go_simp <;> with_reducible rfl)
  try simp only [Act.put, List.setIfInBounds_toArray, List.set_cons_zero, List.set_cons_succ]
  refine wpAnyH_take (i := 6) (oi := { dst := some 30, op := Op.call { callee := Callee.builtin Builtin.len, args := #[Operand.tmp 29], argTypes := #[9] }, type := 3, pos := "law.go:220", after := #[{ on := 5, ground := Ground.data }, { on := 4, ground := Ground.guard }], guard := some (4, false) }) (v := ?_) rfl (by kernel_rfl) (by kernel_rfl) (by kernel_rfl) (fun _ _ _ h => h) (Or.inl ⟨by rfl, ?_⟩) hHeld ?_
  case refine_2 => (intro w hSw; (try dsimp only at hSw); go_simp <;> with_reducible rfl)
  try simp only [Act.put, List.setIfInBounds_toArray, List.set_cons_zero, List.set_cons_succ]
  refine wpAnyH_take (i := 7) (oi := { dst := some 31, op := Op.binOp BinOp.gtr 3 (Operand.tmp 30) (Operand.const (Value.int IntKind.i64 0)) 3, type := 4, pos := "law.go:220", after := #[{ on := 6, ground := Ground.data }, { on := 4, ground := Ground.guard }], guard := some (4, false) }) (v := ?_) rfl (by kernel_rfl) (by kernel_rfl) (by kernel_rfl) (fun _ _ _ h => h) (Or.inl ⟨by rfl, ?_⟩) hHeld ?_
  case refine_2 => (intro w hSw; (try dsimp only at hSw); go_simp <;> with_reducible rfl)
  try simp only [Act.put, List.setIfInBounds_toArray, List.set_cons_zero, List.set_cons_succ]
  refine wpAnyH_take (i := 8) (oi := { dst := some 32, op := Op.move (Operand.tmp 31), type := 4, pos := "law.go:220", after := #[{ on := 7, ground := Ground.data }, { on := 4, ground := Ground.chain }, { on := 4, ground := Ground.guard }], guard := some (4, false) }) (v := ?_) rfl (by kernel_rfl) (by kernel_rfl) (by kernel_rfl) (fun _ _ _ h => h) (Or.inl ⟨by rfl, ?_⟩) hHeld ?_
  case refine_2 => (intro w hSw; (try dsimp only at hSw); go_simp <;> with_reducible rfl)
  try simp only [Act.put, List.setIfInBounds_toArray, List.set_cons_zero, List.set_cons_succ]
  refine wpAnyH_take (i := 9) (oi := { dst := some 33, op := Op.move (Operand.tmp 5), type := 9, pos := "law.go:220", after := #[{ on := 8, ground := Ground.guard }], guard := some (8, true) }) (v := undef) rfl (by kernel_rfl) (by kernel_rfl) (by kernel_rfl) (fun _ _ _ h => h) (Or.inr ⟨by rfl, rfl⟩) hHeld ?_
  try simp only [Act.put, List.setIfInBounds_toArray, List.set_cons_zero, List.set_cons_succ]
  refine wpAnyH_take (i := 10) (oi := { dst := some 34, op := Op.move (Operand.tmp 5), type := 9, pos := "law.go:220", after := #[{ on := 8, ground := Ground.guard }], guard := some (8, true) }) (v := undef) rfl (by kernel_rfl) (by kernel_rfl) (by kernel_rfl) (fun _ _ _ h => h) (Or.inr ⟨by rfl, rfl⟩) hHeld ?_
  try simp only [Act.put, List.setIfInBounds_toArray, List.set_cons_zero, List.set_cons_succ]
  refine wpAnyH_take (i := 11) (oi := { dst := some 35, op := Op.call { callee := Callee.builtin Builtin.len, args := #[Operand.tmp 34], argTypes := #[9] }, type := 3, pos := "law.go:220", after := #[{ on := 10, ground := Ground.data }, { on := 8, ground := Ground.guard }], guard := some (8, true) }) (v := undef) rfl (by kernel_rfl) (by kernel_rfl) (by kernel_rfl) (fun _ _ _ h => h) (Or.inr ⟨by rfl, rfl⟩) hHeld ?_
  try simp only [Act.put, List.setIfInBounds_toArray, List.set_cons_zero, List.set_cons_succ]
  refine wpAnyH_take (i := 12) (oi := { dst := some 36, op := Op.binOp BinOp.sub 3 (Operand.tmp 35) (Operand.const (Value.int IntKind.i64 1)) 3, type := 3, pos := "law.go:220", after := #[{ on := 11, ground := Ground.data }, { on := 8, ground := Ground.guard }], guard := some (8, true) }) (v := undef) rfl (by kernel_rfl) (by kernel_rfl) (by kernel_rfl) (fun _ _ _ h => h) (Or.inr ⟨by rfl, rfl⟩) hHeld ?_
  try simp only [Act.put, List.setIfInBounds_toArray, List.set_cons_zero, List.set_cons_succ]
  refine wpAnyH_take (i := 13) (oi := { dst := some 37, op := Op.index 9 (Operand.tmp 33) (Operand.tmp 36), type := 5, pos := "law.go:220", after := #[{ on := 9, ground := Ground.data }, { on := 12, ground := Ground.data }, { on := 8, ground := Ground.guard }], guard := some (8, true) }) (v := undef) rfl (by kernel_rfl) (by kernel_rfl) (by kernel_rfl) (fun _ _ _ h => h) (Or.inr ⟨by rfl, rfl⟩) hHeld ?_
  try simp only [Act.put, List.setIfInBounds_toArray, List.set_cons_zero, List.set_cons_succ]
  refine wpAnyH_take (i := 14) (oi := { dst := some 38, op := Op.binOp BinOp.eql 5 (Operand.tmp 37) (Operand.const (Value.int IntKind.u8 48)) 5, type := 4, pos := "law.go:220", after := #[{ on := 13, ground := Ground.data }, { on := 8, ground := Ground.guard }], guard := some (8, true) }) (v := undef) rfl (by kernel_rfl) (by kernel_rfl) (by kernel_rfl) (fun _ _ _ h => h) (Or.inr ⟨by rfl, rfl⟩) hHeld ?_
  try simp only [Act.put, List.setIfInBounds_toArray, List.set_cons_zero, List.set_cons_succ]
  refine wpAnyH_take (i := 15) (oi := { dst := some 39, op := Op.pick (Operand.tmp 32) (Operand.tmp 38) (Operand.const (Value.bool false)), type := 4, pos := "law.go:220", after := #[{ on := 8, ground := Ground.data }, { on := 14, ground := Ground.data }, { on := 4, ground := Ground.guard }], guard := some (4, false) }) (v := ?_) rfl (by kernel_rfl) (by kernel_rfl) (by kernel_rfl) (fun _ _ _ h => h) (Or.inl ⟨by rfl, ?_⟩) hHeld ?_
  case refine_2 => (intro w hSw; (try dsimp only at hSw); go_simp <;> with_reducible rfl)
  try simp only [Act.put, List.setIfInBounds_toArray, List.set_cons_zero, List.set_cons_succ]
  refine wpAnyH_take (i := 16) (oi := { dst := some 40, op := Op.pick (Operand.tmp 28) (Operand.const (Value.bool true)) (Operand.tmp 39), type := 4, pos := "law.go:220", after := #[{ on := 4, ground := Ground.data }, { on := 15, ground := Ground.data }], guard := none }) (v := ?_) rfl (by kernel_rfl) (by kernel_rfl) (by kernel_rfl) (fun _ _ _ h => h) (Or.inl ⟨by rfl, ?_⟩) hHeld ?_
  case refine_2 => (intro w hSw; (try dsimp only at hSw); go_simp <;> with_reducible rfl)
  try simp only [Act.put, List.setIfInBounds_toArray, List.set_cons_zero, List.set_cons_succ]
  refine wpAnyH_take (i := 17) (oi := { dst := some 41, op := Op.move (Operand.tmp 40), type := 4, pos := "law.go:220", after := #[{ on := 16, ground := Ground.data }, { on := 8, ground := Ground.chain }], guard := none }) (v := ?_) rfl (by kernel_rfl) (by kernel_rfl) (by kernel_rfl) (fun _ _ _ h => h) (Or.inl ⟨by rfl, ?_⟩) hHeld ?_
  case refine_2 => (intro w hSw; (try dsimp only at hSw); go_simp <;> with_reducible rfl)
  try simp only [Act.put, List.setIfInBounds_toArray, List.set_cons_zero, List.set_cons_succ]
  refine wpAnyH_take (i := 18) (oi := { dst := some 42, op := Op.fieldAddr 28 (Operand.tmp 3) 0, type := 0, pos := "law.go:220", after := #[{ on := 17, ground := Ground.guard }], guard := some (17, false) }) (v := ?_) rfl (by kernel_rfl) (by kernel_rfl) (by kernel_rfl) (fun _ _ _ h => h) (Or.inl ⟨by rfl, ?_⟩) hHeld ?_
  case refine_2 => (intro w hSw; (try dsimp only at hSw); go_simp <;> with_reducible rfl)
  try simp only [Act.put, List.setIfInBounds_toArray, List.set_cons_zero, List.set_cons_succ]
  refine wpAnyH_take (i := 19) (oi := { dst := some 43, op := Op.load 4 (Operand.tmp 42), type := 4, pos := "law.go:220", after := #[{ on := 18, ground := Ground.data }, { on := 17, ground := Ground.guard }], guard := some (17, false) }) (v := ?_) rfl (by kernel_rfl) (by kernel_rfl) (by kernel_rfl) (fun _ _ _ h => h) (Or.inl ⟨by rfl, ?_⟩) hHeld ?_
  case refine_2 => (intro w hSw; (try dsimp only at hSw); go_simp <;> with_reducible rfl)
  try simp only [Act.put, List.setIfInBounds_toArray, List.set_cons_zero, List.set_cons_succ]
  refine wpAnyH_take (i := 20) (oi := { dst := some 44, op := Op.move (Operand.tmp 4), type := 9, pos := "law.go:220", after := #[{ on := 17, ground := Ground.guard }], guard := some (17, false) }) (v := ?_) rfl (by kernel_rfl) (by kernel_rfl) (by kernel_rfl) (fun _ _ _ h => h) (Or.inl ⟨by rfl, ?_⟩) hHeld ?_
  case refine_2 => (intro w hSw; (try dsimp only at hSw); go_simp <;> with_reducible rfl)
  try simp only [Act.put, List.setIfInBounds_toArray, List.set_cons_zero, List.set_cons_succ]
  refine wpAnyH_take (i := 21) (oi := { dst := some 45, op := Op.move (Operand.tmp 5), type := 9, pos := "law.go:220", after := #[{ on := 17, ground := Ground.guard }], guard := some (17, false) }) (v := ?_) rfl (by kernel_rfl) (by kernel_rfl) (by kernel_rfl) (fun _ _ _ h => h) (Or.inl ⟨by rfl, ?_⟩) hHeld ?_
  case refine_2 => (intro w hSw; (try dsimp only at hSw); go_simp <;> with_reducible rfl)
  try simp only [Act.put, List.setIfInBounds_toArray, List.set_cons_zero, List.set_cons_succ]
  refine wpAnyH_take (i := 22) (oi := { dst := some 46, op := Op.binOp BinOp.add 9 (Operand.tmp 44) (Operand.tmp 45) 9, type := 9, pos := "law.go:220", after := #[{ on := 20, ground := Ground.data }, { on := 21, ground := Ground.data }, { on := 17, ground := Ground.guard }], guard := some (17, false) }) (v := ?_) rfl (by kernel_rfl) (by kernel_rfl) (by kernel_rfl) (fun _ _ _ h => h) (Or.inl ⟨by rfl, ?_⟩) hHeld ?_
  case refine_2 => (intro w hSw; (try dsimp only at hSw); go_simp <;> with_reducible rfl)
  try simp only [Act.put, List.setIfInBounds_toArray, List.set_cons_zero, List.set_cons_succ]
  refine wpAnyH_take (i := 23) (oi := { dst := some 47, op := Op.move (Operand.tmp 5), type := 9, pos := "law.go:220", after := #[{ on := 17, ground := Ground.guard }], guard := some (17, false) }) (v := ?_) rfl (by kernel_rfl) (by kernel_rfl) (by kernel_rfl) (fun _ _ _ h => h) (Or.inl ⟨by rfl, ?_⟩) hHeld ?_
  case refine_2 => (intro w hSw; (try dsimp only at hSw); go_simp <;> with_reducible rfl)
  try simp only [Act.put, List.setIfInBounds_toArray, List.set_cons_zero, List.set_cons_succ]
  refine wpAnyH_take (i := 24) (oi := { dst := some 48, op := Op.call { callee := Callee.builtin Builtin.len, args := #[Operand.tmp 47], argTypes := #[9] }, type := 3, pos := "law.go:220", after := #[{ on := 23, ground := Ground.data }, { on := 17, ground := Ground.guard }], guard := some (17, false) }) (v := ?_) rfl (by kernel_rfl) (by kernel_rfl) (by kernel_rfl) (fun _ _ _ h => h) (Or.inl ⟨by rfl, ?_⟩) hHeld ?_
  case refine_2 => (intro w hSw; (try dsimp only at hSw); go_simp <;> with_reducible rfl)
  try simp only [Act.put, List.setIfInBounds_toArray, List.set_cons_zero, List.set_cons_succ]
  refine wpAnyH_take (i := 25) (oi := { dst := some 49, op := Op.unOp UnOp.neg 3 (Operand.tmp 48), type := 3, pos := "law.go:220", after := #[{ on := 24, ground := Ground.data }, { on := 17, ground := Ground.guard }], guard := some (17, false) }) (v := ?_) rfl (by kernel_rfl) (by kernel_rfl) (by kernel_rfl) (fun _ _ _ h => h) (Or.inl ⟨by rfl, ?_⟩) hHeld ?_
  case refine_2 => (intro w hSw; (try dsimp only at hSw); go_simp <;> with_reducible rfl)
  try simp only [Act.put, List.setIfInBounds_toArray, List.set_cons_zero, List.set_cons_succ]
  refine wpAnyH_take (i := 27) (oi := { dst := some 51, op := Op.load 28 (Operand.tmp 3), type := 28, pos := "law.go:220", after := #[{ on := 17, ground := Ground.guard }], guard := some (17, false) }) (v := ?_) rfl (by kernel_rfl) (by kernel_rfl) (by kernel_rfl) (fun _ _ _ h => h) (Or.inl ⟨by rfl, ?_⟩) hHeld ?_
  case refine_2 => (intro w hSw; (try dsimp only at hSw); go_simp <;> with_reducible rfl)
  try simp only [Act.put, List.setIfInBounds_toArray, List.set_cons_zero, List.set_cons_succ]
  refine wpAnyH_ready (rs := [26]) (by kernel_rfl) (by simp) ?_
  refine AllReadyH.cons (o := { dst := some 50, op := Op.call { callee := Callee.value (Operand.func 16), args := #[Operand.tmp 43, Operand.tmp 46, Operand.tmp 49], argTypes := #[4, 9, 3] }, type := 28, pos := "law.go:220", after := #[{ on := 19, ground := Ground.data }, { on := 22, ground := Ground.data }, { on := 25, ground := Ground.data }, { on := 17, ground := Ground.chain }, { on := 17, ground := Ground.guard }], guard := some (17, false) }) rfl (fun KK hK => ?_) AllReadyH.nil
  go_simp
  (with_reducible refine (made_as false (uw ++ up) (-(up.size : Int)) _ (by rw [ByteArray.size_append]; omega) ⟨false, [], 0⟩ HM.out).mono ?_); rintro v wB ⟨rfl, hb⟩
  go_wp2_with fail
  refine hK.out _ _ (Held1.keep hHeld hb) (fun hHeld2 => ?_)
  clear hK hHeld hb
  have hHeld := hHeld2
  clear hHeld2
  try simp only [Act.put, List.setIfInBounds_toArray, List.set_cons_zero, List.set_cons_succ]
  refine wpAnyH_take (i := 28) (oi := { dst := some 52, op := Op.binOp BinOp.neq 28 (Operand.tmp 50) (Operand.tmp 51) 28, type := 4, pos := "law.go:220", after := #[{ on := 26, ground := Ground.data }, { on := 27, ground := Ground.data }, { on := 17, ground := Ground.guard }], guard := some (17, false) }) (v := ?_) rfl (by kernel_rfl) (by kernel_rfl) (by kernel_rfl) (fun _ _ _ h => h) (Or.inl ⟨by rfl, ?_⟩) hHeld ?_
  case refine_2 => (intro w hSw; (try dsimp only at hSw); go_simp <;> with_reducible rfl)
  try simp only [Act.put, List.setIfInBounds_toArray, List.set_cons_zero, List.set_cons_succ]
  refine wpAnyH_take (i := 29) (oi := { dst := some 53, op := Op.pick (Operand.tmp 41) (Operand.const (Value.bool true)) (Operand.tmp 52), type := 4, pos := "law.go:220", after := #[{ on := 17, ground := Ground.data }, { on := 28, ground := Ground.data }], guard := none }) (v := ?_) rfl (by kernel_rfl) (by kernel_rfl) (by kernel_rfl) (fun _ _ _ h => h) (Or.inl ⟨by rfl, ?_⟩) hHeld ?_
  case refine_2 => (intro w hSw; (try dsimp only at hSw); go_simp <;> with_reducible rfl)
  try simp only [Act.put, List.setIfInBounds_toArray, List.set_cons_zero, List.set_cons_succ]
  refine wpAnyH_done (by kernel_rfl) ?_ _
  obtain ⟨_, _, _, HH⟩ := hHeld
  clear r0 r1 r2 r3 r4 r5 r6 m0 m1 m2 m3 m4 m5 m6
  clear Q0 Br Bm
  have Bm : Hid (Box wB (w4.heap.size) #[.bool false, .string ⟨#[]⟩, .int .i64 0]) := Lib.hid HH.1
  have b7 : Hid (Below w.heap.size w wB) := Lib.hid (HH.2)
  clear HH
  obtain ⟨m0, m1, m2, m3, m4, m5, m6⟩ := Bm.out.three
  go_wp2_with fail
  with_reducible refine (mag_zero false ⟨#[]⟩ 0 _ (by decide) HZ0.out).mono ?_
  rintro x w8 ⟨rfl, hb⟩
  have Cm := Lib.hid (Bm.out.below hb (by have := Bm.out.lt; simp <;> omega))
  have b8 := Lib.hid (b7.out.trans (hb.mono (B' := w.heap.size) (by have := b7.out.size; simp <;> omega)))
  clear m0 m1 m2 m3 m4 m5 m6
  clear hb Bm
  have Bm : Hid (Box w8 (w4.heap.size) #[.bool false, .string ⟨#[]⟩, .int .i64 0]) := Cm
  clear Cm
  obtain ⟨m0, m1, m2, m3, m4, m5, m6⟩ := Bm.out.three
  go_wp2_with fail
  with_reducible refine (zero_as false ⟨#[]⟩ 0 _ (by decide) ⟨false, [], 0⟩ HI.out true rfl).mono ?_
  rintro x w9 ⟨rfl, hb⟩
  have Cm := Lib.hid (Bm.out.below hb (by have := Bm.out.lt; simp <;> omega))
  have b9 := Lib.hid (b8.out.trans (hb.mono (B' := w.heap.size) (by have := b8.out.size; simp <;> omega)))
  clear m0 m1 m2 m3 m4 m5 m6
  clear hb Bm
  have Bm : Hid (Box w9 (w4.heap.size) #[.bool false, .string ⟨#[]⟩, .int .i64 0]) := Cm
  clear Cm
  obtain ⟨m0, m1, m2, m3, m4, m5, m6⟩ := Bm.out.three
  go_wp2_with fail
  with_reducible refine (plain_u false ⟨#[]⟩ 0 _ (by decide) ⟨false, [], 0⟩ HI.out HI.out ⟨#[48]⟩ (by decide)).mono ?_
  rintro x w10 ⟨rfl, hb⟩
  have Cm := Lib.hid (Bm.out.below hb (by have := Bm.out.lt; simp <;> omega))
  have b10 := Lib.hid (b9.out.trans (hb.mono (B' := w.heap.size) (by have := b9.out.size; simp <;> omega)))
  clear m0 m1 m2 m3 m4 m5 m6
  clear hb Bm
  have Bm : Hid (Box w10 (w4.heap.size) #[.bool false, .string ⟨#[]⟩, .int .i64 0]) := Cm
  clear Cm
  obtain ⟨m0, m1, m2, m3, m4, m5, m6⟩ := Bm.out.three
  go_wp2_with fail
  with_reducible refine (string_zero false ⟨#[]⟩ 0 _ (by decide) HZ0.out).mono ?_
  rintro x w11 ⟨rfl, hb⟩
  have Cm := Lib.hid (Bm.out.below hb (by have := Bm.out.lt; simp <;> omega))
  have b11 := Lib.hid (b10.out.trans (hb.mono (B' := w.heap.size) (by have := b10.out.size; simp <;> omega)))
  clear m0 m1 m2 m3 m4 m5 m6
  clear hb Bm
  have Bm : Hid (Box w11 (w4.heap.size) #[.bool false, .string ⟨#[]⟩, .int .i64 0]) := Cm
  clear Cm
  go_wp2
  go_ret
  exact ⟨rfl, b11.out⟩

end Go.Proofs.YtlppofjmkepceaaDoor
