/- The walk of the law DecScales. -/
import Derived.Test.YtlppofjmkepceaaDoorDecM
import Derived.Deep.RegionWith
import Derived.Deep.DrawnRows
namespace Go.Proofs.YtlppofjmkepceaaDoor
open Go.RowKit Florin
set_option linter.unusedVariables false
set_option linter.unusedSimpArgs false
attribute [local go_sem ↓] Go.wp_at_zero Go.wp_at_succ

theorem fieldE (b : Bool) (s : ByteArray) (e : Int) (w : World) : (Instr.field 28 (.agg #[.bool b, .string s, .int .i64 e]) 2).run Tryd.prog w = .ok (.int .i64 e) w := by kernel_rfl
theorem made_one (far : Int) : made false [49] far = ⟨false, [49], hld far⟩ := by
  rw [made_pos _ _ (by decide)]
  rw [show bare [49] = [49] by decide, show rt [49] = [49] by decide, Int.sub_self, Int.add_zero]
  congr 1
  exact hld_of (le_hld far) (hld_le far)
theorem made_five (far : Int) : made false [53] far = ⟨false, [53], hld far⟩ := by
  rw [made_pos _ _ (by decide)]
  rw [show bare [53] = [53] by decide, show rt [53] = [53] by decide, Int.sub_self, Int.add_zero]
  congr 1
  exact hld_of (le_hld far) (hld_le far)
theorem hld_clamp (far : Int) : hld (0 + clampS far) = hld far := by unfold hld clampS; omega

set_option maxRecDepth 100000 in
set_option maxHeartbeats 3200000 in
theorem scales_z (n : Bool) (a : Option Addr) (len cap : Nat) (L : List UInt8) (e k far K : Int) (w : World) (hin : InB w a len cap L) (htab : Tab w) (h1 : len ≤ 60) (h2 : -60 ≤ e) (h3 : e ≤ 60) (hK : wrap64 (k.tmod 1000 - wrap64 ((k.tmod 1000).tdiv 2)) = K) (hK1 : -1000 ≤ K) (hK2 : K ≤ 1000) (hd : made n (dgs L) e = ⟨false, [], 0⟩) :
    Calls Tryd.prog 9 #[RV n a len cap e, .int .i64 k, .int .i64 far] w fun x w' => x = .returned (.bool true) ∧ Below w.heap.size w w' := by
  have LL : (dgs L).length ≤ 60 := by rw [dgs_length, hin.1]; exact h1
  have HD := Lib.hid hd
  have HI := Lib.hid (idem_of hd)
  have HK := Lib.hid hK
  have cK : clampS K = K := by unfold clampS; omega
  have cK' : clampS (-K) = -K := by unfold clampS; omega
  have HWK : Hid (IntKind.i64.wrap (-K) = -K) := Lib.hid (by rw [IntKind.wrap_i64]; omega)
  have HDZ : Hid (made n (dgs L) e = zero) := Lib.hid hd
  have HG : Hid (made false [] (0 + clampS K) = ⟨false, [], 0⟩) := Lib.hid rfl
  have HG2 : Hid (made false [] (0 + clampS (-K)) = ⟨false, [], 0⟩) := Lib.hid rfl
  have HZ : Hid (made true (⟨#[48]⟩ : ByteArray).data.toList far = ⟨false, [], 0⟩) := Lib.hid (made_zero _ _ (by decide))
  have HT := Lib.hid htab
  have HIN := Lib.hid hin
  have hc1 := hin.2.1
  have hm1 := hin.2.2.1
  have hfe := fieldE
  have hmm : min (max far (-30000)) 30000 = hld far := rfl
  clear htab hin hd hK cK cK'
  go_enter Tryd.func9, Tryd.ntmps9
  go_wp2_with fail
  with_reducible refine (headD _ (HT.out.below ((Below.refl w.heap.size w).alloc (by simp <;> omega) _))).mono ?_
  rintro x w1 ⟨rfl, hb⟩
  have Cr := Lib.hid (((Box.new w #[.bool n, .slice a len cap, .int .i64 e] 24).at (b' := w.heap.size) (by simp)).below hb (by simp <;> omega))
  have b1 := Lib.hid (((Below.refl w.heap.size w).alloc (by simp <;> omega) _).trans (hb.mono (B' := w.heap.size) (by simp <;> omega)))
  clear hb
  have Br : Hid (Box w1 (w.heap.size) #[.bool n, .slice a len cap, .int .i64 e]) := Cr
  clear Cr
  obtain ⟨r0, r1, r2, r3, r4, r5, r6⟩ := Br.out.three
  go_wp2_with fail
  with_reducible refine (few_yes n a len cap e 60 _ hc1 hm1 (by decide) (by decide) (by omega) h2 h3).mono ?_
  rintro x w2 ⟨rfl, hb⟩
  have Cr := Lib.hid (Br.out.below hb (by have := Br.out.lt; simp <;> omega))
  have b2 := Lib.hid (b1.out.trans (hb.mono (B' := w.heap.size) (by have := b1.out.size; simp <;> omega)))
  clear r0 r1 r2 r3 r4 r5 r6
  clear hb Br
  have Br : Hid (Box w2 (w.heap.size) #[.bool n, .slice a len cap, .int .i64 e]) := Cr
  clear Cr
  obtain ⟨r0, r1, r2, r3, r4, r5, r6⟩ := Br.out.three
  go_wp2_with fail
  rw [HK.out]
  with_reducible refine (make_as n a len cap L e _ (HIN.out.below b2.out) (by omega)).mono ?_
  rintro x w3 ⟨rfl, hb⟩
  have Cr := Lib.hid (Br.out.below hb (by have := Br.out.lt; simp <;> omega))
  have b3 := Lib.hid (b2.out.trans (hb.mono (B' := w.heap.size) (by have := b2.out.size; simp <;> omega)))
  clear r0 r1 r2 r3 r4 r5 r6
  clear hb Br
  have Br : Hid (Box w3 (w.heap.size) #[.bool n, .slice a len cap, .int .i64 e]) := Cr
  clear Cr
  obtain ⟨r0, r1, r2, r3, r4, r5, r6⟩ := Br.out.three
  go_wp2_with fail
  with_reducible refine (scale_as n ⟨(dgs L).toArray⟩ e K _ (by rw [arr_size]; omega) ⟨false, [], 0⟩ ⟨false, [], 0⟩ (by rw [arr_list]; exact HD.out) HG.out).mono ?_
  rintro x w4 ⟨rfl, hb⟩
  have Cx := Lib.hid (((Box.new w3 #[.bool n, S (dgs L), .int .i64 e] 28).at (b' := w3.heap.size) (by simp)).below hb (by simp <;> omega))
  have b4 := Lib.hid ((b3.out.alloc (by have := b3.out.size; simp <;> omega) _).trans (hb.mono (B' := w.heap.size) (by have := b3.out.size; simp <;> omega)))
  clear r0 r1 r2 r3 r4 r5 r6
  clear hb Br
  have Bx : Hid (Box w4 (w3.heap.size) #[.bool n, S (dgs L), .int .i64 e]) := Cx
  clear Cx
  obtain ⟨x0, x1, x2, x3, x4, x5, x6⟩ := Bx.out.three
  go_wp2_with fail
  with_reducible refine (mag_zero n ⟨(dgs L).toArray⟩ e _ (by rw [arr_size]; omega) (by rw [arr_list]; exact HDZ.out)).mono ?_
  rintro x w5 ⟨rfl, hb⟩
  have Cx := Lib.hid ((Bx.out.alloc (.cells #[.bool false, .string ⟨#[]⟩, .int .i64 0] 28)).below hb (by have := Bx.out.lt; simp <;> omega))
  have Cs := Lib.hid (((Box.new w4 #[.bool false, .string ⟨#[]⟩, .int .i64 0] 28).at (b' := w4.heap.size) (by simp)).below hb (by simp <;> omega))
  have b5 := Lib.hid ((b4.out.alloc (by have := b4.out.size; simp <;> omega) _).trans (hb.mono (B' := w.heap.size) (by have := b4.out.size; simp <;> omega)))
  clear x0 x1 x2 x3 x4 x5 x6
  clear hb Bx
  have Bx : Hid (Box w5 (w3.heap.size) #[.bool n, S (dgs L), .int .i64 e]) := Cx
  have Bs : Hid (Box w5 (w4.heap.size) #[.bool false, .string ⟨#[]⟩, .int .i64 0]) := Cs
  clear Cx Cs
  obtain ⟨x0, x1, x2, x3, x4, x5, x6⟩ := Bx.out.three
  obtain ⟨s0, s1, s2, s3, s4, s5, s6⟩ := Bs.out.three
  go_wp2_with fail
  with_reducible refine (mag_zero false ⟨#[]⟩ 0 _ (by decide) rfl).mono ?_
  rintro x w6 ⟨rfl, hb⟩
  have Cx := Lib.hid (Bx.out.below hb (by have := Bx.out.lt; simp <;> omega))
  have Cs := Lib.hid (Bs.out.below hb (by have := Bs.out.lt; simp <;> omega))
  have b6 := Lib.hid (b5.out.trans (hb.mono (B' := w.heap.size) (by have := b5.out.size; simp <;> omega)))
  clear x0 x1 x2 x3 x4 x5 x6 s0 s1 s2 s3 s4 s5 s6
  clear hb Bx Bs
  have Bx : Hid (Box w6 (w3.heap.size) #[.bool n, S (dgs L), .int .i64 e]) := Cx
  have Bs : Hid (Box w6 (w4.heap.size) #[.bool false, .string ⟨#[]⟩, .int .i64 0]) := Cs
  clear Cx Cs
  obtain ⟨x0, x1, x2, x3, x4, x5, x6⟩ := Bx.out.three
  obtain ⟨s0, s1, s2, s3, s4, s5, s6⟩ := Bs.out.three
  go_wp2_with fail
  have Q0 : Hid (Held2 w (w3.heap.size) (.bool n) (S (dgs L)) (.int .i64 e) (w4.heap.size) (.bool false) (.string ⟨#[]⟩) (.int .i64 0) w6) := Lib.hid ⟨Bx.out, Bs.out, b6.out⟩
  refine wp_region_held_drew (S := fun w' => w'.cell? ⟨w3.heap.size, 0, none⟩ = some (.bool n) ∧ w'.cell? ⟨w3.heap.size, 1, none⟩ = some (S (dgs L)) ∧ w'.cell? ⟨w3.heap.size, 2, none⟩ = some (.int .i64 e) ∧ w'.cell? ⟨w4.heap.size, 0, none⟩ = some (.bool false) ∧ w'.cell? ⟨w4.heap.size, 1, none⟩ = some (.string ⟨#[]⟩) ∧ w'.cell? ⟨w4.heap.size, 2, none⟩ = some (.int .i64 0) ∧ Held2 w (w3.heap.size) (.bool n) (S (dgs L)) (.int .i64 e) (w4.heap.size) (.bool false) (.string ⟨#[]⟩) (.int .i64 0) w') (by kernel_rfl) (Held2.all (Held2.drew Q0.out)) (fun hHeld => ?_)
  refine wpAnyH_take (i := 0) (oi := { dst := some 41, op := Op.load 28 (Operand.tmp 8), type := 28, pos := "law.go:319", after := #[], guard := none }) (v := ?_) rfl (by kernel_rfl) (by kernel_rfl) (by kernel_rfl) (fun _ _ _ h => h) (Or.inl ⟨by rfl, ?_⟩) hHeld ?_
  case refine_2 => (intro w hSw; (try dsimp only at hSw); go_simp <;> with_reducible rfl)
  try simp only [Act.put, List.setIfInBounds_toArray, List.set_cons_zero, List.set_cons_succ]
  refine wpAnyH_take (i := 1) (oi := { dst := some 42, op := Op.move (Operand.tmp 1), type := 3, pos := "law.go:319", after := #[], guard := none }) (v := ?_) rfl (by kernel_rfl) (by kernel_rfl) (by kernel_rfl) (fun _ _ _ h => h) (Or.inl ⟨by rfl, ?_⟩) hHeld ?_
  case refine_2 => (intro w hSw; (try dsimp only at hSw); go_simp <;> with_reducible rfl)
  try simp only [Act.put, List.setIfInBounds_toArray, List.set_cons_zero, List.set_cons_succ]
  refine wpAnyH_take (i := 2) (oi := { dst := some 43, op := Op.unOp UnOp.neg 3 (Operand.tmp 42), type := 3, pos := "law.go:319", after := #[{ on := 1, ground := Ground.data }], guard := none }) (v := ?_) rfl (by kernel_rfl) (by kernel_rfl) (by kernel_rfl) (fun _ _ _ h => h) (Or.inl ⟨by rfl, ?_⟩) hHeld ?_
  case refine_2 => (intro w hSw; (try dsimp only at hSw); go_simp <;> with_reducible rfl)
  try simp only [Act.put, List.setIfInBounds_toArray, List.set_cons_zero, List.set_cons_succ]
  refine wpAnyH_take (i := 4) (oi := { dst := some 45, op := Op.load 28 (Operand.tmp 7), type := 28, pos := "law.go:319", after := #[], guard := none }) (v := ?_) rfl (by kernel_rfl) (by kernel_rfl) (by kernel_rfl) (fun _ _ _ h => h) (Or.inl ⟨by rfl, ?_⟩) hHeld ?_
  case refine_2 => (intro w hSw; (try dsimp only at hSw); go_simp <;> with_reducible rfl)
  try simp only [Act.put, List.setIfInBounds_toArray, List.set_cons_zero, List.set_cons_succ]
  refine wpAnyH_ready (rs := [3]) (by kernel_rfl) (by simp) ?_
  refine AllReadyH.cons (o := { dst := some 44, op := Op.call { callee := Callee.value (Operand.func 37), args := #[Operand.tmp 41, Operand.tmp 43], argTypes := #[28, 3] }, type := 28, pos := "law.go:319", after := #[{ on := 0, ground := Ground.data }, { on := 2, ground := Ground.data }], guard := none }) rfl (fun KK hK => ?_) AllReadyH.nil
  go_simp
  rw [HWK.out]; with_reducible refine (scale_as false ⟨#[]⟩ 0 (-K) _ (by decide) ⟨false, [], 0⟩ ⟨false, [], 0⟩ rfl HG2.out).mono ?_; rintro x wA ⟨rfl, hb⟩
  go_wp2_with fail
  refine hK.out _ _ (Held2.keep hHeld hb) (fun hHeld2 => ?_)
  clear hK hHeld hb
  have hHeld := hHeld2
  clear hHeld2
  try simp only [Act.put, List.setIfInBounds_toArray, List.set_cons_zero, List.set_cons_succ]
  refine wpAnyH_ready (rs := [5]) (by kernel_rfl) (by simp) ?_
  refine AllReadyH.cons (o := { dst := some 46, op := Op.call { callee := Callee.value (Operand.func 14), args := #[Operand.tmp 45], argTypes := #[28] }, type := 28, pos := "law.go:319", after := #[{ on := 4, ground := Ground.data }, { on := 3, ground := Ground.chain }], guard := none }) rfl (fun KK hK => ?_) AllReadyH.nil
  go_simp
  with_reducible refine (norm_as n ⟨(dgs L).toArray⟩ e _ (by rw [arr_size]; omega) ⟨false, [], 0⟩ (by rw [arr_list]; exact HD.out)).mono ?_; rintro x wB ⟨rfl, hb⟩
  go_wp2_with fail
  refine hK.out _ _ (Held2.keep hHeld hb) (fun hHeld2 => ?_)
  clear hK hHeld hb
  have hHeld := hHeld2
  clear hHeld2
  try simp only [Act.put, List.setIfInBounds_toArray, List.set_cons_zero, List.set_cons_succ]
  refine wpAnyH_take (i := 6) (oi := { dst := some 47, op := Op.binOp BinOp.neq 28 (Operand.tmp 44) (Operand.tmp 46) 28, type := 4, pos := "law.go:319", after := #[{ on := 3, ground := Ground.data }, { on := 5, ground := Ground.data }], guard := none }) (v := ?_) rfl (by kernel_rfl) (by kernel_rfl) (by kernel_rfl) (fun _ _ _ h => h) (Or.inl ⟨by rfl, ?_⟩) hHeld ?_
  case refine_2 => (intro w hSw; (try dsimp only at hSw); go_simp <;> with_reducible rfl)
  try simp only [Act.put, List.setIfInBounds_toArray, List.set_cons_zero, List.set_cons_succ]
  refine wpAnyH_take (i := 7) (oi := { dst := some 48, op := Op.move (Operand.tmp 47), type := 4, pos := "law.go:319", after := #[{ on := 6, ground := Ground.data }, { on := 5, ground := Ground.chain }], guard := none }) (v := ?_) rfl (by kernel_rfl) (by kernel_rfl) (by kernel_rfl) (fun _ _ _ h => h) (Or.inl ⟨by rfl, ?_⟩) hHeld ?_
  case refine_2 => (intro w hSw; (try dsimp only at hSw); go_simp <;> with_reducible rfl)
  try simp only [Act.put, List.setIfInBounds_toArray, List.set_cons_zero, List.set_cons_succ]
  refine wpAnyH_take (i := 8) (oi := { dst := some 49, op := Op.move (Operand.tmp 10), type := 4, pos := "law.go:319", after := #[{ on := 7, ground := Ground.guard }], guard := some (7, false) }) (v := ?_) rfl (by kernel_rfl) (by kernel_rfl) (by kernel_rfl) (fun _ _ _ h => h) (Or.inl ⟨by rfl, ?_⟩) hHeld ?_
  case refine_2 => (intro w hSw; (try dsimp only at hSw); go_simp <;> with_reducible rfl)
  try simp only [Act.put, List.setIfInBounds_toArray, List.set_cons_zero, List.set_cons_succ]
  refine wpAnyH_take (i := 9) (oi := { dst := some 50, op := Op.move (Operand.tmp 12), type := 4, pos := "law.go:319", after := #[{ on := 7, ground := Ground.guard }], guard := some (7, false) }) (v := ?_) rfl (by kernel_rfl) (by kernel_rfl) (by kernel_rfl) (fun _ _ _ h => h) (Or.inl ⟨by rfl, ?_⟩) hHeld ?_
  case refine_2 => (intro w hSw; (try dsimp only at hSw); go_simp <;> with_reducible rfl)
  try simp only [Act.put, List.setIfInBounds_toArray, List.set_cons_zero, List.set_cons_succ]
  refine wpAnyH_take (i := 10) (oi := { dst := some 51, op := Op.binOp BinOp.neq 4 (Operand.tmp 49) (Operand.tmp 50) 4, type := 4, pos := "law.go:319", after := #[{ on := 8, ground := Ground.data }, { on := 9, ground := Ground.data }, { on := 7, ground := Ground.guard }], guard := some (7, false) }) (v := ?_) rfl (by kernel_rfl) (by kernel_rfl) (by kernel_rfl) (fun _ _ _ h => h) (Or.inl ⟨by rfl, ?_⟩) hHeld ?_
  case refine_2 => (intro w hSw; (try dsimp only at hSw); go_simp <;> with_reducible rfl)
  try simp only [Act.put, List.setIfInBounds_toArray, List.set_cons_zero, List.set_cons_succ]
  refine wpAnyH_take (i := 11) (oi := { dst := some 52, op := Op.pick (Operand.tmp 48) (Operand.const (Value.bool true)) (Operand.tmp 51), type := 4, pos := "law.go:319", after := #[{ on := 7, ground := Ground.data }, { on := 10, ground := Ground.data }], guard := none }) (v := ?_) rfl (by kernel_rfl) (by kernel_rfl) (by kernel_rfl) (fun _ _ _ h => h) (Or.inl ⟨by rfl, ?_⟩) hHeld ?_
  case refine_2 => (intro w hSw; (try dsimp only at hSw); go_simp <;> with_reducible rfl)
  try simp only [Act.put, List.setIfInBounds_toArray, List.set_cons_zero, List.set_cons_succ]
  refine wpAnyH_take (i := 12) (oi := { dst := some 53, op := Op.move (Operand.tmp 52), type := 4, pos := "law.go:319", after := #[{ on := 11, ground := Ground.data }, { on := 7, ground := Ground.chain }], guard := none }) (v := ?_) rfl (by kernel_rfl) (by kernel_rfl) (by kernel_rfl) (fun _ _ _ h => h) (Or.inl ⟨by rfl, ?_⟩) hHeld ?_
  case refine_2 => (intro w hSw; (try dsimp only at hSw); go_simp <;> with_reducible rfl)
  try simp only [Act.put, List.setIfInBounds_toArray, List.set_cons_zero, List.set_cons_succ]
  refine wpAnyH_take (i := 13) (oi := { dst := some 54, op := Op.move (Operand.tmp 10), type := 4, pos := "law.go:319", after := #[{ on := 12, ground := Ground.guard }], guard := some (12, false) }) (v := ?_) rfl (by kernel_rfl) (by kernel_rfl) (by kernel_rfl) (fun _ _ _ h => h) (Or.inl ⟨by rfl, ?_⟩) hHeld ?_
  case refine_2 => (intro w hSw; (try dsimp only at hSw); go_simp <;> with_reducible rfl)
  try simp only [Act.put, List.setIfInBounds_toArray, List.set_cons_zero, List.set_cons_succ]
  refine wpAnyH_take (i := 14) (oi := { dst := some 55, op := Op.move (Operand.tmp 54), type := 4, pos := "law.go:319", after := #[{ on := 13, ground := Ground.data }, { on := 12, ground := Ground.chain }, { on := 12, ground := Ground.guard }], guard := some (12, false) }) (v := ?_) rfl (by kernel_rfl) (by kernel_rfl) (by kernel_rfl) (fun _ _ _ h => h) (Or.inl ⟨by rfl, ?_⟩) hHeld ?_
  case refine_2 => (intro w hSw; (try dsimp only at hSw); go_simp <;> with_reducible rfl)
  try simp only [Act.put, List.setIfInBounds_toArray, List.set_cons_zero, List.set_cons_succ]
  refine wpAnyH_take (i := 15) (oi := { dst := some 56, op := Op.move (Operand.tmp 11), type := 3, pos := "law.go:319", after := #[{ on := 14, ground := Ground.guard }], guard := some (14, true) }) (v := undef) rfl (by kernel_rfl) (by kernel_rfl) (by kernel_rfl) (fun _ _ _ h => h) (Or.inr ⟨by rfl, rfl⟩) hHeld ?_
  try simp only [Act.put, List.setIfInBounds_toArray, List.set_cons_zero, List.set_cons_succ]
  refine wpAnyH_take (i := 16) (oi := { dst := some 57, op := Op.move (Operand.tmp 9), type := 3, pos := "law.go:319", after := #[{ on := 14, ground := Ground.guard }], guard := some (14, true) }) (v := undef) rfl (by kernel_rfl) (by kernel_rfl) (by kernel_rfl) (fun _ _ _ h => h) (Or.inr ⟨by rfl, rfl⟩) hHeld ?_
  try simp only [Act.put, List.setIfInBounds_toArray, List.set_cons_zero, List.set_cons_succ]
  refine wpAnyH_take (i := 17) (oi := { dst := some 58, op := Op.move (Operand.tmp 1), type := 3, pos := "law.go:319", after := #[{ on := 14, ground := Ground.guard }], guard := some (14, true) }) (v := undef) rfl (by kernel_rfl) (by kernel_rfl) (by kernel_rfl) (fun _ _ _ h => h) (Or.inr ⟨by rfl, rfl⟩) hHeld ?_
  try simp only [Act.put, List.setIfInBounds_toArray, List.set_cons_zero, List.set_cons_succ]
  refine wpAnyH_take (i := 18) (oi := { dst := some 59, op := Op.binOp BinOp.add 3 (Operand.tmp 57) (Operand.tmp 58) 3, type := 3, pos := "law.go:319", after := #[{ on := 16, ground := Ground.data }, { on := 17, ground := Ground.data }, { on := 14, ground := Ground.guard }], guard := some (14, true) }) (v := undef) rfl (by kernel_rfl) (by kernel_rfl) (by kernel_rfl) (fun _ _ _ h => h) (Or.inr ⟨by rfl, rfl⟩) hHeld ?_
  try simp only [Act.put, List.setIfInBounds_toArray, List.set_cons_zero, List.set_cons_succ]
  refine wpAnyH_take (i := 19) (oi := { dst := some 60, op := Op.binOp BinOp.neq 3 (Operand.tmp 56) (Operand.tmp 59) 3, type := 4, pos := "law.go:319", after := #[{ on := 15, ground := Ground.data }, { on := 18, ground := Ground.data }, { on := 14, ground := Ground.guard }], guard := some (14, true) }) (v := undef) rfl (by kernel_rfl) (by kernel_rfl) (by kernel_rfl) (fun _ _ _ h => h) (Or.inr ⟨by rfl, rfl⟩) hHeld ?_
  try simp only [Act.put, List.setIfInBounds_toArray, List.set_cons_zero, List.set_cons_succ]
  refine wpAnyH_take (i := 20) (oi := { dst := some 61, op := Op.pick (Operand.tmp 55) (Operand.tmp 60) (Operand.const (Value.bool false)), type := 4, pos := "law.go:319", after := #[{ on := 14, ground := Ground.data }, { on := 19, ground := Ground.data }, { on := 12, ground := Ground.guard }], guard := some (12, false) }) (v := ?_) rfl (by kernel_rfl) (by kernel_rfl) (by kernel_rfl) (fun _ _ _ h => h) (Or.inl ⟨by rfl, ?_⟩) hHeld ?_
  case refine_2 => (intro w hSw; (try dsimp only at hSw); go_simp <;> with_reducible rfl)
  try simp only [Act.put, List.setIfInBounds_toArray, List.set_cons_zero, List.set_cons_succ]
  refine wpAnyH_take (i := 21) (oi := { dst := some 62, op := Op.pick (Operand.tmp 53) (Operand.const (Value.bool true)) (Operand.tmp 61), type := 4, pos := "law.go:319", after := #[{ on := 12, ground := Ground.data }, { on := 20, ground := Ground.data }], guard := none }) (v := ?_) rfl (by kernel_rfl) (by kernel_rfl) (by kernel_rfl) (fun _ _ _ h => h) (Or.inl ⟨by rfl, ?_⟩) hHeld ?_
  case refine_2 => (intro w hSw; (try dsimp only at hSw); go_simp <;> with_reducible rfl)
  try simp only [Act.put, List.setIfInBounds_toArray, List.set_cons_zero, List.set_cons_succ]
  refine wpAnyH_done (by kernel_rfl) ?_ _
  obtain ⟨_, _, _, _, _, _, HH⟩ := hHeld
  clear x0 x1 x2 x3 x4 x5 x6 s0 s1 s2 s3 s4 s5 s6
  clear Q0 Bx Bs
  have Bx : Hid (Box wB (w3.heap.size) #[.bool n, S (dgs L), .int .i64 e]) := Lib.hid HH.1
  have Bs : Hid (Box wB (w4.heap.size) #[.bool false, .string ⟨#[]⟩, .int .i64 0]) := Lib.hid HH.2.1
  have b7 : Hid (Below w.heap.size w wB) := Lib.hid (HH.2.2)
  clear HH
  go_wp2_with fail
  with_reducible refine (made_as false ⟨#[49]⟩ far _ (by decide) ⟨false, [49], hld far⟩ (made_one far)).mono ?_
  rintro x w8 ⟨rfl, hb⟩
  have b8 := Lib.hid (b7.out.trans (hb.mono (B' := w.heap.size) (by have := b7.out.size; simp <;> omega)))
  clear hb Bx Bs
  go_wp2_with fail
  with_reducible refine (made_as false ⟨#[49]⟩ 0 _ (by decide) ⟨false, [49], 0⟩ (by decide)).mono ?_
  rintro x w9 ⟨rfl, hb⟩
  have Ct := Lib.hid (((Box.new w8 #[.bool false, .string ⟨#[49]⟩, .int .i64 (hld far)] 28).at (b' := w8.heap.size) (by simp)).below hb (by simp <;> omega))
  have b9 := Lib.hid ((b8.out.alloc (by have := b8.out.size; simp <;> omega) _).trans (hb.mono (B' := w.heap.size) (by have := b8.out.size; simp <;> omega)))
  clear hb
  have Bt : Hid (Box w9 (w8.heap.size) #[.bool false, .string ⟨#[49]⟩, .int .i64 (hld far)]) := Ct
  clear Ct
  obtain ⟨t0, t1, t2, t3, t4, t5, t6⟩ := Bt.out.three
  go_wp2_with fail
  with_reducible refine (scale_as false ⟨#[49]⟩ 0 far _ (by decide) ⟨false, [49], 0⟩ ⟨false, [49], hld far⟩ (by decide) ((made_one _).trans (by rw [hld_clamp]))).mono ?_
  rintro x w10 ⟨rfl, hb⟩
  have Ct := Lib.hid (Bt.out.below hb (by have := Bt.out.lt; simp <;> omega))
  have b10 := Lib.hid (b9.out.trans (hb.mono (B' := w.heap.size) (by have := b9.out.size; simp <;> omega)))
  clear t0 t1 t2 t3 t4 t5 t6
  clear hb Bt
  have Bt : Hid (Box w10 (w8.heap.size) #[.bool false, .string ⟨#[49]⟩, .int .i64 (hld far)]) := Ct
  clear Ct
  obtain ⟨t0, t1, t2, t3, t4, t5, t6⟩ := Bt.out.three
  go_wp2_with fail
  have Q0 : Hid (Held2 w (w8.heap.size) (.bool false) (.string ⟨#[49]⟩) (.int .i64 (hld far)) (w10.heap.size) (.bool false) (.string ⟨#[49]⟩) (.int .i64 (hld far)) (w10.alloc (.cells #[.bool false, .string ⟨#[49]⟩, .int .i64 (hld far)] 28))) := Lib.hid ⟨(Bt.out.alloc (.cells #[.bool false, .string ⟨#[49]⟩, .int .i64 (hld far)] 28)), ((Box.new w10 #[.bool false, .string ⟨#[49]⟩, .int .i64 (hld far)] 28).at (b' := w10.heap.size) (by simp)), (b10.out.alloc (by have := b10.out.size; simp <;> omega) _)⟩
  first | (go_region_held3 (fun w' => w'.cell? ⟨w8.heap.size, 0, none⟩ = some (.bool false) ∧ w'.cell? ⟨w8.heap.size, 1, none⟩ = some (.string ⟨#[49]⟩) ∧ w'.cell? ⟨w8.heap.size, 2, none⟩ = some (.int .i64 (hld far)) ∧ w'.cell? ⟨w10.heap.size, 0, none⟩ = some (.bool false) ∧ w'.cell? ⟨w10.heap.size, 1, none⟩ = some (.string ⟨#[49]⟩) ∧ w'.cell? ⟨w10.heap.size, 2, none⟩ = some (.int .i64 (hld far)) ∧ Held2 w (w8.heap.size) (.bool false) (.string ⟨#[49]⟩) (.int .i64 (hld far)) (w10.heap.size) (.bool false) (.string ⟨#[49]⟩) (.int .i64 (hld far)) w')
    (first | exact Held2.all (Held2.drew Q0.out) | exact Held2.keep (by assumption) hb | assumption)
    (first | (go_at_call 16; with_reducible refine (made_as true ⟨#[48]⟩ far _ (by decide) ⟨false, [], 0⟩ HZ.out).mono ?_; rintro x wC ⟨rfl, hb⟩) | (go_at_call 14; with_reducible refine (norm_as false ⟨#[53]⟩ far _ (by decide) ⟨false, [53], hld far⟩ (made_five far)).mono ?_; rintro x wD ⟨rfl, hb⟩))) | fail
  have HH := (‹wD.cell? ⟨w8.heap.size, 0, none⟩ = some (.bool false) ∧ _›)
  obtain ⟨_, _, _, _, _, _, HH⟩ := HH
  clear t0 t1 t2 t3 t4 t5 t6
  clear Q0 Bt
  have Bt : Hid (Box wD (w8.heap.size) #[.bool false, .string ⟨#[49]⟩, .int .i64 (hld far)]) := Lib.hid HH.1
  have Bu : Hid (Box wD (w10.heap.size) #[.bool false, .string ⟨#[49]⟩, .int .i64 (hld far)]) := Lib.hid HH.2.1
  have b11 : Hid (Below w.heap.size w wD) := Lib.hid (HH.2.2)
  clear HH
  go_wp2
  go_ret
  exact ⟨rfl, b11.out⟩

set_option maxRecDepth 100000 in
set_option maxHeartbeats 3200000 in
theorem scales_s (n : Bool) (a : Option Addr) (len cap : Nat) (L : List UInt8) (e k far K : Int) (w : World) (hin : InB w a len cap L) (htab : Tab w) (h1 : len ≤ 60) (h2 : -60 ≤ e) (h3 : e ≤ 60) (hK : wrap64 (k.tmod 1000 - wrap64 ((k.tmod 1000).tdiv 2)) = K) (hK1 : -1000 ≤ K) (hK2 : K ≤ 1000) (dn : Bool) (dl : List UInt8) (de : Int) (hne : dl ≠ []) (hl : dl.length ≤ 60) (hde1 : -60 ≤ de) (hde2 : de ≤ 200) (hd : made n (dgs L) e = ⟨dn, dl, de⟩) :
    Calls Tryd.prog 9 #[RV n a len cap e, .int .i64 k, .int .i64 far] w fun x w' => x = .returned (.bool true) ∧ Below w.heap.size w w' := by
  have LL : (dgs L).length ≤ 60 := by rw [dgs_length, hin.1]; exact h1
  have HD := Lib.hid hd
  have HI := Lib.hid (idem_of hd)
  have HK := Lib.hid hK
  have cK : clampS K = K := by unfold clampS; omega
  have cK' : clampS (-K) = -K := by unfold clampS; omega
  have HWK : Hid (IntKind.i64.wrap (-K) = -K) := Lib.hid (by rw [IntKind.wrap_i64]; omega)
  have HNE := Lib.hid hne
  have nrm : Nrm ⟨dn, dl, de⟩ := (made_nrm n (dgs L) e).elim (fun h => absurd (by rw [hd] at h; exact congrArg Tri.l h) hne) (fun h => by rw [hd] at h; exact h)
  have nrm2 : Nrm ⟨dn, dl, de + K⟩ := ⟨nrm.dg, nrm.ne, nrm.hd, nrm.lst, by simp; omega, by simp; omega⟩
  have HG : Hid (made dn dl (de + clampS K) = ⟨dn, dl, de + K⟩) := Lib.hid (by rw [cK]; exact nrm2.made)
  have HG1 : Hid (made dn dl (de + K) = ⟨dn, dl, de + K⟩) := Lib.hid nrm2.made
  have HG2 : Hid (made dn dl (de + K + clampS (-K)) = ⟨dn, dl, de⟩) := Lib.hid (by rw [cK', show de + K + -K = de by omega]; exact nrm.made)
  obtain ⟨M, hM⟩ : ∃ M : Int, de + (dl.length : Int) - 1 = M := ⟨_, rfl⟩
  have HM := Lib.hid hM
  have HM2 : Hid (de + K + (dl.length : Int) - 1 = M + K) := Lib.hid (by omega)
  have hM1 : -1000 ≤ M := by omega
  have hM2 : M ≤ 1000 := by omega
  have hwM : IntKind.i64.wrap (M + K) = M + K := by rw [IntKind.wrap_i64]; omega
  clear nrm nrm2 hM
  have HZ : Hid (made true (⟨#[48]⟩ : ByteArray).data.toList far = ⟨false, [], 0⟩) := Lib.hid (made_zero _ _ (by decide))
  have HT := Lib.hid htab
  have HIN := Lib.hid hin
  have hc1 := hin.2.1
  have hm1 := hin.2.2.1
  have hfe := fieldE
  have hmm : min (max far (-30000)) 30000 = hld far := rfl
  clear htab hin hd hK cK cK' hne
  go_enter Tryd.func9, Tryd.ntmps9
  go_wp2_with fail
  with_reducible refine (headD _ (HT.out.below ((Below.refl w.heap.size w).alloc (by simp <;> omega) _))).mono ?_
  rintro x w1 ⟨rfl, hb⟩
  have Cr := Lib.hid (((Box.new w #[.bool n, .slice a len cap, .int .i64 e] 24).at (b' := w.heap.size) (by simp)).below hb (by simp <;> omega))
  have b1 := Lib.hid (((Below.refl w.heap.size w).alloc (by simp <;> omega) _).trans (hb.mono (B' := w.heap.size) (by simp <;> omega)))
  clear hb
  have Br : Hid (Box w1 (w.heap.size) #[.bool n, .slice a len cap, .int .i64 e]) := Cr
  clear Cr
  obtain ⟨r0, r1, r2, r3, r4, r5, r6⟩ := Br.out.three
  go_wp2_with fail
  with_reducible refine (few_yes n a len cap e 60 _ hc1 hm1 (by decide) (by decide) (by omega) h2 h3).mono ?_
  rintro x w2 ⟨rfl, hb⟩
  have Cr := Lib.hid (Br.out.below hb (by have := Br.out.lt; simp <;> omega))
  have b2 := Lib.hid (b1.out.trans (hb.mono (B' := w.heap.size) (by have := b1.out.size; simp <;> omega)))
  clear r0 r1 r2 r3 r4 r5 r6
  clear hb Br
  have Br : Hid (Box w2 (w.heap.size) #[.bool n, .slice a len cap, .int .i64 e]) := Cr
  clear Cr
  obtain ⟨r0, r1, r2, r3, r4, r5, r6⟩ := Br.out.three
  go_wp2_with fail
  rw [HK.out]
  with_reducible refine (make_as n a len cap L e _ (HIN.out.below b2.out) (by omega)).mono ?_
  rintro x w3 ⟨rfl, hb⟩
  have Cr := Lib.hid (Br.out.below hb (by have := Br.out.lt; simp <;> omega))
  have b3 := Lib.hid (b2.out.trans (hb.mono (B' := w.heap.size) (by have := b2.out.size; simp <;> omega)))
  clear r0 r1 r2 r3 r4 r5 r6
  clear hb Br
  have Br : Hid (Box w3 (w.heap.size) #[.bool n, .slice a len cap, .int .i64 e]) := Cr
  clear Cr
  obtain ⟨r0, r1, r2, r3, r4, r5, r6⟩ := Br.out.three
  go_wp2_with fail
  with_reducible refine (scale_as n ⟨(dgs L).toArray⟩ e K _ (by rw [arr_size]; omega) ⟨dn, dl, de⟩ ⟨dn, dl, de + K⟩ (by rw [arr_list]; exact HD.out) HG.out).mono ?_
  rintro x w4 ⟨rfl, hb⟩
  have Cx := Lib.hid (((Box.new w3 #[.bool n, S (dgs L), .int .i64 e] 28).at (b' := w3.heap.size) (by simp)).below hb (by simp <;> omega))
  have b4 := Lib.hid ((b3.out.alloc (by have := b3.out.size; simp <;> omega) _).trans (hb.mono (B' := w.heap.size) (by have := b3.out.size; simp <;> omega)))
  clear r0 r1 r2 r3 r4 r5 r6
  clear hb Br
  have Bx : Hid (Box w4 (w3.heap.size) #[.bool n, S (dgs L), .int .i64 e]) := Cx
  clear Cx
  obtain ⟨x0, x1, x2, x3, x4, x5, x6⟩ := Bx.out.three
  go_wp2_with fail
  with_reducible refine (mag_some n ⟨(dgs L).toArray⟩ e _ (by rw [arr_size]; omega) ⟨dn, dl, de⟩ (by rw [arr_list]; exact HD.out) HNE.out HI.out).mono ?_
  rintro x w5 ⟨rfl, hb⟩
  have Cx := Lib.hid ((Bx.out.alloc (.cells #[.bool dn, S dl, .int .i64 (de + K)] 28)).below hb (by have := Bx.out.lt; simp <;> omega))
  have Cs := Lib.hid (((Box.new w4 #[.bool dn, S dl, .int .i64 (de + K)] 28).at (b' := w4.heap.size) (by simp)).below hb (by simp <;> omega))
  have b5 := Lib.hid ((b4.out.alloc (by have := b4.out.size; simp <;> omega) _).trans (hb.mono (B' := w.heap.size) (by have := b4.out.size; simp <;> omega)))
  clear x0 x1 x2 x3 x4 x5 x6
  clear hb Bx
  have Bx : Hid (Box w5 (w3.heap.size) #[.bool n, S (dgs L), .int .i64 e]) := Cx
  have Bs : Hid (Box w5 (w4.heap.size) #[.bool dn, S dl, .int .i64 (de + K)]) := Cs
  clear Cx Cs
  obtain ⟨x0, x1, x2, x3, x4, x5, x6⟩ := Bx.out.three
  obtain ⟨s0, s1, s2, s3, s4, s5, s6⟩ := Bs.out.three
  rw [HM.out]
  go_wp2_with fail
  with_reducible refine (mag_some dn ⟨dl.toArray⟩ (de + K) _ (by rw [arr_size]; omega) ⟨dn, dl, de + K⟩ (by rw [arr_list]; exact HG1.out) HNE.out HG1.out).mono ?_
  rintro x w6 ⟨rfl, hb⟩
  have Cx := Lib.hid (Bx.out.below hb (by have := Bx.out.lt; simp <;> omega))
  have Cs := Lib.hid (Bs.out.below hb (by have := Bs.out.lt; simp <;> omega))
  have b6 := Lib.hid (b5.out.trans (hb.mono (B' := w.heap.size) (by have := b5.out.size; simp <;> omega)))
  clear x0 x1 x2 x3 x4 x5 x6 s0 s1 s2 s3 s4 s5 s6
  clear hb Bx Bs
  have Bx : Hid (Box w6 (w3.heap.size) #[.bool n, S (dgs L), .int .i64 e]) := Cx
  have Bs : Hid (Box w6 (w4.heap.size) #[.bool dn, S dl, .int .i64 (de + K)]) := Cs
  clear Cx Cs
  obtain ⟨x0, x1, x2, x3, x4, x5, x6⟩ := Bx.out.three
  obtain ⟨s0, s1, s2, s3, s4, s5, s6⟩ := Bs.out.three
  rw [HM2.out]
  go_wp2_with fail
  have Q0 : Hid (Held2 w (w3.heap.size) (.bool n) (S (dgs L)) (.int .i64 e) (w4.heap.size) (.bool dn) (S dl) (.int .i64 (de + K)) w6) := Lib.hid ⟨Bx.out, Bs.out, b6.out⟩
  first | (go_region_held3 (fun w' => w'.cell? ⟨w3.heap.size, 0, none⟩ = some (.bool n) ∧ w'.cell? ⟨w3.heap.size, 1, none⟩ = some (S (dgs L)) ∧ w'.cell? ⟨w3.heap.size, 2, none⟩ = some (.int .i64 e) ∧ w'.cell? ⟨w4.heap.size, 0, none⟩ = some (.bool dn) ∧ w'.cell? ⟨w4.heap.size, 1, none⟩ = some (S dl) ∧ w'.cell? ⟨w4.heap.size, 2, none⟩ = some (.int .i64 (de + K)) ∧ Held2 w (w3.heap.size) (.bool n) (S (dgs L)) (.int .i64 e) (w4.heap.size) (.bool dn) (S dl) (.int .i64 (de + K)) w')
    (first | exact Held2.all (Held2.drew Q0.out) | exact Held2.keep (by assumption) hb | assumption)
    (first | (go_at_call 37; rw [HWK.out]; with_reducible refine (scale_as dn ⟨dl.toArray⟩ (de + K) (-K) _ (by rw [arr_size]; omega) ⟨dn, dl, de + K⟩ ⟨dn, dl, de⟩ (by rw [arr_list]; exact HG1.out) HG2.out).mono ?_; rintro x wA ⟨rfl, hb⟩) | (go_at_call 14; with_reducible refine (norm_as n ⟨(dgs L).toArray⟩ e _ (by rw [arr_size]; omega) ⟨dn, dl, de⟩ (by rw [arr_list]; exact HD.out)).mono ?_; rintro x wB ⟨rfl, hb⟩))) | fail
  have HH := (‹wB.cell? ⟨w3.heap.size, 0, none⟩ = some (.bool n) ∧ _›)
  obtain ⟨_, _, _, _, _, _, HH⟩ := HH
  clear x0 x1 x2 x3 x4 x5 x6 s0 s1 s2 s3 s4 s5 s6
  clear Q0 Bx Bs
  have Bx : Hid (Box wB (w3.heap.size) #[.bool n, S (dgs L), .int .i64 e]) := Lib.hid HH.1
  have Bs : Hid (Box wB (w4.heap.size) #[.bool dn, S dl, .int .i64 (de + K)]) := Lib.hid HH.2.1
  have b7 : Hid (Below w.heap.size w wB) := Lib.hid (HH.2.2)
  clear HH
  go_wp2_with fail
  with_reducible refine (made_as false ⟨#[49]⟩ far _ (by decide) ⟨false, [49], hld far⟩ (made_one far)).mono ?_
  rintro x w8 ⟨rfl, hb⟩
  have b8 := Lib.hid (b7.out.trans (hb.mono (B' := w.heap.size) (by have := b7.out.size; simp <;> omega)))
  clear hb Bx Bs
  go_wp2_with fail
  with_reducible refine (made_as false ⟨#[49]⟩ 0 _ (by decide) ⟨false, [49], 0⟩ (by decide)).mono ?_
  rintro x w9 ⟨rfl, hb⟩
  have Ct := Lib.hid (((Box.new w8 #[.bool false, .string ⟨#[49]⟩, .int .i64 (hld far)] 28).at (b' := w8.heap.size) (by simp)).below hb (by simp <;> omega))
  have b9 := Lib.hid ((b8.out.alloc (by have := b8.out.size; simp <;> omega) _).trans (hb.mono (B' := w.heap.size) (by have := b8.out.size; simp <;> omega)))
  clear hb
  have Bt : Hid (Box w9 (w8.heap.size) #[.bool false, .string ⟨#[49]⟩, .int .i64 (hld far)]) := Ct
  clear Ct
  obtain ⟨t0, t1, t2, t3, t4, t5, t6⟩ := Bt.out.three
  go_wp2_with fail
  with_reducible refine (scale_as false ⟨#[49]⟩ 0 far _ (by decide) ⟨false, [49], 0⟩ ⟨false, [49], hld far⟩ (by decide) ((made_one _).trans (by rw [hld_clamp]))).mono ?_
  rintro x w10 ⟨rfl, hb⟩
  have Ct := Lib.hid (Bt.out.below hb (by have := Bt.out.lt; simp <;> omega))
  have b10 := Lib.hid (b9.out.trans (hb.mono (B' := w.heap.size) (by have := b9.out.size; simp <;> omega)))
  clear t0 t1 t2 t3 t4 t5 t6
  clear hb Bt
  have Bt : Hid (Box w10 (w8.heap.size) #[.bool false, .string ⟨#[49]⟩, .int .i64 (hld far)]) := Ct
  clear Ct
  obtain ⟨t0, t1, t2, t3, t4, t5, t6⟩ := Bt.out.three
  go_wp2_with fail
  have Q0 : Hid (Held2 w (w8.heap.size) (.bool false) (.string ⟨#[49]⟩) (.int .i64 (hld far)) (w10.heap.size) (.bool false) (.string ⟨#[49]⟩) (.int .i64 (hld far)) (w10.alloc (.cells #[.bool false, .string ⟨#[49]⟩, .int .i64 (hld far)] 28))) := Lib.hid ⟨(Bt.out.alloc (.cells #[.bool false, .string ⟨#[49]⟩, .int .i64 (hld far)] 28)), ((Box.new w10 #[.bool false, .string ⟨#[49]⟩, .int .i64 (hld far)] 28).at (b' := w10.heap.size) (by simp)), (b10.out.alloc (by have := b10.out.size; simp <;> omega) _)⟩
  first | (go_region_held3 (fun w' => w'.cell? ⟨w8.heap.size, 0, none⟩ = some (.bool false) ∧ w'.cell? ⟨w8.heap.size, 1, none⟩ = some (.string ⟨#[49]⟩) ∧ w'.cell? ⟨w8.heap.size, 2, none⟩ = some (.int .i64 (hld far)) ∧ w'.cell? ⟨w10.heap.size, 0, none⟩ = some (.bool false) ∧ w'.cell? ⟨w10.heap.size, 1, none⟩ = some (.string ⟨#[49]⟩) ∧ w'.cell? ⟨w10.heap.size, 2, none⟩ = some (.int .i64 (hld far)) ∧ Held2 w (w8.heap.size) (.bool false) (.string ⟨#[49]⟩) (.int .i64 (hld far)) (w10.heap.size) (.bool false) (.string ⟨#[49]⟩) (.int .i64 (hld far)) w')
    (first | exact Held2.all (Held2.drew Q0.out) | exact Held2.keep (by assumption) hb | assumption)
    (first | (go_at_call 16; with_reducible refine (made_as true ⟨#[48]⟩ far _ (by decide) ⟨false, [], 0⟩ HZ.out).mono ?_; rintro x wC ⟨rfl, hb⟩) | (go_at_call 14; with_reducible refine (norm_as false ⟨#[53]⟩ far _ (by decide) ⟨false, [53], hld far⟩ (made_five far)).mono ?_; rintro x wD ⟨rfl, hb⟩))) | fail
  have HH := (‹wD.cell? ⟨w8.heap.size, 0, none⟩ = some (.bool false) ∧ _›)
  obtain ⟨_, _, _, _, _, _, HH⟩ := HH
  clear t0 t1 t2 t3 t4 t5 t6
  clear Q0 Bt
  have Bt : Hid (Box wD (w8.heap.size) #[.bool false, .string ⟨#[49]⟩, .int .i64 (hld far)]) := Lib.hid HH.1
  have Bu : Hid (Box wD (w10.heap.size) #[.bool false, .string ⟨#[49]⟩, .int .i64 (hld far)]) := Lib.hid HH.2.1
  have b11 : Hid (Below w.heap.size w wD) := Lib.hid (HH.2.2)
  clear HH
  go_wp2
  go_ret
  exact ⟨rfl, b11.out⟩

end Go.Proofs.YtlppofjmkepceaaDoor
