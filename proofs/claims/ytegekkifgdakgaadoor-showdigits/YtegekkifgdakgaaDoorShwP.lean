/- What Prec of the laws' Ask returns. -/
import Derived.Test.YtegekkifgdakgaaDoorMShw
namespace Go.Proofs.YtegekkifgdakgaaDoor
open Go.RowKit Florin
set_option linter.unusedVariables false
set_option linter.unusedSimpArgs false
attribute [local go_sem ↓] Go.wp_at_zero Go.wp_at_succ

set_option maxRecDepth 100000 in
set_option maxHeartbeats 6400000 in
theorem prec_0 (k0 k1 k2 k3 k4 k5 k6 : Int) (w : World) (hk : IntKind.i64.wrap ((IntKind.u64.wrap k0).tmod 3) = 0) (j1 j2 j4 : Nat) (hj1 : bits .and .i64 k1 7 = (j1 : Int)) (hj2 : bits .and .i64 k2 7 = (j2 : Int)) (hj4 : bits .and .i64 k4 7 = (j4 : Int)) (l1 : j1 ≤ 7) (l2 : j2 ≤ 7) (l4 : j4 ≤ 7) (M : Int) (hM : ∀ w : World, Calls Tryd.prog 39 #[.int .i64 k3] w fun x w' => x = .returned (.int .i64 M) ∧ w = w') (htab : Tab w) :
    Calls Tryd.prog 12 #[.agg #[.int .i64 k0, .int .i64 k1, .int .i64 k2, .int .i64 k3, .int .i64 k4, .int .i64 k5, .int .i64 k6]] w fun z w' => z = .returned (PV ⟨0, j1, j1 + j2, zero, M, j4⟩) ∧ Below w.heap.size w w' := by
  have HM := Lib.hid hM
  have HT := Lib.hid htab
  clear hM htab
  go_enter Tryd.func12, Tryd.ntmps12
  go_wp2_with fail
  have ALL1 : Hid (∀ w' : World, HeldL w [(w.heap.size + 1, #[.int .i64 0, .int .i64 0, .int .i64 0, .bool false, .string ⟨#[]⟩, .int .i64 0, .int .i64 0, .int .i64 0]), (w.heap.size, #[.int .i64 k0, .int .i64 k1, .int .i64 k2, .int .i64 k3, .int .i64 k4, .int .i64 k5, .int .i64 k6])] w' → w'.cell? ⟨w.heap.size, 0, none⟩ = some (.int .i64 k0) ∧ w'.cell? ⟨w.heap.size, 1, none⟩ = some (.int .i64 k1) ∧ w'.cell? ⟨w.heap.size, 2, none⟩ = some (.int .i64 k2) ∧ w'.cell? ⟨w.heap.size, 3, none⟩ = some (.int .i64 k3) ∧ w'.cell? ⟨w.heap.size, 4, none⟩ = some (.int .i64 k4) ∧ w'.cell? ⟨w.heap.size, 5, none⟩ = some (.int .i64 k5) ∧ w'.cell? ⟨w.heap.size, 6, none⟩ = some (.int .i64 k6) ∧ HeldL w [(w.heap.size + 1, #[.int .i64 0, .int .i64 0, .int .i64 0, .bool false, .string ⟨#[]⟩, .int .i64 0, .int .i64 0, .int .i64 0]), (w.heap.size, #[.int .i64 k0, .int .i64 k1, .int .i64 k2, .int .i64 k3, .int .i64 k4, .int .i64 k5, .int .i64 k6])] w') := Lib.hid (fun w' h => ⟨(h.f (List.Mem.tail _ (List.Mem.head _))).cell 0, (h.f (List.Mem.tail _ (List.Mem.head _))).cell 1, (h.f (List.Mem.tail _ (List.Mem.head _))).cell 2, (h.f (List.Mem.tail _ (List.Mem.head _))).cell 3, (h.f (List.Mem.tail _ (List.Mem.head _))).cell 4, (h.f (List.Mem.tail _ (List.Mem.head _))).cell 5, (h.f (List.Mem.tail _ (List.Mem.head _))).cell 6, h⟩)
  have HS1 : Hid (HeldL w [(w.heap.size + 1, #[.int .i64 0, .int .i64 0, .int .i64 0, .bool false, .string ⟨#[]⟩, .int .i64 0, .int .i64 0, .int .i64 0]), (w.heap.size, #[.int .i64 k0, .int .i64 k1, .int .i64 k2, .int .i64 k3, .int .i64 k4, .int .i64 k5, .int .i64 k6])] _) := Lib.hid (HeldL.alloc (HeldL.alloc (HeldL.refl w) (w.heap.size) #[.int .i64 k0, .int .i64 k1, .int .i64 k2, .int .i64 k3, .int .i64 k4, .int .i64 k5, .int .i64 k6] 26 (by simp)) (w.heap.size + 1) #[.int .i64 0, .int .i64 0, .int .i64 0, .bool false, .string ⟨#[]⟩, .int .i64 0, .int .i64 0, .int .i64 0] 34 (by simp))
  refine wp_region_held_drew (S := fun w' => w'.cell? ⟨w.heap.size, 0, none⟩ = some (.int .i64 k0) ∧ w'.cell? ⟨w.heap.size, 1, none⟩ = some (.int .i64 k1) ∧ w'.cell? ⟨w.heap.size, 2, none⟩ = some (.int .i64 k2) ∧ w'.cell? ⟨w.heap.size, 3, none⟩ = some (.int .i64 k3) ∧ w'.cell? ⟨w.heap.size, 4, none⟩ = some (.int .i64 k4) ∧ w'.cell? ⟨w.heap.size, 5, none⟩ = some (.int .i64 k5) ∧ w'.cell? ⟨w.heap.size, 6, none⟩ = some (.int .i64 k6) ∧ HeldL w [(w.heap.size + 1, #[.int .i64 0, .int .i64 0, .int .i64 0, .bool false, .string ⟨#[]⟩, .int .i64 0, .int .i64 0, .int .i64 0]), (w.heap.size, #[.int .i64 k0, .int .i64 k1, .int .i64 k2, .int .i64 k3, .int .i64 k4, .int .i64 k5, .int .i64 k6])] w') (by kernel_rfl) (ALL1.out _ (HeldL.drew HS1.out)) (fun hHeld => ?_)
  refine wpAnyH_take (i := 0) (oi := { dst := some 4, op := Go.Op.fieldAddr 26 (Go.Operand.tmp 1) 0, type := 0, pos := "law.go:30", after := #[], guard := none }) (v := ?_) rfl (by kernel_rfl) (by kernel_rfl) (by kernel_rfl) (fun _ _ _ h => h) (Or.inl ⟨by rfl, ?_⟩) hHeld ?_
  case refine_2 => (intro w hSw; (try dsimp only at hSw); go_simp <;> with_reducible rfl)
  try simp only [Act.put, List.setIfInBounds_toArray, List.set_cons_zero, List.set_cons_succ]
  refine wpAnyH_take (i := 1) (oi := { dst := some 5, op := Go.Op.load 3 (Go.Operand.tmp 4), type := 3, pos := "law.go:30", after := #[{ on := 0, ground := Go.Ground.data }], guard := none }) (v := ?_) rfl (by kernel_rfl) (by kernel_rfl) (by kernel_rfl) (fun _ _ _ h => h) (Or.inl ⟨by rfl, ?_⟩) hHeld ?_
  case refine_2 => (intro w hSw; (try dsimp only at hSw); go_simp <;> with_reducible rfl)
  try simp only [Act.put, List.setIfInBounds_toArray, List.set_cons_zero, List.set_cons_succ]
  refine wpAnyH_take (i := 2) (oi := { dst := some 6, op := Go.Op.convert 3 63 (Go.Operand.tmp 5), type := 63, pos := "law.go:30", after := #[{ on := 1, ground := Go.Ground.data }], guard := none }) (v := ?_) rfl (by kernel_rfl) (by kernel_rfl) (by kernel_rfl) (fun _ _ _ h => h) (Or.inl ⟨by rfl, ?_⟩) hHeld ?_
  case refine_2 => (intro w hSw; (try dsimp only at hSw); go_simp <;> with_reducible rfl)
  try simp only [Act.put, List.setIfInBounds_toArray, List.set_cons_zero, List.set_cons_succ]
  refine wpAnyH_take (i := 3) (oi := { dst := some 7, op := Go.Op.binOp Go.BinOp.rem 63 (Go.Operand.tmp 6) (Go.Operand.const (Go.Value.int Go.IntKind.u64 3)) 63, type := 63, pos := "law.go:30", after := #[{ on := 2, ground := Go.Ground.data }], guard := none }) (v := ?_) rfl (by kernel_rfl) (by kernel_rfl) (by kernel_rfl) (fun _ _ _ h => h) (Or.inl ⟨by rfl, ?_⟩) hHeld ?_
  case refine_2 => (intro w hSw; (try dsimp only at hSw); go_simp <;> with_reducible rfl)
  try simp only [Act.put, List.setIfInBounds_toArray, List.set_cons_zero, List.set_cons_succ]
  refine wpAnyH_take (i := 4) (oi := { dst := some 8, op := Go.Op.convert 63 3 (Go.Operand.tmp 7), type := 3, pos := "law.go:30", after := #[{ on := 3, ground := Go.Ground.data }], guard := none }) (v := ?_) rfl (by kernel_rfl) (by kernel_rfl) (by kernel_rfl) (fun _ _ _ h => h) (Or.inl ⟨by rfl, ?_⟩) hHeld ?_
  case refine_2 => (intro w hSw; (try dsimp only at hSw); go_simp <;> with_reducible rfl)
  try simp only [Act.put, List.setIfInBounds_toArray, List.set_cons_zero, List.set_cons_succ]
  refine wpAnyH_take (i := 5) (oi := { dst := some 9, op := Go.Op.fieldAddr 26 (Go.Operand.tmp 1) 1, type := 0, pos := "law.go:30", after := #[], guard := none }) (v := ?_) rfl (by kernel_rfl) (by kernel_rfl) (by kernel_rfl) (fun _ _ _ h => h) (Or.inl ⟨by rfl, ?_⟩) hHeld ?_
  case refine_2 => (intro w hSw; (try dsimp only at hSw); go_simp <;> with_reducible rfl)
  try simp only [Act.put, List.setIfInBounds_toArray, List.set_cons_zero, List.set_cons_succ]
  refine wpAnyH_take (i := 6) (oi := { dst := some 10, op := Go.Op.load 3 (Go.Operand.tmp 9), type := 3, pos := "law.go:30", after := #[{ on := 5, ground := Go.Ground.data }], guard := none }) (v := ?_) rfl (by kernel_rfl) (by kernel_rfl) (by kernel_rfl) (fun _ _ _ h => h) (Or.inl ⟨by rfl, ?_⟩) hHeld ?_
  case refine_2 => (intro w hSw; (try dsimp only at hSw); go_simp <;> with_reducible rfl)
  try simp only [Act.put, List.setIfInBounds_toArray, List.set_cons_zero, List.set_cons_succ]
  refine wpAnyH_take (i := 7) (oi := { dst := some 11, op := Go.Op.binOp Go.BinOp.and 3 (Go.Operand.tmp 10) (Go.Operand.const (Go.Value.int Go.IntKind.i64 7)) 3, type := 3, pos := "law.go:30", after := #[{ on := 6, ground := Go.Ground.data }], guard := none }) (v := ?_) rfl (by kernel_rfl) (by kernel_rfl) (by kernel_rfl) (fun _ _ _ h => h) (Or.inl ⟨by rfl, ?_⟩) hHeld ?_
  case refine_2 => (intro w hSw; (try dsimp only at hSw); go_simp <;> with_reducible rfl)
  try simp only [Act.put, List.setIfInBounds_toArray, List.set_cons_zero, List.set_cons_succ]
  refine wpAnyH_take (i := 8) (oi := { dst := some 12, op := Go.Op.fieldAddr 26 (Go.Operand.tmp 1) 3, type := 0, pos := "law.go:30", after := #[], guard := none }) (v := ?_) rfl (by kernel_rfl) (by kernel_rfl) (by kernel_rfl) (fun _ _ _ h => h) (Or.inl ⟨by rfl, ?_⟩) hHeld ?_
  case refine_2 => (intro w hSw; (try dsimp only at hSw); go_simp <;> with_reducible rfl)
  try simp only [Act.put, List.setIfInBounds_toArray, List.set_cons_zero, List.set_cons_succ]
  refine wpAnyH_take (i := 9) (oi := { dst := some 13, op := Go.Op.load 3 (Go.Operand.tmp 12), type := 3, pos := "law.go:30", after := #[{ on := 8, ground := Go.Ground.data }], guard := none }) (v := ?_) rfl (by kernel_rfl) (by kernel_rfl) (by kernel_rfl) (fun _ _ _ h => h) (Or.inl ⟨by rfl, ?_⟩) hHeld ?_
  case refine_2 => (intro w hSw; (try dsimp only at hSw); go_simp <;> with_reducible rfl)
  try simp only [Act.put, List.setIfInBounds_toArray, List.set_cons_zero, List.set_cons_succ]
  refine wpAnyH_take (i := 11) (oi := { dst := some 15, op := Go.Op.fieldAddr 26 (Go.Operand.tmp 1) 4, type := 0, pos := "law.go:30", after := #[], guard := none }) (v := ?_) rfl (by kernel_rfl) (by kernel_rfl) (by kernel_rfl) (fun _ _ _ h => h) (Or.inl ⟨by rfl, ?_⟩) hHeld ?_
  case refine_2 => (intro w hSw; (try dsimp only at hSw); go_simp <;> with_reducible rfl)
  try simp only [Act.put, List.setIfInBounds_toArray, List.set_cons_zero, List.set_cons_succ]
  refine wpAnyH_take (i := 12) (oi := { dst := some 16, op := Go.Op.load 3 (Go.Operand.tmp 15), type := 3, pos := "law.go:30", after := #[{ on := 11, ground := Go.Ground.data }], guard := none }) (v := ?_) rfl (by kernel_rfl) (by kernel_rfl) (by kernel_rfl) (fun _ _ _ h => h) (Or.inl ⟨by rfl, ?_⟩) hHeld ?_
  case refine_2 => (intro w hSw; (try dsimp only at hSw); go_simp <;> with_reducible rfl)
  try simp only [Act.put, List.setIfInBounds_toArray, List.set_cons_zero, List.set_cons_succ]
  refine wpAnyH_take (i := 13) (oi := { dst := some 17, op := Go.Op.binOp Go.BinOp.and 3 (Go.Operand.tmp 16) (Go.Operand.const (Go.Value.int Go.IntKind.i64 7)) 3, type := 3, pos := "law.go:30", after := #[{ on := 12, ground := Go.Ground.data }], guard := none }) (v := ?_) rfl (by kernel_rfl) (by kernel_rfl) (by kernel_rfl) (fun _ _ _ h => h) (Or.inl ⟨by rfl, ?_⟩) hHeld ?_
  case refine_2 => (intro w hSw; (try dsimp only at hSw); go_simp <;> with_reducible rfl)
  try simp only [Act.put, List.setIfInBounds_toArray, List.set_cons_zero, List.set_cons_succ]
  have hH0 := hHeld
  refine wpAnyH_ready (rs := [10, 15]) (by kernel_rfl) (by simp) ?_
  refine AllReadyH.cons (o := { dst := some 14, op := Go.Op.call { callee := Go.Callee.value (Go.Operand.func 39), args := #[Go.Operand.tmp 13], argTypes := #[3] }, type := 32, pos := "law.go:30", after := #[{ on := 9, ground := Go.Ground.data }], guard := none }) rfl (fun KK hK => ?_) (AllReadyH.cons (o := { dst := some 3, op := Go.Op.alloc 34, type := 0, pos := "law.go:30", after := #[], guard := none }) rfl (fun KK hK => ?_) AllReadyH.nil)
  ·
    go_simp
    with_reducible refine (HM.out _).mono ?_
    rintro x wz ⟨rfl, rfl⟩
    go_wp2_with fail
    refine hK.out _ _ hHeld (fun _ => ?_)
    clear hK
    try simp only [Act.put, List.setIfInBounds_toArray, List.set_cons_zero, List.set_cons_succ]
    refine wpAnyH_take (i := 14) (oi := { dst := some 18, op := Go.Op.build 34 #[(0, Go.Operand.tmp 8), (1, Go.Operand.tmp 11), (4, Go.Operand.tmp 14), (5, Go.Operand.tmp 17)], type := 34, pos := "law.go:30", after := #[{ on := 4, ground := Go.Ground.data }, { on := 7, ground := Go.Ground.data }, { on := 10, ground := Go.Ground.data }, { on := 13, ground := Go.Ground.data }], guard := none }) (v := ?_) rfl (by kernel_rfl) (by kernel_rfl) (by kernel_rfl) (fun _ _ _ h => h) (Or.inl ⟨by rfl, ?_⟩) hHeld ?_
    case refine_2 => (intro w hSw; (try dsimp only at hSw); go_simp <;> with_reducible rfl)
    try simp only [Act.put, List.setIfInBounds_toArray, List.set_cons_zero, List.set_cons_succ]
    refine wpAnyH_ready (rs := [15]) (by kernel_rfl) (by simp) ?_
    refine AllReadyH.cons (o := { dst := some 3, op := Go.Op.alloc 34, type := 0, pos := "law.go:30", after := #[], guard := none }) rfl (fun KK hK => ?_) AllReadyH.nil
    go_simp
    refine hK.out _ _ (ALL1.out _ (HeldL.skip (hH0.2.2.2.2.2.2.2) _)) (fun hHeld2 => ?_)
    clear hK hHeld
    have hHeld := hHeld2
    clear hHeld2
    try simp only [Act.put, List.setIfInBounds_toArray, List.set_cons_zero, List.set_cons_succ]
    refine wpAnyH_ready (rs := [16]) (by kernel_rfl) (by simp) ?_
    refine AllReadyH.cons (o := { dst := none, op := Go.Op.store 34 (Go.Operand.tmp 3) (Go.Operand.tmp 18), type := 0, pos := "law.go:30", after := #[{ on := 15, ground := Go.Ground.data }, { on := 14, ground := Go.Ground.data }, { on := 10, ground := Go.Ground.chain }, { on := 0, ground := Go.Ground.phase }, { on := 1, ground := Go.Ground.phase }, { on := 2, ground := Go.Ground.phase }, { on := 3, ground := Go.Ground.phase }, { on := 4, ground := Go.Ground.phase }, { on := 5, ground := Go.Ground.phase }, { on := 6, ground := Go.Ground.phase }, { on := 7, ground := Go.Ground.phase }, { on := 8, ground := Go.Ground.phase }, { on := 9, ground := Go.Ground.phase }, { on := 10, ground := Go.Ground.phase }, { on := 11, ground := Go.Ground.phase }, { on := 12, ground := Go.Ground.phase }, { on := 13, ground := Go.Ground.phase }, { on := 14, ground := Go.Ground.phase }, { on := 15, ground := Go.Ground.phase }], guard := none }) rfl (fun KK hK => ?_) AllReadyH.nil
    go_simp
    refine hK.out _ _ (ALL1.out _ (HeldL.skip (hH0.2.2.2.2.2.2.2) _)) (fun hHeld2 => ?_)
    clear hK hHeld2
    try simp only [Act.put, List.setIfInBounds_toArray, List.set_cons_zero, List.set_cons_succ]
    refine wpAnyH_done (by kernel_rfl) ?_ _
    clear hHeld hH0 ALL1 HS1
    go_wp2
    exact bodyPost_ret (v := .agg #[.int .i64 0, .int .i64 j1, .int .i64 ((j1 : Int) + j2), .bool false, .string ⟨#[]⟩, .int .i64 0, .int .i64 M, .int .i64 j4]) (by simp [results, Tryd.results12, go_sem]) rfl ⟨rfl, (below_alloc3 w _ _ _).drew⟩
  ·
    go_simp
    refine hK.out _ _ (ALL1.out _ (HeldL.skip (hH0.2.2.2.2.2.2.2) _)) (fun hHeld2 => ?_)
    clear hK hHeld
    have hHeld := hHeld2
    clear hHeld2
    try simp only [Act.put, List.setIfInBounds_toArray, List.set_cons_zero, List.set_cons_succ]
    refine wpAnyH_ready (rs := [10]) (by kernel_rfl) (by simp) ?_
    refine AllReadyH.cons (o := { dst := some 14, op := Go.Op.call { callee := Go.Callee.value (Go.Operand.func 39), args := #[Go.Operand.tmp 13], argTypes := #[3] }, type := 32, pos := "law.go:30", after := #[{ on := 9, ground := Go.Ground.data }], guard := none }) rfl (fun KK hK => ?_) AllReadyH.nil
    go_simp
    with_reducible refine (HM.out _).mono ?_
    rintro x wz ⟨rfl, rfl⟩
    go_wp2_with fail
    refine hK.out _ _ hHeld (fun _ => ?_)
    clear hK
    try simp only [Act.put, List.setIfInBounds_toArray, List.set_cons_zero, List.set_cons_succ]
    refine wpAnyH_take (i := 14) (oi := { dst := some 18, op := Go.Op.build 34 #[(0, Go.Operand.tmp 8), (1, Go.Operand.tmp 11), (4, Go.Operand.tmp 14), (5, Go.Operand.tmp 17)], type := 34, pos := "law.go:30", after := #[{ on := 4, ground := Go.Ground.data }, { on := 7, ground := Go.Ground.data }, { on := 10, ground := Go.Ground.data }, { on := 13, ground := Go.Ground.data }], guard := none }) (v := ?_) rfl (by kernel_rfl) (by kernel_rfl) (by kernel_rfl) (fun _ _ _ h => h) (Or.inl ⟨by rfl, ?_⟩) hHeld ?_
    case refine_2 => (intro w hSw; (try dsimp only at hSw); go_simp <;> with_reducible rfl)
    try simp only [Act.put, List.setIfInBounds_toArray, List.set_cons_zero, List.set_cons_succ]
    refine wpAnyH_ready (rs := [16]) (by kernel_rfl) (by simp) ?_
    refine AllReadyH.cons (o := { dst := none, op := Go.Op.store 34 (Go.Operand.tmp 3) (Go.Operand.tmp 18), type := 0, pos := "law.go:30", after := #[{ on := 15, ground := Go.Ground.data }, { on := 14, ground := Go.Ground.data }, { on := 10, ground := Go.Ground.chain }, { on := 0, ground := Go.Ground.phase }, { on := 1, ground := Go.Ground.phase }, { on := 2, ground := Go.Ground.phase }, { on := 3, ground := Go.Ground.phase }, { on := 4, ground := Go.Ground.phase }, { on := 5, ground := Go.Ground.phase }, { on := 6, ground := Go.Ground.phase }, { on := 7, ground := Go.Ground.phase }, { on := 8, ground := Go.Ground.phase }, { on := 9, ground := Go.Ground.phase }, { on := 10, ground := Go.Ground.phase }, { on := 11, ground := Go.Ground.phase }, { on := 12, ground := Go.Ground.phase }, { on := 13, ground := Go.Ground.phase }, { on := 14, ground := Go.Ground.phase }, { on := 15, ground := Go.Ground.phase }], guard := none }) rfl (fun KK hK => ?_) AllReadyH.nil
    go_simp
    refine hK.out _ _ (ALL1.out _ (HeldL.skip (hH0.2.2.2.2.2.2.2) _)) (fun hHeld2 => ?_)
    clear hK hHeld2
    try simp only [Act.put, List.setIfInBounds_toArray, List.set_cons_zero, List.set_cons_succ]
    refine wpAnyH_done (by kernel_rfl) ?_ _
    clear hHeld hH0 ALL1 HS1
    go_wp2
    exact bodyPost_ret (v := .agg #[.int .i64 0, .int .i64 j1, .int .i64 ((j1 : Int) + j2), .bool false, .string ⟨#[]⟩, .int .i64 0, .int .i64 M, .int .i64 j4]) (by simp [results, Tryd.results12, go_sem]) rfl ⟨rfl, (below_alloc3 w _ _ _).drew⟩

set_option maxRecDepth 100000 in
set_option maxHeartbeats 6400000 in
theorem prec_1 (k0 k1 k2 k3 k4 k5 k6 : Int) (w : World) (hk : IntKind.i64.wrap ((IntKind.u64.wrap k0).tmod 3) = 1) (j1 j2 j4 : Nat) (hj1 : bits .and .i64 k1 7 = (j1 : Int)) (hj2 : bits .and .i64 k2 7 = (j2 : Int)) (hj4 : bits .and .i64 k4 7 = (j4 : Int)) (l1 : j1 ≤ 7) (l2 : j2 ≤ 7) (l4 : j4 ≤ 7) (M : Int) (hM : ∀ w : World, Calls Tryd.prog 39 #[.int .i64 k3] w fun x w' => x = .returned (.int .i64 M) ∧ w = w') (htab : Tab w) :
    Calls Tryd.prog 12 #[.agg #[.int .i64 k0, .int .i64 k1, .int .i64 k2, .int .i64 k3, .int .i64 k4, .int .i64 k5, .int .i64 k6]] w fun z w' => z = .returned (PV ⟨1, j1 + 1, j1 + 1 + j2, zero, M, j4⟩) ∧ Below w.heap.size w w' := by
  have HM := Lib.hid hM
  have HT := Lib.hid htab
  clear hM htab
  go_enter Tryd.func12, Tryd.ntmps12
  go_wp2_with fail
  have ALL1 : Hid (∀ w' : World, HeldL w [(w.heap.size + 1, #[.int .i64 0, .int .i64 0, .int .i64 0, .bool false, .string ⟨#[]⟩, .int .i64 0, .int .i64 0, .int .i64 0]), (w.heap.size, #[.int .i64 k0, .int .i64 k1, .int .i64 k2, .int .i64 k3, .int .i64 k4, .int .i64 k5, .int .i64 k6])] w' → w'.cell? ⟨w.heap.size, 0, none⟩ = some (.int .i64 k0) ∧ w'.cell? ⟨w.heap.size, 1, none⟩ = some (.int .i64 k1) ∧ w'.cell? ⟨w.heap.size, 2, none⟩ = some (.int .i64 k2) ∧ w'.cell? ⟨w.heap.size, 3, none⟩ = some (.int .i64 k3) ∧ w'.cell? ⟨w.heap.size, 4, none⟩ = some (.int .i64 k4) ∧ w'.cell? ⟨w.heap.size, 5, none⟩ = some (.int .i64 k5) ∧ w'.cell? ⟨w.heap.size, 6, none⟩ = some (.int .i64 k6) ∧ HeldL w [(w.heap.size + 1, #[.int .i64 0, .int .i64 0, .int .i64 0, .bool false, .string ⟨#[]⟩, .int .i64 0, .int .i64 0, .int .i64 0]), (w.heap.size, #[.int .i64 k0, .int .i64 k1, .int .i64 k2, .int .i64 k3, .int .i64 k4, .int .i64 k5, .int .i64 k6])] w') := Lib.hid (fun w' h => ⟨(h.f (List.Mem.tail _ (List.Mem.head _))).cell 0, (h.f (List.Mem.tail _ (List.Mem.head _))).cell 1, (h.f (List.Mem.tail _ (List.Mem.head _))).cell 2, (h.f (List.Mem.tail _ (List.Mem.head _))).cell 3, (h.f (List.Mem.tail _ (List.Mem.head _))).cell 4, (h.f (List.Mem.tail _ (List.Mem.head _))).cell 5, (h.f (List.Mem.tail _ (List.Mem.head _))).cell 6, h⟩)
  have HS1 : Hid (HeldL w [(w.heap.size + 1, #[.int .i64 0, .int .i64 0, .int .i64 0, .bool false, .string ⟨#[]⟩, .int .i64 0, .int .i64 0, .int .i64 0]), (w.heap.size, #[.int .i64 k0, .int .i64 k1, .int .i64 k2, .int .i64 k3, .int .i64 k4, .int .i64 k5, .int .i64 k6])] _) := Lib.hid (HeldL.alloc (HeldL.alloc (HeldL.refl w) (w.heap.size) #[.int .i64 k0, .int .i64 k1, .int .i64 k2, .int .i64 k3, .int .i64 k4, .int .i64 k5, .int .i64 k6] 26 (by simp)) (w.heap.size + 1) #[.int .i64 0, .int .i64 0, .int .i64 0, .bool false, .string ⟨#[]⟩, .int .i64 0, .int .i64 0, .int .i64 0] 34 (by simp))
  refine wp_region_held_drew (S := fun w' => w'.cell? ⟨w.heap.size, 0, none⟩ = some (.int .i64 k0) ∧ w'.cell? ⟨w.heap.size, 1, none⟩ = some (.int .i64 k1) ∧ w'.cell? ⟨w.heap.size, 2, none⟩ = some (.int .i64 k2) ∧ w'.cell? ⟨w.heap.size, 3, none⟩ = some (.int .i64 k3) ∧ w'.cell? ⟨w.heap.size, 4, none⟩ = some (.int .i64 k4) ∧ w'.cell? ⟨w.heap.size, 5, none⟩ = some (.int .i64 k5) ∧ w'.cell? ⟨w.heap.size, 6, none⟩ = some (.int .i64 k6) ∧ HeldL w [(w.heap.size + 1, #[.int .i64 0, .int .i64 0, .int .i64 0, .bool false, .string ⟨#[]⟩, .int .i64 0, .int .i64 0, .int .i64 0]), (w.heap.size, #[.int .i64 k0, .int .i64 k1, .int .i64 k2, .int .i64 k3, .int .i64 k4, .int .i64 k5, .int .i64 k6])] w') (by kernel_rfl) (ALL1.out _ (HeldL.drew HS1.out)) (fun hHeld => ?_)
  refine wpAnyH_take (i := 0) (oi := { dst := some 4, op := Go.Op.fieldAddr 26 (Go.Operand.tmp 1) 0, type := 0, pos := "law.go:30", after := #[], guard := none }) (v := ?_) rfl (by kernel_rfl) (by kernel_rfl) (by kernel_rfl) (fun _ _ _ h => h) (Or.inl ⟨by rfl, ?_⟩) hHeld ?_
  case refine_2 => (intro w hSw; (try dsimp only at hSw); go_simp <;> with_reducible rfl)
  try simp only [Act.put, List.setIfInBounds_toArray, List.set_cons_zero, List.set_cons_succ]
  refine wpAnyH_take (i := 1) (oi := { dst := some 5, op := Go.Op.load 3 (Go.Operand.tmp 4), type := 3, pos := "law.go:30", after := #[{ on := 0, ground := Go.Ground.data }], guard := none }) (v := ?_) rfl (by kernel_rfl) (by kernel_rfl) (by kernel_rfl) (fun _ _ _ h => h) (Or.inl ⟨by rfl, ?_⟩) hHeld ?_
  case refine_2 => (intro w hSw; (try dsimp only at hSw); go_simp <;> with_reducible rfl)
  try simp only [Act.put, List.setIfInBounds_toArray, List.set_cons_zero, List.set_cons_succ]
  refine wpAnyH_take (i := 2) (oi := { dst := some 6, op := Go.Op.convert 3 63 (Go.Operand.tmp 5), type := 63, pos := "law.go:30", after := #[{ on := 1, ground := Go.Ground.data }], guard := none }) (v := ?_) rfl (by kernel_rfl) (by kernel_rfl) (by kernel_rfl) (fun _ _ _ h => h) (Or.inl ⟨by rfl, ?_⟩) hHeld ?_
  case refine_2 => (intro w hSw; (try dsimp only at hSw); go_simp <;> with_reducible rfl)
  try simp only [Act.put, List.setIfInBounds_toArray, List.set_cons_zero, List.set_cons_succ]
  refine wpAnyH_take (i := 3) (oi := { dst := some 7, op := Go.Op.binOp Go.BinOp.rem 63 (Go.Operand.tmp 6) (Go.Operand.const (Go.Value.int Go.IntKind.u64 3)) 63, type := 63, pos := "law.go:30", after := #[{ on := 2, ground := Go.Ground.data }], guard := none }) (v := ?_) rfl (by kernel_rfl) (by kernel_rfl) (by kernel_rfl) (fun _ _ _ h => h) (Or.inl ⟨by rfl, ?_⟩) hHeld ?_
  case refine_2 => (intro w hSw; (try dsimp only at hSw); go_simp <;> with_reducible rfl)
  try simp only [Act.put, List.setIfInBounds_toArray, List.set_cons_zero, List.set_cons_succ]
  refine wpAnyH_take (i := 4) (oi := { dst := some 8, op := Go.Op.convert 63 3 (Go.Operand.tmp 7), type := 3, pos := "law.go:30", after := #[{ on := 3, ground := Go.Ground.data }], guard := none }) (v := ?_) rfl (by kernel_rfl) (by kernel_rfl) (by kernel_rfl) (fun _ _ _ h => h) (Or.inl ⟨by rfl, ?_⟩) hHeld ?_
  case refine_2 => (intro w hSw; (try dsimp only at hSw); go_simp <;> with_reducible rfl)
  try simp only [Act.put, List.setIfInBounds_toArray, List.set_cons_zero, List.set_cons_succ]
  refine wpAnyH_take (i := 5) (oi := { dst := some 9, op := Go.Op.fieldAddr 26 (Go.Operand.tmp 1) 1, type := 0, pos := "law.go:30", after := #[], guard := none }) (v := ?_) rfl (by kernel_rfl) (by kernel_rfl) (by kernel_rfl) (fun _ _ _ h => h) (Or.inl ⟨by rfl, ?_⟩) hHeld ?_
  case refine_2 => (intro w hSw; (try dsimp only at hSw); go_simp <;> with_reducible rfl)
  try simp only [Act.put, List.setIfInBounds_toArray, List.set_cons_zero, List.set_cons_succ]
  refine wpAnyH_take (i := 6) (oi := { dst := some 10, op := Go.Op.load 3 (Go.Operand.tmp 9), type := 3, pos := "law.go:30", after := #[{ on := 5, ground := Go.Ground.data }], guard := none }) (v := ?_) rfl (by kernel_rfl) (by kernel_rfl) (by kernel_rfl) (fun _ _ _ h => h) (Or.inl ⟨by rfl, ?_⟩) hHeld ?_
  case refine_2 => (intro w hSw; (try dsimp only at hSw); go_simp <;> with_reducible rfl)
  try simp only [Act.put, List.setIfInBounds_toArray, List.set_cons_zero, List.set_cons_succ]
  refine wpAnyH_take (i := 7) (oi := { dst := some 11, op := Go.Op.binOp Go.BinOp.and 3 (Go.Operand.tmp 10) (Go.Operand.const (Go.Value.int Go.IntKind.i64 7)) 3, type := 3, pos := "law.go:30", after := #[{ on := 6, ground := Go.Ground.data }], guard := none }) (v := ?_) rfl (by kernel_rfl) (by kernel_rfl) (by kernel_rfl) (fun _ _ _ h => h) (Or.inl ⟨by rfl, ?_⟩) hHeld ?_
  case refine_2 => (intro w hSw; (try dsimp only at hSw); go_simp <;> with_reducible rfl)
  try simp only [Act.put, List.setIfInBounds_toArray, List.set_cons_zero, List.set_cons_succ]
  refine wpAnyH_take (i := 8) (oi := { dst := some 12, op := Go.Op.fieldAddr 26 (Go.Operand.tmp 1) 3, type := 0, pos := "law.go:30", after := #[], guard := none }) (v := ?_) rfl (by kernel_rfl) (by kernel_rfl) (by kernel_rfl) (fun _ _ _ h => h) (Or.inl ⟨by rfl, ?_⟩) hHeld ?_
  case refine_2 => (intro w hSw; (try dsimp only at hSw); go_simp <;> with_reducible rfl)
  try simp only [Act.put, List.setIfInBounds_toArray, List.set_cons_zero, List.set_cons_succ]
  refine wpAnyH_take (i := 9) (oi := { dst := some 13, op := Go.Op.load 3 (Go.Operand.tmp 12), type := 3, pos := "law.go:30", after := #[{ on := 8, ground := Go.Ground.data }], guard := none }) (v := ?_) rfl (by kernel_rfl) (by kernel_rfl) (by kernel_rfl) (fun _ _ _ h => h) (Or.inl ⟨by rfl, ?_⟩) hHeld ?_
  case refine_2 => (intro w hSw; (try dsimp only at hSw); go_simp <;> with_reducible rfl)
  try simp only [Act.put, List.setIfInBounds_toArray, List.set_cons_zero, List.set_cons_succ]
  refine wpAnyH_take (i := 11) (oi := { dst := some 15, op := Go.Op.fieldAddr 26 (Go.Operand.tmp 1) 4, type := 0, pos := "law.go:30", after := #[], guard := none }) (v := ?_) rfl (by kernel_rfl) (by kernel_rfl) (by kernel_rfl) (fun _ _ _ h => h) (Or.inl ⟨by rfl, ?_⟩) hHeld ?_
  case refine_2 => (intro w hSw; (try dsimp only at hSw); go_simp <;> with_reducible rfl)
  try simp only [Act.put, List.setIfInBounds_toArray, List.set_cons_zero, List.set_cons_succ]
  refine wpAnyH_take (i := 12) (oi := { dst := some 16, op := Go.Op.load 3 (Go.Operand.tmp 15), type := 3, pos := "law.go:30", after := #[{ on := 11, ground := Go.Ground.data }], guard := none }) (v := ?_) rfl (by kernel_rfl) (by kernel_rfl) (by kernel_rfl) (fun _ _ _ h => h) (Or.inl ⟨by rfl, ?_⟩) hHeld ?_
  case refine_2 => (intro w hSw; (try dsimp only at hSw); go_simp <;> with_reducible rfl)
  try simp only [Act.put, List.setIfInBounds_toArray, List.set_cons_zero, List.set_cons_succ]
  refine wpAnyH_take (i := 13) (oi := { dst := some 17, op := Go.Op.binOp Go.BinOp.and 3 (Go.Operand.tmp 16) (Go.Operand.const (Go.Value.int Go.IntKind.i64 7)) 3, type := 3, pos := "law.go:30", after := #[{ on := 12, ground := Go.Ground.data }], guard := none }) (v := ?_) rfl (by kernel_rfl) (by kernel_rfl) (by kernel_rfl) (fun _ _ _ h => h) (Or.inl ⟨by rfl, ?_⟩) hHeld ?_
  case refine_2 => (intro w hSw; (try dsimp only at hSw); go_simp <;> with_reducible rfl)
  try simp only [Act.put, List.setIfInBounds_toArray, List.set_cons_zero, List.set_cons_succ]
  have hH0 := hHeld
  refine wpAnyH_ready (rs := [10, 15]) (by kernel_rfl) (by simp) ?_
  refine AllReadyH.cons (o := { dst := some 14, op := Go.Op.call { callee := Go.Callee.value (Go.Operand.func 39), args := #[Go.Operand.tmp 13], argTypes := #[3] }, type := 32, pos := "law.go:30", after := #[{ on := 9, ground := Go.Ground.data }], guard := none }) rfl (fun KK hK => ?_) (AllReadyH.cons (o := { dst := some 3, op := Go.Op.alloc 34, type := 0, pos := "law.go:30", after := #[], guard := none }) rfl (fun KK hK => ?_) AllReadyH.nil)
  ·
    go_simp
    with_reducible refine (HM.out _).mono ?_
    rintro x wz ⟨rfl, rfl⟩
    go_wp2_with fail
    refine hK.out _ _ hHeld (fun _ => ?_)
    clear hK
    try simp only [Act.put, List.setIfInBounds_toArray, List.set_cons_zero, List.set_cons_succ]
    refine wpAnyH_take (i := 14) (oi := { dst := some 18, op := Go.Op.build 34 #[(0, Go.Operand.tmp 8), (1, Go.Operand.tmp 11), (4, Go.Operand.tmp 14), (5, Go.Operand.tmp 17)], type := 34, pos := "law.go:30", after := #[{ on := 4, ground := Go.Ground.data }, { on := 7, ground := Go.Ground.data }, { on := 10, ground := Go.Ground.data }, { on := 13, ground := Go.Ground.data }], guard := none }) (v := ?_) rfl (by kernel_rfl) (by kernel_rfl) (by kernel_rfl) (fun _ _ _ h => h) (Or.inl ⟨by rfl, ?_⟩) hHeld ?_
    case refine_2 => (intro w hSw; (try dsimp only at hSw); go_simp <;> with_reducible rfl)
    try simp only [Act.put, List.setIfInBounds_toArray, List.set_cons_zero, List.set_cons_succ]
    refine wpAnyH_ready (rs := [15]) (by kernel_rfl) (by simp) ?_
    refine AllReadyH.cons (o := { dst := some 3, op := Go.Op.alloc 34, type := 0, pos := "law.go:30", after := #[], guard := none }) rfl (fun KK hK => ?_) AllReadyH.nil
    go_simp
    refine hK.out _ _ (ALL1.out _ (HeldL.skip (hH0.2.2.2.2.2.2.2) _)) (fun hHeld2 => ?_)
    clear hK hHeld
    have hHeld := hHeld2
    clear hHeld2
    try simp only [Act.put, List.setIfInBounds_toArray, List.set_cons_zero, List.set_cons_succ]
    refine wpAnyH_ready (rs := [16]) (by kernel_rfl) (by simp) ?_
    refine AllReadyH.cons (o := { dst := none, op := Go.Op.store 34 (Go.Operand.tmp 3) (Go.Operand.tmp 18), type := 0, pos := "law.go:30", after := #[{ on := 15, ground := Go.Ground.data }, { on := 14, ground := Go.Ground.data }, { on := 10, ground := Go.Ground.chain }, { on := 0, ground := Go.Ground.phase }, { on := 1, ground := Go.Ground.phase }, { on := 2, ground := Go.Ground.phase }, { on := 3, ground := Go.Ground.phase }, { on := 4, ground := Go.Ground.phase }, { on := 5, ground := Go.Ground.phase }, { on := 6, ground := Go.Ground.phase }, { on := 7, ground := Go.Ground.phase }, { on := 8, ground := Go.Ground.phase }, { on := 9, ground := Go.Ground.phase }, { on := 10, ground := Go.Ground.phase }, { on := 11, ground := Go.Ground.phase }, { on := 12, ground := Go.Ground.phase }, { on := 13, ground := Go.Ground.phase }, { on := 14, ground := Go.Ground.phase }, { on := 15, ground := Go.Ground.phase }], guard := none }) rfl (fun KK hK => ?_) AllReadyH.nil
    go_simp
    refine hK.out _ _ (ALL1.out _ (HeldL.skip (hH0.2.2.2.2.2.2.2) _)) (fun hHeld2 => ?_)
    clear hK hHeld2
    try simp only [Act.put, List.setIfInBounds_toArray, List.set_cons_zero, List.set_cons_succ]
    refine wpAnyH_done (by kernel_rfl) ?_ _
    clear hHeld hH0 ALL1 HS1
    go_wp2
    exact bodyPost_ret (v := .agg #[.int .i64 1, .int .i64 ((j1 : Int) + 1), .int .i64 ((j1 : Int) + 1 + j2), .bool false, .string ⟨#[]⟩, .int .i64 0, .int .i64 M, .int .i64 j4]) (by simp [results, Tryd.results12, go_sem]) rfl ⟨rfl, (below_alloc3 w _ _ _).drew⟩
  ·
    go_simp
    refine hK.out _ _ (ALL1.out _ (HeldL.skip (hH0.2.2.2.2.2.2.2) _)) (fun hHeld2 => ?_)
    clear hK hHeld
    have hHeld := hHeld2
    clear hHeld2
    try simp only [Act.put, List.setIfInBounds_toArray, List.set_cons_zero, List.set_cons_succ]
    refine wpAnyH_ready (rs := [10]) (by kernel_rfl) (by simp) ?_
    refine AllReadyH.cons (o := { dst := some 14, op := Go.Op.call { callee := Go.Callee.value (Go.Operand.func 39), args := #[Go.Operand.tmp 13], argTypes := #[3] }, type := 32, pos := "law.go:30", after := #[{ on := 9, ground := Go.Ground.data }], guard := none }) rfl (fun KK hK => ?_) AllReadyH.nil
    go_simp
    with_reducible refine (HM.out _).mono ?_
    rintro x wz ⟨rfl, rfl⟩
    go_wp2_with fail
    refine hK.out _ _ hHeld (fun _ => ?_)
    clear hK
    try simp only [Act.put, List.setIfInBounds_toArray, List.set_cons_zero, List.set_cons_succ]
    refine wpAnyH_take (i := 14) (oi := { dst := some 18, op := Go.Op.build 34 #[(0, Go.Operand.tmp 8), (1, Go.Operand.tmp 11), (4, Go.Operand.tmp 14), (5, Go.Operand.tmp 17)], type := 34, pos := "law.go:30", after := #[{ on := 4, ground := Go.Ground.data }, { on := 7, ground := Go.Ground.data }, { on := 10, ground := Go.Ground.data }, { on := 13, ground := Go.Ground.data }], guard := none }) (v := ?_) rfl (by kernel_rfl) (by kernel_rfl) (by kernel_rfl) (fun _ _ _ h => h) (Or.inl ⟨by rfl, ?_⟩) hHeld ?_
    case refine_2 => (intro w hSw; (try dsimp only at hSw); go_simp <;> with_reducible rfl)
    try simp only [Act.put, List.setIfInBounds_toArray, List.set_cons_zero, List.set_cons_succ]
    refine wpAnyH_ready (rs := [16]) (by kernel_rfl) (by simp) ?_
    refine AllReadyH.cons (o := { dst := none, op := Go.Op.store 34 (Go.Operand.tmp 3) (Go.Operand.tmp 18), type := 0, pos := "law.go:30", after := #[{ on := 15, ground := Go.Ground.data }, { on := 14, ground := Go.Ground.data }, { on := 10, ground := Go.Ground.chain }, { on := 0, ground := Go.Ground.phase }, { on := 1, ground := Go.Ground.phase }, { on := 2, ground := Go.Ground.phase }, { on := 3, ground := Go.Ground.phase }, { on := 4, ground := Go.Ground.phase }, { on := 5, ground := Go.Ground.phase }, { on := 6, ground := Go.Ground.phase }, { on := 7, ground := Go.Ground.phase }, { on := 8, ground := Go.Ground.phase }, { on := 9, ground := Go.Ground.phase }, { on := 10, ground := Go.Ground.phase }, { on := 11, ground := Go.Ground.phase }, { on := 12, ground := Go.Ground.phase }, { on := 13, ground := Go.Ground.phase }, { on := 14, ground := Go.Ground.phase }, { on := 15, ground := Go.Ground.phase }], guard := none }) rfl (fun KK hK => ?_) AllReadyH.nil
    go_simp
    refine hK.out _ _ (ALL1.out _ (HeldL.skip (hH0.2.2.2.2.2.2.2) _)) (fun hHeld2 => ?_)
    clear hK hHeld2
    try simp only [Act.put, List.setIfInBounds_toArray, List.set_cons_zero, List.set_cons_succ]
    refine wpAnyH_done (by kernel_rfl) ?_ _
    clear hHeld hH0 ALL1 HS1
    go_wp2
    exact bodyPost_ret (v := .agg #[.int .i64 1, .int .i64 ((j1 : Int) + 1), .int .i64 ((j1 : Int) + 1 + j2), .bool false, .string ⟨#[]⟩, .int .i64 0, .int .i64 M, .int .i64 j4]) (by simp [results, Tryd.results12, go_sem]) rfl ⟨rfl, (below_alloc3 w _ _ _).drew⟩

set_option maxRecDepth 100000 in
set_option maxHeartbeats 6400000 in
theorem prec_2 (k0 k1 k2 k3 k4 k5 k6 : Int) (w : World) (hk : IntKind.i64.wrap ((IntKind.u64.wrap k0).tmod 3) = 2) (j1 j2 j4 : Nat) (hj1 : bits .and .i64 k1 7 = (j1 : Int)) (hj2 : bits .and .i64 k2 7 = (j2 : Int)) (hj4 : bits .and .i64 k4 7 = (j4 : Int)) (l1 : j1 ≤ 7) (l2 : j2 ≤ 7) (l4 : j4 ≤ 7) (M : Int) (hM : ∀ w : World, Calls Tryd.prog 39 #[.int .i64 k3] w fun x w' => x = .returned (.int .i64 M) ∧ w = w') (htab : Tab w) (j5 : Nat) (hj5 : bits .and .i64 k5 65535 = (j5 : Int)) (l5 : j5 ≤ 65535) (t1 : -3 ≤ k6.tmod 4) (t2 : k6.tmod 4 ≤ 3) (g : Tri) (hg : made false (dig (j5 + 1)) (k6.tmod 4 - 3) = g) :
    Calls Tryd.prog 12 #[.agg #[.int .i64 k0, .int .i64 k1, .int .i64 k2, .int .i64 k3, .int .i64 k4, .int .i64 k5, .int .i64 k6]] w fun z w' => z = .returned (PV ⟨2, j1, j1 + j2, g, M, j4⟩) ∧ Below w.heap.size w w' := by
  have HM := Lib.hid hM
  have HT := Lib.hid htab
  have HG := Lib.hid hg
  clear hM htab hg
  have dl : (dig (j5 + 1)).length ≤ 1000000 := by have := (dig_length_le (j5 + 1) 6).2 (Nat.lt_of_le_of_lt (show j5 + 1 ≤ 65536 by omega) (by decide)); omega
  have hw5 : IntKind.i64.wrap (1 + (j5 : Int)) = ((j5 + 1 : Nat) : Int) := by rw [IntKind.wrap_i64]; omega
  have hw6 : IntKind.i64.wrap (k6.tmod 4 - 3) = k6.tmod 4 - 3 := by rw [IntKind.wrap_i64]; omega
  have HW5 := Lib.hid hw5
  go_enter Tryd.func12, Tryd.ntmps12
  go_wp2_with fail
  have ALL1 : Hid (∀ w' : World, HeldL w [(w.heap.size + 1, #[.int .i64 0, .int .i64 0, .int .i64 0, .bool false, .string ⟨#[]⟩, .int .i64 0, .int .i64 0, .int .i64 0]), (w.heap.size, #[.int .i64 k0, .int .i64 k1, .int .i64 k2, .int .i64 k3, .int .i64 k4, .int .i64 k5, .int .i64 k6])] w' → w'.cell? ⟨w.heap.size, 0, none⟩ = some (.int .i64 k0) ∧ w'.cell? ⟨w.heap.size, 1, none⟩ = some (.int .i64 k1) ∧ w'.cell? ⟨w.heap.size, 2, none⟩ = some (.int .i64 k2) ∧ w'.cell? ⟨w.heap.size, 3, none⟩ = some (.int .i64 k3) ∧ w'.cell? ⟨w.heap.size, 4, none⟩ = some (.int .i64 k4) ∧ w'.cell? ⟨w.heap.size, 5, none⟩ = some (.int .i64 k5) ∧ w'.cell? ⟨w.heap.size, 6, none⟩ = some (.int .i64 k6) ∧ HeldL w [(w.heap.size + 1, #[.int .i64 0, .int .i64 0, .int .i64 0, .bool false, .string ⟨#[]⟩, .int .i64 0, .int .i64 0, .int .i64 0]), (w.heap.size, #[.int .i64 k0, .int .i64 k1, .int .i64 k2, .int .i64 k3, .int .i64 k4, .int .i64 k5, .int .i64 k6])] w') := Lib.hid (fun w' h => ⟨(h.f (List.Mem.tail _ (List.Mem.head _))).cell 0, (h.f (List.Mem.tail _ (List.Mem.head _))).cell 1, (h.f (List.Mem.tail _ (List.Mem.head _))).cell 2, (h.f (List.Mem.tail _ (List.Mem.head _))).cell 3, (h.f (List.Mem.tail _ (List.Mem.head _))).cell 4, (h.f (List.Mem.tail _ (List.Mem.head _))).cell 5, (h.f (List.Mem.tail _ (List.Mem.head _))).cell 6, h⟩)
  have HS1 : Hid (HeldL w [(w.heap.size + 1, #[.int .i64 0, .int .i64 0, .int .i64 0, .bool false, .string ⟨#[]⟩, .int .i64 0, .int .i64 0, .int .i64 0]), (w.heap.size, #[.int .i64 k0, .int .i64 k1, .int .i64 k2, .int .i64 k3, .int .i64 k4, .int .i64 k5, .int .i64 k6])] _) := Lib.hid (HeldL.alloc (HeldL.alloc (HeldL.refl w) (w.heap.size) #[.int .i64 k0, .int .i64 k1, .int .i64 k2, .int .i64 k3, .int .i64 k4, .int .i64 k5, .int .i64 k6] 26 (by simp)) (w.heap.size + 1) #[.int .i64 0, .int .i64 0, .int .i64 0, .bool false, .string ⟨#[]⟩, .int .i64 0, .int .i64 0, .int .i64 0] 34 (by simp))
  refine wp_region_held_drew (S := fun w' => w'.cell? ⟨w.heap.size, 0, none⟩ = some (.int .i64 k0) ∧ w'.cell? ⟨w.heap.size, 1, none⟩ = some (.int .i64 k1) ∧ w'.cell? ⟨w.heap.size, 2, none⟩ = some (.int .i64 k2) ∧ w'.cell? ⟨w.heap.size, 3, none⟩ = some (.int .i64 k3) ∧ w'.cell? ⟨w.heap.size, 4, none⟩ = some (.int .i64 k4) ∧ w'.cell? ⟨w.heap.size, 5, none⟩ = some (.int .i64 k5) ∧ w'.cell? ⟨w.heap.size, 6, none⟩ = some (.int .i64 k6) ∧ HeldL w [(w.heap.size + 1, #[.int .i64 0, .int .i64 0, .int .i64 0, .bool false, .string ⟨#[]⟩, .int .i64 0, .int .i64 0, .int .i64 0]), (w.heap.size, #[.int .i64 k0, .int .i64 k1, .int .i64 k2, .int .i64 k3, .int .i64 k4, .int .i64 k5, .int .i64 k6])] w') (by kernel_rfl) (ALL1.out _ (HeldL.drew HS1.out)) (fun hHeld => ?_)
  refine wpAnyH_take (i := 0) (oi := { dst := some 4, op := Go.Op.fieldAddr 26 (Go.Operand.tmp 1) 0, type := 0, pos := "law.go:30", after := #[], guard := none }) (v := ?_) rfl (by kernel_rfl) (by kernel_rfl) (by kernel_rfl) (fun _ _ _ h => h) (Or.inl ⟨by rfl, ?_⟩) hHeld ?_
  case refine_2 => (intro w hSw; (try dsimp only at hSw); go_simp <;> with_reducible rfl)
  try simp only [Act.put, List.setIfInBounds_toArray, List.set_cons_zero, List.set_cons_succ]
  refine wpAnyH_take (i := 1) (oi := { dst := some 5, op := Go.Op.load 3 (Go.Operand.tmp 4), type := 3, pos := "law.go:30", after := #[{ on := 0, ground := Go.Ground.data }], guard := none }) (v := ?_) rfl (by kernel_rfl) (by kernel_rfl) (by kernel_rfl) (fun _ _ _ h => h) (Or.inl ⟨by rfl, ?_⟩) hHeld ?_
  case refine_2 => (intro w hSw; (try dsimp only at hSw); go_simp <;> with_reducible rfl)
  try simp only [Act.put, List.setIfInBounds_toArray, List.set_cons_zero, List.set_cons_succ]
  refine wpAnyH_take (i := 2) (oi := { dst := some 6, op := Go.Op.convert 3 63 (Go.Operand.tmp 5), type := 63, pos := "law.go:30", after := #[{ on := 1, ground := Go.Ground.data }], guard := none }) (v := ?_) rfl (by kernel_rfl) (by kernel_rfl) (by kernel_rfl) (fun _ _ _ h => h) (Or.inl ⟨by rfl, ?_⟩) hHeld ?_
  case refine_2 => (intro w hSw; (try dsimp only at hSw); go_simp <;> with_reducible rfl)
  try simp only [Act.put, List.setIfInBounds_toArray, List.set_cons_zero, List.set_cons_succ]
  refine wpAnyH_take (i := 3) (oi := { dst := some 7, op := Go.Op.binOp Go.BinOp.rem 63 (Go.Operand.tmp 6) (Go.Operand.const (Go.Value.int Go.IntKind.u64 3)) 63, type := 63, pos := "law.go:30", after := #[{ on := 2, ground := Go.Ground.data }], guard := none }) (v := ?_) rfl (by kernel_rfl) (by kernel_rfl) (by kernel_rfl) (fun _ _ _ h => h) (Or.inl ⟨by rfl, ?_⟩) hHeld ?_
  case refine_2 => (intro w hSw; (try dsimp only at hSw); go_simp <;> with_reducible rfl)
  try simp only [Act.put, List.setIfInBounds_toArray, List.set_cons_zero, List.set_cons_succ]
  refine wpAnyH_take (i := 4) (oi := { dst := some 8, op := Go.Op.convert 63 3 (Go.Operand.tmp 7), type := 3, pos := "law.go:30", after := #[{ on := 3, ground := Go.Ground.data }], guard := none }) (v := ?_) rfl (by kernel_rfl) (by kernel_rfl) (by kernel_rfl) (fun _ _ _ h => h) (Or.inl ⟨by rfl, ?_⟩) hHeld ?_
  case refine_2 => (intro w hSw; (try dsimp only at hSw); go_simp <;> with_reducible rfl)
  try simp only [Act.put, List.setIfInBounds_toArray, List.set_cons_zero, List.set_cons_succ]
  refine wpAnyH_take (i := 5) (oi := { dst := some 9, op := Go.Op.fieldAddr 26 (Go.Operand.tmp 1) 1, type := 0, pos := "law.go:30", after := #[], guard := none }) (v := ?_) rfl (by kernel_rfl) (by kernel_rfl) (by kernel_rfl) (fun _ _ _ h => h) (Or.inl ⟨by rfl, ?_⟩) hHeld ?_
  case refine_2 => (intro w hSw; (try dsimp only at hSw); go_simp <;> with_reducible rfl)
  try simp only [Act.put, List.setIfInBounds_toArray, List.set_cons_zero, List.set_cons_succ]
  refine wpAnyH_take (i := 6) (oi := { dst := some 10, op := Go.Op.load 3 (Go.Operand.tmp 9), type := 3, pos := "law.go:30", after := #[{ on := 5, ground := Go.Ground.data }], guard := none }) (v := ?_) rfl (by kernel_rfl) (by kernel_rfl) (by kernel_rfl) (fun _ _ _ h => h) (Or.inl ⟨by rfl, ?_⟩) hHeld ?_
  case refine_2 => (intro w hSw; (try dsimp only at hSw); go_simp <;> with_reducible rfl)
  try simp only [Act.put, List.setIfInBounds_toArray, List.set_cons_zero, List.set_cons_succ]
  refine wpAnyH_take (i := 7) (oi := { dst := some 11, op := Go.Op.binOp Go.BinOp.and 3 (Go.Operand.tmp 10) (Go.Operand.const (Go.Value.int Go.IntKind.i64 7)) 3, type := 3, pos := "law.go:30", after := #[{ on := 6, ground := Go.Ground.data }], guard := none }) (v := ?_) rfl (by kernel_rfl) (by kernel_rfl) (by kernel_rfl) (fun _ _ _ h => h) (Or.inl ⟨by rfl, ?_⟩) hHeld ?_
  case refine_2 => (intro w hSw; (try dsimp only at hSw); go_simp <;> with_reducible rfl)
  try simp only [Act.put, List.setIfInBounds_toArray, List.set_cons_zero, List.set_cons_succ]
  refine wpAnyH_take (i := 8) (oi := { dst := some 12, op := Go.Op.fieldAddr 26 (Go.Operand.tmp 1) 3, type := 0, pos := "law.go:30", after := #[], guard := none }) (v := ?_) rfl (by kernel_rfl) (by kernel_rfl) (by kernel_rfl) (fun _ _ _ h => h) (Or.inl ⟨by rfl, ?_⟩) hHeld ?_
  case refine_2 => (intro w hSw; (try dsimp only at hSw); go_simp <;> with_reducible rfl)
  try simp only [Act.put, List.setIfInBounds_toArray, List.set_cons_zero, List.set_cons_succ]
  refine wpAnyH_take (i := 9) (oi := { dst := some 13, op := Go.Op.load 3 (Go.Operand.tmp 12), type := 3, pos := "law.go:30", after := #[{ on := 8, ground := Go.Ground.data }], guard := none }) (v := ?_) rfl (by kernel_rfl) (by kernel_rfl) (by kernel_rfl) (fun _ _ _ h => h) (Or.inl ⟨by rfl, ?_⟩) hHeld ?_
  case refine_2 => (intro w hSw; (try dsimp only at hSw); go_simp <;> with_reducible rfl)
  try simp only [Act.put, List.setIfInBounds_toArray, List.set_cons_zero, List.set_cons_succ]
  refine wpAnyH_take (i := 11) (oi := { dst := some 15, op := Go.Op.fieldAddr 26 (Go.Operand.tmp 1) 4, type := 0, pos := "law.go:30", after := #[], guard := none }) (v := ?_) rfl (by kernel_rfl) (by kernel_rfl) (by kernel_rfl) (fun _ _ _ h => h) (Or.inl ⟨by rfl, ?_⟩) hHeld ?_
  case refine_2 => (intro w hSw; (try dsimp only at hSw); go_simp <;> with_reducible rfl)
  try simp only [Act.put, List.setIfInBounds_toArray, List.set_cons_zero, List.set_cons_succ]
  refine wpAnyH_take (i := 12) (oi := { dst := some 16, op := Go.Op.load 3 (Go.Operand.tmp 15), type := 3, pos := "law.go:30", after := #[{ on := 11, ground := Go.Ground.data }], guard := none }) (v := ?_) rfl (by kernel_rfl) (by kernel_rfl) (by kernel_rfl) (fun _ _ _ h => h) (Or.inl ⟨by rfl, ?_⟩) hHeld ?_
  case refine_2 => (intro w hSw; (try dsimp only at hSw); go_simp <;> with_reducible rfl)
  try simp only [Act.put, List.setIfInBounds_toArray, List.set_cons_zero, List.set_cons_succ]
  refine wpAnyH_take (i := 13) (oi := { dst := some 17, op := Go.Op.binOp Go.BinOp.and 3 (Go.Operand.tmp 16) (Go.Operand.const (Go.Value.int Go.IntKind.i64 7)) 3, type := 3, pos := "law.go:30", after := #[{ on := 12, ground := Go.Ground.data }], guard := none }) (v := ?_) rfl (by kernel_rfl) (by kernel_rfl) (by kernel_rfl) (fun _ _ _ h => h) (Or.inl ⟨by rfl, ?_⟩) hHeld ?_
  case refine_2 => (intro w hSw; (try dsimp only at hSw); go_simp <;> with_reducible rfl)
  try simp only [Act.put, List.setIfInBounds_toArray, List.set_cons_zero, List.set_cons_succ]
  have hH0 := hHeld
  refine wpAnyH_ready (rs := [10, 15]) (by kernel_rfl) (by simp) ?_
  refine AllReadyH.cons (o := { dst := some 14, op := Go.Op.call { callee := Go.Callee.value (Go.Operand.func 39), args := #[Go.Operand.tmp 13], argTypes := #[3] }, type := 32, pos := "law.go:30", after := #[{ on := 9, ground := Go.Ground.data }], guard := none }) rfl (fun KK hK => ?_) (AllReadyH.cons (o := { dst := some 3, op := Go.Op.alloc 34, type := 0, pos := "law.go:30", after := #[], guard := none }) rfl (fun KK hK => ?_) AllReadyH.nil)
  ·
    go_simp
    with_reducible refine (HM.out _).mono ?_
    rintro x wz ⟨rfl, rfl⟩
    go_wp2_with fail
    refine hK.out _ _ hHeld (fun _ => ?_)
    clear hK
    try simp only [Act.put, List.setIfInBounds_toArray, List.set_cons_zero, List.set_cons_succ]
    refine wpAnyH_take (i := 14) (oi := { dst := some 18, op := Go.Op.build 34 #[(0, Go.Operand.tmp 8), (1, Go.Operand.tmp 11), (4, Go.Operand.tmp 14), (5, Go.Operand.tmp 17)], type := 34, pos := "law.go:30", after := #[{ on := 4, ground := Go.Ground.data }, { on := 7, ground := Go.Ground.data }, { on := 10, ground := Go.Ground.data }, { on := 13, ground := Go.Ground.data }], guard := none }) (v := ?_) rfl (by kernel_rfl) (by kernel_rfl) (by kernel_rfl) (fun _ _ _ h => h) (Or.inl ⟨by rfl, ?_⟩) hHeld ?_
    case refine_2 => (intro w hSw; (try dsimp only at hSw); go_simp <;> with_reducible rfl)
    try simp only [Act.put, List.setIfInBounds_toArray, List.set_cons_zero, List.set_cons_succ]
    refine wpAnyH_ready (rs := [15]) (by kernel_rfl) (by simp) ?_
    refine AllReadyH.cons (o := { dst := some 3, op := Go.Op.alloc 34, type := 0, pos := "law.go:30", after := #[], guard := none }) rfl (fun KK hK => ?_) AllReadyH.nil
    go_simp
    refine hK.out _ _ (ALL1.out _ (HeldL.skip (hH0.2.2.2.2.2.2.2) _)) (fun hHeld2 => ?_)
    clear hK hHeld
    have hHeld := hHeld2
    clear hHeld2
    try simp only [Act.put, List.setIfInBounds_toArray, List.set_cons_zero, List.set_cons_succ]
    refine wpAnyH_ready (rs := [16]) (by kernel_rfl) (by simp) ?_
    refine AllReadyH.cons (o := { dst := none, op := Go.Op.store 34 (Go.Operand.tmp 3) (Go.Operand.tmp 18), type := 0, pos := "law.go:30", after := #[{ on := 15, ground := Go.Ground.data }, { on := 14, ground := Go.Ground.data }, { on := 10, ground := Go.Ground.chain }, { on := 0, ground := Go.Ground.phase }, { on := 1, ground := Go.Ground.phase }, { on := 2, ground := Go.Ground.phase }, { on := 3, ground := Go.Ground.phase }, { on := 4, ground := Go.Ground.phase }, { on := 5, ground := Go.Ground.phase }, { on := 6, ground := Go.Ground.phase }, { on := 7, ground := Go.Ground.phase }, { on := 8, ground := Go.Ground.phase }, { on := 9, ground := Go.Ground.phase }, { on := 10, ground := Go.Ground.phase }, { on := 11, ground := Go.Ground.phase }, { on := 12, ground := Go.Ground.phase }, { on := 13, ground := Go.Ground.phase }, { on := 14, ground := Go.Ground.phase }, { on := 15, ground := Go.Ground.phase }], guard := none }) rfl (fun KK hK => ?_) AllReadyH.nil
    go_simp
    refine hK.out _ _ (ALL1.out _ (HeldL.skip (hH0.2.2.2.2.2.2.2) _)) (fun hHeld2 => ?_)
    clear hK hHeld2
    try simp only [Act.put, List.setIfInBounds_toArray, List.set_cons_zero, List.set_cons_succ]
    refine wpAnyH_done (by kernel_rfl) ?_ _
    clear hHeld hH0 ALL1 HS1
    go_wp2_with fail
    have H2 : Hid (HeldL w [(w.heap.size + 1 + 1, #[.int .i64 2, .int .i64 j1, .int .i64 ((j1 : Int) + j2), .bool false, .string ⟨#[]⟩, .int .i64 0, .int .i64 M, .int .i64 j4]), (w.heap.size + 1, #[.int .i64 0, .int .i64 0, .int .i64 0, .bool false, .string ⟨#[]⟩, .int .i64 0, .int .i64 0, .int .i64 0]), (w.heap.size, #[.int .i64 k0, .int .i64 k1, .int .i64 k2, .int .i64 k3, .int .i64 k4, .int .i64 k5, .int .i64 k6])] ((((w.alloc (.cells #[.int .i64 k0, .int .i64 k1, .int .i64 k2, .int .i64 k3, .int .i64 k4, .int .i64 k5, .int .i64 k6] 26)).alloc (.cells #[.int .i64 0, .int .i64 0, .int .i64 0, .bool false, .string ⟨#[]⟩, .int .i64 0, .int .i64 0, .int .i64 0] 34)).alloc (.cells #[.int .i64 2, .int .i64 j1, .int .i64 ((j1 : Int) + j2), .bool false, .string ⟨#[]⟩, .int .i64 0, .int .i64 M, .int .i64 j4] 34)).drew)) := Lib.hid (HeldL.drew (HeldL.alloc (HeldL.alloc (HeldL.alloc (HeldL.refl w) _ _ _ rfl) _ _ _ (by simp)) _ _ _ (by simp)))
    generalize (((w.alloc (.cells #[.int .i64 k0, .int .i64 k1, .int .i64 k2, .int .i64 k3, .int .i64 k4, .int .i64 k5, .int .i64 k6] 26)).alloc (.cells #[.int .i64 0, .int .i64 0, .int .i64 0, .bool false, .string ⟨#[]⟩, .int .i64 0, .int .i64 0, .int .i64 0] 34)).alloc (.cells #[.int .i64 2, .int .i64 j1, .int .i64 ((j1 : Int) + j2), .bool false, .string ⟨#[]⟩, .int .i64 0, .int .i64 M, .int .i64 j4] 34)).drew = w2 at *
    have q0 : w2.cell? ⟨w.heap.size, 0, none⟩ = some (.int .i64 k0) := (H2.out.f (List.Mem.tail _ (List.Mem.tail _ (List.Mem.head _)))).cell 0
    have q1 : w2.cell? ⟨w.heap.size, 1, none⟩ = some (.int .i64 k1) := (H2.out.f (List.Mem.tail _ (List.Mem.tail _ (List.Mem.head _)))).cell 1
    have q2 : w2.cell? ⟨w.heap.size, 2, none⟩ = some (.int .i64 k2) := (H2.out.f (List.Mem.tail _ (List.Mem.tail _ (List.Mem.head _)))).cell 2
    have q3 : w2.cell? ⟨w.heap.size, 3, none⟩ = some (.int .i64 k3) := (H2.out.f (List.Mem.tail _ (List.Mem.tail _ (List.Mem.head _)))).cell 3
    have q4 : w2.cell? ⟨w.heap.size, 4, none⟩ = some (.int .i64 k4) := (H2.out.f (List.Mem.tail _ (List.Mem.tail _ (List.Mem.head _)))).cell 4
    have q5 : w2.cell? ⟨w.heap.size, 5, none⟩ = some (.int .i64 k5) := (H2.out.f (List.Mem.tail _ (List.Mem.tail _ (List.Mem.head _)))).cell 5
    have q6 : w2.cell? ⟨w.heap.size, 6, none⟩ = some (.int .i64 k6) := (H2.out.f (List.Mem.tail _ (List.Mem.tail _ (List.Mem.head _)))).cell 6
    have ql : w.heap.size < w2.heap.size := (H2.out.f (List.Mem.tail _ (List.Mem.tail _ (List.Mem.head _)))).lt
    have p0 : w2.cell? ⟨w.heap.size + 1 + 1, 0, none⟩ = some (.int .i64 2) := (H2.out.f (List.Mem.head _)).cell 0
    have pz0 : w2.frozen? ⟨w.heap.size + 1 + 1, 0, none⟩ = false := (H2.out.f (List.Mem.head _)).frozen 0
    have p1 : w2.cell? ⟨w.heap.size + 1 + 1, 1, none⟩ = some (.int .i64 j1) := (H2.out.f (List.Mem.head _)).cell 1
    have pz1 : w2.frozen? ⟨w.heap.size + 1 + 1, 1, none⟩ = false := (H2.out.f (List.Mem.head _)).frozen 1
    have p2 : w2.cell? ⟨w.heap.size + 1 + 1, 2, none⟩ = some (.int .i64 ((j1 : Int) + j2)) := (H2.out.f (List.Mem.head _)).cell 2
    have pz2 : w2.frozen? ⟨w.heap.size + 1 + 1, 2, none⟩ = false := (H2.out.f (List.Mem.head _)).frozen 2
    have p3 : w2.cell? ⟨w.heap.size + 1 + 1, 3, none⟩ = some (.bool false) := (H2.out.f (List.Mem.head _)).cell 3
    have pz3 : w2.frozen? ⟨w.heap.size + 1 + 1, 3, none⟩ = false := (H2.out.f (List.Mem.head _)).frozen 3
    have p4 : w2.cell? ⟨w.heap.size + 1 + 1, 4, none⟩ = some (.string ⟨#[]⟩) := (H2.out.f (List.Mem.head _)).cell 4
    have pz4 : w2.frozen? ⟨w.heap.size + 1 + 1, 4, none⟩ = false := (H2.out.f (List.Mem.head _)).frozen 4
    have p5 : w2.cell? ⟨w.heap.size + 1 + 1, 5, none⟩ = some (.int .i64 0) := (H2.out.f (List.Mem.head _)).cell 5
    have pz5 : w2.frozen? ⟨w.heap.size + 1 + 1, 5, none⟩ = false := (H2.out.f (List.Mem.head _)).frozen 5
    have p6 : w2.cell? ⟨w.heap.size + 1 + 1, 6, none⟩ = some (.int .i64 M) := (H2.out.f (List.Mem.head _)).cell 6
    have pz6 : w2.frozen? ⟨w.heap.size + 1 + 1, 6, none⟩ = false := (H2.out.f (List.Mem.head _)).frozen 6
    have p7 : w2.cell? ⟨w.heap.size + 1 + 1, 7, none⟩ = some (.int .i64 j4) := (H2.out.f (List.Mem.head _)).cell 7
    have pz7 : w2.frozen? ⟨w.heap.size + 1 + 1, 7, none⟩ = false := (H2.out.f (List.Mem.head _)).frozen 7
    have pl : w.heap.size + 1 + 1 < w2.heap.size := (H2.out.f (List.Mem.head _)).lt
    have r0 : w2.cell? ⟨w.heap.size + 1, 0, none⟩ = some (.int .i64 0) := (H2.out.f (List.Mem.tail _ (List.Mem.head _))).cell 0
    have rz0 : w2.frozen? ⟨w.heap.size + 1, 0, none⟩ = false := (H2.out.f (List.Mem.tail _ (List.Mem.head _))).frozen 0
    have r1 : w2.cell? ⟨w.heap.size + 1, 1, none⟩ = some (.int .i64 0) := (H2.out.f (List.Mem.tail _ (List.Mem.head _))).cell 1
    have rz1 : w2.frozen? ⟨w.heap.size + 1, 1, none⟩ = false := (H2.out.f (List.Mem.tail _ (List.Mem.head _))).frozen 1
    have r2 : w2.cell? ⟨w.heap.size + 1, 2, none⟩ = some (.int .i64 0) := (H2.out.f (List.Mem.tail _ (List.Mem.head _))).cell 2
    have rz2 : w2.frozen? ⟨w.heap.size + 1, 2, none⟩ = false := (H2.out.f (List.Mem.tail _ (List.Mem.head _))).frozen 2
    have r3 : w2.cell? ⟨w.heap.size + 1, 3, none⟩ = some (.bool false) := (H2.out.f (List.Mem.tail _ (List.Mem.head _))).cell 3
    have rz3 : w2.frozen? ⟨w.heap.size + 1, 3, none⟩ = false := (H2.out.f (List.Mem.tail _ (List.Mem.head _))).frozen 3
    have r4 : w2.cell? ⟨w.heap.size + 1, 4, none⟩ = some (.string ⟨#[]⟩) := (H2.out.f (List.Mem.tail _ (List.Mem.head _))).cell 4
    have rz4 : w2.frozen? ⟨w.heap.size + 1, 4, none⟩ = false := (H2.out.f (List.Mem.tail _ (List.Mem.head _))).frozen 4
    have r5 : w2.cell? ⟨w.heap.size + 1, 5, none⟩ = some (.int .i64 0) := (H2.out.f (List.Mem.tail _ (List.Mem.head _))).cell 5
    have rz5 : w2.frozen? ⟨w.heap.size + 1, 5, none⟩ = false := (H2.out.f (List.Mem.tail _ (List.Mem.head _))).frozen 5
    have r6 : w2.cell? ⟨w.heap.size + 1, 6, none⟩ = some (.int .i64 0) := (H2.out.f (List.Mem.tail _ (List.Mem.head _))).cell 6
    have rz6 : w2.frozen? ⟨w.heap.size + 1, 6, none⟩ = false := (H2.out.f (List.Mem.tail _ (List.Mem.head _))).frozen 6
    have r7 : w2.cell? ⟨w.heap.size + 1, 7, none⟩ = some (.int .i64 0) := (H2.out.f (List.Mem.tail _ (List.Mem.head _))).cell 7
    have rz7 : w2.frozen? ⟨w.heap.size + 1, 7, none⟩ = false := (H2.out.f (List.Mem.tail _ (List.Mem.head _))).frozen 7
    have rl : w.heap.size + 1 < w2.heap.size := (H2.out.f (List.Mem.tail _ (List.Mem.head _))).lt
    have HS1 : Hid (HeldL w [(w.heap.size + 1 + 1, #[.int .i64 2, .int .i64 j1, .int .i64 ((j1 : Int) + j2), .bool false, .string ⟨#[]⟩, .int .i64 0, .int .i64 M, .int .i64 j4]), (w.heap.size + 1, #[.int .i64 0, .int .i64 0, .int .i64 0, .bool false, .string ⟨#[]⟩, .int .i64 0, .int .i64 0, .int .i64 0]), (w.heap.size, #[.int .i64 k0, .int .i64 k1, .int .i64 k2, .int .i64 k3, .int .i64 k4, .int .i64 k5, .int .i64 k6])] _) := Lib.hid H2.out
    go_region_with (first | (go_at_call 35; (rw [show ((j5 : Int) + 1) = ((j5 + 1 : Nat) : Int) from rfl]); (with_reducible refine (ofN (j5 + 1) _ (by omega) (HT.out.below ((HeldL.drew HS1.out)).bel)).mono ?_); rintro x wA ⟨rfl, hb⟩; have HKwA : Hid (HeldL w [(w.heap.size + 1 + 1, #[.int .i64 2, .int .i64 j1, .int .i64 ((j1 : Int) + j2), .bool false, .string ⟨#[]⟩, .int .i64 0, .int .i64 M, .int .i64 j4]), (w.heap.size + 1, #[.int .i64 0, .int .i64 0, .int .i64 0, .bool false, .string ⟨#[]⟩, .int .i64 0, .int .i64 0, .int .i64 0]), (w.heap.size, #[.int .i64 k0, .int .i64 k1, .int .i64 k2, .int .i64 k3, .int .i64 k4, .int .i64 k5, .int .i64 k6])] wA) := Lib.hid (HeldL.keep (HeldL.drew HS1.out) hb); clear hb; have qwA0 : wA.cell? ⟨w.heap.size, 0, none⟩ = some (.int .i64 k0) := (HKwA.out.f (List.Mem.tail _ (List.Mem.tail _ (List.Mem.head _)))).cell 0; have qwA1 : wA.cell? ⟨w.heap.size, 1, none⟩ = some (.int .i64 k1) := (HKwA.out.f (List.Mem.tail _ (List.Mem.tail _ (List.Mem.head _)))).cell 1; have qwA2 : wA.cell? ⟨w.heap.size, 2, none⟩ = some (.int .i64 k2) := (HKwA.out.f (List.Mem.tail _ (List.Mem.tail _ (List.Mem.head _)))).cell 2; have qwA3 : wA.cell? ⟨w.heap.size, 3, none⟩ = some (.int .i64 k3) := (HKwA.out.f (List.Mem.tail _ (List.Mem.tail _ (List.Mem.head _)))).cell 3; have qwA4 : wA.cell? ⟨w.heap.size, 4, none⟩ = some (.int .i64 k4) := (HKwA.out.f (List.Mem.tail _ (List.Mem.tail _ (List.Mem.head _)))).cell 4; have qwA5 : wA.cell? ⟨w.heap.size, 5, none⟩ = some (.int .i64 k5) := (HKwA.out.f (List.Mem.tail _ (List.Mem.tail _ (List.Mem.head _)))).cell 5; have qwA6 : wA.cell? ⟨w.heap.size, 6, none⟩ = some (.int .i64 k6) := (HKwA.out.f (List.Mem.tail _ (List.Mem.tail _ (List.Mem.head _)))).cell 6; have qwAl : w.heap.size < wA.heap.size := (HKwA.out.f (List.Mem.tail _ (List.Mem.tail _ (List.Mem.head _)))).lt; have pwA0 : wA.cell? ⟨w.heap.size + 1 + 1, 0, none⟩ = some (.int .i64 2) := (HKwA.out.f (List.Mem.head _)).cell 0; have pzwA0 : wA.frozen? ⟨w.heap.size + 1 + 1, 0, none⟩ = false := (HKwA.out.f (List.Mem.head _)).frozen 0; have pwA1 : wA.cell? ⟨w.heap.size + 1 + 1, 1, none⟩ = some (.int .i64 j1) := (HKwA.out.f (List.Mem.head _)).cell 1; have pzwA1 : wA.frozen? ⟨w.heap.size + 1 + 1, 1, none⟩ = false := (HKwA.out.f (List.Mem.head _)).frozen 1; have pwA2 : wA.cell? ⟨w.heap.size + 1 + 1, 2, none⟩ = some (.int .i64 ((j1 : Int) + j2)) := (HKwA.out.f (List.Mem.head _)).cell 2; have pzwA2 : wA.frozen? ⟨w.heap.size + 1 + 1, 2, none⟩ = false := (HKwA.out.f (List.Mem.head _)).frozen 2; have pwA3 : wA.cell? ⟨w.heap.size + 1 + 1, 3, none⟩ = some (.bool false) := (HKwA.out.f (List.Mem.head _)).cell 3; have pzwA3 : wA.frozen? ⟨w.heap.size + 1 + 1, 3, none⟩ = false := (HKwA.out.f (List.Mem.head _)).frozen 3; have pwA4 : wA.cell? ⟨w.heap.size + 1 + 1, 4, none⟩ = some (.string ⟨#[]⟩) := (HKwA.out.f (List.Mem.head _)).cell 4; have pzwA4 : wA.frozen? ⟨w.heap.size + 1 + 1, 4, none⟩ = false := (HKwA.out.f (List.Mem.head _)).frozen 4; have pwA5 : wA.cell? ⟨w.heap.size + 1 + 1, 5, none⟩ = some (.int .i64 0) := (HKwA.out.f (List.Mem.head _)).cell 5; have pzwA5 : wA.frozen? ⟨w.heap.size + 1 + 1, 5, none⟩ = false := (HKwA.out.f (List.Mem.head _)).frozen 5; have pwA6 : wA.cell? ⟨w.heap.size + 1 + 1, 6, none⟩ = some (.int .i64 M) := (HKwA.out.f (List.Mem.head _)).cell 6; have pzwA6 : wA.frozen? ⟨w.heap.size + 1 + 1, 6, none⟩ = false := (HKwA.out.f (List.Mem.head _)).frozen 6; have pwA7 : wA.cell? ⟨w.heap.size + 1 + 1, 7, none⟩ = some (.int .i64 j4) := (HKwA.out.f (List.Mem.head _)).cell 7; have pzwA7 : wA.frozen? ⟨w.heap.size + 1 + 1, 7, none⟩ = false := (HKwA.out.f (List.Mem.head _)).frozen 7; have pwAl : w.heap.size + 1 + 1 < wA.heap.size := (HKwA.out.f (List.Mem.head _)).lt; have rwA0 : wA.cell? ⟨w.heap.size + 1, 0, none⟩ = some (.int .i64 0) := (HKwA.out.f (List.Mem.tail _ (List.Mem.head _))).cell 0; have rzwA0 : wA.frozen? ⟨w.heap.size + 1, 0, none⟩ = false := (HKwA.out.f (List.Mem.tail _ (List.Mem.head _))).frozen 0; have rwA1 : wA.cell? ⟨w.heap.size + 1, 1, none⟩ = some (.int .i64 0) := (HKwA.out.f (List.Mem.tail _ (List.Mem.head _))).cell 1; have rzwA1 : wA.frozen? ⟨w.heap.size + 1, 1, none⟩ = false := (HKwA.out.f (List.Mem.tail _ (List.Mem.head _))).frozen 1; have rwA2 : wA.cell? ⟨w.heap.size + 1, 2, none⟩ = some (.int .i64 0) := (HKwA.out.f (List.Mem.tail _ (List.Mem.head _))).cell 2; have rzwA2 : wA.frozen? ⟨w.heap.size + 1, 2, none⟩ = false := (HKwA.out.f (List.Mem.tail _ (List.Mem.head _))).frozen 2; have rwA3 : wA.cell? ⟨w.heap.size + 1, 3, none⟩ = some (.bool false) := (HKwA.out.f (List.Mem.tail _ (List.Mem.head _))).cell 3; have rzwA3 : wA.frozen? ⟨w.heap.size + 1, 3, none⟩ = false := (HKwA.out.f (List.Mem.tail _ (List.Mem.head _))).frozen 3; have rwA4 : wA.cell? ⟨w.heap.size + 1, 4, none⟩ = some (.string ⟨#[]⟩) := (HKwA.out.f (List.Mem.tail _ (List.Mem.head _))).cell 4; have rzwA4 : wA.frozen? ⟨w.heap.size + 1, 4, none⟩ = false := (HKwA.out.f (List.Mem.tail _ (List.Mem.head _))).frozen 4; have rwA5 : wA.cell? ⟨w.heap.size + 1, 5, none⟩ = some (.int .i64 0) := (HKwA.out.f (List.Mem.tail _ (List.Mem.head _))).cell 5; have rzwA5 : wA.frozen? ⟨w.heap.size + 1, 5, none⟩ = false := (HKwA.out.f (List.Mem.tail _ (List.Mem.head _))).frozen 5; have rwA6 : wA.cell? ⟨w.heap.size + 1, 6, none⟩ = some (.int .i64 0) := (HKwA.out.f (List.Mem.tail _ (List.Mem.head _))).cell 6; have rzwA6 : wA.frozen? ⟨w.heap.size + 1, 6, none⟩ = false := (HKwA.out.f (List.Mem.tail _ (List.Mem.head _))).frozen 6; have rwA7 : wA.cell? ⟨w.heap.size + 1, 7, none⟩ = some (.int .i64 0) := (HKwA.out.f (List.Mem.tail _ (List.Mem.head _))).cell 7; have rzwA7 : wA.frozen? ⟨w.heap.size + 1, 7, none⟩ = false := (HKwA.out.f (List.Mem.tail _ (List.Mem.head _))).frozen 7; have rwAl : w.heap.size + 1 < wA.heap.size := (HKwA.out.f (List.Mem.tail _ (List.Mem.head _))).lt) | (go_at_call 25; (with_reducible refine (made_as false ⟨(dig (j5 + 1)).toArray⟩ (k6.tmod 4 - 3) _ (by rw [arr_size]; exact dl) g (by rw [arr_list]; exact HG.out)).mono ?_); rintro x wB ⟨rfl, hb⟩; have HKwB : Hid (HeldL w [(w.heap.size + 1 + 1, #[.int .i64 2, .int .i64 j1, .int .i64 ((j1 : Int) + j2), .bool false, .string ⟨#[]⟩, .int .i64 0, .int .i64 M, .int .i64 j4]), (w.heap.size + 1, #[.int .i64 0, .int .i64 0, .int .i64 0, .bool false, .string ⟨#[]⟩, .int .i64 0, .int .i64 0, .int .i64 0]), (w.heap.size, #[.int .i64 k0, .int .i64 k1, .int .i64 k2, .int .i64 k3, .int .i64 k4, .int .i64 k5, .int .i64 k6])] wB) := Lib.hid (HeldL.keep HKwA.out hb); clear hb; have p0 : wB.cell? ⟨w.heap.size + 1 + 1, 0, none⟩ = some (.int .i64 2) := (HKwB.out.f (List.Mem.head _)).cell 0; have pz0 : wB.frozen? ⟨w.heap.size + 1 + 1, 0, none⟩ = false := (HKwB.out.f (List.Mem.head _)).frozen 0; have p1 : wB.cell? ⟨w.heap.size + 1 + 1, 1, none⟩ = some (.int .i64 j1) := (HKwB.out.f (List.Mem.head _)).cell 1; have pz1 : wB.frozen? ⟨w.heap.size + 1 + 1, 1, none⟩ = false := (HKwB.out.f (List.Mem.head _)).frozen 1; have p2 : wB.cell? ⟨w.heap.size + 1 + 1, 2, none⟩ = some (.int .i64 ((j1 : Int) + j2)) := (HKwB.out.f (List.Mem.head _)).cell 2; have pz2 : wB.frozen? ⟨w.heap.size + 1 + 1, 2, none⟩ = false := (HKwB.out.f (List.Mem.head _)).frozen 2; have p3 : wB.cell? ⟨w.heap.size + 1 + 1, 3, none⟩ = some (.bool false) := (HKwB.out.f (List.Mem.head _)).cell 3; have pz3 : wB.frozen? ⟨w.heap.size + 1 + 1, 3, none⟩ = false := (HKwB.out.f (List.Mem.head _)).frozen 3; have p4 : wB.cell? ⟨w.heap.size + 1 + 1, 4, none⟩ = some (.string ⟨#[]⟩) := (HKwB.out.f (List.Mem.head _)).cell 4; have pz4 : wB.frozen? ⟨w.heap.size + 1 + 1, 4, none⟩ = false := (HKwB.out.f (List.Mem.head _)).frozen 4; have p5 : wB.cell? ⟨w.heap.size + 1 + 1, 5, none⟩ = some (.int .i64 0) := (HKwB.out.f (List.Mem.head _)).cell 5; have pz5 : wB.frozen? ⟨w.heap.size + 1 + 1, 5, none⟩ = false := (HKwB.out.f (List.Mem.head _)).frozen 5; have p6 : wB.cell? ⟨w.heap.size + 1 + 1, 6, none⟩ = some (.int .i64 M) := (HKwB.out.f (List.Mem.head _)).cell 6; have pz6 : wB.frozen? ⟨w.heap.size + 1 + 1, 6, none⟩ = false := (HKwB.out.f (List.Mem.head _)).frozen 6; have p7 : wB.cell? ⟨w.heap.size + 1 + 1, 7, none⟩ = some (.int .i64 j4) := (HKwB.out.f (List.Mem.head _)).cell 7; have pz7 : wB.frozen? ⟨w.heap.size + 1 + 1, 7, none⟩ = false := (HKwB.out.f (List.Mem.head _)).frozen 7; have pl : w.heap.size + 1 + 1 < wB.heap.size := (HKwB.out.f (List.Mem.head _)).lt; have r0 : wB.cell? ⟨w.heap.size + 1, 0, none⟩ = some (.int .i64 0) := (HKwB.out.f (List.Mem.tail _ (List.Mem.head _))).cell 0; have rz0 : wB.frozen? ⟨w.heap.size + 1, 0, none⟩ = false := (HKwB.out.f (List.Mem.tail _ (List.Mem.head _))).frozen 0; have r1 : wB.cell? ⟨w.heap.size + 1, 1, none⟩ = some (.int .i64 0) := (HKwB.out.f (List.Mem.tail _ (List.Mem.head _))).cell 1; have rz1 : wB.frozen? ⟨w.heap.size + 1, 1, none⟩ = false := (HKwB.out.f (List.Mem.tail _ (List.Mem.head _))).frozen 1; have r2 : wB.cell? ⟨w.heap.size + 1, 2, none⟩ = some (.int .i64 0) := (HKwB.out.f (List.Mem.tail _ (List.Mem.head _))).cell 2; have rz2 : wB.frozen? ⟨w.heap.size + 1, 2, none⟩ = false := (HKwB.out.f (List.Mem.tail _ (List.Mem.head _))).frozen 2; have r3 : wB.cell? ⟨w.heap.size + 1, 3, none⟩ = some (.bool false) := (HKwB.out.f (List.Mem.tail _ (List.Mem.head _))).cell 3; have rz3 : wB.frozen? ⟨w.heap.size + 1, 3, none⟩ = false := (HKwB.out.f (List.Mem.tail _ (List.Mem.head _))).frozen 3; have r4 : wB.cell? ⟨w.heap.size + 1, 4, none⟩ = some (.string ⟨#[]⟩) := (HKwB.out.f (List.Mem.tail _ (List.Mem.head _))).cell 4; have rz4 : wB.frozen? ⟨w.heap.size + 1, 4, none⟩ = false := (HKwB.out.f (List.Mem.tail _ (List.Mem.head _))).frozen 4; have r5 : wB.cell? ⟨w.heap.size + 1, 5, none⟩ = some (.int .i64 0) := (HKwB.out.f (List.Mem.tail _ (List.Mem.head _))).cell 5; have rz5 : wB.frozen? ⟨w.heap.size + 1, 5, none⟩ = false := (HKwB.out.f (List.Mem.tail _ (List.Mem.head _))).frozen 5; have r6 : wB.cell? ⟨w.heap.size + 1, 6, none⟩ = some (.int .i64 0) := (HKwB.out.f (List.Mem.tail _ (List.Mem.head _))).cell 6; have rz6 : wB.frozen? ⟨w.heap.size + 1, 6, none⟩ = false := (HKwB.out.f (List.Mem.tail _ (List.Mem.head _))).frozen 6; have r7 : wB.cell? ⟨w.heap.size + 1, 7, none⟩ = some (.int .i64 0) := (HKwB.out.f (List.Mem.tail _ (List.Mem.head _))).cell 7; have rz7 : wB.frozen? ⟨w.heap.size + 1, 7, none⟩ = false := (HKwB.out.f (List.Mem.tail _ (List.Mem.head _))).frozen 7; have rl : w.heap.size + 1 < wB.heap.size := (HKwB.out.f (List.Mem.tail _ (List.Mem.head _))).lt))
    all_goals
      have H3 : Hid (HeldL w [(w.heap.size + 1 + 1, #[.int .i64 2, .int .i64 j1, .int .i64 ((j1 : Int) + j2), .bool false, .string ⟨#[]⟩, .int .i64 0, .int .i64 M, .int .i64 j4]), (w.heap.size + 1, #[.int .i64 0, .int .i64 0, .int .i64 0, .bool false, .string ⟨#[]⟩, .int .i64 0, .int .i64 0, .int .i64 0]), (w.heap.size, #[.int .i64 k0, .int .i64 k1, .int .i64 k2, .int .i64 k3, .int .i64 k4, .int .i64 k5, .int .i64 k6])] wB) := HKwB
      clear HS1 HKwA HKwB H2
      go_wp2
      exact bodyPost_ret (v := .agg #[.int .i64 2, .int .i64 j1, .int .i64 ((j1 : Int) + j2), .bool g.neg, S g.l, .int .i64 g.e, .int .i64 M, .int .i64 j4]) (by simp [results, Tryd.results12, go_sem, r0, r1, r2, r3, r4, r5, r6, r7]) rfl ⟨rfl, (HeldL.store8 [_] [_] (HeldL.set1 (L1 := []) (L2 := [_, _]) (HeldL.set1 (L1 := []) (L2 := [_, _]) (HeldL.set1 (L1 := []) (L2 := [_, _]) H3.out 3 (.bool g.neg)) 4 (S g.l)) 5 (.int .i64 g.e)) (.int .i64 2) (.int .i64 j1) (.int .i64 ((j1 : Int) + j2)) (.bool g.neg) (S g.l) (.int .i64 g.e) (.int .i64 M) (.int .i64 j4)).bel⟩
  ·
    go_simp
    refine hK.out _ _ (ALL1.out _ (HeldL.skip (hH0.2.2.2.2.2.2.2) _)) (fun hHeld2 => ?_)
    clear hK hHeld
    have hHeld := hHeld2
    clear hHeld2
    try simp only [Act.put, List.setIfInBounds_toArray, List.set_cons_zero, List.set_cons_succ]
    refine wpAnyH_ready (rs := [10]) (by kernel_rfl) (by simp) ?_
    refine AllReadyH.cons (o := { dst := some 14, op := Go.Op.call { callee := Go.Callee.value (Go.Operand.func 39), args := #[Go.Operand.tmp 13], argTypes := #[3] }, type := 32, pos := "law.go:30", after := #[{ on := 9, ground := Go.Ground.data }], guard := none }) rfl (fun KK hK => ?_) AllReadyH.nil
    go_simp
    with_reducible refine (HM.out _).mono ?_
    rintro x wz ⟨rfl, rfl⟩
    go_wp2_with fail
    refine hK.out _ _ hHeld (fun _ => ?_)
    clear hK
    try simp only [Act.put, List.setIfInBounds_toArray, List.set_cons_zero, List.set_cons_succ]
    refine wpAnyH_take (i := 14) (oi := { dst := some 18, op := Go.Op.build 34 #[(0, Go.Operand.tmp 8), (1, Go.Operand.tmp 11), (4, Go.Operand.tmp 14), (5, Go.Operand.tmp 17)], type := 34, pos := "law.go:30", after := #[{ on := 4, ground := Go.Ground.data }, { on := 7, ground := Go.Ground.data }, { on := 10, ground := Go.Ground.data }, { on := 13, ground := Go.Ground.data }], guard := none }) (v := ?_) rfl (by kernel_rfl) (by kernel_rfl) (by kernel_rfl) (fun _ _ _ h => h) (Or.inl ⟨by rfl, ?_⟩) hHeld ?_
    case refine_2 => (intro w hSw; (try dsimp only at hSw); go_simp <;> with_reducible rfl)
    try simp only [Act.put, List.setIfInBounds_toArray, List.set_cons_zero, List.set_cons_succ]
    refine wpAnyH_ready (rs := [16]) (by kernel_rfl) (by simp) ?_
    refine AllReadyH.cons (o := { dst := none, op := Go.Op.store 34 (Go.Operand.tmp 3) (Go.Operand.tmp 18), type := 0, pos := "law.go:30", after := #[{ on := 15, ground := Go.Ground.data }, { on := 14, ground := Go.Ground.data }, { on := 10, ground := Go.Ground.chain }, { on := 0, ground := Go.Ground.phase }, { on := 1, ground := Go.Ground.phase }, { on := 2, ground := Go.Ground.phase }, { on := 3, ground := Go.Ground.phase }, { on := 4, ground := Go.Ground.phase }, { on := 5, ground := Go.Ground.phase }, { on := 6, ground := Go.Ground.phase }, { on := 7, ground := Go.Ground.phase }, { on := 8, ground := Go.Ground.phase }, { on := 9, ground := Go.Ground.phase }, { on := 10, ground := Go.Ground.phase }, { on := 11, ground := Go.Ground.phase }, { on := 12, ground := Go.Ground.phase }, { on := 13, ground := Go.Ground.phase }, { on := 14, ground := Go.Ground.phase }, { on := 15, ground := Go.Ground.phase }], guard := none }) rfl (fun KK hK => ?_) AllReadyH.nil
    go_simp
    refine hK.out _ _ (ALL1.out _ (HeldL.skip (hH0.2.2.2.2.2.2.2) _)) (fun hHeld2 => ?_)
    clear hK hHeld2
    try simp only [Act.put, List.setIfInBounds_toArray, List.set_cons_zero, List.set_cons_succ]
    refine wpAnyH_done (by kernel_rfl) ?_ _
    clear hHeld hH0 ALL1 HS1
    go_wp2_with fail
    have H2 : Hid (HeldL w [(w.heap.size + 1 + 1, #[.int .i64 2, .int .i64 j1, .int .i64 ((j1 : Int) + j2), .bool false, .string ⟨#[]⟩, .int .i64 0, .int .i64 M, .int .i64 j4]), (w.heap.size + 1, #[.int .i64 0, .int .i64 0, .int .i64 0, .bool false, .string ⟨#[]⟩, .int .i64 0, .int .i64 0, .int .i64 0]), (w.heap.size, #[.int .i64 k0, .int .i64 k1, .int .i64 k2, .int .i64 k3, .int .i64 k4, .int .i64 k5, .int .i64 k6])] ((((w.alloc (.cells #[.int .i64 k0, .int .i64 k1, .int .i64 k2, .int .i64 k3, .int .i64 k4, .int .i64 k5, .int .i64 k6] 26)).alloc (.cells #[.int .i64 0, .int .i64 0, .int .i64 0, .bool false, .string ⟨#[]⟩, .int .i64 0, .int .i64 0, .int .i64 0] 34)).alloc (.cells #[.int .i64 2, .int .i64 j1, .int .i64 ((j1 : Int) + j2), .bool false, .string ⟨#[]⟩, .int .i64 0, .int .i64 M, .int .i64 j4] 34)).drew)) := Lib.hid (HeldL.drew (HeldL.alloc (HeldL.alloc (HeldL.alloc (HeldL.refl w) _ _ _ rfl) _ _ _ (by simp)) _ _ _ (by simp)))
    generalize (((w.alloc (.cells #[.int .i64 k0, .int .i64 k1, .int .i64 k2, .int .i64 k3, .int .i64 k4, .int .i64 k5, .int .i64 k6] 26)).alloc (.cells #[.int .i64 0, .int .i64 0, .int .i64 0, .bool false, .string ⟨#[]⟩, .int .i64 0, .int .i64 0, .int .i64 0] 34)).alloc (.cells #[.int .i64 2, .int .i64 j1, .int .i64 ((j1 : Int) + j2), .bool false, .string ⟨#[]⟩, .int .i64 0, .int .i64 M, .int .i64 j4] 34)).drew = w2 at *
    have q0 : w2.cell? ⟨w.heap.size, 0, none⟩ = some (.int .i64 k0) := (H2.out.f (List.Mem.tail _ (List.Mem.tail _ (List.Mem.head _)))).cell 0
    have q1 : w2.cell? ⟨w.heap.size, 1, none⟩ = some (.int .i64 k1) := (H2.out.f (List.Mem.tail _ (List.Mem.tail _ (List.Mem.head _)))).cell 1
    have q2 : w2.cell? ⟨w.heap.size, 2, none⟩ = some (.int .i64 k2) := (H2.out.f (List.Mem.tail _ (List.Mem.tail _ (List.Mem.head _)))).cell 2
    have q3 : w2.cell? ⟨w.heap.size, 3, none⟩ = some (.int .i64 k3) := (H2.out.f (List.Mem.tail _ (List.Mem.tail _ (List.Mem.head _)))).cell 3
    have q4 : w2.cell? ⟨w.heap.size, 4, none⟩ = some (.int .i64 k4) := (H2.out.f (List.Mem.tail _ (List.Mem.tail _ (List.Mem.head _)))).cell 4
    have q5 : w2.cell? ⟨w.heap.size, 5, none⟩ = some (.int .i64 k5) := (H2.out.f (List.Mem.tail _ (List.Mem.tail _ (List.Mem.head _)))).cell 5
    have q6 : w2.cell? ⟨w.heap.size, 6, none⟩ = some (.int .i64 k6) := (H2.out.f (List.Mem.tail _ (List.Mem.tail _ (List.Mem.head _)))).cell 6
    have ql : w.heap.size < w2.heap.size := (H2.out.f (List.Mem.tail _ (List.Mem.tail _ (List.Mem.head _)))).lt
    have p0 : w2.cell? ⟨w.heap.size + 1 + 1, 0, none⟩ = some (.int .i64 2) := (H2.out.f (List.Mem.head _)).cell 0
    have pz0 : w2.frozen? ⟨w.heap.size + 1 + 1, 0, none⟩ = false := (H2.out.f (List.Mem.head _)).frozen 0
    have p1 : w2.cell? ⟨w.heap.size + 1 + 1, 1, none⟩ = some (.int .i64 j1) := (H2.out.f (List.Mem.head _)).cell 1
    have pz1 : w2.frozen? ⟨w.heap.size + 1 + 1, 1, none⟩ = false := (H2.out.f (List.Mem.head _)).frozen 1
    have p2 : w2.cell? ⟨w.heap.size + 1 + 1, 2, none⟩ = some (.int .i64 ((j1 : Int) + j2)) := (H2.out.f (List.Mem.head _)).cell 2
    have pz2 : w2.frozen? ⟨w.heap.size + 1 + 1, 2, none⟩ = false := (H2.out.f (List.Mem.head _)).frozen 2
    have p3 : w2.cell? ⟨w.heap.size + 1 + 1, 3, none⟩ = some (.bool false) := (H2.out.f (List.Mem.head _)).cell 3
    have pz3 : w2.frozen? ⟨w.heap.size + 1 + 1, 3, none⟩ = false := (H2.out.f (List.Mem.head _)).frozen 3
    have p4 : w2.cell? ⟨w.heap.size + 1 + 1, 4, none⟩ = some (.string ⟨#[]⟩) := (H2.out.f (List.Mem.head _)).cell 4
    have pz4 : w2.frozen? ⟨w.heap.size + 1 + 1, 4, none⟩ = false := (H2.out.f (List.Mem.head _)).frozen 4
    have p5 : w2.cell? ⟨w.heap.size + 1 + 1, 5, none⟩ = some (.int .i64 0) := (H2.out.f (List.Mem.head _)).cell 5
    have pz5 : w2.frozen? ⟨w.heap.size + 1 + 1, 5, none⟩ = false := (H2.out.f (List.Mem.head _)).frozen 5
    have p6 : w2.cell? ⟨w.heap.size + 1 + 1, 6, none⟩ = some (.int .i64 M) := (H2.out.f (List.Mem.head _)).cell 6
    have pz6 : w2.frozen? ⟨w.heap.size + 1 + 1, 6, none⟩ = false := (H2.out.f (List.Mem.head _)).frozen 6
    have p7 : w2.cell? ⟨w.heap.size + 1 + 1, 7, none⟩ = some (.int .i64 j4) := (H2.out.f (List.Mem.head _)).cell 7
    have pz7 : w2.frozen? ⟨w.heap.size + 1 + 1, 7, none⟩ = false := (H2.out.f (List.Mem.head _)).frozen 7
    have pl : w.heap.size + 1 + 1 < w2.heap.size := (H2.out.f (List.Mem.head _)).lt
    have r0 : w2.cell? ⟨w.heap.size + 1, 0, none⟩ = some (.int .i64 0) := (H2.out.f (List.Mem.tail _ (List.Mem.head _))).cell 0
    have rz0 : w2.frozen? ⟨w.heap.size + 1, 0, none⟩ = false := (H2.out.f (List.Mem.tail _ (List.Mem.head _))).frozen 0
    have r1 : w2.cell? ⟨w.heap.size + 1, 1, none⟩ = some (.int .i64 0) := (H2.out.f (List.Mem.tail _ (List.Mem.head _))).cell 1
    have rz1 : w2.frozen? ⟨w.heap.size + 1, 1, none⟩ = false := (H2.out.f (List.Mem.tail _ (List.Mem.head _))).frozen 1
    have r2 : w2.cell? ⟨w.heap.size + 1, 2, none⟩ = some (.int .i64 0) := (H2.out.f (List.Mem.tail _ (List.Mem.head _))).cell 2
    have rz2 : w2.frozen? ⟨w.heap.size + 1, 2, none⟩ = false := (H2.out.f (List.Mem.tail _ (List.Mem.head _))).frozen 2
    have r3 : w2.cell? ⟨w.heap.size + 1, 3, none⟩ = some (.bool false) := (H2.out.f (List.Mem.tail _ (List.Mem.head _))).cell 3
    have rz3 : w2.frozen? ⟨w.heap.size + 1, 3, none⟩ = false := (H2.out.f (List.Mem.tail _ (List.Mem.head _))).frozen 3
    have r4 : w2.cell? ⟨w.heap.size + 1, 4, none⟩ = some (.string ⟨#[]⟩) := (H2.out.f (List.Mem.tail _ (List.Mem.head _))).cell 4
    have rz4 : w2.frozen? ⟨w.heap.size + 1, 4, none⟩ = false := (H2.out.f (List.Mem.tail _ (List.Mem.head _))).frozen 4
    have r5 : w2.cell? ⟨w.heap.size + 1, 5, none⟩ = some (.int .i64 0) := (H2.out.f (List.Mem.tail _ (List.Mem.head _))).cell 5
    have rz5 : w2.frozen? ⟨w.heap.size + 1, 5, none⟩ = false := (H2.out.f (List.Mem.tail _ (List.Mem.head _))).frozen 5
    have r6 : w2.cell? ⟨w.heap.size + 1, 6, none⟩ = some (.int .i64 0) := (H2.out.f (List.Mem.tail _ (List.Mem.head _))).cell 6
    have rz6 : w2.frozen? ⟨w.heap.size + 1, 6, none⟩ = false := (H2.out.f (List.Mem.tail _ (List.Mem.head _))).frozen 6
    have r7 : w2.cell? ⟨w.heap.size + 1, 7, none⟩ = some (.int .i64 0) := (H2.out.f (List.Mem.tail _ (List.Mem.head _))).cell 7
    have rz7 : w2.frozen? ⟨w.heap.size + 1, 7, none⟩ = false := (H2.out.f (List.Mem.tail _ (List.Mem.head _))).frozen 7
    have rl : w.heap.size + 1 < w2.heap.size := (H2.out.f (List.Mem.tail _ (List.Mem.head _))).lt
    have HS2 : Hid (HeldL w [(w.heap.size + 1 + 1, #[.int .i64 2, .int .i64 j1, .int .i64 ((j1 : Int) + j2), .bool false, .string ⟨#[]⟩, .int .i64 0, .int .i64 M, .int .i64 j4]), (w.heap.size + 1, #[.int .i64 0, .int .i64 0, .int .i64 0, .bool false, .string ⟨#[]⟩, .int .i64 0, .int .i64 0, .int .i64 0]), (w.heap.size, #[.int .i64 k0, .int .i64 k1, .int .i64 k2, .int .i64 k3, .int .i64 k4, .int .i64 k5, .int .i64 k6])] _) := Lib.hid H2.out
    go_region_with (first | (go_at_call 35; (rw [show ((j5 : Int) + 1) = ((j5 + 1 : Nat) : Int) from rfl]); (with_reducible refine (ofN (j5 + 1) _ (by omega) (HT.out.below ((HeldL.drew HS2.out)).bel)).mono ?_); rintro x wA ⟨rfl, hb⟩; have HKwA : Hid (HeldL w [(w.heap.size + 1 + 1, #[.int .i64 2, .int .i64 j1, .int .i64 ((j1 : Int) + j2), .bool false, .string ⟨#[]⟩, .int .i64 0, .int .i64 M, .int .i64 j4]), (w.heap.size + 1, #[.int .i64 0, .int .i64 0, .int .i64 0, .bool false, .string ⟨#[]⟩, .int .i64 0, .int .i64 0, .int .i64 0]), (w.heap.size, #[.int .i64 k0, .int .i64 k1, .int .i64 k2, .int .i64 k3, .int .i64 k4, .int .i64 k5, .int .i64 k6])] wA) := Lib.hid (HeldL.keep (HeldL.drew HS2.out) hb); clear hb; have qwA0 : wA.cell? ⟨w.heap.size, 0, none⟩ = some (.int .i64 k0) := (HKwA.out.f (List.Mem.tail _ (List.Mem.tail _ (List.Mem.head _)))).cell 0; have qwA1 : wA.cell? ⟨w.heap.size, 1, none⟩ = some (.int .i64 k1) := (HKwA.out.f (List.Mem.tail _ (List.Mem.tail _ (List.Mem.head _)))).cell 1; have qwA2 : wA.cell? ⟨w.heap.size, 2, none⟩ = some (.int .i64 k2) := (HKwA.out.f (List.Mem.tail _ (List.Mem.tail _ (List.Mem.head _)))).cell 2; have qwA3 : wA.cell? ⟨w.heap.size, 3, none⟩ = some (.int .i64 k3) := (HKwA.out.f (List.Mem.tail _ (List.Mem.tail _ (List.Mem.head _)))).cell 3; have qwA4 : wA.cell? ⟨w.heap.size, 4, none⟩ = some (.int .i64 k4) := (HKwA.out.f (List.Mem.tail _ (List.Mem.tail _ (List.Mem.head _)))).cell 4; have qwA5 : wA.cell? ⟨w.heap.size, 5, none⟩ = some (.int .i64 k5) := (HKwA.out.f (List.Mem.tail _ (List.Mem.tail _ (List.Mem.head _)))).cell 5; have qwA6 : wA.cell? ⟨w.heap.size, 6, none⟩ = some (.int .i64 k6) := (HKwA.out.f (List.Mem.tail _ (List.Mem.tail _ (List.Mem.head _)))).cell 6; have qwAl : w.heap.size < wA.heap.size := (HKwA.out.f (List.Mem.tail _ (List.Mem.tail _ (List.Mem.head _)))).lt; have pwA0 : wA.cell? ⟨w.heap.size + 1 + 1, 0, none⟩ = some (.int .i64 2) := (HKwA.out.f (List.Mem.head _)).cell 0; have pzwA0 : wA.frozen? ⟨w.heap.size + 1 + 1, 0, none⟩ = false := (HKwA.out.f (List.Mem.head _)).frozen 0; have pwA1 : wA.cell? ⟨w.heap.size + 1 + 1, 1, none⟩ = some (.int .i64 j1) := (HKwA.out.f (List.Mem.head _)).cell 1; have pzwA1 : wA.frozen? ⟨w.heap.size + 1 + 1, 1, none⟩ = false := (HKwA.out.f (List.Mem.head _)).frozen 1; have pwA2 : wA.cell? ⟨w.heap.size + 1 + 1, 2, none⟩ = some (.int .i64 ((j1 : Int) + j2)) := (HKwA.out.f (List.Mem.head _)).cell 2; have pzwA2 : wA.frozen? ⟨w.heap.size + 1 + 1, 2, none⟩ = false := (HKwA.out.f (List.Mem.head _)).frozen 2; have pwA3 : wA.cell? ⟨w.heap.size + 1 + 1, 3, none⟩ = some (.bool false) := (HKwA.out.f (List.Mem.head _)).cell 3; have pzwA3 : wA.frozen? ⟨w.heap.size + 1 + 1, 3, none⟩ = false := (HKwA.out.f (List.Mem.head _)).frozen 3; have pwA4 : wA.cell? ⟨w.heap.size + 1 + 1, 4, none⟩ = some (.string ⟨#[]⟩) := (HKwA.out.f (List.Mem.head _)).cell 4; have pzwA4 : wA.frozen? ⟨w.heap.size + 1 + 1, 4, none⟩ = false := (HKwA.out.f (List.Mem.head _)).frozen 4; have pwA5 : wA.cell? ⟨w.heap.size + 1 + 1, 5, none⟩ = some (.int .i64 0) := (HKwA.out.f (List.Mem.head _)).cell 5; have pzwA5 : wA.frozen? ⟨w.heap.size + 1 + 1, 5, none⟩ = false := (HKwA.out.f (List.Mem.head _)).frozen 5; have pwA6 : wA.cell? ⟨w.heap.size + 1 + 1, 6, none⟩ = some (.int .i64 M) := (HKwA.out.f (List.Mem.head _)).cell 6; have pzwA6 : wA.frozen? ⟨w.heap.size + 1 + 1, 6, none⟩ = false := (HKwA.out.f (List.Mem.head _)).frozen 6; have pwA7 : wA.cell? ⟨w.heap.size + 1 + 1, 7, none⟩ = some (.int .i64 j4) := (HKwA.out.f (List.Mem.head _)).cell 7; have pzwA7 : wA.frozen? ⟨w.heap.size + 1 + 1, 7, none⟩ = false := (HKwA.out.f (List.Mem.head _)).frozen 7; have pwAl : w.heap.size + 1 + 1 < wA.heap.size := (HKwA.out.f (List.Mem.head _)).lt; have rwA0 : wA.cell? ⟨w.heap.size + 1, 0, none⟩ = some (.int .i64 0) := (HKwA.out.f (List.Mem.tail _ (List.Mem.head _))).cell 0; have rzwA0 : wA.frozen? ⟨w.heap.size + 1, 0, none⟩ = false := (HKwA.out.f (List.Mem.tail _ (List.Mem.head _))).frozen 0; have rwA1 : wA.cell? ⟨w.heap.size + 1, 1, none⟩ = some (.int .i64 0) := (HKwA.out.f (List.Mem.tail _ (List.Mem.head _))).cell 1; have rzwA1 : wA.frozen? ⟨w.heap.size + 1, 1, none⟩ = false := (HKwA.out.f (List.Mem.tail _ (List.Mem.head _))).frozen 1; have rwA2 : wA.cell? ⟨w.heap.size + 1, 2, none⟩ = some (.int .i64 0) := (HKwA.out.f (List.Mem.tail _ (List.Mem.head _))).cell 2; have rzwA2 : wA.frozen? ⟨w.heap.size + 1, 2, none⟩ = false := (HKwA.out.f (List.Mem.tail _ (List.Mem.head _))).frozen 2; have rwA3 : wA.cell? ⟨w.heap.size + 1, 3, none⟩ = some (.bool false) := (HKwA.out.f (List.Mem.tail _ (List.Mem.head _))).cell 3; have rzwA3 : wA.frozen? ⟨w.heap.size + 1, 3, none⟩ = false := (HKwA.out.f (List.Mem.tail _ (List.Mem.head _))).frozen 3; have rwA4 : wA.cell? ⟨w.heap.size + 1, 4, none⟩ = some (.string ⟨#[]⟩) := (HKwA.out.f (List.Mem.tail _ (List.Mem.head _))).cell 4; have rzwA4 : wA.frozen? ⟨w.heap.size + 1, 4, none⟩ = false := (HKwA.out.f (List.Mem.tail _ (List.Mem.head _))).frozen 4; have rwA5 : wA.cell? ⟨w.heap.size + 1, 5, none⟩ = some (.int .i64 0) := (HKwA.out.f (List.Mem.tail _ (List.Mem.head _))).cell 5; have rzwA5 : wA.frozen? ⟨w.heap.size + 1, 5, none⟩ = false := (HKwA.out.f (List.Mem.tail _ (List.Mem.head _))).frozen 5; have rwA6 : wA.cell? ⟨w.heap.size + 1, 6, none⟩ = some (.int .i64 0) := (HKwA.out.f (List.Mem.tail _ (List.Mem.head _))).cell 6; have rzwA6 : wA.frozen? ⟨w.heap.size + 1, 6, none⟩ = false := (HKwA.out.f (List.Mem.tail _ (List.Mem.head _))).frozen 6; have rwA7 : wA.cell? ⟨w.heap.size + 1, 7, none⟩ = some (.int .i64 0) := (HKwA.out.f (List.Mem.tail _ (List.Mem.head _))).cell 7; have rzwA7 : wA.frozen? ⟨w.heap.size + 1, 7, none⟩ = false := (HKwA.out.f (List.Mem.tail _ (List.Mem.head _))).frozen 7; have rwAl : w.heap.size + 1 < wA.heap.size := (HKwA.out.f (List.Mem.tail _ (List.Mem.head _))).lt) | (go_at_call 25; (with_reducible refine (made_as false ⟨(dig (j5 + 1)).toArray⟩ (k6.tmod 4 - 3) _ (by rw [arr_size]; exact dl) g (by rw [arr_list]; exact HG.out)).mono ?_); rintro x wB ⟨rfl, hb⟩; have HKwB : Hid (HeldL w [(w.heap.size + 1 + 1, #[.int .i64 2, .int .i64 j1, .int .i64 ((j1 : Int) + j2), .bool false, .string ⟨#[]⟩, .int .i64 0, .int .i64 M, .int .i64 j4]), (w.heap.size + 1, #[.int .i64 0, .int .i64 0, .int .i64 0, .bool false, .string ⟨#[]⟩, .int .i64 0, .int .i64 0, .int .i64 0]), (w.heap.size, #[.int .i64 k0, .int .i64 k1, .int .i64 k2, .int .i64 k3, .int .i64 k4, .int .i64 k5, .int .i64 k6])] wB) := Lib.hid (HeldL.keep HKwA.out hb); clear hb; have p0 : wB.cell? ⟨w.heap.size + 1 + 1, 0, none⟩ = some (.int .i64 2) := (HKwB.out.f (List.Mem.head _)).cell 0; have pz0 : wB.frozen? ⟨w.heap.size + 1 + 1, 0, none⟩ = false := (HKwB.out.f (List.Mem.head _)).frozen 0; have p1 : wB.cell? ⟨w.heap.size + 1 + 1, 1, none⟩ = some (.int .i64 j1) := (HKwB.out.f (List.Mem.head _)).cell 1; have pz1 : wB.frozen? ⟨w.heap.size + 1 + 1, 1, none⟩ = false := (HKwB.out.f (List.Mem.head _)).frozen 1; have p2 : wB.cell? ⟨w.heap.size + 1 + 1, 2, none⟩ = some (.int .i64 ((j1 : Int) + j2)) := (HKwB.out.f (List.Mem.head _)).cell 2; have pz2 : wB.frozen? ⟨w.heap.size + 1 + 1, 2, none⟩ = false := (HKwB.out.f (List.Mem.head _)).frozen 2; have p3 : wB.cell? ⟨w.heap.size + 1 + 1, 3, none⟩ = some (.bool false) := (HKwB.out.f (List.Mem.head _)).cell 3; have pz3 : wB.frozen? ⟨w.heap.size + 1 + 1, 3, none⟩ = false := (HKwB.out.f (List.Mem.head _)).frozen 3; have p4 : wB.cell? ⟨w.heap.size + 1 + 1, 4, none⟩ = some (.string ⟨#[]⟩) := (HKwB.out.f (List.Mem.head _)).cell 4; have pz4 : wB.frozen? ⟨w.heap.size + 1 + 1, 4, none⟩ = false := (HKwB.out.f (List.Mem.head _)).frozen 4; have p5 : wB.cell? ⟨w.heap.size + 1 + 1, 5, none⟩ = some (.int .i64 0) := (HKwB.out.f (List.Mem.head _)).cell 5; have pz5 : wB.frozen? ⟨w.heap.size + 1 + 1, 5, none⟩ = false := (HKwB.out.f (List.Mem.head _)).frozen 5; have p6 : wB.cell? ⟨w.heap.size + 1 + 1, 6, none⟩ = some (.int .i64 M) := (HKwB.out.f (List.Mem.head _)).cell 6; have pz6 : wB.frozen? ⟨w.heap.size + 1 + 1, 6, none⟩ = false := (HKwB.out.f (List.Mem.head _)).frozen 6; have p7 : wB.cell? ⟨w.heap.size + 1 + 1, 7, none⟩ = some (.int .i64 j4) := (HKwB.out.f (List.Mem.head _)).cell 7; have pz7 : wB.frozen? ⟨w.heap.size + 1 + 1, 7, none⟩ = false := (HKwB.out.f (List.Mem.head _)).frozen 7; have pl : w.heap.size + 1 + 1 < wB.heap.size := (HKwB.out.f (List.Mem.head _)).lt; have r0 : wB.cell? ⟨w.heap.size + 1, 0, none⟩ = some (.int .i64 0) := (HKwB.out.f (List.Mem.tail _ (List.Mem.head _))).cell 0; have rz0 : wB.frozen? ⟨w.heap.size + 1, 0, none⟩ = false := (HKwB.out.f (List.Mem.tail _ (List.Mem.head _))).frozen 0; have r1 : wB.cell? ⟨w.heap.size + 1, 1, none⟩ = some (.int .i64 0) := (HKwB.out.f (List.Mem.tail _ (List.Mem.head _))).cell 1; have rz1 : wB.frozen? ⟨w.heap.size + 1, 1, none⟩ = false := (HKwB.out.f (List.Mem.tail _ (List.Mem.head _))).frozen 1; have r2 : wB.cell? ⟨w.heap.size + 1, 2, none⟩ = some (.int .i64 0) := (HKwB.out.f (List.Mem.tail _ (List.Mem.head _))).cell 2; have rz2 : wB.frozen? ⟨w.heap.size + 1, 2, none⟩ = false := (HKwB.out.f (List.Mem.tail _ (List.Mem.head _))).frozen 2; have r3 : wB.cell? ⟨w.heap.size + 1, 3, none⟩ = some (.bool false) := (HKwB.out.f (List.Mem.tail _ (List.Mem.head _))).cell 3; have rz3 : wB.frozen? ⟨w.heap.size + 1, 3, none⟩ = false := (HKwB.out.f (List.Mem.tail _ (List.Mem.head _))).frozen 3; have r4 : wB.cell? ⟨w.heap.size + 1, 4, none⟩ = some (.string ⟨#[]⟩) := (HKwB.out.f (List.Mem.tail _ (List.Mem.head _))).cell 4; have rz4 : wB.frozen? ⟨w.heap.size + 1, 4, none⟩ = false := (HKwB.out.f (List.Mem.tail _ (List.Mem.head _))).frozen 4; have r5 : wB.cell? ⟨w.heap.size + 1, 5, none⟩ = some (.int .i64 0) := (HKwB.out.f (List.Mem.tail _ (List.Mem.head _))).cell 5; have rz5 : wB.frozen? ⟨w.heap.size + 1, 5, none⟩ = false := (HKwB.out.f (List.Mem.tail _ (List.Mem.head _))).frozen 5; have r6 : wB.cell? ⟨w.heap.size + 1, 6, none⟩ = some (.int .i64 0) := (HKwB.out.f (List.Mem.tail _ (List.Mem.head _))).cell 6; have rz6 : wB.frozen? ⟨w.heap.size + 1, 6, none⟩ = false := (HKwB.out.f (List.Mem.tail _ (List.Mem.head _))).frozen 6; have r7 : wB.cell? ⟨w.heap.size + 1, 7, none⟩ = some (.int .i64 0) := (HKwB.out.f (List.Mem.tail _ (List.Mem.head _))).cell 7; have rz7 : wB.frozen? ⟨w.heap.size + 1, 7, none⟩ = false := (HKwB.out.f (List.Mem.tail _ (List.Mem.head _))).frozen 7; have rl : w.heap.size + 1 < wB.heap.size := (HKwB.out.f (List.Mem.tail _ (List.Mem.head _))).lt))
    all_goals
      have H3 : Hid (HeldL w [(w.heap.size + 1 + 1, #[.int .i64 2, .int .i64 j1, .int .i64 ((j1 : Int) + j2), .bool false, .string ⟨#[]⟩, .int .i64 0, .int .i64 M, .int .i64 j4]), (w.heap.size + 1, #[.int .i64 0, .int .i64 0, .int .i64 0, .bool false, .string ⟨#[]⟩, .int .i64 0, .int .i64 0, .int .i64 0]), (w.heap.size, #[.int .i64 k0, .int .i64 k1, .int .i64 k2, .int .i64 k3, .int .i64 k4, .int .i64 k5, .int .i64 k6])] wB) := HKwB
      clear HS2 HKwA HKwB H2
      go_wp2
      exact bodyPost_ret (v := .agg #[.int .i64 2, .int .i64 j1, .int .i64 ((j1 : Int) + j2), .bool g.neg, S g.l, .int .i64 g.e, .int .i64 M, .int .i64 j4]) (by simp [results, Tryd.results12, go_sem, r0, r1, r2, r3, r4, r5, r6, r7]) rfl ⟨rfl, (HeldL.store8 [_] [_] (HeldL.set1 (L1 := []) (L2 := [_, _]) (HeldL.set1 (L1 := []) (L2 := [_, _]) (HeldL.set1 (L1 := []) (L2 := [_, _]) H3.out 3 (.bool g.neg)) 4 (S g.l)) 5 (.int .i64 g.e)) (.int .i64 2) (.int .i64 j1) (.int .i64 ((j1 : Int) + j2)) (.bool g.neg) (S g.l) (.int .i64 g.e) (.int .i64 M) (.int .i64 j4)).bel⟩

end Go.Proofs.YtegekkifgdakgaaDoor
