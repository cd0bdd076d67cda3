/- ShwV, ShwP, LawT1v, LawT3, in one text. -/
import Derived.Test.YtfbfjkacaadbpaaGreatDoorMShw
import Derived.Deep.Cut
namespace Go.Proofs.YtfbfjkacaadbpaaGreatDoor
open Go.RowKit Florin
set_option linter.unusedVariables false
set_option linter.unusedSimpArgs false
attribute [local go_sem ↓] Go.wp_at_zero Go.wp_at_succ

set_option maxRecDepth 100000 in
set_option maxHeartbeats 3200000 in
theorem value_as (v : Vs) (g : Tri) (w : World) (il : v.i.length ≤ 900000) (fl : v.f.length ≤ 2000) (hg : made v.neg (v.i ++ rt v.f) (-((rt v.f).length : Int)) = g) :
    Calls Tryz.prog 26 #[VV v] w fun z w' => z = .returned (V g) ∧ Below w.heap.size w w' := by
  have tm : (⟨v.f.toArray⟩ : ByteArray).size ≤ maxLen := by rw [arr_size]; unfold maxLen; omega
  obtain ⟨u, hu⟩ := bytes_of (rt v.f)
  have HU : Hid (u.data.toList = rt (⟨v.f.toArray⟩ : ByteArray).data.toList) := Lib.hid (by rw [arr_list]; exact hu)
  have ul : u.size ≤ 2000 := by rw [← size_list, hu]; exact Nat.le_trans (rt_length_le _) fl
  have us : (u.size : Int) = ((rt v.f).length : Int) := by rw [← hu, size_list]
  have SC : Hid ((⟨v.i.toArray⟩ : ByteArray) ++ u = ⟨(v.i ++ rt v.f).toArray⟩) := Lib.hid (by rw [← arr_append, ← hu, back_data])
  have HG : Hid (made v.neg (v.i ++ rt v.f) (-(u.size : Int)) = g) := Lib.hid (by rw [us]; exact hg)
  have hcat : ¬ 9223372036854775807 < v.i.length + u.size := by omega
  have lsum : (v.i ++ rt v.f).length ≤ 1000000 := by rw [List.length_append]; have := rt_length_le v.f; omega
  clear hu us hg
  go_enter Tryz.func26, Tryz.ntmps26
  go_wp2_with fail
  with_reducible refine (trimRight_some ⟨v.f.toArray⟩ _ tm u HU.out).mono ?_
  rintro x wz ⟨rfl, rfl⟩
  go_wp2_with fail
  rw [SC.out]
  with_reducible refine (made_as v.neg ⟨(v.i ++ rt v.f).toArray⟩ (-(u.size : Int)) _ (by rw [arr_size]; exact lsum) g (by rw [arr_list]; exact HG.out)).mono ?_
  rintro x w1 ⟨rfl, hb⟩
  have H1 : Hid (HeldL w [(w.heap.size + 1, #[.bool false, .string ⟨#[]⟩, .int .i64 0]), (w.heap.size, #[.bool v.neg, S v.i, S v.f])] w1) := Lib.hid (HeldL.keep (HeldL.alloc (HeldL.alloc (HeldL.refl w) (w.heap.size) #[.bool v.neg, S v.i, S v.f] 49 (by simp)) (w.heap.size + 1) #[.bool false, .string ⟨#[]⟩, .int .i64 0] 31 (by simp)) hb)
  clear hb
  have r0 : w1.cell? ⟨w.heap.size + 1, 0, none⟩ = some (.bool false) := (H1.out.f (List.Mem.head _)).cell 0
  have rz0 : w1.frozen? ⟨w.heap.size + 1, 0, none⟩ = false := (H1.out.f (List.Mem.head _)).frozen 0
  have r1 : w1.cell? ⟨w.heap.size + 1, 1, none⟩ = some (.string ⟨#[]⟩) := (H1.out.f (List.Mem.head _)).cell 1
  have rz1 : w1.frozen? ⟨w.heap.size + 1, 1, none⟩ = false := (H1.out.f (List.Mem.head _)).frozen 1
  have r2 : w1.cell? ⟨w.heap.size + 1, 2, none⟩ = some (.int .i64 0) := (H1.out.f (List.Mem.head _)).cell 2
  have rz2 : w1.frozen? ⟨w.heap.size + 1, 2, none⟩ = false := (H1.out.f (List.Mem.head _)).frozen 2
  have rl : w.heap.size + 1 < w1.heap.size := (H1.out.f (List.Mem.head _)).lt
  go_wp2
  exact bodyPost_ret (v := V g) (by simp [results, Tryz.results26, go_sem, r0, r1, r2]) rfl ⟨rfl, (HeldL.store3 [] [(w.heap.size, #[.bool v.neg, S v.i, S v.f])] H1.out (.bool g.neg) (S g.l) (.int .i64 g.e)).bel⟩

end Go.Proofs.YtfbfjkacaadbpaaGreatDoor

namespace Go.Proofs.YtfbfjkacaadbpaaGreatDoor
open Go.RowKit Florin
set_option linter.unusedVariables false
set_option linter.unusedSimpArgs false
attribute [local go_sem ↓] Go.wp_at_zero Go.wp_at_succ

set_option maxRecDepth 100000 in
set_option maxHeartbeats 6400000 in
theorem prec_0 (k0 k1 k2 k3 k4 k5 k6 : Int) (w : World) (hk : IntKind.i64.wrap ((IntKind.u64.wrap k0).tmod 3) = 0) (j1 j2 j4 : Nat) (hj1 : bits .and .i64 k1 7 = (j1 : Int)) (hj2 : bits .and .i64 k2 7 = (j2 : Int)) (hj4 : bits .and .i64 k4 7 = (j4 : Int)) (l1 : j1 ≤ 7) (l2 : j2 ≤ 7) (l4 : j4 ≤ 7) (M : Int) (hM : ∀ w : World, Calls Tryz.prog 11 #[.int .i64 k3] w fun x w' => x = .returned (.int .i64 M) ∧ w = w') (htab : Tab w) :
    Calls Tryz.prog 22 #[.agg #[.int .i64 k0, .int .i64 k1, .int .i64 k2, .int .i64 k3, .int .i64 k4, .int .i64 k5, .int .i64 k6]] w fun z w' => z = .returned (PV ⟨0, j1, j1 + j2, zero, M, j4⟩) ∧ Below w.heap.size w w' := by
  have HM := Lib.hid hM
  have HT := Lib.hid htab
  clear hM htab
  go_enter Tryz.func22, Tryz.ntmps22
  go_wp2_with fail
  have ALL1 : Hid (∀ w' : World, HeldL w [(w.heap.size + 1, #[.int .i64 0, .int .i64 0, .int .i64 0, .bool false, .string ⟨#[]⟩, .int .i64 0, .int .i64 0, .int .i64 0]), (w.heap.size, #[.int .i64 k0, .int .i64 k1, .int .i64 k2, .int .i64 k3, .int .i64 k4, .int .i64 k5, .int .i64 k6])] w' → w'.cell? ⟨w.heap.size, 0, none⟩ = some (.int .i64 k0) ∧ w'.cell? ⟨w.heap.size, 1, none⟩ = some (.int .i64 k1) ∧ w'.cell? ⟨w.heap.size, 2, none⟩ = some (.int .i64 k2) ∧ w'.cell? ⟨w.heap.size, 3, none⟩ = some (.int .i64 k3) ∧ w'.cell? ⟨w.heap.size, 4, none⟩ = some (.int .i64 k4) ∧ w'.cell? ⟨w.heap.size, 5, none⟩ = some (.int .i64 k5) ∧ w'.cell? ⟨w.heap.size, 6, none⟩ = some (.int .i64 k6) ∧ HeldL w [(w.heap.size + 1, #[.int .i64 0, .int .i64 0, .int .i64 0, .bool false, .string ⟨#[]⟩, .int .i64 0, .int .i64 0, .int .i64 0]), (w.heap.size, #[.int .i64 k0, .int .i64 k1, .int .i64 k2, .int .i64 k3, .int .i64 k4, .int .i64 k5, .int .i64 k6])] w') := Lib.hid (fun w' h => ⟨(h.f (List.Mem.tail _ (List.Mem.head _))).cell 0, (h.f (List.Mem.tail _ (List.Mem.head _))).cell 1, (h.f (List.Mem.tail _ (List.Mem.head _))).cell 2, (h.f (List.Mem.tail _ (List.Mem.head _))).cell 3, (h.f (List.Mem.tail _ (List.Mem.head _))).cell 4, (h.f (List.Mem.tail _ (List.Mem.head _))).cell 5, (h.f (List.Mem.tail _ (List.Mem.head _))).cell 6, h⟩)
  have HS1 : Hid (HeldL w [(w.heap.size + 1, #[.int .i64 0, .int .i64 0, .int .i64 0, .bool false, .string ⟨#[]⟩, .int .i64 0, .int .i64 0, .int .i64 0]), (w.heap.size, #[.int .i64 k0, .int .i64 k1, .int .i64 k2, .int .i64 k3, .int .i64 k4, .int .i64 k5, .int .i64 k6])] _) := Lib.hid (HeldL.alloc (HeldL.alloc (HeldL.refl w) (w.heap.size) #[.int .i64 k0, .int .i64 k1, .int .i64 k2, .int .i64 k3, .int .i64 k4, .int .i64 k5, .int .i64 k6] 43 (by simp)) (w.heap.size + 1) #[.int .i64 0, .int .i64 0, .int .i64 0, .bool false, .string ⟨#[]⟩, .int .i64 0, .int .i64 0, .int .i64 0] 46 (by simp))
  refine wp_region_held_drew (S := fun w' => w'.cell? ⟨w.heap.size, 0, none⟩ = some (.int .i64 k0) ∧ w'.cell? ⟨w.heap.size, 1, none⟩ = some (.int .i64 k1) ∧ w'.cell? ⟨w.heap.size, 2, none⟩ = some (.int .i64 k2) ∧ w'.cell? ⟨w.heap.size, 3, none⟩ = some (.int .i64 k3) ∧ w'.cell? ⟨w.heap.size, 4, none⟩ = some (.int .i64 k4) ∧ w'.cell? ⟨w.heap.size, 5, none⟩ = some (.int .i64 k5) ∧ w'.cell? ⟨w.heap.size, 6, none⟩ = some (.int .i64 k6) ∧ HeldL w [(w.heap.size + 1, #[.int .i64 0, .int .i64 0, .int .i64 0, .bool false, .string ⟨#[]⟩, .int .i64 0, .int .i64 0, .int .i64 0]), (w.heap.size, #[.int .i64 k0, .int .i64 k1, .int .i64 k2, .int .i64 k3, .int .i64 k4, .int .i64 k5, .int .i64 k6])] w') (by kernel_rfl) (ALL1.out _ (HeldL.drew HS1.out)) (fun hHeld => ?_)
  refine wpAnyH_take (i := 0) (oi := { dst := some 4, op := Go.Op.fieldAddr 43 (Go.Operand.tmp 1) 0, type := 0, pos := "law.go:30", after := #[], guard := none }) (v := ?_) rfl (by kernel_rfl) (by kernel_rfl) (by kernel_rfl) (fun _ _ _ h => h) (Or.inl ⟨by rfl, ?_⟩) hHeld ?_
  case refine_2 => (intro w hSw; (try dsimp only at hSw); go_simp <;> with_reducible rfl)
  try simp only [Act.put, List.setIfInBounds_toArray, List.set_cons_zero, List.set_cons_succ]
  refine wpAnyH_take (i := 1) (oi := { dst := some 5, op := Go.Op.load 3 (Go.Operand.tmp 4), type := 3, pos := "law.go:30", after := #[{ on := 0, ground := Go.Ground.data }], guard := none }) (v := ?_) rfl (by kernel_rfl) (by kernel_rfl) (by kernel_rfl) (fun _ _ _ h => h) (Or.inl ⟨by rfl, ?_⟩) hHeld ?_
  case refine_2 => (intro w hSw; (try dsimp only at hSw); go_simp <;> with_reducible rfl)
  try simp only [Act.put, List.setIfInBounds_toArray, List.set_cons_zero, List.set_cons_succ]
  refine wpAnyH_take (i := 2) (oi := { dst := some 6, op := Go.Op.convert 3 62 (Go.Operand.tmp 5), type := 62, pos := "law.go:30", after := #[{ on := 1, ground := Go.Ground.data }], guard := none }) (v := ?_) rfl (by kernel_rfl) (by kernel_rfl) (by kernel_rfl) (fun _ _ _ h => h) (Or.inl ⟨by rfl, ?_⟩) hHeld ?_
  case refine_2 => (intro w hSw; (try dsimp only at hSw); go_simp <;> with_reducible rfl)
  try simp only [Act.put, List.setIfInBounds_toArray, List.set_cons_zero, List.set_cons_succ]
  refine wpAnyH_take (i := 3) (oi := { dst := some 7, op := Go.Op.binOp Go.BinOp.rem 62 (Go.Operand.tmp 6) (Go.Operand.const (Go.Value.int Go.IntKind.u64 3)) 62, type := 62, pos := "law.go:30", after := #[{ on := 2, ground := Go.Ground.data }], guard := none }) (v := ?_) rfl (by kernel_rfl) (by kernel_rfl) (by kernel_rfl) (fun _ _ _ h => h) (Or.inl ⟨by rfl, ?_⟩) hHeld ?_
  case refine_2 => (intro w hSw; (try dsimp only at hSw); go_simp <;> with_reducible rfl)
  try simp only [Act.put, List.setIfInBounds_toArray, List.set_cons_zero, List.set_cons_succ]
  refine wpAnyH_take (i := 4) (oi := { dst := some 8, op := Go.Op.convert 62 3 (Go.Operand.tmp 7), type := 3, pos := "law.go:30", after := #[{ on := 3, ground := Go.Ground.data }], guard := none }) (v := ?_) rfl (by kernel_rfl) (by kernel_rfl) (by kernel_rfl) (fun _ _ _ h => h) (Or.inl ⟨by rfl, ?_⟩) hHeld ?_
  case refine_2 => (intro w hSw; (try dsimp only at hSw); go_simp <;> with_reducible rfl)
  try simp only [Act.put, List.setIfInBounds_toArray, List.set_cons_zero, List.set_cons_succ]
  refine wpAnyH_take (i := 5) (oi := { dst := some 9, op := Go.Op.fieldAddr 43 (Go.Operand.tmp 1) 1, type := 0, pos := "law.go:30", after := #[], guard := none }) (v := ?_) rfl (by kernel_rfl) (by kernel_rfl) (by kernel_rfl) (fun _ _ _ h => h) (Or.inl ⟨by rfl, ?_⟩) hHeld ?_
  case refine_2 => (intro w hSw; (try dsimp only at hSw); go_simp <;> with_reducible rfl)
  try simp only [Act.put, List.setIfInBounds_toArray, List.set_cons_zero, List.set_cons_succ]
  refine wpAnyH_take (i := 6) (oi := { dst := some 10, op := Go.Op.load 3 (Go.Operand.tmp 9), type := 3, pos := "law.go:30", after := #[{ on := 5, ground := Go.Ground.data }], guard := none }) (v := ?_) rfl (by kernel_rfl) (by kernel_rfl) (by kernel_rfl) (fun _ _ _ h => h) (Or.inl ⟨by rfl, ?_⟩) hHeld ?_
  case refine_2 => (intro w hSw; (try dsimp only at hSw); go_simp <;> with_reducible rfl)
  try simp only [Act.put, List.setIfInBounds_toArray, List.set_cons_zero, List.set_cons_succ]
  refine wpAnyH_take (i := 7) (oi := { dst := some 11, op := Go.Op.binOp Go.BinOp.and 3 (Go.Operand.tmp 10) (Go.Operand.const (Go.Value.int Go.IntKind.i64 7)) 3, type := 3, pos := "law.go:30", after := #[{ on := 6, ground := Go.Ground.data }], guard := none }) (v := ?_) rfl (by kernel_rfl) (by kernel_rfl) (by kernel_rfl) (fun _ _ _ h => h) (Or.inl ⟨by rfl, ?_⟩) hHeld ?_
  case refine_2 => (intro w hSw; (try dsimp only at hSw); go_simp <;> with_reducible rfl)
  try simp only [Act.put, List.setIfInBounds_toArray, List.set_cons_zero, List.set_cons_succ]
  refine wpAnyH_take (i := 8) (oi := { dst := some 12, op := Go.Op.fieldAddr 43 (Go.Operand.tmp 1) 3, type := 0, pos := "law.go:30", after := #[], guard := none }) (v := ?_) rfl (by kernel_rfl) (by kernel_rfl) (by kernel_rfl) (fun _ _ _ h => h) (Or.inl ⟨by rfl, ?_⟩) hHeld ?_
  case refine_2 => (intro w hSw; (try dsimp only at hSw); go_simp <;> with_reducible rfl)
  try simp only [Act.put, List.setIfInBounds_toArray, List.set_cons_zero, List.set_cons_succ]
  refine wpAnyH_take (i := 9) (oi := { dst := some 13, op := Go.Op.load 3 (Go.Operand.tmp 12), type := 3, pos := "law.go:30", after := #[{ on := 8, ground := Go.Ground.data }], guard := none }) (v := ?_) rfl (by kernel_rfl) (by kernel_rfl) (by kernel_rfl) (fun _ _ _ h => h) (Or.inl ⟨by rfl, ?_⟩) hHeld ?_
  case refine_2 => (intro w hSw; (try dsimp only at hSw); go_simp <;> with_reducible rfl)
  try simp only [Act.put, List.setIfInBounds_toArray, List.set_cons_zero, List.set_cons_succ]
  refine wpAnyH_take (i := 11) (oi := { dst := some 15, op := Go.Op.fieldAddr 43 (Go.Operand.tmp 1) 4, type := 0, pos := "law.go:30", after := #[], guard := none }) (v := ?_) rfl (by kernel_rfl) (by kernel_rfl) (by kernel_rfl) (fun _ _ _ h => h) (Or.inl ⟨by rfl, ?_⟩) hHeld ?_
  case refine_2 => (intro w hSw; (try dsimp only at hSw); go_simp <;> with_reducible rfl)
  try simp only [Act.put, List.setIfInBounds_toArray, List.set_cons_zero, List.set_cons_succ]
  refine wpAnyH_take (i := 12) (oi := { dst := some 16, op := Go.Op.load 3 (Go.Operand.tmp 15), type := 3, pos := "law.go:30", after := #[{ on := 11, ground := Go.Ground.data }], guard := none }) (v := ?_) rfl (by kernel_rfl) (by kernel_rfl) (by kernel_rfl) (fun _ _ _ h => h) (Or.inl ⟨by rfl, ?_⟩) hHeld ?_
  case refine_2 => (intro w hSw; (try dsimp only at hSw); go_simp <;> with_reducible rfl)
  try simp only [Act.put, List.setIfInBounds_toArray, List.set_cons_zero, List.set_cons_succ]
  refine wpAnyH_take (i := 13) (oi := { dst := some 17, op := Go.Op.binOp Go.BinOp.and 3 (Go.Operand.tmp 16) (Go.Operand.const (Go.Value.int Go.IntKind.i64 7)) 3, type := 3, pos := "law.go:30", after := #[{ on := 12, ground := Go.Ground.data }], guard := none }) (v := ?_) rfl (by kernel_rfl) (by kernel_rfl) (by kernel_rfl) (fun _ _ _ h => h) (Or.inl ⟨by rfl, ?_⟩) hHeld ?_
  case refine_2 => (intro w hSw; (try dsimp only at hSw); go_simp <;> with_reducible rfl)
  try simp only [Act.put, List.setIfInBounds_toArray, List.set_cons_zero, List.set_cons_succ]
  have hH0 := hHeld
  refine wpAnyH_ready (rs := [10, 15]) (by kernel_rfl) (by simp) ?_
  refine AllReadyH.cons (o := { dst := some 14, op := Go.Op.call { callee := Go.Callee.value (Go.Operand.func 11), args := #[Go.Operand.tmp 13], argTypes := #[3] }, type := 27, pos := "law.go:30", after := #[{ on := 9, ground := Go.Ground.data }], guard := none }) rfl (fun KK hK => ?_) (AllReadyH.cons (o := { dst := some 3, op := Go.Op.alloc 46, type := 0, pos := "law.go:30", after := #[], guard := none }) rfl (fun KK hK => ?_) AllReadyH.nil)
  ·
    go_simp
    with_reducible refine (HM.out _).mono ?_
    rintro x wz ⟨rfl, rfl⟩
    go_wp2_with fail
    refine hK.out _ _ hHeld (fun _ => ?_)
    clear hK
    try simp only [Act.put, List.setIfInBounds_toArray, List.set_cons_zero, List.set_cons_succ]
    refine wpAnyH_take (i := 14) (oi := { dst := some 18, op := Go.Op.build 46 #[(0, Go.Operand.tmp 8), (1, Go.Operand.tmp 11), (4, Go.Operand.tmp 14), (5, Go.Operand.tmp 17)], type := 46, pos := "law.go:30", after := #[{ on := 4, ground := Go.Ground.data }, { on := 7, ground := Go.Ground.data }, { on := 10, ground := Go.Ground.data }, { on := 13, ground := Go.Ground.data }], guard := none }) (v := ?_) rfl (by kernel_rfl) (by kernel_rfl) (by kernel_rfl) (fun _ _ _ h => h) (Or.inl ⟨by rfl, ?_⟩) hHeld ?_
    case refine_2 => (intro w hSw; (try dsimp only at hSw); go_simp <;> with_reducible rfl)
    try simp only [Act.put, List.setIfInBounds_toArray, List.set_cons_zero, List.set_cons_succ]
    refine wpAnyH_ready (rs := [15]) (by kernel_rfl) (by simp) ?_
    refine AllReadyH.cons (o := { dst := some 3, op := Go.Op.alloc 46, type := 0, pos := "law.go:30", after := #[], guard := none }) rfl (fun KK hK => ?_) AllReadyH.nil
    go_simp
    refine hK.out _ _ (ALL1.out _ (HeldL.skip (hH0.2.2.2.2.2.2.2) _)) (fun hHeld2 => ?_)
    clear hK hHeld
    have hHeld := hHeld2
    clear hHeld2
    try simp only [Act.put, List.setIfInBounds_toArray, List.set_cons_zero, List.set_cons_succ]
    refine wpAnyH_ready (rs := [16]) (by kernel_rfl) (by simp) ?_
    refine AllReadyH.cons (o := { dst := none, op := Go.Op.store 46 (Go.Operand.tmp 3) (Go.Operand.tmp 18), type := 0, pos := "law.go:30", after := #[{ on := 15, ground := Go.Ground.data }, { on := 14, ground := Go.Ground.data }, { on := 10, ground := Go.Ground.chain }, { on := 0, ground := Go.Ground.phase }, { on := 1, ground := Go.Ground.phase }, { on := 2, ground := Go.Ground.phase }, { on := 3, ground := Go.Ground.phase }, { on := 4, ground := Go.Ground.phase }, { on := 5, ground := Go.Ground.phase }, { on := 6, ground := Go.Ground.phase }, { on := 7, ground := Go.Ground.phase }, { on := 8, ground := Go.Ground.phase }, { on := 9, ground := Go.Ground.phase }, { on := 10, ground := Go.Ground.phase }, { on := 11, ground := Go.Ground.phase }, { on := 12, ground := Go.Ground.phase }, { on := 13, ground := Go.Ground.phase }, { on := 14, ground := Go.Ground.phase }, { on := 15, ground := Go.Ground.phase }], guard := none }) rfl (fun KK hK => ?_) AllReadyH.nil
    go_simp
    refine hK.out _ _ (ALL1.out _ (HeldL.skip (hH0.2.2.2.2.2.2.2) _)) (fun hHeld2 => ?_)
    clear hK hHeld2
    try simp only [Act.put, List.setIfInBounds_toArray, List.set_cons_zero, List.set_cons_succ]
    refine wpAnyH_done (by kernel_rfl) ?_ _
    clear hHeld hH0 ALL1 HS1
    go_wp2
    exact bodyPost_ret (v := .agg #[.int .i64 0, .int .i64 j1, .int .i64 ((j1 : Int) + j2), .bool false, .string ⟨#[]⟩, .int .i64 0, .int .i64 M, .int .i64 j4]) (by simp [results, Tryz.results22, go_sem]) rfl ⟨rfl, (below_alloc3 w _ _ _).drew⟩
  ·
    go_simp
    refine hK.out _ _ (ALL1.out _ (HeldL.skip (hH0.2.2.2.2.2.2.2) _)) (fun hHeld2 => ?_)
    clear hK hHeld
    have hHeld := hHeld2
    clear hHeld2
    try simp only [Act.put, List.setIfInBounds_toArray, List.set_cons_zero, List.set_cons_succ]
    refine wpAnyH_ready (rs := [10]) (by kernel_rfl) (by simp) ?_
    refine AllReadyH.cons (o := { dst := some 14, op := Go.Op.call { callee := Go.Callee.value (Go.Operand.func 11), args := #[Go.Operand.tmp 13], argTypes := #[3] }, type := 27, pos := "law.go:30", after := #[{ on := 9, ground := Go.Ground.data }], guard := none }) rfl (fun KK hK => ?_) AllReadyH.nil
    go_simp
    with_reducible refine (HM.out _).mono ?_
    rintro x wz ⟨rfl, rfl⟩
    go_wp2_with fail
    refine hK.out _ _ hHeld (fun _ => ?_)
    clear hK
    try simp only [Act.put, List.setIfInBounds_toArray, List.set_cons_zero, List.set_cons_succ]
    refine wpAnyH_take (i := 14) (oi := { dst := some 18, op := Go.Op.build 46 #[(0, Go.Operand.tmp 8), (1, Go.Operand.tmp 11), (4, Go.Operand.tmp 14), (5, Go.Operand.tmp 17)], type := 46, pos := "law.go:30", after := #[{ on := 4, ground := Go.Ground.data }, { on := 7, ground := Go.Ground.data }, { on := 10, ground := Go.Ground.data }, { on := 13, ground := Go.Ground.data }], guard := none }) (v := ?_) rfl (by kernel_rfl) (by kernel_rfl) (by kernel_rfl) (fun _ _ _ h => h) (Or.inl ⟨by rfl, ?_⟩) hHeld ?_
    case refine_2 => (intro w hSw; (try dsimp only at hSw); go_simp <;> with_reducible rfl)
    try simp only [Act.put, List.setIfInBounds_toArray, List.set_cons_zero, List.set_cons_succ]
    refine wpAnyH_ready (rs := [16]) (by kernel_rfl) (by simp) ?_
    refine AllReadyH.cons (o := { dst := none, op := Go.Op.store 46 (Go.Operand.tmp 3) (Go.Operand.tmp 18), type := 0, pos := "law.go:30", after := #[{ on := 15, ground := Go.Ground.data }, { on := 14, ground := Go.Ground.data }, { on := 10, ground := Go.Ground.chain }, { on := 0, ground := Go.Ground.phase }, { on := 1, ground := Go.Ground.phase }, { on := 2, ground := Go.Ground.phase }, { on := 3, ground := Go.Ground.phase }, { on := 4, ground := Go.Ground.phase }, { on := 5, ground := Go.Ground.phase }, { on := 6, ground := Go.Ground.phase }, { on := 7, ground := Go.Ground.phase }, { on := 8, ground := Go.Ground.phase }, { on := 9, ground := Go.Ground.phase }, { on := 10, ground := Go.Ground.phase }, { on := 11, ground := Go.Ground.phase }, { on := 12, ground := Go.Ground.phase }, { on := 13, ground := Go.Ground.phase }, { on := 14, ground := Go.Ground.phase }, { on := 15, ground := Go.Ground.phase }], guard := none }) rfl (fun KK hK => ?_) AllReadyH.nil
    go_simp
    refine hK.out _ _ (ALL1.out _ (HeldL.skip (hH0.2.2.2.2.2.2.2) _)) (fun hHeld2 => ?_)
    clear hK hHeld2
    try simp only [Act.put, List.setIfInBounds_toArray, List.set_cons_zero, List.set_cons_succ]
    refine wpAnyH_done (by kernel_rfl) ?_ _
    clear hHeld hH0 ALL1 HS1
    go_wp2
    exact bodyPost_ret (v := .agg #[.int .i64 0, .int .i64 j1, .int .i64 ((j1 : Int) + j2), .bool false, .string ⟨#[]⟩, .int .i64 0, .int .i64 M, .int .i64 j4]) (by simp [results, Tryz.results22, go_sem]) rfl ⟨rfl, (below_alloc3 w _ _ _).drew⟩

set_option maxRecDepth 100000 in
set_option maxHeartbeats 6400000 in
theorem prec_1 (k0 k1 k2 k3 k4 k5 k6 : Int) (w : World) (hk : IntKind.i64.wrap ((IntKind.u64.wrap k0).tmod 3) = 1) (j1 j2 j4 : Nat) (hj1 : bits .and .i64 k1 7 = (j1 : Int)) (hj2 : bits .and .i64 k2 7 = (j2 : Int)) (hj4 : bits .and .i64 k4 7 = (j4 : Int)) (l1 : j1 ≤ 7) (l2 : j2 ≤ 7) (l4 : j4 ≤ 7) (M : Int) (hM : ∀ w : World, Calls Tryz.prog 11 #[.int .i64 k3] w fun x w' => x = .returned (.int .i64 M) ∧ w = w') (htab : Tab w) :
    Calls Tryz.prog 22 #[.agg #[.int .i64 k0, .int .i64 k1, .int .i64 k2, .int .i64 k3, .int .i64 k4, .int .i64 k5, .int .i64 k6]] w fun z w' => z = .returned (PV ⟨1, j1 + 1, j1 + 1 + j2, zero, M, j4⟩) ∧ Below w.heap.size w w' := by
  have HM := Lib.hid hM
  have HT := Lib.hid htab
  clear hM htab
  go_enter Tryz.func22, Tryz.ntmps22
  go_wp2_with fail
  have ALL1 : Hid (∀ w' : World, HeldL w [(w.heap.size + 1, #[.int .i64 0, .int .i64 0, .int .i64 0, .bool false, .string ⟨#[]⟩, .int .i64 0, .int .i64 0, .int .i64 0]), (w.heap.size, #[.int .i64 k0, .int .i64 k1, .int .i64 k2, .int .i64 k3, .int .i64 k4, .int .i64 k5, .int .i64 k6])] w' → w'.cell? ⟨w.heap.size, 0, none⟩ = some (.int .i64 k0) ∧ w'.cell? ⟨w.heap.size, 1, none⟩ = some (.int .i64 k1) ∧ w'.cell? ⟨w.heap.size, 2, none⟩ = some (.int .i64 k2) ∧ w'.cell? ⟨w.heap.size, 3, none⟩ = some (.int .i64 k3) ∧ w'.cell? ⟨w.heap.size, 4, none⟩ = some (.int .i64 k4) ∧ w'.cell? ⟨w.heap.size, 5, none⟩ = some (.int .i64 k5) ∧ w'.cell? ⟨w.heap.size, 6, none⟩ = some (.int .i64 k6) ∧ HeldL w [(w.heap.size + 1, #[.int .i64 0, .int .i64 0, .int .i64 0, .bool false, .string ⟨#[]⟩, .int .i64 0, .int .i64 0, .int .i64 0]), (w.heap.size, #[.int .i64 k0, .int .i64 k1, .int .i64 k2, .int .i64 k3, .int .i64 k4, .int .i64 k5, .int .i64 k6])] w') := Lib.hid (fun w' h => ⟨(h.f (List.Mem.tail _ (List.Mem.head _))).cell 0, (h.f (List.Mem.tail _ (List.Mem.head _))).cell 1, (h.f (List.Mem.tail _ (List.Mem.head _))).cell 2, (h.f (List.Mem.tail _ (List.Mem.head _))).cell 3, (h.f (List.Mem.tail _ (List.Mem.head _))).cell 4, (h.f (List.Mem.tail _ (List.Mem.head _))).cell 5, (h.f (List.Mem.tail _ (List.Mem.head _))).cell 6, h⟩)
  have HS1 : Hid (HeldL w [(w.heap.size + 1, #[.int .i64 0, .int .i64 0, .int .i64 0, .bool false, .string ⟨#[]⟩, .int .i64 0, .int .i64 0, .int .i64 0]), (w.heap.size, #[.int .i64 k0, .int .i64 k1, .int .i64 k2, .int .i64 k3, .int .i64 k4, .int .i64 k5, .int .i64 k6])] _) := Lib.hid (HeldL.alloc (HeldL.alloc (HeldL.refl w) (w.heap.size) #[.int .i64 k0, .int .i64 k1, .int .i64 k2, .int .i64 k3, .int .i64 k4, .int .i64 k5, .int .i64 k6] 43 (by simp)) (w.heap.size + 1) #[.int .i64 0, .int .i64 0, .int .i64 0, .bool false, .string ⟨#[]⟩, .int .i64 0, .int .i64 0, .int .i64 0] 46 (by simp))
  refine wp_region_held_drew (S := fun w' => w'.cell? ⟨w.heap.size, 0, none⟩ = some (.int .i64 k0) ∧ w'.cell? ⟨w.heap.size, 1, none⟩ = some (.int .i64 k1) ∧ w'.cell? ⟨w.heap.size, 2, none⟩ = some (.int .i64 k2) ∧ w'.cell? ⟨w.heap.size, 3, none⟩ = some (.int .i64 k3) ∧ w'.cell? ⟨w.heap.size, 4, none⟩ = some (.int .i64 k4) ∧ w'.cell? ⟨w.heap.size, 5, none⟩ = some (.int .i64 k5) ∧ w'.cell? ⟨w.heap.size, 6, none⟩ = some (.int .i64 k6) ∧ HeldL w [(w.heap.size + 1, #[.int .i64 0, .int .i64 0, .int .i64 0, .bool false, .string ⟨#[]⟩, .int .i64 0, .int .i64 0, .int .i64 0]), (w.heap.size, #[.int .i64 k0, .int .i64 k1, .int .i64 k2, .int .i64 k3, .int .i64 k4, .int .i64 k5, .int .i64 k6])] w') (by kernel_rfl) (ALL1.out _ (HeldL.drew HS1.out)) (fun hHeld => ?_)
  refine wpAnyH_take (i := 0) (oi := { dst := some 4, op := Go.Op.fieldAddr 43 (Go.Operand.tmp 1) 0, type := 0, pos := "law.go:30", after := #[], guard := none }) (v := ?_) rfl (by kernel_rfl) (by kernel_rfl) (by kernel_rfl) (fun _ _ _ h => h) (Or.inl ⟨by rfl, ?_⟩) hHeld ?_
  case refine_2 => (intro w hSw; (try dsimp only at hSw); go_simp <;> with_reducible rfl)
  try simp only [Act.put, List.setIfInBounds_toArray, List.set_cons_zero, List.set_cons_succ]
  refine wpAnyH_take (i := 1) (oi := { dst := some 5, op := Go.Op.load 3 (Go.Operand.tmp 4), type := 3, pos := "law.go:30", after := #[{ on := 0, ground := Go.Ground.data }], guard := none }) (v := ?_) rfl (by kernel_rfl) (by kernel_rfl) (by kernel_rfl) (fun _ _ _ h => h) (Or.inl ⟨by rfl, ?_⟩) hHeld ?_
  case refine_2 => (intro w hSw; (try dsimp only at hSw); go_simp <;> with_reducible rfl)
  try simp only [Act.put, List.setIfInBounds_toArray, List.set_cons_zero, List.set_cons_succ]
  refine wpAnyH_take (i := 2) (oi := { dst := some 6, op := Go.Op.convert 3 62 (Go.Operand.tmp 5), type := 62, pos := "law.go:30", after := #[{ on := 1, ground := Go.Ground.data }], guard := none }) (v := ?_) rfl (by kernel_rfl) (by kernel_rfl) (by kernel_rfl) (fun _ _ _ h => h) (Or.inl ⟨by rfl, ?_⟩) hHeld ?_
  case refine_2 => (intro w hSw; (try dsimp only at hSw); go_simp <;> with_reducible rfl)
  try simp only [Act.put, List.setIfInBounds_toArray, List.set_cons_zero, List.set_cons_succ]
  refine wpAnyH_take (i := 3) (oi := { dst := some 7, op := Go.Op.binOp Go.BinOp.rem 62 (Go.Operand.tmp 6) (Go.Operand.const (Go.Value.int Go.IntKind.u64 3)) 62, type := 62, pos := "law.go:30", after := #[{ on := 2, ground := Go.Ground.data }], guard := none }) (v := ?_) rfl (by kernel_rfl) (by kernel_rfl) (by kernel_rfl) (fun _ _ _ h => h) (Or.inl ⟨by rfl, ?_⟩) hHeld ?_
  case refine_2 => (intro w hSw; (try dsimp only at hSw); go_simp <;> with_reducible rfl)
  try simp only [Act.put, List.setIfInBounds_toArray, List.set_cons_zero, List.set_cons_succ]
  refine wpAnyH_take (i := 4) (oi := { dst := some 8, op := Go.Op.convert 62 3 (Go.Operand.tmp 7), type := 3, pos := "law.go:30", after := #[{ on := 3, ground := Go.Ground.data }], guard := none }) (v := ?_) rfl (by kernel_rfl) (by kernel_rfl) (by kernel_rfl) (fun _ _ _ h => h) (Or.inl ⟨by rfl, ?_⟩) hHeld ?_
  case refine_2 => (intro w hSw; (try dsimp only at hSw); go_simp <;> with_reducible rfl)
  try simp only [Act.put, List.setIfInBounds_toArray, List.set_cons_zero, List.set_cons_succ]
  refine wpAnyH_take (i := 5) (oi := { dst := some 9, op := Go.Op.fieldAddr 43 (Go.Operand.tmp 1) 1, type := 0, pos := "law.go:30", after := #[], guard := none }) (v := ?_) rfl (by kernel_rfl) (by kernel_rfl) (by kernel_rfl) (fun _ _ _ h => h) (Or.inl ⟨by rfl, ?_⟩) hHeld ?_
  case refine_2 => (intro w hSw; (try dsimp only at hSw); go_simp <;> with_reducible rfl)
  try simp only [Act.put, List.setIfInBounds_toArray, List.set_cons_zero, List.set_cons_succ]
  refine wpAnyH_take (i := 6) (oi := { dst := some 10, op := Go.Op.load 3 (Go.Operand.tmp 9), type := 3, pos := "law.go:30", after := #[{ on := 5, ground := Go.Ground.data }], guard := none }) (v := ?_) rfl (by kernel_rfl) (by kernel_rfl) (by kernel_rfl) (fun _ _ _ h => h) (Or.inl ⟨by rfl, ?_⟩) hHeld ?_
  case refine_2 => (intro w hSw; (try dsimp only at hSw); go_simp <;> with_reducible rfl)
  try simp only [Act.put, List.setIfInBounds_toArray, List.set_cons_zero, List.set_cons_succ]
  refine wpAnyH_take (i := 7) (oi := { dst := some 11, op := Go.Op.binOp Go.BinOp.and 3 (Go.Operand.tmp 10) (Go.Operand.const (Go.Value.int Go.IntKind.i64 7)) 3, type := 3, pos := "law.go:30", after := #[{ on := 6, ground := Go.Ground.data }], guard := none }) (v := ?_) rfl (by kernel_rfl) (by kernel_rfl) (by kernel_rfl) (fun _ _ _ h => h) (Or.inl ⟨by rfl, ?_⟩) hHeld ?_
  case refine_2 => (intro w hSw; (try dsimp only at hSw); go_simp <;> with_reducible rfl)
  try simp only [Act.put, List.setIfInBounds_toArray, List.set_cons_zero, List.set_cons_succ]
  refine wpAnyH_take (i := 8) (oi := { dst := some 12, op := Go.Op.fieldAddr 43 (Go.Operand.tmp 1) 3, type := 0, pos := "law.go:30", after := #[], guard := none }) (v := ?_) rfl (by kernel_rfl) (by kernel_rfl) (by kernel_rfl) (fun _ _ _ h => h) (Or.inl ⟨by rfl, ?_⟩) hHeld ?_
  case refine_2 => (intro w hSw; (try dsimp only at hSw); go_simp <;> with_reducible rfl)
  try simp only [Act.put, List.setIfInBounds_toArray, List.set_cons_zero, List.set_cons_succ]
  refine wpAnyH_take (i := 9) (oi := { dst := some 13, op := Go.Op.load 3 (Go.Operand.tmp 12), type := 3, pos := "law.go:30", after := #[{ on := 8, ground := Go.Ground.data }], guard := none }) (v := ?_) rfl (by kernel_rfl) (by kernel_rfl) (by kernel_rfl) (fun _ _ _ h => h) (Or.inl ⟨by rfl, ?_⟩) hHeld ?_
  case refine_2 => (intro w hSw; (try dsimp only at hSw); go_simp <;> with_reducible rfl)
  try simp only [Act.put, List.setIfInBounds_toArray, List.set_cons_zero, List.set_cons_succ]
  refine wpAnyH_take (i := 11) (oi := { dst := some 15, op := Go.Op.fieldAddr 43 (Go.Operand.tmp 1) 4, type := 0, pos := "law.go:30", after := #[], guard := none }) (v := ?_) rfl (by kernel_rfl) (by kernel_rfl) (by kernel_rfl) (fun _ _ _ h => h) (Or.inl ⟨by rfl, ?_⟩) hHeld ?_
  case refine_2 => (intro w hSw; (try dsimp only at hSw); go_simp <;> with_reducible rfl)
  try simp only [Act.put, List.setIfInBounds_toArray, List.set_cons_zero, List.set_cons_succ]
  refine wpAnyH_take (i := 12) (oi := { dst := some 16, op := Go.Op.load 3 (Go.Operand.tmp 15), type := 3, pos := "law.go:30", after := #[{ on := 11, ground := Go.Ground.data }], guard := none }) (v := ?_) rfl (by kernel_rfl) (by kernel_rfl) (by kernel_rfl) (fun _ _ _ h => h) (Or.inl ⟨by rfl, ?_⟩) hHeld ?_
  case refine_2 => (intro w hSw; (try dsimp only at hSw); go_simp <;> with_reducible rfl)
  try simp only [Act.put, List.setIfInBounds_toArray, List.set_cons_zero, List.set_cons_succ]
  refine wpAnyH_take (i := 13) (oi := { dst := some 17, op := Go.Op.binOp Go.BinOp.and 3 (Go.Operand.tmp 16) (Go.Operand.const (Go.Value.int Go.IntKind.i64 7)) 3, type := 3, pos := "law.go:30", after := #[{ on := 12, ground := Go.Ground.data }], guard := none }) (v := ?_) rfl (by kernel_rfl) (by kernel_rfl) (by kernel_rfl) (fun _ _ _ h => h) (Or.inl ⟨by rfl, ?_⟩) hHeld ?_
  case refine_2 => (intro w hSw; (try dsimp only at hSw); go_simp <;> with_reducible rfl)
  try simp only [Act.put, List.setIfInBounds_toArray, List.set_cons_zero, List.set_cons_succ]
  have hH0 := hHeld
  refine wpAnyH_ready (rs := [10, 15]) (by kernel_rfl) (by simp) ?_
  refine AllReadyH.cons (o := { dst := some 14, op := Go.Op.call { callee := Go.Callee.value (Go.Operand.func 11), args := #[Go.Operand.tmp 13], argTypes := #[3] }, type := 27, pos := "law.go:30", after := #[{ on := 9, ground := Go.Ground.data }], guard := none }) rfl (fun KK hK => ?_) (AllReadyH.cons (o := { dst := some 3, op := Go.Op.alloc 46, type := 0, pos := "law.go:30", after := #[], guard := none }) rfl (fun KK hK => ?_) AllReadyH.nil)
  ·
    go_simp
    with_reducible refine (HM.out _).mono ?_
    rintro x wz ⟨rfl, rfl⟩
    go_wp2_with fail
    refine hK.out _ _ hHeld (fun _ => ?_)
    clear hK
    try simp only [Act.put, List.setIfInBounds_toArray, List.set_cons_zero, List.set_cons_succ]
    refine wpAnyH_take (i := 14) (oi := { dst := some 18, op := Go.Op.build 46 #[(0, Go.Operand.tmp 8), (1, Go.Operand.tmp 11), (4, Go.Operand.tmp 14), (5, Go.Operand.tmp 17)], type := 46, pos := "law.go:30", after := #[{ on := 4, ground := Go.Ground.data }, { on := 7, ground := Go.Ground.data }, { on := 10, ground := Go.Ground.data }, { on := 13, ground := Go.Ground.data }], guard := none }) (v := ?_) rfl (by kernel_rfl) (by kernel_rfl) (by kernel_rfl) (fun _ _ _ h => h) (Or.inl ⟨by rfl, ?_⟩) hHeld ?_
    case refine_2 => (intro w hSw; (try dsimp only at hSw); go_simp <;> with_reducible rfl)
    try simp only [Act.put, List.setIfInBounds_toArray, List.set_cons_zero, List.set_cons_succ]
    refine wpAnyH_ready (rs := [15]) (by kernel_rfl) (by simp) ?_
    refine AllReadyH.cons (o := { dst := some 3, op := Go.Op.alloc 46, type := 0, pos := "law.go:30", after := #[], guard := none }) rfl (fun KK hK => ?_) AllReadyH.nil
    go_simp
    refine hK.out _ _ (ALL1.out _ (HeldL.skip (hH0.2.2.2.2.2.2.2) _)) (fun hHeld2 => ?_)
    clear hK hHeld
    have hHeld := hHeld2
    clear hHeld2
    try simp only [Act.put, List.setIfInBounds_toArray, List.set_cons_zero, List.set_cons_succ]
    refine wpAnyH_ready (rs := [16]) (by kernel_rfl) (by simp) ?_
    refine AllReadyH.cons (o := { dst := none, op := Go.Op.store 46 (Go.Operand.tmp 3) (Go.Operand.tmp 18), type := 0, pos := "law.go:30", after := #[{ on := 15, ground := Go.Ground.data }, { on := 14, ground := Go.Ground.data }, { on := 10, ground := Go.Ground.chain }, { on := 0, ground := Go.Ground.phase }, { on := 1, ground := Go.Ground.phase }, { on := 2, ground := Go.Ground.phase }, { on := 3, ground := Go.Ground.phase }, { on := 4, ground := Go.Ground.phase }, { on := 5, ground := Go.Ground.phase }, { on := 6, ground := Go.Ground.phase }, { on := 7, ground := Go.Ground.phase }, { on := 8, ground := Go.Ground.phase }, { on := 9, ground := Go.Ground.phase }, { on := 10, ground := Go.Ground.phase }, { on := 11, ground := Go.Ground.phase }, { on := 12, ground := Go.Ground.phase }, { on := 13, ground := Go.Ground.phase }, { on := 14, ground := Go.Ground.phase }, { on := 15, ground := Go.Ground.phase }], guard := none }) rfl (fun KK hK => ?_) AllReadyH.nil
    go_simp
    refine hK.out _ _ (ALL1.out _ (HeldL.skip (hH0.2.2.2.2.2.2.2) _)) (fun hHeld2 => ?_)
    clear hK hHeld2
    try simp only [Act.put, List.setIfInBounds_toArray, List.set_cons_zero, List.set_cons_succ]
    refine wpAnyH_done (by kernel_rfl) ?_ _
    clear hHeld hH0 ALL1 HS1
    go_wp2
    exact bodyPost_ret (v := .agg #[.int .i64 1, .int .i64 ((j1 : Int) + 1), .int .i64 ((j1 : Int) + 1 + j2), .bool false, .string ⟨#[]⟩, .int .i64 0, .int .i64 M, .int .i64 j4]) (by simp [results, Tryz.results22, go_sem]) rfl ⟨rfl, (below_alloc3 w _ _ _).drew⟩
  ·
    go_simp
    refine hK.out _ _ (ALL1.out _ (HeldL.skip (hH0.2.2.2.2.2.2.2) _)) (fun hHeld2 => ?_)
    clear hK hHeld
    have hHeld := hHeld2
    clear hHeld2
    try simp only [Act.put, List.setIfInBounds_toArray, List.set_cons_zero, List.set_cons_succ]
    refine wpAnyH_ready (rs := [10]) (by kernel_rfl) (by simp) ?_
    refine AllReadyH.cons (o := { dst := some 14, op := Go.Op.call { callee := Go.Callee.value (Go.Operand.func 11), args := #[Go.Operand.tmp 13], argTypes := #[3] }, type := 27, pos := "law.go:30", after := #[{ on := 9, ground := Go.Ground.data }], guard := none }) rfl (fun KK hK => ?_) AllReadyH.nil
    go_simp
    with_reducible refine (HM.out _).mono ?_
    rintro x wz ⟨rfl, rfl⟩
    go_wp2_with fail
    refine hK.out _ _ hHeld (fun _ => ?_)
    clear hK
    try simp only [Act.put, List.setIfInBounds_toArray, List.set_cons_zero, List.set_cons_succ]
    refine wpAnyH_take (i := 14) (oi := { dst := some 18, op := Go.Op.build 46 #[(0, Go.Operand.tmp 8), (1, Go.Operand.tmp 11), (4, Go.Operand.tmp 14), (5, Go.Operand.tmp 17)], type := 46, pos := "law.go:30", after := #[{ on := 4, ground := Go.Ground.data }, { on := 7, ground := Go.Ground.data }, { on := 10, ground := Go.Ground.data }, { on := 13, ground := Go.Ground.data }], guard := none }) (v := ?_) rfl (by kernel_rfl) (by kernel_rfl) (by kernel_rfl) (fun _ _ _ h => h) (Or.inl ⟨by rfl, ?_⟩) hHeld ?_
    case refine_2 => (intro w hSw; (try dsimp only at hSw); go_simp <;> with_reducible rfl)
    try simp only [Act.put, List.setIfInBounds_toArray, List.set_cons_zero, List.set_cons_succ]
    refine wpAnyH_ready (rs := [16]) (by kernel_rfl) (by simp) ?_
    refine AllReadyH.cons (o := { dst := none, op := Go.Op.store 46 (Go.Operand.tmp 3) (Go.Operand.tmp 18), type := 0, pos := "law.go:30", after := #[{ on := 15, ground := Go.Ground.data }, { on := 14, ground := Go.Ground.data }, { on := 10, ground := Go.Ground.chain }, { on := 0, ground := Go.Ground.phase }, { on := 1, ground := Go.Ground.phase }, { on := 2, ground := Go.Ground.phase }, { on := 3, ground := Go.Ground.phase }, { on := 4, ground := Go.Ground.phase }, { on := 5, ground := Go.Ground.phase }, { on := 6, ground := Go.Ground.phase }, { on := 7, ground := Go.Ground.phase }, { on := 8, ground := Go.Ground.phase }, { on := 9, ground := Go.Ground.phase }, { on := 10, ground := Go.Ground.phase }, { on := 11, ground := Go.Ground.phase }, { on := 12, ground := Go.Ground.phase }, { on := 13, ground := Go.Ground.phase }, { on := 14, ground := Go.Ground.phase }, { on := 15, ground := Go.Ground.phase }], guard := none }) rfl (fun KK hK => ?_) AllReadyH.nil
    go_simp
    refine hK.out _ _ (ALL1.out _ (HeldL.skip (hH0.2.2.2.2.2.2.2) _)) (fun hHeld2 => ?_)
    clear hK hHeld2
    try simp only [Act.put, List.setIfInBounds_toArray, List.set_cons_zero, List.set_cons_succ]
    refine wpAnyH_done (by kernel_rfl) ?_ _
    clear hHeld hH0 ALL1 HS1
    go_wp2
    exact bodyPost_ret (v := .agg #[.int .i64 1, .int .i64 ((j1 : Int) + 1), .int .i64 ((j1 : Int) + 1 + j2), .bool false, .string ⟨#[]⟩, .int .i64 0, .int .i64 M, .int .i64 j4]) (by simp [results, Tryz.results22, go_sem]) rfl ⟨rfl, (below_alloc3 w _ _ _).drew⟩

set_option maxRecDepth 100000 in
set_option maxHeartbeats 6400000 in
theorem prec_2 (k0 k1 k2 k3 k4 k5 k6 : Int) (w : World) (hk : IntKind.i64.wrap ((IntKind.u64.wrap k0).tmod 3) = 2) (j1 j2 j4 : Nat) (hj1 : bits .and .i64 k1 7 = (j1 : Int)) (hj2 : bits .and .i64 k2 7 = (j2 : Int)) (hj4 : bits .and .i64 k4 7 = (j4 : Int)) (l1 : j1 ≤ 7) (l2 : j2 ≤ 7) (l4 : j4 ≤ 7) (M : Int) (hM : ∀ w : World, Calls Tryz.prog 11 #[.int .i64 k3] w fun x w' => x = .returned (.int .i64 M) ∧ w = w') (htab : Tab w) (j5 : Nat) (hj5 : bits .and .i64 k5 65535 = (j5 : Int)) (l5 : j5 ≤ 65535) (t1 : -3 ≤ k6.tmod 4) (t2 : k6.tmod 4 ≤ 3) (g : Tri) (hg : made false (dig (j5 + 1)) (k6.tmod 4 - 3) = g) :
    Calls Tryz.prog 22 #[.agg #[.int .i64 k0, .int .i64 k1, .int .i64 k2, .int .i64 k3, .int .i64 k4, .int .i64 k5, .int .i64 k6]] w fun z w' => z = .returned (PV ⟨2, j1, j1 + j2, g, M, j4⟩) ∧ Below w.heap.size w w' := by
  have HM := Lib.hid hM
  have HT := Lib.hid htab
  have HG := Lib.hid hg
  clear hM htab hg
  have dl : (dig (j5 + 1)).length ≤ 1000000 := by have := (dig_length_le (j5 + 1) 6).2 (Nat.lt_of_le_of_lt (show j5 + 1 ≤ 65536 by omega) (by decide)); omega
  have hw5 : IntKind.i64.wrap (1 + (j5 : Int)) = ((j5 + 1 : Nat) : Int) := by rw [IntKind.wrap_i64]; omega
  have hw6 : IntKind.i64.wrap (k6.tmod 4 - 3) = k6.tmod 4 - 3 := by rw [IntKind.wrap_i64]; omega
  have HW5 := Lib.hid hw5
  go_enter Tryz.func22, Tryz.ntmps22
  go_wp2_with fail
  have ALL1 : Hid (∀ w' : World, HeldL w [(w.heap.size + 1, #[.int .i64 0, .int .i64 0, .int .i64 0, .bool false, .string ⟨#[]⟩, .int .i64 0, .int .i64 0, .int .i64 0]), (w.heap.size, #[.int .i64 k0, .int .i64 k1, .int .i64 k2, .int .i64 k3, .int .i64 k4, .int .i64 k5, .int .i64 k6])] w' → w'.cell? ⟨w.heap.size, 0, none⟩ = some (.int .i64 k0) ∧ w'.cell? ⟨w.heap.size, 1, none⟩ = some (.int .i64 k1) ∧ w'.cell? ⟨w.heap.size, 2, none⟩ = some (.int .i64 k2) ∧ w'.cell? ⟨w.heap.size, 3, none⟩ = some (.int .i64 k3) ∧ w'.cell? ⟨w.heap.size, 4, none⟩ = some (.int .i64 k4) ∧ w'.cell? ⟨w.heap.size, 5, none⟩ = some (.int .i64 k5) ∧ w'.cell? ⟨w.heap.size, 6, none⟩ = some (.int .i64 k6) ∧ HeldL w [(w.heap.size + 1, #[.int .i64 0, .int .i64 0, .int .i64 0, .bool false, .string ⟨#[]⟩, .int .i64 0, .int .i64 0, .int .i64 0]), (w.heap.size, #[.int .i64 k0, .int .i64 k1, .int .i64 k2, .int .i64 k3, .int .i64 k4, .int .i64 k5, .int .i64 k6])] w') := Lib.hid (fun w' h => ⟨(h.f (List.Mem.tail _ (List.Mem.head _))).cell 0, (h.f (List.Mem.tail _ (List.Mem.head _))).cell 1, (h.f (List.Mem.tail _ (List.Mem.head _))).cell 2, (h.f (List.Mem.tail _ (List.Mem.head _))).cell 3, (h.f (List.Mem.tail _ (List.Mem.head _))).cell 4, (h.f (List.Mem.tail _ (List.Mem.head _))).cell 5, (h.f (List.Mem.tail _ (List.Mem.head _))).cell 6, h⟩)
  have HS1 : Hid (HeldL w [(w.heap.size + 1, #[.int .i64 0, .int .i64 0, .int .i64 0, .bool false, .string ⟨#[]⟩, .int .i64 0, .int .i64 0, .int .i64 0]), (w.heap.size, #[.int .i64 k0, .int .i64 k1, .int .i64 k2, .int .i64 k3, .int .i64 k4, .int .i64 k5, .int .i64 k6])] _) := Lib.hid (HeldL.alloc (HeldL.alloc (HeldL.refl w) (w.heap.size) #[.int .i64 k0, .int .i64 k1, .int .i64 k2, .int .i64 k3, .int .i64 k4, .int .i64 k5, .int .i64 k6] 43 (by simp)) (w.heap.size + 1) #[.int .i64 0, .int .i64 0, .int .i64 0, .bool false, .string ⟨#[]⟩, .int .i64 0, .int .i64 0, .int .i64 0] 46 (by simp))
  refine wp_region_held_drew (S := fun w' => w'.cell? ⟨w.heap.size, 0, none⟩ = some (.int .i64 k0) ∧ w'.cell? ⟨w.heap.size, 1, none⟩ = some (.int .i64 k1) ∧ w'.cell? ⟨w.heap.size, 2, none⟩ = some (.int .i64 k2) ∧ w'.cell? ⟨w.heap.size, 3, none⟩ = some (.int .i64 k3) ∧ w'.cell? ⟨w.heap.size, 4, none⟩ = some (.int .i64 k4) ∧ w'.cell? ⟨w.heap.size, 5, none⟩ = some (.int .i64 k5) ∧ w'.cell? ⟨w.heap.size, 6, none⟩ = some (.int .i64 k6) ∧ HeldL w [(w.heap.size + 1, #[.int .i64 0, .int .i64 0, .int .i64 0, .bool false, .string ⟨#[]⟩, .int .i64 0, .int .i64 0, .int .i64 0]), (w.heap.size, #[.int .i64 k0, .int .i64 k1, .int .i64 k2, .int .i64 k3, .int .i64 k4, .int .i64 k5, .int .i64 k6])] w') (by kernel_rfl) (ALL1.out _ (HeldL.drew HS1.out)) (fun hHeld => ?_)
  refine wpAnyH_take (i := 0) (oi := { dst := some 4, op := Go.Op.fieldAddr 43 (Go.Operand.tmp 1) 0, type := 0, pos := "law.go:30", after := #[], guard := none }) (v := ?_) rfl (by kernel_rfl) (by kernel_rfl) (by kernel_rfl) (fun _ _ _ h => h) (Or.inl ⟨by rfl, ?_⟩) hHeld ?_
  case refine_2 => (intro w hSw; (try dsimp only at hSw); go_simp <;> with_reducible rfl)
  try simp only [Act.put, List.setIfInBounds_toArray, List.set_cons_zero, List.set_cons_succ]
  refine wpAnyH_take (i := 1) (oi := { dst := some 5, op := Go.Op.load 3 (Go.Operand.tmp 4), type := 3, pos := "law.go:30", after := #[{ on := 0, ground := Go.Ground.data }], guard := none }) (v := ?_) rfl (by kernel_rfl) (by kernel_rfl) (by kernel_rfl) (fun _ _ _ h => h) (Or.inl ⟨by rfl, ?_⟩) hHeld ?_
  case refine_2 => (intro w hSw; (try dsimp only at hSw); go_simp <;> with_reducible rfl)
  try simp only [Act.put, List.setIfInBounds_toArray, List.set_cons_zero, List.set_cons_succ]
  refine wpAnyH_take (i := 2) (oi := { dst := some 6, op := Go.Op.convert 3 62 (Go.Operand.tmp 5), type := 62, pos := "law.go:30", after := #[{ on := 1, ground := Go.Ground.data }], guard := none }) (v := ?_) rfl (by kernel_rfl) (by kernel_rfl) (by kernel_rfl) (fun _ _ _ h => h) (Or.inl ⟨by rfl, ?_⟩) hHeld ?_
  case refine_2 => (intro w hSw; (try dsimp only at hSw); go_simp <;> with_reducible rfl)
  try simp only [Act.put, List.setIfInBounds_toArray, List.set_cons_zero, List.set_cons_succ]
  refine wpAnyH_take (i := 3) (oi := { dst := some 7, op := Go.Op.binOp Go.BinOp.rem 62 (Go.Operand.tmp 6) (Go.Operand.const (Go.Value.int Go.IntKind.u64 3)) 62, type := 62, pos := "law.go:30", after := #[{ on := 2, ground := Go.Ground.data }], guard := none }) (v := ?_) rfl (by kernel_rfl) (by kernel_rfl) (by kernel_rfl) (fun _ _ _ h => h) (Or.inl ⟨by rfl, ?_⟩) hHeld ?_
  case refine_2 => (intro w hSw; (try dsimp only at hSw); go_simp <;> with_reducible rfl)
  try simp only [Act.put, List.setIfInBounds_toArray, List.set_cons_zero, List.set_cons_succ]
  refine wpAnyH_take (i := 4) (oi := { dst := some 8, op := Go.Op.convert 62 3 (Go.Operand.tmp 7), type := 3, pos := "law.go:30", after := #[{ on := 3, ground := Go.Ground.data }], guard := none }) (v := ?_) rfl (by kernel_rfl) (by kernel_rfl) (by kernel_rfl) (fun _ _ _ h => h) (Or.inl ⟨by rfl, ?_⟩) hHeld ?_
  case refine_2 => (intro w hSw; (try dsimp only at hSw); go_simp <;> with_reducible rfl)
  try simp only [Act.put, List.setIfInBounds_toArray, List.set_cons_zero, List.set_cons_succ]
  refine wpAnyH_take (i := 5) (oi := { dst := some 9, op := Go.Op.fieldAddr 43 (Go.Operand.tmp 1) 1, type := 0, pos := "law.go:30", after := #[], guard := none }) (v := ?_) rfl (by kernel_rfl) (by kernel_rfl) (by kernel_rfl) (fun _ _ _ h => h) (Or.inl ⟨by rfl, ?_⟩) hHeld ?_
  case refine_2 => (intro w hSw; (try dsimp only at hSw); go_simp <;> with_reducible rfl)
  try simp only [Act.put, List.setIfInBounds_toArray, List.set_cons_zero, List.set_cons_succ]
  refine wpAnyH_take (i := 6) (oi := { dst := some 10, op := Go.Op.load 3 (Go.Operand.tmp 9), type := 3, pos := "law.go:30", after := #[{ on := 5, ground := Go.Ground.data }], guard := none }) (v := ?_) rfl (by kernel_rfl) (by kernel_rfl) (by kernel_rfl) (fun _ _ _ h => h) (Or.inl ⟨by rfl, ?_⟩) hHeld ?_
  case refine_2 => (intro w hSw; (try dsimp only at hSw); go_simp <;> with_reducible rfl)
  try simp only [Act.put, List.setIfInBounds_toArray, List.set_cons_zero, List.set_cons_succ]
  refine wpAnyH_take (i := 7) (oi := { dst := some 11, op := Go.Op.binOp Go.BinOp.and 3 (Go.Operand.tmp 10) (Go.Operand.const (Go.Value.int Go.IntKind.i64 7)) 3, type := 3, pos := "law.go:30", after := #[{ on := 6, ground := Go.Ground.data }], guard := none }) (v := ?_) rfl (by kernel_rfl) (by kernel_rfl) (by kernel_rfl) (fun _ _ _ h => h) (Or.inl ⟨by rfl, ?_⟩) hHeld ?_
  case refine_2 => (intro w hSw; (try dsimp only at hSw); go_simp <;> with_reducible rfl)
  try simp only [Act.put, List.setIfInBounds_toArray, List.set_cons_zero, List.set_cons_succ]
  refine wpAnyH_take (i := 8) (oi := { dst := some 12, op := Go.Op.fieldAddr 43 (Go.Operand.tmp 1) 3, type := 0, pos := "law.go:30", after := #[], guard := none }) (v := ?_) rfl (by kernel_rfl) (by kernel_rfl) (by kernel_rfl) (fun _ _ _ h => h) (Or.inl ⟨by rfl, ?_⟩) hHeld ?_
  case refine_2 => (intro w hSw; (try dsimp only at hSw); go_simp <;> with_reducible rfl)
  try simp only [Act.put, List.setIfInBounds_toArray, List.set_cons_zero, List.set_cons_succ]
  refine wpAnyH_take (i := 9) (oi := { dst := some 13, op := Go.Op.load 3 (Go.Operand.tmp 12), type := 3, pos := "law.go:30", after := #[{ on := 8, ground := Go.Ground.data }], guard := none }) (v := ?_) rfl (by kernel_rfl) (by kernel_rfl) (by kernel_rfl) (fun _ _ _ h => h) (Or.inl ⟨by rfl, ?_⟩) hHeld ?_
  case refine_2 => (intro w hSw; (try dsimp only at hSw); go_simp <;> with_reducible rfl)
  try simp only [Act.put, List.setIfInBounds_toArray, List.set_cons_zero, List.set_cons_succ]
  refine wpAnyH_take (i := 11) (oi := { dst := some 15, op := Go.Op.fieldAddr 43 (Go.Operand.tmp 1) 4, type := 0, pos := "law.go:30", after := #[], guard := none }) (v := ?_) rfl (by kernel_rfl) (by kernel_rfl) (by kernel_rfl) (fun _ _ _ h => h) (Or.inl ⟨by rfl, ?_⟩) hHeld ?_
  case refine_2 => (intro w hSw; (try dsimp only at hSw); go_simp <;> with_reducible rfl)
  try simp only [Act.put, List.setIfInBounds_toArray, List.set_cons_zero, List.set_cons_succ]
  refine wpAnyH_take (i := 12) (oi := { dst := some 16, op := Go.Op.load 3 (Go.Operand.tmp 15), type := 3, pos := "law.go:30", after := #[{ on := 11, ground := Go.Ground.data }], guard := none }) (v := ?_) rfl (by kernel_rfl) (by kernel_rfl) (by kernel_rfl) (fun _ _ _ h => h) (Or.inl ⟨by rfl, ?_⟩) hHeld ?_
  case refine_2 => (intro w hSw; (try dsimp only at hSw); go_simp <;> with_reducible rfl)
  try simp only [Act.put, List.setIfInBounds_toArray, List.set_cons_zero, List.set_cons_succ]
  refine wpAnyH_take (i := 13) (oi := { dst := some 17, op := Go.Op.binOp Go.BinOp.and 3 (Go.Operand.tmp 16) (Go.Operand.const (Go.Value.int Go.IntKind.i64 7)) 3, type := 3, pos := "law.go:30", after := #[{ on := 12, ground := Go.Ground.data }], guard := none }) (v := ?_) rfl (by kernel_rfl) (by kernel_rfl) (by kernel_rfl) (fun _ _ _ h => h) (Or.inl ⟨by rfl, ?_⟩) hHeld ?_
  case refine_2 => (intro w hSw; (try dsimp only at hSw); go_simp <;> with_reducible rfl)
  try simp only [Act.put, List.setIfInBounds_toArray, List.set_cons_zero, List.set_cons_succ]
  have hH0 := hHeld
  refine wpAnyH_ready (rs := [10, 15]) (by kernel_rfl) (by simp) ?_
  refine AllReadyH.cons (o := { dst := some 14, op := Go.Op.call { callee := Go.Callee.value (Go.Operand.func 11), args := #[Go.Operand.tmp 13], argTypes := #[3] }, type := 27, pos := "law.go:30", after := #[{ on := 9, ground := Go.Ground.data }], guard := none }) rfl (fun KK hK => ?_) (AllReadyH.cons (o := { dst := some 3, op := Go.Op.alloc 46, type := 0, pos := "law.go:30", after := #[], guard := none }) rfl (fun KK hK => ?_) AllReadyH.nil)
  ·
    go_simp
    with_reducible refine (HM.out _).mono ?_
    rintro x wz ⟨rfl, rfl⟩
    go_wp2_with fail
    refine hK.out _ _ hHeld (fun _ => ?_)
    clear hK
    try simp only [Act.put, List.setIfInBounds_toArray, List.set_cons_zero, List.set_cons_succ]
    refine wpAnyH_take (i := 14) (oi := { dst := some 18, op := Go.Op.build 46 #[(0, Go.Operand.tmp 8), (1, Go.Operand.tmp 11), (4, Go.Operand.tmp 14), (5, Go.Operand.tmp 17)], type := 46, pos := "law.go:30", after := #[{ on := 4, ground := Go.Ground.data }, { on := 7, ground := Go.Ground.data }, { on := 10, ground := Go.Ground.data }, { on := 13, ground := Go.Ground.data }], guard := none }) (v := ?_) rfl (by kernel_rfl) (by kernel_rfl) (by kernel_rfl) (fun _ _ _ h => h) (Or.inl ⟨by rfl, ?_⟩) hHeld ?_
    case refine_2 => (intro w hSw; (try dsimp only at hSw); go_simp <;> with_reducible rfl)
    try simp only [Act.put, List.setIfInBounds_toArray, List.set_cons_zero, List.set_cons_succ]
    refine wpAnyH_ready (rs := [15]) (by kernel_rfl) (by simp) ?_
    refine AllReadyH.cons (o := { dst := some 3, op := Go.Op.alloc 46, type := 0, pos := "law.go:30", after := #[], guard := none }) rfl (fun KK hK => ?_) AllReadyH.nil
    go_simp
    refine hK.out _ _ (ALL1.out _ (HeldL.skip (hH0.2.2.2.2.2.2.2) _)) (fun hHeld2 => ?_)
    clear hK hHeld
    have hHeld := hHeld2
    clear hHeld2
    try simp only [Act.put, List.setIfInBounds_toArray, List.set_cons_zero, List.set_cons_succ]
    refine wpAnyH_ready (rs := [16]) (by kernel_rfl) (by simp) ?_
    refine AllReadyH.cons (o := { dst := none, op := Go.Op.store 46 (Go.Operand.tmp 3) (Go.Operand.tmp 18), type := 0, pos := "law.go:30", after := #[{ on := 15, ground := Go.Ground.data }, { on := 14, ground := Go.Ground.data }, { on := 10, ground := Go.Ground.chain }, { on := 0, ground := Go.Ground.phase }, { on := 1, ground := Go.Ground.phase }, { on := 2, ground := Go.Ground.phase }, { on := 3, ground := Go.Ground.phase }, { on := 4, ground := Go.Ground.phase }, { on := 5, ground := Go.Ground.phase }, { on := 6, ground := Go.Ground.phase }, { on := 7, ground := Go.Ground.phase }, { on := 8, ground := Go.Ground.phase }, { on := 9, ground := Go.Ground.phase }, { on := 10, ground := Go.Ground.phase }, { on := 11, ground := Go.Ground.phase }, { on := 12, ground := Go.Ground.phase }, { on := 13, ground := Go.Ground.phase }, { on := 14, ground := Go.Ground.phase }, { on := 15, ground := Go.Ground.phase }], guard := none }) rfl (fun KK hK => ?_) AllReadyH.nil
    go_simp
    refine hK.out _ _ (ALL1.out _ (HeldL.skip (hH0.2.2.2.2.2.2.2) _)) (fun hHeld2 => ?_)
    clear hK hHeld2
    try simp only [Act.put, List.setIfInBounds_toArray, List.set_cons_zero, List.set_cons_succ]
    refine wpAnyH_done (by kernel_rfl) ?_ _
    clear hHeld hH0 ALL1 HS1
    go_wp2_with fail
    have H2 : Hid (HeldL w [(w.heap.size + 1 + 1, #[.int .i64 2, .int .i64 j1, .int .i64 ((j1 : Int) + j2), .bool false, .string ⟨#[]⟩, .int .i64 0, .int .i64 M, .int .i64 j4]), (w.heap.size + 1, #[.int .i64 0, .int .i64 0, .int .i64 0, .bool false, .string ⟨#[]⟩, .int .i64 0, .int .i64 0, .int .i64 0]), (w.heap.size, #[.int .i64 k0, .int .i64 k1, .int .i64 k2, .int .i64 k3, .int .i64 k4, .int .i64 k5, .int .i64 k6])] ((((w.alloc (.cells #[.int .i64 k0, .int .i64 k1, .int .i64 k2, .int .i64 k3, .int .i64 k4, .int .i64 k5, .int .i64 k6] 43)).alloc (.cells #[.int .i64 0, .int .i64 0, .int .i64 0, .bool false, .string ⟨#[]⟩, .int .i64 0, .int .i64 0, .int .i64 0] 46)).alloc (.cells #[.int .i64 2, .int .i64 j1, .int .i64 ((j1 : Int) + j2), .bool false, .string ⟨#[]⟩, .int .i64 0, .int .i64 M, .int .i64 j4] 46)).drew)) := Lib.hid (HeldL.drew (HeldL.alloc (HeldL.alloc (HeldL.alloc (HeldL.refl w) _ _ _ rfl) _ _ _ (by simp)) _ _ _ (by simp)))
    generalize (((w.alloc (.cells #[.int .i64 k0, .int .i64 k1, .int .i64 k2, .int .i64 k3, .int .i64 k4, .int .i64 k5, .int .i64 k6] 43)).alloc (.cells #[.int .i64 0, .int .i64 0, .int .i64 0, .bool false, .string ⟨#[]⟩, .int .i64 0, .int .i64 0, .int .i64 0] 46)).alloc (.cells #[.int .i64 2, .int .i64 j1, .int .i64 ((j1 : Int) + j2), .bool false, .string ⟨#[]⟩, .int .i64 0, .int .i64 M, .int .i64 j4] 46)).drew = w2 at *
    have q0 : w2.cell? ⟨w.heap.size, 0, none⟩ = some (.int .i64 k0) := (H2.out.f (List.Mem.tail _ (List.Mem.tail _ (List.Mem.head _)))).cell 0
    have q1 : w2.cell? ⟨w.heap.size, 1, none⟩ = some (.int .i64 k1) := (H2.out.f (List.Mem.tail _ (List.Mem.tail _ (List.Mem.head _)))).cell 1
    have q2 : w2.cell? ⟨w.heap.size, 2, none⟩ = some (.int .i64 k2) := (H2.out.f (List.Mem.tail _ (List.Mem.tail _ (List.Mem.head _)))).cell 2
    have q3 : w2.cell? ⟨w.heap.size, 3, none⟩ = some (.int .i64 k3) := (H2.out.f (List.Mem.tail _ (List.Mem.tail _ (List.Mem.head _)))).cell 3
    have q4 : w2.cell? ⟨w.heap.size, 4, none⟩ = some (.int .i64 k4) := (H2.out.f (List.Mem.tail _ (List.Mem.tail _ (List.Mem.head _)))).cell 4
    have q5 : w2.cell? ⟨w.heap.size, 5, none⟩ = some (.int .i64 k5) := (H2.out.f (List.Mem.tail _ (List.Mem.tail _ (List.Mem.head _)))).cell 5
    have q6 : w2.cell? ⟨w.heap.size, 6, none⟩ = some (.int .i64 k6) := (H2.out.f (List.Mem.tail _ (List.Mem.tail _ (List.Mem.head _)))).cell 6
    have ql : w.heap.size < w2.heap.size := (H2.out.f (List.Mem.tail _ (List.Mem.tail _ (List.Mem.head _)))).lt
    have p0 : w2.cell? ⟨w.heap.size + 1 + 1, 0, none⟩ = some (.int .i64 2) := (H2.out.f (List.Mem.head _)).cell 0
    have pz0 : w2.frozen? ⟨w.heap.size + 1 + 1, 0, none⟩ = false := (H2.out.f (List.Mem.head _)).frozen 0
    have p1 : w2.cell? ⟨w.heap.size + 1 + 1, 1, none⟩ = some (.int .i64 j1) := (H2.out.f (List.Mem.head _)).cell 1
    have pz1 : w2.frozen? ⟨w.heap.size + 1 + 1, 1, none⟩ = false := (H2.out.f (List.Mem.head _)).frozen 1
    have p2 : w2.cell? ⟨w.heap.size + 1 + 1, 2, none⟩ = some (.int .i64 ((j1 : Int) + j2)) := (H2.out.f (List.Mem.head _)).cell 2
    have pz2 : w2.frozen? ⟨w.heap.size + 1 + 1, 2, none⟩ = false := (H2.out.f (List.Mem.head _)).frozen 2
    have p3 : w2.cell? ⟨w.heap.size + 1 + 1, 3, none⟩ = some (.bool false) := (H2.out.f (List.Mem.head _)).cell 3
    have pz3 : w2.frozen? ⟨w.heap.size + 1 + 1, 3, none⟩ = false := (H2.out.f (List.Mem.head _)).frozen 3
    have p4 : w2.cell? ⟨w.heap.size + 1 + 1, 4, none⟩ = some (.string ⟨#[]⟩) := (H2.out.f (List.Mem.head _)).cell 4
    have pz4 : w2.frozen? ⟨w.heap.size + 1 + 1, 4, none⟩ = false := (H2.out.f (List.Mem.head _)).frozen 4
    have p5 : w2.cell? ⟨w.heap.size + 1 + 1, 5, none⟩ = some (.int .i64 0) := (H2.out.f (List.Mem.head _)).cell 5
    have pz5 : w2.frozen? ⟨w.heap.size + 1 + 1, 5, none⟩ = false := (H2.out.f (List.Mem.head _)).frozen 5
    have p6 : w2.cell? ⟨w.heap.size + 1 + 1, 6, none⟩ = some (.int .i64 M) := (H2.out.f (List.Mem.head _)).cell 6
    have pz6 : w2.frozen? ⟨w.heap.size + 1 + 1, 6, none⟩ = false := (H2.out.f (List.Mem.head _)).frozen 6
    have p7 : w2.cell? ⟨w.heap.size + 1 + 1, 7, none⟩ = some (.int .i64 j4) := (H2.out.f (List.Mem.head _)).cell 7
    have pz7 : w2.frozen? ⟨w.heap.size + 1 + 1, 7, none⟩ = false := (H2.out.f (List.Mem.head _)).frozen 7
    have pl : w.heap.size + 1 + 1 < w2.heap.size := (H2.out.f (List.Mem.head _)).lt
    have r0 : w2.cell? ⟨w.heap.size + 1, 0, none⟩ = some (.int .i64 0) := (H2.out.f (List.Mem.tail _ (List.Mem.head _))).cell 0
    have rz0 : w2.frozen? ⟨w.heap.size + 1, 0, none⟩ = false := (H2.out.f (List.Mem.tail _ (List.Mem.head _))).frozen 0
    have r1 : w2.cell? ⟨w.heap.size + 1, 1, none⟩ = some (.int .i64 0) := (H2.out.f (List.Mem.tail _ (List.Mem.head _))).cell 1
    have rz1 : w2.frozen? ⟨w.heap.size + 1, 1, none⟩ = false := (H2.out.f (List.Mem.tail _ (List.Mem.head _))).frozen 1
    have r2 : w2.cell? ⟨w.heap.size + 1, 2, none⟩ = some (.int .i64 0) := (H2.out.f (List.Mem.tail _ (List.Mem.head _))).cell 2
    have rz2 : w2.frozen? ⟨w.heap.size + 1, 2, none⟩ = false := (H2.out.f (List.Mem.tail _ (List.Mem.head _))).frozen 2
    have r3 : w2.cell? ⟨w.heap.size + 1, 3, none⟩ = some (.bool false) := (H2.out.f (List.Mem.tail _ (List.Mem.head _))).cell 3
    have rz3 : w2.frozen? ⟨w.heap.size + 1, 3, none⟩ = false := (H2.out.f (List.Mem.tail _ (List.Mem.head _))).frozen 3
    have r4 : w2.cell? ⟨w.heap.size + 1, 4, none⟩ = some (.string ⟨#[]⟩) := (H2.out.f (List.Mem.tail _ (List.Mem.head _))).cell 4
    have rz4 : w2.frozen? ⟨w.heap.size + 1, 4, none⟩ = false := (H2.out.f (List.Mem.tail _ (List.Mem.head _))).frozen 4
    have r5 : w2.cell? ⟨w.heap.size + 1, 5, none⟩ = some (.int .i64 0) := (H2.out.f (List.Mem.tail _ (List.Mem.head _))).cell 5
    have rz5 : w2.frozen? ⟨w.heap.size + 1, 5, none⟩ = false := (H2.out.f (List.Mem.tail _ (List.Mem.head _))).frozen 5
    have r6 : w2.cell? ⟨w.heap.size + 1, 6, none⟩ = some (.int .i64 0) := (H2.out.f (List.Mem.tail _ (List.Mem.head _))).cell 6
    have rz6 : w2.frozen? ⟨w.heap.size + 1, 6, none⟩ = false := (H2.out.f (List.Mem.tail _ (List.Mem.head _))).frozen 6
    have r7 : w2.cell? ⟨w.heap.size + 1, 7, none⟩ = some (.int .i64 0) := (H2.out.f (List.Mem.tail _ (List.Mem.head _))).cell 7
    have rz7 : w2.frozen? ⟨w.heap.size + 1, 7, none⟩ = false := (H2.out.f (List.Mem.tail _ (List.Mem.head _))).frozen 7
    have rl : w.heap.size + 1 < w2.heap.size := (H2.out.f (List.Mem.tail _ (List.Mem.head _))).lt
    have HS1 : Hid (HeldL w [(w.heap.size + 1 + 1, #[.int .i64 2, .int .i64 j1, .int .i64 ((j1 : Int) + j2), .bool false, .string ⟨#[]⟩, .int .i64 0, .int .i64 M, .int .i64 j4]), (w.heap.size + 1, #[.int .i64 0, .int .i64 0, .int .i64 0, .bool false, .string ⟨#[]⟩, .int .i64 0, .int .i64 0, .int .i64 0]), (w.heap.size, #[.int .i64 k0, .int .i64 k1, .int .i64 k2, .int .i64 k3, .int .i64 k4, .int .i64 k5, .int .i64 k6])] _) := Lib.hid H2.out
    go_region_with (first | (go_at_call 19; (rw [show ((j5 : Int) + 1) = ((j5 + 1 : Nat) : Int) from rfl]); (with_reducible refine (ofN (j5 + 1) _ (by omega) (HT.out.below ((HeldL.drew HS1.out)).bel)).mono ?_); rintro x wA ⟨rfl, hb⟩; have HKwA : Hid (HeldL w [(w.heap.size + 1 + 1, #[.int .i64 2, .int .i64 j1, .int .i64 ((j1 : Int) + j2), .bool false, .string ⟨#[]⟩, .int .i64 0, .int .i64 M, .int .i64 j4]), (w.heap.size + 1, #[.int .i64 0, .int .i64 0, .int .i64 0, .bool false, .string ⟨#[]⟩, .int .i64 0, .int .i64 0, .int .i64 0]), (w.heap.size, #[.int .i64 k0, .int .i64 k1, .int .i64 k2, .int .i64 k3, .int .i64 k4, .int .i64 k5, .int .i64 k6])] wA) := Lib.hid (HeldL.keep (HeldL.drew HS1.out) hb); clear hb; have qwA0 : wA.cell? ⟨w.heap.size, 0, none⟩ = some (.int .i64 k0) := (HKwA.out.f (List.Mem.tail _ (List.Mem.tail _ (List.Mem.head _)))).cell 0; have qwA1 : wA.cell? ⟨w.heap.size, 1, none⟩ = some (.int .i64 k1) := (HKwA.out.f (List.Mem.tail _ (List.Mem.tail _ (List.Mem.head _)))).cell 1; have qwA2 : wA.cell? ⟨w.heap.size, 2, none⟩ = some (.int .i64 k2) := (HKwA.out.f (List.Mem.tail _ (List.Mem.tail _ (List.Mem.head _)))).cell 2; have qwA3 : wA.cell? ⟨w.heap.size, 3, none⟩ = some (.int .i64 k3) := (HKwA.out.f (List.Mem.tail _ (List.Mem.tail _ (List.Mem.head _)))).cell 3; have qwA4 : wA.cell? ⟨w.heap.size, 4, none⟩ = some (.int .i64 k4) := (HKwA.out.f (List.Mem.tail _ (List.Mem.tail _ (List.Mem.head _)))).cell 4; have qwA5 : wA.cell? ⟨w.heap.size, 5, none⟩ = some (.int .i64 k5) := (HKwA.out.f (List.Mem.tail _ (List.Mem.tail _ (List.Mem.head _)))).cell 5; have qwA6 : wA.cell? ⟨w.heap.size, 6, none⟩ = some (.int .i64 k6) := (HKwA.out.f (List.Mem.tail _ (List.Mem.tail _ (List.Mem.head _)))).cell 6; have qwAl : w.heap.size < wA.heap.size := (HKwA.out.f (List.Mem.tail _ (List.Mem.tail _ (List.Mem.head _)))).lt; have pwA0 : wA.cell? ⟨w.heap.size + 1 + 1, 0, none⟩ = some (.int .i64 2) := (HKwA.out.f (List.Mem.head _)).cell 0; have pzwA0 : wA.frozen? ⟨w.heap.size + 1 + 1, 0, none⟩ = false := (HKwA.out.f (List.Mem.head _)).frozen 0; have pwA1 : wA.cell? ⟨w.heap.size + 1 + 1, 1, none⟩ = some (.int .i64 j1) := (HKwA.out.f (List.Mem.head _)).cell 1; have pzwA1 : wA.frozen? ⟨w.heap.size + 1 + 1, 1, none⟩ = false := (HKwA.out.f (List.Mem.head _)).frozen 1; have pwA2 : wA.cell? ⟨w.heap.size + 1 + 1, 2, none⟩ = some (.int .i64 ((j1 : Int) + j2)) := (HKwA.out.f (List.Mem.head _)).cell 2; have pzwA2 : wA.frozen? ⟨w.heap.size + 1 + 1, 2, none⟩ = false := (HKwA.out.f (List.Mem.head _)).frozen 2; have pwA3 : wA.cell? ⟨w.heap.size + 1 + 1, 3, none⟩ = some (.bool false) := (HKwA.out.f (List.Mem.head _)).cell 3; have pzwA3 : wA.frozen? ⟨w.heap.size + 1 + 1, 3, none⟩ = false := (HKwA.out.f (List.Mem.head _)).frozen 3; have pwA4 : wA.cell? ⟨w.heap.size + 1 + 1, 4, none⟩ = some (.string ⟨#[]⟩) := (HKwA.out.f (List.Mem.head _)).cell 4; have pzwA4 : wA.frozen? ⟨w.heap.size + 1 + 1, 4, none⟩ = false := (HKwA.out.f (List.Mem.head _)).frozen 4; have pwA5 : wA.cell? ⟨w.heap.size + 1 + 1, 5, none⟩ = some (.int .i64 0) := (HKwA.out.f (List.Mem.head _)).cell 5; have pzwA5 : wA.frozen? ⟨w.heap.size + 1 + 1, 5, none⟩ = false := (HKwA.out.f (List.Mem.head _)).frozen 5; have pwA6 : wA.cell? ⟨w.heap.size + 1 + 1, 6, none⟩ = some (.int .i64 M) := (HKwA.out.f (List.Mem.head _)).cell 6; have pzwA6 : wA.frozen? ⟨w.heap.size + 1 + 1, 6, none⟩ = false := (HKwA.out.f (List.Mem.head _)).frozen 6; have pwA7 : wA.cell? ⟨w.heap.size + 1 + 1, 7, none⟩ = some (.int .i64 j4) := (HKwA.out.f (List.Mem.head _)).cell 7; have pzwA7 : wA.frozen? ⟨w.heap.size + 1 + 1, 7, none⟩ = false := (HKwA.out.f (List.Mem.head _)).frozen 7; have pwAl : w.heap.size + 1 + 1 < wA.heap.size := (HKwA.out.f (List.Mem.head _)).lt; have rwA0 : wA.cell? ⟨w.heap.size + 1, 0, none⟩ = some (.int .i64 0) := (HKwA.out.f (List.Mem.tail _ (List.Mem.head _))).cell 0; have rzwA0 : wA.frozen? ⟨w.heap.size + 1, 0, none⟩ = false := (HKwA.out.f (List.Mem.tail _ (List.Mem.head _))).frozen 0; have rwA1 : wA.cell? ⟨w.heap.size + 1, 1, none⟩ = some (.int .i64 0) := (HKwA.out.f (List.Mem.tail _ (List.Mem.head _))).cell 1; have rzwA1 : wA.frozen? ⟨w.heap.size + 1, 1, none⟩ = false := (HKwA.out.f (List.Mem.tail _ (List.Mem.head _))).frozen 1; have rwA2 : wA.cell? ⟨w.heap.size + 1, 2, none⟩ = some (.int .i64 0) := (HKwA.out.f (List.Mem.tail _ (List.Mem.head _))).cell 2; have rzwA2 : wA.frozen? ⟨w.heap.size + 1, 2, none⟩ = false := (HKwA.out.f (List.Mem.tail _ (List.Mem.head _))).frozen 2; have rwA3 : wA.cell? ⟨w.heap.size + 1, 3, none⟩ = some (.bool false) := (HKwA.out.f (List.Mem.tail _ (List.Mem.head _))).cell 3; have rzwA3 : wA.frozen? ⟨w.heap.size + 1, 3, none⟩ = false := (HKwA.out.f (List.Mem.tail _ (List.Mem.head _))).frozen 3; have rwA4 : wA.cell? ⟨w.heap.size + 1, 4, none⟩ = some (.string ⟨#[]⟩) := (HKwA.out.f (List.Mem.tail _ (List.Mem.head _))).cell 4; have rzwA4 : wA.frozen? ⟨w.heap.size + 1, 4, none⟩ = false := (HKwA.out.f (List.Mem.tail _ (List.Mem.head _))).frozen 4; have rwA5 : wA.cell? ⟨w.heap.size + 1, 5, none⟩ = some (.int .i64 0) := (HKwA.out.f (List.Mem.tail _ (List.Mem.head _))).cell 5; have rzwA5 : wA.frozen? ⟨w.heap.size + 1, 5, none⟩ = false := (HKwA.out.f (List.Mem.tail _ (List.Mem.head _))).frozen 5; have rwA6 : wA.cell? ⟨w.heap.size + 1, 6, none⟩ = some (.int .i64 0) := (HKwA.out.f (List.Mem.tail _ (List.Mem.head _))).cell 6; have rzwA6 : wA.frozen? ⟨w.heap.size + 1, 6, none⟩ = false := (HKwA.out.f (List.Mem.tail _ (List.Mem.head _))).frozen 6; have rwA7 : wA.cell? ⟨w.heap.size + 1, 7, none⟩ = some (.int .i64 0) := (HKwA.out.f (List.Mem.tail _ (List.Mem.head _))).cell 7; have rzwA7 : wA.frozen? ⟨w.heap.size + 1, 7, none⟩ = false := (HKwA.out.f (List.Mem.tail _ (List.Mem.head _))).frozen 7; have rwAl : w.heap.size + 1 < wA.heap.size := (HKwA.out.f (List.Mem.tail _ (List.Mem.head _))).lt) | (go_at_call 18; (with_reducible refine (made_as false ⟨(dig (j5 + 1)).toArray⟩ (k6.tmod 4 - 3) _ (by rw [arr_size]; exact dl) g (by rw [arr_list]; exact HG.out)).mono ?_); rintro x wB ⟨rfl, hb⟩; have HKwB : Hid (HeldL w [(w.heap.size + 1 + 1, #[.int .i64 2, .int .i64 j1, .int .i64 ((j1 : Int) + j2), .bool false, .string ⟨#[]⟩, .int .i64 0, .int .i64 M, .int .i64 j4]), (w.heap.size + 1, #[.int .i64 0, .int .i64 0, .int .i64 0, .bool false, .string ⟨#[]⟩, .int .i64 0, .int .i64 0, .int .i64 0]), (w.heap.size, #[.int .i64 k0, .int .i64 k1, .int .i64 k2, .int .i64 k3, .int .i64 k4, .int .i64 k5, .int .i64 k6])] wB) := Lib.hid (HeldL.keep HKwA.out hb); clear hb; have p0 : wB.cell? ⟨w.heap.size + 1 + 1, 0, none⟩ = some (.int .i64 2) := (HKwB.out.f (List.Mem.head _)).cell 0; have pz0 : wB.frozen? ⟨w.heap.size + 1 + 1, 0, none⟩ = false := (HKwB.out.f (List.Mem.head _)).frozen 0; have p1 : wB.cell? ⟨w.heap.size + 1 + 1, 1, none⟩ = some (.int .i64 j1) := (HKwB.out.f (List.Mem.head _)).cell 1; have pz1 : wB.frozen? ⟨w.heap.size + 1 + 1, 1, none⟩ = false := (HKwB.out.f (List.Mem.head _)).frozen 1; have p2 : wB.cell? ⟨w.heap.size + 1 + 1, 2, none⟩ = some (.int .i64 ((j1 : Int) + j2)) := (HKwB.out.f (List.Mem.head _)).cell 2; have pz2 : wB.frozen? ⟨w.heap.size + 1 + 1, 2, none⟩ = false := (HKwB.out.f (List.Mem.head _)).frozen 2; have p3 : wB.cell? ⟨w.heap.size + 1 + 1, 3, none⟩ = some (.bool false) := (HKwB.out.f (List.Mem.head _)).cell 3; have pz3 : wB.frozen? ⟨w.heap.size + 1 + 1, 3, none⟩ = false := (HKwB.out.f (List.Mem.head _)).frozen 3; have p4 : wB.cell? ⟨w.heap.size + 1 + 1, 4, none⟩ = some (.string ⟨#[]⟩) := (HKwB.out.f (List.Mem.head _)).cell 4; have pz4 : wB.frozen? ⟨w.heap.size + 1 + 1, 4, none⟩ = false := (HKwB.out.f (List.Mem.head _)).frozen 4; have p5 : wB.cell? ⟨w.heap.size + 1 + 1, 5, none⟩ = some (.int .i64 0) := (HKwB.out.f (List.Mem.head _)).cell 5; have pz5 : wB.frozen? ⟨w.heap.size + 1 + 1, 5, none⟩ = false := (HKwB.out.f (List.Mem.head _)).frozen 5; have p6 : wB.cell? ⟨w.heap.size + 1 + 1, 6, none⟩ = some (.int .i64 M) := (HKwB.out.f (List.Mem.head _)).cell 6; have pz6 : wB.frozen? ⟨w.heap.size + 1 + 1, 6, none⟩ = false := (HKwB.out.f (List.Mem.head _)).frozen 6; have p7 : wB.cell? ⟨w.heap.size + 1 + 1, 7, none⟩ = some (.int .i64 j4) := (HKwB.out.f (List.Mem.head _)).cell 7; have pz7 : wB.frozen? ⟨w.heap.size + 1 + 1, 7, none⟩ = false := (HKwB.out.f (List.Mem.head _)).frozen 7; have pl : w.heap.size + 1 + 1 < wB.heap.size := (HKwB.out.f (List.Mem.head _)).lt; have r0 : wB.cell? ⟨w.heap.size + 1, 0, none⟩ = some (.int .i64 0) := (HKwB.out.f (List.Mem.tail _ (List.Mem.head _))).cell 0; have rz0 : wB.frozen? ⟨w.heap.size + 1, 0, none⟩ = false := (HKwB.out.f (List.Mem.tail _ (List.Mem.head _))).frozen 0; have r1 : wB.cell? ⟨w.heap.size + 1, 1, none⟩ = some (.int .i64 0) := (HKwB.out.f (List.Mem.tail _ (List.Mem.head _))).cell 1; have rz1 : wB.frozen? ⟨w.heap.size + 1, 1, none⟩ = false := (HKwB.out.f (List.Mem.tail _ (List.Mem.head _))).frozen 1; have r2 : wB.cell? ⟨w.heap.size + 1, 2, none⟩ = some (.int .i64 0) := (HKwB.out.f (List.Mem.tail _ (List.Mem.head _))).cell 2; have rz2 : wB.frozen? ⟨w.heap.size + 1, 2, none⟩ = false := (HKwB.out.f (List.Mem.tail _ (List.Mem.head _))).frozen 2; have r3 : wB.cell? ⟨w.heap.size + 1, 3, none⟩ = some (.bool false) := (HKwB.out.f (List.Mem.tail _ (List.Mem.head _))).cell 3; have rz3 : wB.frozen? ⟨w.heap.size + 1, 3, none⟩ = false := (HKwB.out.f (List.Mem.tail _ (List.Mem.head _))).frozen 3; have r4 : wB.cell? ⟨w.heap.size + 1, 4, none⟩ = some (.string ⟨#[]⟩) := (HKwB.out.f (List.Mem.tail _ (List.Mem.head _))).cell 4; have rz4 : wB.frozen? ⟨w.heap.size + 1, 4, none⟩ = false := (HKwB.out.f (List.Mem.tail _ (List.Mem.head _))).frozen 4; have r5 : wB.cell? ⟨w.heap.size + 1, 5, none⟩ = some (.int .i64 0) := (HKwB.out.f (List.Mem.tail _ (List.Mem.head _))).cell 5; have rz5 : wB.frozen? ⟨w.heap.size + 1, 5, none⟩ = false := (HKwB.out.f (List.Mem.tail _ (List.Mem.head _))).frozen 5; have r6 : wB.cell? ⟨w.heap.size + 1, 6, none⟩ = some (.int .i64 0) := (HKwB.out.f (List.Mem.tail _ (List.Mem.head _))).cell 6; have rz6 : wB.frozen? ⟨w.heap.size + 1, 6, none⟩ = false := (HKwB.out.f (List.Mem.tail _ (List.Mem.head _))).frozen 6; have r7 : wB.cell? ⟨w.heap.size + 1, 7, none⟩ = some (.int .i64 0) := (HKwB.out.f (List.Mem.tail _ (List.Mem.head _))).cell 7; have rz7 : wB.frozen? ⟨w.heap.size + 1, 7, none⟩ = false := (HKwB.out.f (List.Mem.tail _ (List.Mem.head _))).frozen 7; have rl : w.heap.size + 1 < wB.heap.size := (HKwB.out.f (List.Mem.tail _ (List.Mem.head _))).lt))
    all_goals
      have H3 : Hid (HeldL w [(w.heap.size + 1 + 1, #[.int .i64 2, .int .i64 j1, .int .i64 ((j1 : Int) + j2), .bool false, .string ⟨#[]⟩, .int .i64 0, .int .i64 M, .int .i64 j4]), (w.heap.size + 1, #[.int .i64 0, .int .i64 0, .int .i64 0, .bool false, .string ⟨#[]⟩, .int .i64 0, .int .i64 0, .int .i64 0]), (w.heap.size, #[.int .i64 k0, .int .i64 k1, .int .i64 k2, .int .i64 k3, .int .i64 k4, .int .i64 k5, .int .i64 k6])] wB) := HKwB
      clear HS1 HKwA HKwB H2
      go_wp2
      exact bodyPost_ret (v := .agg #[.int .i64 2, .int .i64 j1, .int .i64 ((j1 : Int) + j2), .bool g.neg, S g.l, .int .i64 g.e, .int .i64 M, .int .i64 j4]) (by simp [results, Tryz.results22, go_sem, r0, r1, r2, r3, r4, r5, r6, r7]) rfl ⟨rfl, (HeldL.store8 [_] [_] (HeldL.set1 (L1 := []) (L2 := [_, _]) (HeldL.set1 (L1 := []) (L2 := [_, _]) (HeldL.set1 (L1 := []) (L2 := [_, _]) H3.out 3 (.bool g.neg)) 4 (S g.l)) 5 (.int .i64 g.e)) (.int .i64 2) (.int .i64 j1) (.int .i64 ((j1 : Int) + j2)) (.bool g.neg) (S g.l) (.int .i64 g.e) (.int .i64 M) (.int .i64 j4)).bel⟩
  ·
    go_simp
    refine hK.out _ _ (ALL1.out _ (HeldL.skip (hH0.2.2.2.2.2.2.2) _)) (fun hHeld2 => ?_)
    clear hK hHeld
    have hHeld := hHeld2
    clear hHeld2
    try simp only [Act.put, List.setIfInBounds_toArray, List.set_cons_zero, List.set_cons_succ]
    refine wpAnyH_ready (rs := [10]) (by kernel_rfl) (by simp) ?_
    refine AllReadyH.cons (o := { dst := some 14, op := Go.Op.call { callee := Go.Callee.value (Go.Operand.func 11), args := #[Go.Operand.tmp 13], argTypes := #[3] }, type := 27, pos := "law.go:30", after := #[{ on := 9, ground := Go.Ground.data }], guard := none }) rfl (fun KK hK => ?_) AllReadyH.nil
    go_simp
    with_reducible refine (HM.out _).mono ?_
    rintro x wz ⟨rfl, rfl⟩
    go_wp2_with fail
    refine hK.out _ _ hHeld (fun _ => ?_)
    clear hK
    try simp only [Act.put, List.setIfInBounds_toArray, List.set_cons_zero, List.set_cons_succ]
    refine wpAnyH_take (i := 14) (oi := { dst := some 18, op := Go.Op.build 46 #[(0, Go.Operand.tmp 8), (1, Go.Operand.tmp 11), (4, Go.Operand.tmp 14), (5, Go.Operand.tmp 17)], type := 46, pos := "law.go:30", after := #[{ on := 4, ground := Go.Ground.data }, { on := 7, ground := Go.Ground.data }, { on := 10, ground := Go.Ground.data }, { on := 13, ground := Go.Ground.data }], guard := none }) (v := ?_) rfl (by kernel_rfl) (by kernel_rfl) (by kernel_rfl) (fun _ _ _ h => h) (Or.inl ⟨by rfl, ?_⟩) hHeld ?_
    case refine_2 => (intro w hSw; (try dsimp only at hSw); go_simp <;> with_reducible rfl)
    try simp only [Act.put, List.setIfInBounds_toArray, List.set_cons_zero, List.set_cons_succ]
    refine wpAnyH_ready (rs := [16]) (by kernel_rfl) (by simp) ?_
    refine AllReadyH.cons (o := { dst := none, op := Go.Op.store 46 (Go.Operand.tmp 3) (Go.Operand.tmp 18), type := 0, pos := "law.go:30", after := #[{ on := 15, ground := Go.Ground.data }, { on := 14, ground := Go.Ground.data }, { on := 10, ground := Go.Ground.chain }, { on := 0, ground := Go.Ground.phase }, { on := 1, ground := Go.Ground.phase }, { on := 2, ground := Go.Ground.phase }, { on := 3, ground := Go.Ground.phase }, { on := 4, ground := Go.Ground.phase }, { on := 5, ground := Go.Ground.phase }, { on := 6, ground := Go.Ground.phase }, { on := 7, ground := Go.Ground.phase }, { on := 8, ground := Go.Ground.phase }, { on := 9, ground := Go.Ground.phase }, { on := 10, ground := Go.Ground.phase }, { on := 11, ground := Go.Ground.phase }, { on := 12, ground := Go.Ground.phase }, { on := 13, ground := Go.Ground.phase }, { on := 14, ground := Go.Ground.phase }, { on := 15, ground := Go.Ground.phase }], guard := none }) rfl (fun KK hK => ?_) AllReadyH.nil
    go_simp
    refine hK.out _ _ (ALL1.out _ (HeldL.skip (hH0.2.2.2.2.2.2.2) _)) (fun hHeld2 => ?_)
    clear hK hHeld2
    try simp only [Act.put, List.setIfInBounds_toArray, List.set_cons_zero, List.set_cons_succ]
    refine wpAnyH_done (by kernel_rfl) ?_ _
    clear hHeld hH0 ALL1 HS1
    go_wp2_with fail
    have H2 : Hid (HeldL w [(w.heap.size + 1 + 1, #[.int .i64 2, .int .i64 j1, .int .i64 ((j1 : Int) + j2), .bool false, .string ⟨#[]⟩, .int .i64 0, .int .i64 M, .int .i64 j4]), (w.heap.size + 1, #[.int .i64 0, .int .i64 0, .int .i64 0, .bool false, .string ⟨#[]⟩, .int .i64 0, .int .i64 0, .int .i64 0]), (w.heap.size, #[.int .i64 k0, .int .i64 k1, .int .i64 k2, .int .i64 k3, .int .i64 k4, .int .i64 k5, .int .i64 k6])] ((((w.alloc (.cells #[.int .i64 k0, .int .i64 k1, .int .i64 k2, .int .i64 k3, .int .i64 k4, .int .i64 k5, .int .i64 k6] 43)).alloc (.cells #[.int .i64 0, .int .i64 0, .int .i64 0, .bool false, .string ⟨#[]⟩, .int .i64 0, .int .i64 0, .int .i64 0] 46)).alloc (.cells #[.int .i64 2, .int .i64 j1, .int .i64 ((j1 : Int) + j2), .bool false, .string ⟨#[]⟩, .int .i64 0, .int .i64 M, .int .i64 j4] 46)).drew)) := Lib.hid (HeldL.drew (HeldL.alloc (HeldL.alloc (HeldL.alloc (HeldL.refl w) _ _ _ rfl) _ _ _ (by simp)) _ _ _ (by simp)))
    generalize (((w.alloc (.cells #[.int .i64 k0, .int .i64 k1, .int .i64 k2, .int .i64 k3, .int .i64 k4, .int .i64 k5, .int .i64 k6] 43)).alloc (.cells #[.int .i64 0, .int .i64 0, .int .i64 0, .bool false, .string ⟨#[]⟩, .int .i64 0, .int .i64 0, .int .i64 0] 46)).alloc (.cells #[.int .i64 2, .int .i64 j1, .int .i64 ((j1 : Int) + j2), .bool false, .string ⟨#[]⟩, .int .i64 0, .int .i64 M, .int .i64 j4] 46)).drew = w2 at *
    have q0 : w2.cell? ⟨w.heap.size, 0, none⟩ = some (.int .i64 k0) := (H2.out.f (List.Mem.tail _ (List.Mem.tail _ (List.Mem.head _)))).cell 0
    have q1 : w2.cell? ⟨w.heap.size, 1, none⟩ = some (.int .i64 k1) := (H2.out.f (List.Mem.tail _ (List.Mem.tail _ (List.Mem.head _)))).cell 1
    have q2 : w2.cell? ⟨w.heap.size, 2, none⟩ = some (.int .i64 k2) := (H2.out.f (List.Mem.tail _ (List.Mem.tail _ (List.Mem.head _)))).cell 2
    have q3 : w2.cell? ⟨w.heap.size, 3, none⟩ = some (.int .i64 k3) := (H2.out.f (List.Mem.tail _ (List.Mem.tail _ (List.Mem.head _)))).cell 3
    have q4 : w2.cell? ⟨w.heap.size, 4, none⟩ = some (.int .i64 k4) := (H2.out.f (List.Mem.tail _ (List.Mem.tail _ (List.Mem.head _)))).cell 4
    have q5 : w2.cell? ⟨w.heap.size, 5, none⟩ = some (.int .i64 k5) := (H2.out.f (List.Mem.tail _ (List.Mem.tail _ (List.Mem.head _)))).cell 5
    have q6 : w2.cell? ⟨w.heap.size, 6, none⟩ = some (.int .i64 k6) := (H2.out.f (List.Mem.tail _ (List.Mem.tail _ (List.Mem.head _)))).cell 6
    have ql : w.heap.size < w2.heap.size := (H2.out.f (List.Mem.tail _ (List.Mem.tail _ (List.Mem.head _)))).lt
    have p0 : w2.cell? ⟨w.heap.size + 1 + 1, 0, none⟩ = some (.int .i64 2) := (H2.out.f (List.Mem.head _)).cell 0
    have pz0 : w2.frozen? ⟨w.heap.size + 1 + 1, 0, none⟩ = false := (H2.out.f (List.Mem.head _)).frozen 0
    have p1 : w2.cell? ⟨w.heap.size + 1 + 1, 1, none⟩ = some (.int .i64 j1) := (H2.out.f (List.Mem.head _)).cell 1
    have pz1 : w2.frozen? ⟨w.heap.size + 1 + 1, 1, none⟩ = false := (H2.out.f (List.Mem.head _)).frozen 1
    have p2 : w2.cell? ⟨w.heap.size + 1 + 1, 2, none⟩ = some (.int .i64 ((j1 : Int) + j2)) := (H2.out.f (List.Mem.head _)).cell 2
    have pz2 : w2.frozen? ⟨w.heap.size + 1 + 1, 2, none⟩ = false := (H2.out.f (List.Mem.head _)).frozen 2
    have p3 : w2.cell? ⟨w.heap.size + 1 + 1, 3, none⟩ = some (.bool false) := (H2.out.f (List.Mem.head _)).cell 3
    have pz3 : w2.frozen? ⟨w.heap.size + 1 + 1, 3, none⟩ = false := (H2.out.f (List.Mem.head _)).frozen 3
    have p4 : w2.cell? ⟨w.heap.size + 1 + 1, 4, none⟩ = some (.string ⟨#[]⟩) := (H2.out.f (List.Mem.head _)).cell 4
    have pz4 : w2.frozen? ⟨w.heap.size + 1 + 1, 4, none⟩ = false := (H2.out.f (List.Mem.head _)).frozen 4
    have p5 : w2.cell? ⟨w.heap.size + 1 + 1, 5, none⟩ = some (.int .i64 0) := (H2.out.f (List.Mem.head _)).cell 5
    have pz5 : w2.frozen? ⟨w.heap.size + 1 + 1, 5, none⟩ = false := (H2.out.f (List.Mem.head _)).frozen 5
    have p6 : w2.cell? ⟨w.heap.size + 1 + 1, 6, none⟩ = some (.int .i64 M) := (H2.out.f (List.Mem.head _)).cell 6
    have pz6 : w2.frozen? ⟨w.heap.size + 1 + 1, 6, none⟩ = false := (H2.out.f (List.Mem.head _)).frozen 6
    have p7 : w2.cell? ⟨w.heap.size + 1 + 1, 7, none⟩ = some (.int .i64 j4) := (H2.out.f (List.Mem.head _)).cell 7
    have pz7 : w2.frozen? ⟨w.heap.size + 1 + 1, 7, none⟩ = false := (H2.out.f (List.Mem.head _)).frozen 7
    have pl : w.heap.size + 1 + 1 < w2.heap.size := (H2.out.f (List.Mem.head _)).lt
    have r0 : w2.cell? ⟨w.heap.size + 1, 0, none⟩ = some (.int .i64 0) := (H2.out.f (List.Mem.tail _ (List.Mem.head _))).cell 0
    have rz0 : w2.frozen? ⟨w.heap.size + 1, 0, none⟩ = false := (H2.out.f (List.Mem.tail _ (List.Mem.head _))).frozen 0
    have r1 : w2.cell? ⟨w.heap.size + 1, 1, none⟩ = some (.int .i64 0) := (H2.out.f (List.Mem.tail _ (List.Mem.head _))).cell 1
    have rz1 : w2.frozen? ⟨w.heap.size + 1, 1, none⟩ = false := (H2.out.f (List.Mem.tail _ (List.Mem.head _))).frozen 1
    have r2 : w2.cell? ⟨w.heap.size + 1, 2, none⟩ = some (.int .i64 0) := (H2.out.f (List.Mem.tail _ (List.Mem.head _))).cell 2
    have rz2 : w2.frozen? ⟨w.heap.size + 1, 2, none⟩ = false := (H2.out.f (List.Mem.tail _ (List.Mem.head _))).frozen 2
    have r3 : w2.cell? ⟨w.heap.size + 1, 3, none⟩ = some (.bool false) := (H2.out.f (List.Mem.tail _ (List.Mem.head _))).cell 3
    have rz3 : w2.frozen? ⟨w.heap.size + 1, 3, none⟩ = false := (H2.out.f (List.Mem.tail _ (List.Mem.head _))).frozen 3
    have r4 : w2.cell? ⟨w.heap.size + 1, 4, none⟩ = some (.string ⟨#[]⟩) := (H2.out.f (List.Mem.tail _ (List.Mem.head _))).cell 4
    have rz4 : w2.frozen? ⟨w.heap.size + 1, 4, none⟩ = false := (H2.out.f (List.Mem.tail _ (List.Mem.head _))).frozen 4
    have r5 : w2.cell? ⟨w.heap.size + 1, 5, none⟩ = some (.int .i64 0) := (H2.out.f (List.Mem.tail _ (List.Mem.head _))).cell 5
    have rz5 : w2.frozen? ⟨w.heap.size + 1, 5, none⟩ = false := (H2.out.f (List.Mem.tail _ (List.Mem.head _))).frozen 5
    have r6 : w2.cell? ⟨w.heap.size + 1, 6, none⟩ = some (.int .i64 0) := (H2.out.f (List.Mem.tail _ (List.Mem.head _))).cell 6
    have rz6 : w2.frozen? ⟨w.heap.size + 1, 6, none⟩ = false := (H2.out.f (List.Mem.tail _ (List.Mem.head _))).frozen 6
    have r7 : w2.cell? ⟨w.heap.size + 1, 7, none⟩ = some (.int .i64 0) := (H2.out.f (List.Mem.tail _ (List.Mem.head _))).cell 7
    have rz7 : w2.frozen? ⟨w.heap.size + 1, 7, none⟩ = false := (H2.out.f (List.Mem.tail _ (List.Mem.head _))).frozen 7
    have rl : w.heap.size + 1 < w2.heap.size := (H2.out.f (List.Mem.tail _ (List.Mem.head _))).lt
    have HS2 : Hid (HeldL w [(w.heap.size + 1 + 1, #[.int .i64 2, .int .i64 j1, .int .i64 ((j1 : Int) + j2), .bool false, .string ⟨#[]⟩, .int .i64 0, .int .i64 M, .int .i64 j4]), (w.heap.size + 1, #[.int .i64 0, .int .i64 0, .int .i64 0, .bool false, .string ⟨#[]⟩, .int .i64 0, .int .i64 0, .int .i64 0]), (w.heap.size, #[.int .i64 k0, .int .i64 k1, .int .i64 k2, .int .i64 k3, .int .i64 k4, .int .i64 k5, .int .i64 k6])] _) := Lib.hid H2.out
    go_region_with (first | (go_at_call 19; (rw [show ((j5 : Int) + 1) = ((j5 + 1 : Nat) : Int) from rfl]); (with_reducible refine (ofN (j5 + 1) _ (by omega) (HT.out.below ((HeldL.drew HS2.out)).bel)).mono ?_); rintro x wA ⟨rfl, hb⟩; have HKwA : Hid (HeldL w [(w.heap.size + 1 + 1, #[.int .i64 2, .int .i64 j1, .int .i64 ((j1 : Int) + j2), .bool false, .string ⟨#[]⟩, .int .i64 0, .int .i64 M, .int .i64 j4]), (w.heap.size + 1, #[.int .i64 0, .int .i64 0, .int .i64 0, .bool false, .string ⟨#[]⟩, .int .i64 0, .int .i64 0, .int .i64 0]), (w.heap.size, #[.int .i64 k0, .int .i64 k1, .int .i64 k2, .int .i64 k3, .int .i64 k4, .int .i64 k5, .int .i64 k6])] wA) := Lib.hid (HeldL.keep (HeldL.drew HS2.out) hb); clear hb; have qwA0 : wA.cell? ⟨w.heap.size, 0, none⟩ = some (.int .i64 k0) := (HKwA.out.f (List.Mem.tail _ (List.Mem.tail _ (List.Mem.head _)))).cell 0; have qwA1 : wA.cell? ⟨w.heap.size, 1, none⟩ = some (.int .i64 k1) := (HKwA.out.f (List.Mem.tail _ (List.Mem.tail _ (List.Mem.head _)))).cell 1; have qwA2 : wA.cell? ⟨w.heap.size, 2, none⟩ = some (.int .i64 k2) := (HKwA.out.f (List.Mem.tail _ (List.Mem.tail _ (List.Mem.head _)))).cell 2; have qwA3 : wA.cell? ⟨w.heap.size, 3, none⟩ = some (.int .i64 k3) := (HKwA.out.f (List.Mem.tail _ (List.Mem.tail _ (List.Mem.head _)))).cell 3; have qwA4 : wA.cell? ⟨w.heap.size, 4, none⟩ = some (.int .i64 k4) := (HKwA.out.f (List.Mem.tail _ (List.Mem.tail _ (List.Mem.head _)))).cell 4; have qwA5 : wA.cell? ⟨w.heap.size, 5, none⟩ = some (.int .i64 k5) := (HKwA.out.f (List.Mem.tail _ (List.Mem.tail _ (List.Mem.head _)))).cell 5; have qwA6 : wA.cell? ⟨w.heap.size, 6, none⟩ = some (.int .i64 k6) := (HKwA.out.f (List.Mem.tail _ (List.Mem.tail _ (List.Mem.head _)))).cell 6; have qwAl : w.heap.size < wA.heap.size := (HKwA.out.f (List.Mem.tail _ (List.Mem.tail _ (List.Mem.head _)))).lt; have pwA0 : wA.cell? ⟨w.heap.size + 1 + 1, 0, none⟩ = some (.int .i64 2) := (HKwA.out.f (List.Mem.head _)).cell 0; have pzwA0 : wA.frozen? ⟨w.heap.size + 1 + 1, 0, none⟩ = false := (HKwA.out.f (List.Mem.head _)).frozen 0; have pwA1 : wA.cell? ⟨w.heap.size + 1 + 1, 1, none⟩ = some (.int .i64 j1) := (HKwA.out.f (List.Mem.head _)).cell 1; have pzwA1 : wA.frozen? ⟨w.heap.size + 1 + 1, 1, none⟩ = false := (HKwA.out.f (List.Mem.head _)).frozen 1; have pwA2 : wA.cell? ⟨w.heap.size + 1 + 1, 2, none⟩ = some (.int .i64 ((j1 : Int) + j2)) := (HKwA.out.f (List.Mem.head _)).cell 2; have pzwA2 : wA.frozen? ⟨w.heap.size + 1 + 1, 2, none⟩ = false := (HKwA.out.f (List.Mem.head _)).frozen 2; have pwA3 : wA.cell? ⟨w.heap.size + 1 + 1, 3, none⟩ = some (.bool false) := (HKwA.out.f (List.Mem.head _)).cell 3; have pzwA3 : wA.frozen? ⟨w.heap.size + 1 + 1, 3, none⟩ = false := (HKwA.out.f (List.Mem.head _)).frozen 3; have pwA4 : wA.cell? ⟨w.heap.size + 1 + 1, 4, none⟩ = some (.string ⟨#[]⟩) := (HKwA.out.f (List.Mem.head _)).cell 4; have pzwA4 : wA.frozen? ⟨w.heap.size + 1 + 1, 4, none⟩ = false := (HKwA.out.f (List.Mem.head _)).frozen 4; have pwA5 : wA.cell? ⟨w.heap.size + 1 + 1, 5, none⟩ = some (.int .i64 0) := (HKwA.out.f (List.Mem.head _)).cell 5; have pzwA5 : wA.frozen? ⟨w.heap.size + 1 + 1, 5, none⟩ = false := (HKwA.out.f (List.Mem.head _)).frozen 5; have pwA6 : wA.cell? ⟨w.heap.size + 1 + 1, 6, none⟩ = some (.int .i64 M) := (HKwA.out.f (List.Mem.head _)).cell 6; have pzwA6 : wA.frozen? ⟨w.heap.size + 1 + 1, 6, none⟩ = false := (HKwA.out.f (List.Mem.head _)).frozen 6; have pwA7 : wA.cell? ⟨w.heap.size + 1 + 1, 7, none⟩ = some (.int .i64 j4) := (HKwA.out.f (List.Mem.head _)).cell 7; have pzwA7 : wA.frozen? ⟨w.heap.size + 1 + 1, 7, none⟩ = false := (HKwA.out.f (List.Mem.head _)).frozen 7; have pwAl : w.heap.size + 1 + 1 < wA.heap.size := (HKwA.out.f (List.Mem.head _)).lt; have rwA0 : wA.cell? ⟨w.heap.size + 1, 0, none⟩ = some (.int .i64 0) := (HKwA.out.f (List.Mem.tail _ (List.Mem.head _))).cell 0; have rzwA0 : wA.frozen? ⟨w.heap.size + 1, 0, none⟩ = false := (HKwA.out.f (List.Mem.tail _ (List.Mem.head _))).frozen 0; have rwA1 : wA.cell? ⟨w.heap.size + 1, 1, none⟩ = some (.int .i64 0) := (HKwA.out.f (List.Mem.tail _ (List.Mem.head _))).cell 1; have rzwA1 : wA.frozen? ⟨w.heap.size + 1, 1, none⟩ = false := (HKwA.out.f (List.Mem.tail _ (List.Mem.head _))).frozen 1; have rwA2 : wA.cell? ⟨w.heap.size + 1, 2, none⟩ = some (.int .i64 0) := (HKwA.out.f (List.Mem.tail _ (List.Mem.head _))).cell 2; have rzwA2 : wA.frozen? ⟨w.heap.size + 1, 2, none⟩ = false := (HKwA.out.f (List.Mem.tail _ (List.Mem.head _))).frozen 2; have rwA3 : wA.cell? ⟨w.heap.size + 1, 3, none⟩ = some (.bool false) := (HKwA.out.f (List.Mem.tail _ (List.Mem.head _))).cell 3; have rzwA3 : wA.frozen? ⟨w.heap.size + 1, 3, none⟩ = false := (HKwA.out.f (List.Mem.tail _ (List.Mem.head _))).frozen 3; have rwA4 : wA.cell? ⟨w.heap.size + 1, 4, none⟩ = some (.string ⟨#[]⟩) := (HKwA.out.f (List.Mem.tail _ (List.Mem.head _))).cell 4; have rzwA4 : wA.frozen? ⟨w.heap.size + 1, 4, none⟩ = false := (HKwA.out.f (List.Mem.tail _ (List.Mem.head _))).frozen 4; have rwA5 : wA.cell? ⟨w.heap.size + 1, 5, none⟩ = some (.int .i64 0) := (HKwA.out.f (List.Mem.tail _ (List.Mem.head _))).cell 5; have rzwA5 : wA.frozen? ⟨w.heap.size + 1, 5, none⟩ = false := (HKwA.out.f (List.Mem.tail _ (List.Mem.head _))).frozen 5; have rwA6 : wA.cell? ⟨w.heap.size + 1, 6, none⟩ = some (.int .i64 0) := (HKwA.out.f (List.Mem.tail _ (List.Mem.head _))).cell 6; have rzwA6 : wA.frozen? ⟨w.heap.size + 1, 6, none⟩ = false := (HKwA.out.f (List.Mem.tail _ (List.Mem.head _))).frozen 6; have rwA7 : wA.cell? ⟨w.heap.size + 1, 7, none⟩ = some (.int .i64 0) := (HKwA.out.f (List.Mem.tail _ (List.Mem.head _))).cell 7; have rzwA7 : wA.frozen? ⟨w.heap.size + 1, 7, none⟩ = false := (HKwA.out.f (List.Mem.tail _ (List.Mem.head _))).frozen 7; have rwAl : w.heap.size + 1 < wA.heap.size := (HKwA.out.f (List.Mem.tail _ (List.Mem.head _))).lt) | (go_at_call 18; (with_reducible refine (made_as false ⟨(dig (j5 + 1)).toArray⟩ (k6.tmod 4 - 3) _ (by rw [arr_size]; exact dl) g (by rw [arr_list]; exact HG.out)).mono ?_); rintro x wB ⟨rfl, hb⟩; have HKwB : Hid (HeldL w [(w.heap.size + 1 + 1, #[.int .i64 2, .int .i64 j1, .int .i64 ((j1 : Int) + j2), .bool false, .string ⟨#[]⟩, .int .i64 0, .int .i64 M, .int .i64 j4]), (w.heap.size + 1, #[.int .i64 0, .int .i64 0, .int .i64 0, .bool false, .string ⟨#[]⟩, .int .i64 0, .int .i64 0, .int .i64 0]), (w.heap.size, #[.int .i64 k0, .int .i64 k1, .int .i64 k2, .int .i64 k3, .int .i64 k4, .int .i64 k5, .int .i64 k6])] wB) := Lib.hid (HeldL.keep HKwA.out hb); clear hb; have p0 : wB.cell? ⟨w.heap.size + 1 + 1, 0, none⟩ = some (.int .i64 2) := (HKwB.out.f (List.Mem.head _)).cell 0; have pz0 : wB.frozen? ⟨w.heap.size + 1 + 1, 0, none⟩ = false := (HKwB.out.f (List.Mem.head _)).frozen 0; have p1 : wB.cell? ⟨w.heap.size + 1 + 1, 1, none⟩ = some (.int .i64 j1) := (HKwB.out.f (List.Mem.head _)).cell 1; have pz1 : wB.frozen? ⟨w.heap.size + 1 + 1, 1, none⟩ = false := (HKwB.out.f (List.Mem.head _)).frozen 1; have p2 : wB.cell? ⟨w.heap.size + 1 + 1, 2, none⟩ = some (.int .i64 ((j1 : Int) + j2)) := (HKwB.out.f (List.Mem.head _)).cell 2; have pz2 : wB.frozen? ⟨w.heap.size + 1 + 1, 2, none⟩ = false := (HKwB.out.f (List.Mem.head _)).frozen 2; have p3 : wB.cell? ⟨w.heap.size + 1 + 1, 3, none⟩ = some (.bool false) := (HKwB.out.f (List.Mem.head _)).cell 3; have pz3 : wB.frozen? ⟨w.heap.size + 1 + 1, 3, none⟩ = false := (HKwB.out.f (List.Mem.head _)).frozen 3; have p4 : wB.cell? ⟨w.heap.size + 1 + 1, 4, none⟩ = some (.string ⟨#[]⟩) := (HKwB.out.f (List.Mem.head _)).cell 4; have pz4 : wB.frozen? ⟨w.heap.size + 1 + 1, 4, none⟩ = false := (HKwB.out.f (List.Mem.head _)).frozen 4; have p5 : wB.cell? ⟨w.heap.size + 1 + 1, 5, none⟩ = some (.int .i64 0) := (HKwB.out.f (List.Mem.head _)).cell 5; have pz5 : wB.frozen? ⟨w.heap.size + 1 + 1, 5, none⟩ = false := (HKwB.out.f (List.Mem.head _)).frozen 5; have p6 : wB.cell? ⟨w.heap.size + 1 + 1, 6, none⟩ = some (.int .i64 M) := (HKwB.out.f (List.Mem.head _)).cell 6; have pz6 : wB.frozen? ⟨w.heap.size + 1 + 1, 6, none⟩ = false := (HKwB.out.f (List.Mem.head _)).frozen 6; have p7 : wB.cell? ⟨w.heap.size + 1 + 1, 7, none⟩ = some (.int .i64 j4) := (HKwB.out.f (List.Mem.head _)).cell 7; have pz7 : wB.frozen? ⟨w.heap.size + 1 + 1, 7, none⟩ = false := (HKwB.out.f (List.Mem.head _)).frozen 7; have pl : w.heap.size + 1 + 1 < wB.heap.size := (HKwB.out.f (List.Mem.head _)).lt; have r0 : wB.cell? ⟨w.heap.size + 1, 0, none⟩ = some (.int .i64 0) := (HKwB.out.f (List.Mem.tail _ (List.Mem.head _))).cell 0; have rz0 : wB.frozen? ⟨w.heap.size + 1, 0, none⟩ = false := (HKwB.out.f (List.Mem.tail _ (List.Mem.head _))).frozen 0; have r1 : wB.cell? ⟨w.heap.size + 1, 1, none⟩ = some (.int .i64 0) := (HKwB.out.f (List.Mem.tail _ (List.Mem.head _))).cell 1; have rz1 : wB.frozen? ⟨w.heap.size + 1, 1, none⟩ = false := (HKwB.out.f (List.Mem.tail _ (List.Mem.head _))).frozen 1; have r2 : wB.cell? ⟨w.heap.size + 1, 2, none⟩ = some (.int .i64 0) := (HKwB.out.f (List.Mem.tail _ (List.Mem.head _))).cell 2; have rz2 : wB.frozen? ⟨w.heap.size + 1, 2, none⟩ = false := (HKwB.out.f (List.Mem.tail _ (List.Mem.head _))).frozen 2; have r3 : wB.cell? ⟨w.heap.size + 1, 3, none⟩ = some (.bool false) := (HKwB.out.f (List.Mem.tail _ (List.Mem.head _))).cell 3; have rz3 : wB.frozen? ⟨w.heap.size + 1, 3, none⟩ = false := (HKwB.out.f (List.Mem.tail _ (List.Mem.head _))).frozen 3; have r4 : wB.cell? ⟨w.heap.size + 1, 4, none⟩ = some (.string ⟨#[]⟩) := (HKwB.out.f (List.Mem.tail _ (List.Mem.head _))).cell 4; have rz4 : wB.frozen? ⟨w.heap.size + 1, 4, none⟩ = false := (HKwB.out.f (List.Mem.tail _ (List.Mem.head _))).frozen 4; have r5 : wB.cell? ⟨w.heap.size + 1, 5, none⟩ = some (.int .i64 0) := (HKwB.out.f (List.Mem.tail _ (List.Mem.head _))).cell 5; have rz5 : wB.frozen? ⟨w.heap.size + 1, 5, none⟩ = false := (HKwB.out.f (List.Mem.tail _ (List.Mem.head _))).frozen 5; have r6 : wB.cell? ⟨w.heap.size + 1, 6, none⟩ = some (.int .i64 0) := (HKwB.out.f (List.Mem.tail _ (List.Mem.head _))).cell 6; have rz6 : wB.frozen? ⟨w.heap.size + 1, 6, none⟩ = false := (HKwB.out.f (List.Mem.tail _ (List.Mem.head _))).frozen 6; have r7 : wB.cell? ⟨w.heap.size + 1, 7, none⟩ = some (.int .i64 0) := (HKwB.out.f (List.Mem.tail _ (List.Mem.head _))).cell 7; have rz7 : wB.frozen? ⟨w.heap.size + 1, 7, none⟩ = false := (HKwB.out.f (List.Mem.tail _ (List.Mem.head _))).frozen 7; have rl : w.heap.size + 1 < wB.heap.size := (HKwB.out.f (List.Mem.tail _ (List.Mem.head _))).lt))
    all_goals
      have H3 : Hid (HeldL w [(w.heap.size + 1 + 1, #[.int .i64 2, .int .i64 j1, .int .i64 ((j1 : Int) + j2), .bool false, .string ⟨#[]⟩, .int .i64 0, .int .i64 M, .int .i64 j4]), (w.heap.size + 1, #[.int .i64 0, .int .i64 0, .int .i64 0, .bool false, .string ⟨#[]⟩, .int .i64 0, .int .i64 0, .int .i64 0]), (w.heap.size, #[.int .i64 k0, .int .i64 k1, .int .i64 k2, .int .i64 k3, .int .i64 k4, .int .i64 k5, .int .i64 k6])] wB) := HKwB
      clear HS2 HKwA HKwB H2
      go_wp2
      exact bodyPost_ret (v := .agg #[.int .i64 2, .int .i64 j1, .int .i64 ((j1 : Int) + j2), .bool g.neg, S g.l, .int .i64 g.e, .int .i64 M, .int .i64 j4]) (by simp [results, Tryz.results22, go_sem, r0, r1, r2, r3, r4, r5, r6, r7]) rfl ⟨rfl, (HeldL.store8 [_] [_] (HeldL.set1 (L1 := []) (L2 := [_, _]) (HeldL.set1 (L1 := []) (L2 := [_, _]) (HeldL.set1 (L1 := []) (L2 := [_, _]) H3.out 3 (.bool g.neg)) 4 (S g.l)) 5 (.int .i64 g.e)) (.int .i64 2) (.int .i64 j1) (.int .i64 ((j1 : Int) + j2)) (.bool g.neg) (S g.l) (.int .i64 g.e) (.int .i64 M) (.int .i64 j4)).bel⟩

end Go.Proofs.YtfbfjkacaadbpaaGreatDoor

namespace Go.Proofs.YtfbfjkacaadbpaaGreatDoor
open Go.RowKit Florin
set_option linter.unusedVariables false

theorem wrap_same (t : Int) : IntKind.i64.wrap t = wrap64 t := by rw [IntKind.wrap_i64]; unfold wrap64; omega
/-- What the laws ask, of small numbers. -/
structure Asked (p : Prc) : Prop where
  ok : validP p = true
  mn8 : p.mn ≤ 8
  mx15 : p.mx ≤ 15
  mx0 : 0 ≤ p.mx
  mi7 : p.mi ≤ 7
  il : p.inc.l.length ≤ 100
  inn : p.kind = 2 → made p.inc.neg p.inc.l p.inc.e = p.inc ∧ p.inc.neg = false ∧ -6 ≤ p.inc.e ∧ p.inc.e ≤ 6 ∧ 1 ≤ val p.inc.l ∧ val p.inc.l ≤ 1000000000
theorem prec_any (k0 k1 k2 k3 k4 k5 k6 : Int) : ∃ p : Prc, Asked p ∧ ∀ w : World, Tab w → Calls Tryz.prog 22 #[.agg #[.int .i64 k0, .int .i64 k1, .int .i64 k2, .int .i64 k3, .int .i64 k4, .int .i64 k5, .int .i64 k6]] w fun z w' => z = .returned (PV p) ∧ Below w.heap.size w w' := by
  have hk := u64_mod k0 3 (by decide) (by decide)
  rw [← wrap_same] at hk
  obtain ⟨j1, l1, hj1⟩ := and_mask k1 7 (by decide)
  obtain ⟨j2, l2, hj2⟩ := and_mask k2 7 (by decide)
  obtain ⟨j4, l4, hj4⟩ := and_mask k4 7 (by decide)
  obtain ⟨j5, l5, hj5⟩ := and_mask k5 65535 (by decide)
  obtain ⟨M, m0, m6, hM⟩ := mode_as k3
  have hk3 : IntKind.i64.wrap ((IntKind.u64.wrap k0).tmod 3) = 0 ∨ IntKind.i64.wrap ((IntKind.u64.wrap k0).tmod 3) = 1 ∨ IntKind.i64.wrap ((IntKind.u64.wrap k0).tmod 3) = 2 := by omega
  rcases hk3 with h | h | h
  · refine ⟨⟨0, j1, j1 + j2, zero, M, j4⟩, ⟨?_, by simp only; omega, by simp only; omega, by simp only; omega, by simp only; omega, by show ([] : List UInt8).length ≤ 100; decide, fun h => by simp at h⟩, fun w ht => prec_0 k0 k1 k2 k3 k4 k5 k6 w h j1 j2 j4 hj1 hj2 hj4 l1 l2 l4 M hM ht⟩
    unfold validP vm wi
    simp only [if_true, Bool.and_eq_true, decide_eq_true_eq]
    omega
  · refine ⟨⟨1, j1 + 1, j1 + 1 + j2, zero, M, j4⟩, ⟨?_, by simp only; omega, by simp only; omega, by simp only; omega, by simp only; omega, by show ([] : List UInt8).length ≤ 100; decide, fun h => by simp at h⟩, fun w ht => prec_1 k0 k1 k2 k3 k4 k5 k6 w h j1 j2 j4 hj1 hj2 hj4 l1 l2 l4 M hM ht⟩
    unfold validP vm wi
    simp only [Int.reduceEq, if_false, if_true, Bool.and_eq_true, decide_eq_true_eq]
    omega
  · have t1 := Int.tmod_lt_of_pos k6 (show (0 : Int) < 4 by decide)
    have t2 := Int.lt_tmod_of_pos k6 (show (0 : Int) < 4 by decide)
    have dl : (dig (j5 + 1)).length ≤ 6 := (dig_length_le _ _).2 (Nat.lt_of_le_of_lt (show j5 + 1 ≤ 65536 by omega) (by decide))
    have he := made_e_le false (dig (j5 + 1)) (k6.tmod 4 - 3) (by omega) (by omega) (by omega)
    have hl := made_length false (dig (j5 + 1)) (k6.tmod 4 - 3)
    have hid := made_idem false (dig (j5 + 1)) (k6.tmod 4 - 3)
    have hdg := made_isDig false (dig (j5 + 1)) (k6.tmod 4 - 3)
    have hpos : bare (dig (j5 + 1)) ≠ [] := by rw [bare_of_dig, Ne, dig_eq_nil]; omega
    have hneg : (made false (dig (j5 + 1)) (k6.tmod 4 - 3)).neg = false := by rw [made_pos _ _ hpos]
    have hne : (made false (dig (j5 + 1)) (k6.tmod 4 - 3)).l ≠ [] := by
      rw [made_pos _ _ hpos]; simp only; rw [bare_of_dig]; exact rt_ne_nil (by rw [val_dig]; omega)
    obtain ⟨g, hg⟩ : ∃ g, made false (dig (j5 + 1)) (k6.tmod 4 - 3) = g := ⟨_, rfl⟩
    rw [hg] at he hl hid hdg hneg hne
    have hvi : vinc g = true := by
      unfold vinc wi
      rw [hneg, ne_empty hne]
      simp only [Bool.not_false, Bool.true_and, Bool.and_eq_true, decide_eq_true_eq]
      omega
    have hvi2 : vinc (made g.neg g.l g.e) = true := by rw [hid]; exact hvi
    obtain ⟨v1, v2, v3, v4, v5⟩ := vinc_val hvi2
    rw [hid] at v1 v2
    refine ⟨⟨2, j1, j1 + j2, g, M, j4⟩, ⟨?_, by simp only; omega, by simp only; omega, by simp only; omega, by simp only; omega, by simp only; omega, fun _ => ⟨hid, hneg, by simp only; omega, by simp only; omega, v1, v2⟩⟩, fun w ht => prec_2 k0 k1 k2 k3 k4 k5 k6 w h j1 j2 j4 hj1 hj2 hj4 l1 l2 l4 M hM ht j5 hj5 l5 (by omega) (by omega) g hg⟩
    unfold validP vm wi
    simp only [Int.reduceEq, if_false, if_true, Bool.and_eq_true, decide_eq_true_eq]
    exact ⟨⟨m0, m6⟩, ⟨by omega, by omega⟩, ⟨by omega, by omega⟩, hvi2⟩

theorem zs_add (m k : Nat) (l : List UInt8) : zs m ++ (zs k ++ l) = zs (m + k) ++ l := by
  unfold zs; rw [← List.append_assoc, List.replicate_append_replicate]
theorem nrm_of {b : Bool} {l : List UInt8} {e : Int} (h : Nrm ⟨b, l, e⟩) (t z : Nat) (h1 : -30000 ≤ e - t) (h2 : e - t ≤ 30000) : made b (zs z ++ l ++ zs t) (e - t) = ⟨b, l, e⟩ := by
  have hd : isDig (zs z ++ l ++ zs t) = true := by rw [isDig_append, isDig_append, isDig_zs, isDig_zs, h.dg]; rfl
  have hz : ∀ z, trim (zs z ++ l ++ zs t) = l ++ zs t := by
    intro z
    induction z with
    | zero =>
      cases hl : l with
      | nil => exact absurd hl h.ne
      | cons c r => exact trim_cons _ (h.hd c r hl)
    | succ z ih => rw [show zs (z + 1) ++ l ++ zs t = 48 :: (zs z ++ l ++ zs t) by simp [zs, List.replicate_succ], trim_cons_zero, ih]
  have hb : bare (zs z ++ l ++ zs t) = l ++ zs t := by unfold bare; rw [if_pos hd, hz]
  have hr : rt (l ++ zs t) = l := by rw [rt_app_zs]; exact rt_last h.lst
  have lo := h.lo
  have hi := h.hi
  simp only at lo hi
  rw [made_pos _ _ (by rw [hb]; simp [h.ne]), hb, hr, hld_of (e := e - t) (by omega) (by omega)]
  rw [hld_of (by rw [List.length_append, zs_length]; omega) (by rw [List.length_append, zs_length]; omega)]
  congr 1
  rw [List.length_append, zs_length]; omega
theorem rt_tail {a l : List UInt8} (h : ∀ t c, l = t ++ [c] → c ≠ 48) (hne : l ≠ []) : rt (a ++ l) = a ++ l := by
  rcases List.eq_nil_or_concat l with h0 | ⟨t, c, h0⟩
  · exact absurd h0 hne
  · rw [List.concat_eq_append] at h0
    rw [h0, ← List.append_assoc]; exact rt_snoc _ (h t c h0)
/-- The value of what is shown is what was rounded. -/
theorem value_vis (p : Prc) (g : Tri) (h : g = zero ∨ Nrm g) : made (visP p g).neg ((visP p g).i ++ rt (visP p g).f) (-((rt (visP p g).f).length : Int)) = g := by
  unfold visP
  simp only
  rcases h with rfl | h
  · have hp : partsT zero = ([], []) := by decide
    rw [hp]
    simp only [List.append_nil, List.nil_append]
    have hr : ∀ n, rt (zs n) = [] := fun n => by have := rt_app_zs [] n; simpa [rt_nil] using this
    rw [hr]
    simp only [List.append_nil]
    refine made_zero _ _ ?_
    split
    · decide
    · unfold bare
      rw [if_pos (isDig_zs _)]
      have : ∀ n, trim (zs n) = [] := by
        intro n; induction n with
        | zero => rfl
        | succ n ih => rw [show zs (n + 1) = 48 :: zs n from rfl, trim_cons_zero, ih]
      exact this _
  · obtain ⟨b, l, e⟩ := g
    have lo := h.lo
    have hi := h.hi
    simp only at lo hi
    have hne : l ≠ [] := h.ne
    unfold partsT
    simp only
    by_cases h0 : 0 ≤ e
    · rw [if_pos h0]
      simp only [List.nil_append]
      rw [show rt (zs (mfrac p ⟨b, l, e⟩ - (([] : List UInt8).length : Int)).toNat) = [] by have := rt_app_zs [] (mfrac p ⟨b, l, e⟩ - (([] : List UInt8).length : Int)).toNat; simpa [rt_nil] using this]
      rw [if_neg (fun hh => hne (by have := (List.append_eq_nil_iff.1 hh.1).2; exact (List.append_eq_nil_iff.1 this).1))]
      have := nrm_of h e.toNat (p.mi - ((l ++ zs e.toNat).length : Int)).toNat (by omega) (by omega)
      rw [show e - (e.toNat : Int) = 0 by omega] at this
      simp only [List.append_nil, List.length_nil]
      rw [← List.append_assoc]
      exact this
    · rw [if_neg h0]
      by_cases hp : (l.length : Int) + e ≤ 0
      · rw [if_pos hp]
        simp only [List.append_nil]
        rw [if_neg (fun hh => hne (by have := (List.append_eq_nil_iff.1 hh.2).1; exact (List.append_eq_nil_iff.1 this).2)), rt_app_zs, rt_tail h.lst hne]
        have := nrm_of h 0 ((p.mi - (([] : List UInt8).length : Int)).toNat + (-((l.length : Int) + e)).toNat) (by omega) (by omega)
        simp only [zs_zero, List.append_nil] at this
        rw [zs_add, List.length_append, zs_length]
        rw [show -((((-((l.length : Int) + e)).toNat + l.length : Nat) : Int)) = e - ((0 : Nat) : Int) by omega]
        exact this
      · rw [if_neg hp]
        simp only
        have hlen : 0 < l.length := List.length_pos_iff.2 hne
        obtain ⟨q, hq⟩ : ∃ q : Nat, ((l.length : Int) + e).toNat = q := ⟨_, rfl⟩
        rw [hq]
        have hqb : q < l.length ∧ 0 < q := by omega
        have hdne : l.drop q ≠ [] := by intro hh; have := congrArg List.length hh; rw [List.length_drop, List.length_nil] at this; omega
        have htl : ∀ t c, l.drop q = t ++ [c] → c ≠ 48 := by
          intro t c hh
          refine h.lst (l.take q ++ t) c ?_
          show l = _
          rw [List.append_assoc, ← hh, List.take_append_drop]
        rw [if_neg (fun hh => hdne (List.append_eq_nil_iff.1 hh.2).1), rt_app_zs]
        have hrd : rt (l.drop q) = l.drop q := rt_last htl
        rw [hrd, List.append_assoc, List.take_append_drop, List.length_drop]
        have := nrm_of h 0 (p.mi - ((l.take q).length : Int)).toNat (by omega) (by omega)
        simp only [zs_zero, List.append_nil] at this
        rw [show -(((l.length - q : Nat) : Int)) = e - ((0 : Nat) : Int) by omega]
        exact this
theorem vis_len (p : Prc) (hp : Asked p) (g : Tri) (hl : g.l.length ≤ 1000) (h1 : -500 ≤ g.e) (h2 : g.e ≤ 1000) : (visP p g).i.length ≤ 2500 ∧ (visP p g).f.length ≤ 2000 := by
  obtain ⟨_, hi, hn, _⟩ := validP_parts hp.ok
  have m8 := hp.mn8
  have m7 := hp.mi7
  have hF : mfrac p g ≤ 600 := by
    unfold mfrac
    split
    · split
      · omega
      · rename_i hne
        have := List.length_pos_iff.2 hne
        omega
    · omega
  have ha : (partsT g).1.length ≤ 2000 ∧ (partsT g).2.length ≤ 500 := by
    unfold partsT
    split
    · simp only [List.length_append, zs_length, List.length_nil]; omega
    · split
      · simp only [List.length_append, zs_length, List.length_nil]; omega
      · simp only [List.length_take, List.length_drop]; omega
  unfold visP
  simp only
  constructor
  · split
    · decide
    · rw [List.length_append, zs_length]; omega
  · rw [List.length_append, zs_length]; omega
end Go.Proofs.YtfbfjkacaadbpaaGreatDoor

namespace Go.Proofs.YtfbfjkacaadbpaaGreatDoor
open Go.RowKit Florin
set_option linter.unusedVariables false
set_option linter.unusedSimpArgs false
attribute [local go_sem ↓] Go.wp_at_zero Go.wp_at_succ eq_V ne_V eq_VV

theorem HeldL.tail {w : World} {x : Nat × Array Value} {L : List (Nat × Array Value)} {W : World} (h : HeldL w (x :: L) W) : HeldL w L W :=
  ⟨fun p hp => h.box p (List.Mem.tail _ hp), fun p hp => h.own p (List.Mem.tail _ hp), (List.pairwise_cons.1 h.desc).2, h.bel⟩
set_option maxRecDepth 100000 in
set_option maxHeartbeats 6400000 in
theorem again4_eq (n : Bool) (a : Option Addr) (len cap : Nat) (L : List UInt8) (e : Int) (n1 : Bool) (a1 : Option Addr) (len1 cap1 : Nat) (L1 : List UInt8) (e1 : Int) (k0 k1 k2 k3 k4 k5 k6 : Int) (w : World) (hin : InB w a len cap L) (hin1 : InB w a1 len1 cap1 L1) (htab : Tab w) (h1 : len ≤ 30) (h2 : -30 ≤ e) (h3 : e ≤ 30) (i1 : len1 ≤ 30) (i2 : -30 ≤ e1) (i3 : e1 ≤ 30) (p : Prc) (hpr : (∀ w : World, Tab w → Calls Tryz.prog 22 #[.agg #[.int .i64 k0, .int .i64 k1, .int .i64 k2, .int .i64 k3, .int .i64 k4, .int .i64 k5, .int .i64 k6]] w fun z w' => z = .returned (PV p) ∧ Below w.heap.size w w')) (g : Tri) (gl : g.l.length ≤ 100000) (v : Vs) (ha1 : (∀ w : World, Tab w → Calls Tryz.prog 24 #[PV p, V ⟨n, dgs L, e⟩] w fun z w' => z = .returned (.tuple #[VV v, .int .i64 0]) ∧ Below w.heap.size w w')) (ha2 : (∀ w : World, Tab w → Calls Tryz.prog 24 #[PV p, V ⟨n1, dgs L1, e1⟩] w fun z w' => z = .returned (.tuple #[VV v, .int .i64 0]) ∧ Below w.heap.size w w')) (hv1 : (∀ w : World, Tab w → Calls Tryz.prog 26 #[VV v] w fun z w' => z = .returned (V g) ∧ Below w.heap.size w w')) (hv2 : (∀ w : World, Tab w → Calls Tryz.prog 26 #[VV v] w fun z w' => z = .returned (V g) ∧ Below w.heap.size w w')) (ha3 : (∀ w : World, Tab w → Calls Tryz.prog 24 #[PV p, V g] w fun z w' => z = .returned (.tuple #[VV v, .int .i64 0]) ∧ Below w.heap.size w w')) (c2 : Int) (hc : CmpIs ⟨n, dgs L, e⟩ ⟨n1, dgs L1, e1⟩ 0) (hc2 : CmpIs g g c2) :
    Calls Tryz.prog 8 #[RV n a len cap e, RV n1 a1 len1 cap1 e1, .agg #[.int .i64 k0, .int .i64 k1, .int .i64 k2, .int .i64 k3, .int .i64 k4, .int .i64 k5, .int .i64 k6]] w fun x w' => x = .returned (.bool true) ∧ Below w.heap.size w w' := by
  have hcA := hin.2.1
  have hmA := hin.2.2.1
  have hcB := hin1.2.1
  have hmB := hin1.2.2.1
  have LL : (dgs L).length ≤ 100000 := by rw [dgs_length, hin.1]; omega
  have LL1 : (dgs L1).length ≤ 100000 := by rw [dgs_length, hin1.1]; omega
  have HT := Lib.hid htab
  have HIN := Lib.hid hin
  have HIN1 := Lib.hid hin1
  have HPR := Lib.hid hpr
  have HA1 := Lib.hid ha1
  have HA2 := Lib.hid ha2
  have HA3 := Lib.hid ha3
  have HV1 := Lib.hid hv1
  have HV2 := Lib.hid hv2
  have HC := Lib.hid hc
  have HC2 := Lib.hid hc2
  clear htab hin hin1 hpr ha1 ha2 ha3 hv1 hv2 hc hc2
  go_enter Tryz.func8, Tryz.ntmps8
  go_wp2_with fail
  with_reducible refine (head4 _ (HT.out.below (HeldL.alloc (HeldL.alloc (HeldL.alloc (HeldL.refl w) (w.heap.size) #[.bool n, .slice a len cap, .int .i64 e] 24 (by simp)) (w.heap.size + 1) #[.bool n1, .slice a1 len1 cap1, .int .i64 e1] 24 (by simp)) (w.heap.size + 1 + 1) #[.int .i64 k0, .int .i64 k1, .int .i64 k2, .int .i64 k3, .int .i64 k4, .int .i64 k5, .int .i64 k6] 43 (by simp)).bel)).mono ?_
  rintro x w1 ⟨rfl, hb⟩
  have H1 : Hid (HeldL w [(w.heap.size + 1 + 1, #[.int .i64 k0, .int .i64 k1, .int .i64 k2, .int .i64 k3, .int .i64 k4, .int .i64 k5, .int .i64 k6]), (w.heap.size + 1, #[.bool n1, .slice a1 len1 cap1, .int .i64 e1]), (w.heap.size, #[.bool n, .slice a len cap, .int .i64 e])] w1) := Lib.hid (HeldL.keep (HeldL.alloc (HeldL.alloc (HeldL.alloc (HeldL.refl w) (w.heap.size) #[.bool n, .slice a len cap, .int .i64 e] 24 (by simp)) (w.heap.size + 1) #[.bool n1, .slice a1 len1 cap1, .int .i64 e1] 24 (by simp)) (w.heap.size + 1 + 1) #[.int .i64 k0, .int .i64 k1, .int .i64 k2, .int .i64 k3, .int .i64 k4, .int .i64 k5, .int .i64 k6] 43 (by simp)) hb)
  clear hb
  have q0 : w1.cell? ⟨w.heap.size, 0, none⟩ = some (.bool n) := (H1.out.f (List.Mem.tail _ (List.Mem.tail _ (List.Mem.head _)))).cell 0
  have q1 : w1.cell? ⟨w.heap.size, 1, none⟩ = some (.slice a len cap) := (H1.out.f (List.Mem.tail _ (List.Mem.tail _ (List.Mem.head _)))).cell 1
  have q2 : w1.cell? ⟨w.heap.size, 2, none⟩ = some (.int .i64 e) := (H1.out.f (List.Mem.tail _ (List.Mem.tail _ (List.Mem.head _)))).cell 2
  have ql : w.heap.size < w1.heap.size := (H1.out.f (List.Mem.tail _ (List.Mem.tail _ (List.Mem.head _)))).lt
  have r0 : w1.cell? ⟨w.heap.size + 1, 0, none⟩ = some (.bool n1) := (H1.out.f (List.Mem.tail _ (List.Mem.head _))).cell 0
  have r1 : w1.cell? ⟨w.heap.size + 1, 1, none⟩ = some (.slice a1 len1 cap1) := (H1.out.f (List.Mem.tail _ (List.Mem.head _))).cell 1
  have r2 : w1.cell? ⟨w.heap.size + 1, 2, none⟩ = some (.int .i64 e1) := (H1.out.f (List.Mem.tail _ (List.Mem.head _))).cell 2
  have rl : w.heap.size + 1 < w1.heap.size := (H1.out.f (List.Mem.tail _ (List.Mem.head _))).lt
  have k0 : w1.cell? ⟨w.heap.size + 1 + 1, 0, none⟩ = some (.int .i64 k0) := (H1.out.f (List.Mem.head _)).cell 0
  have k1 : w1.cell? ⟨w.heap.size + 1 + 1, 1, none⟩ = some (.int .i64 k1) := (H1.out.f (List.Mem.head _)).cell 1
  have k2 : w1.cell? ⟨w.heap.size + 1 + 1, 2, none⟩ = some (.int .i64 k2) := (H1.out.f (List.Mem.head _)).cell 2
  have k3 : w1.cell? ⟨w.heap.size + 1 + 1, 3, none⟩ = some (.int .i64 k3) := (H1.out.f (List.Mem.head _)).cell 3
  have k4 : w1.cell? ⟨w.heap.size + 1 + 1, 4, none⟩ = some (.int .i64 k4) := (H1.out.f (List.Mem.head _)).cell 4
  have k5 : w1.cell? ⟨w.heap.size + 1 + 1, 5, none⟩ = some (.int .i64 k5) := (H1.out.f (List.Mem.head _)).cell 5
  have k6 : w1.cell? ⟨w.heap.size + 1 + 1, 6, none⟩ = some (.int .i64 k6) := (H1.out.f (List.Mem.head _)).cell 6
  have kl : w.heap.size + 1 + 1 < w1.heap.size := (H1.out.f (List.Mem.head _)).lt
  go_wp2_with fail
  with_reducible refine (few_yes n a len cap e 30 _ hcA hmA (by decide) (by decide) (by omega) h2 h3).mono ?_
  rintro x w2 ⟨rfl, hb⟩
  clear q0 q1 q2 ql r0 r1 r2 rl k0 k1 k2 k3 k4 k5 k6 kl
  have H2 : Hid (HeldL w [(w.heap.size + 1 + 1, #[.int .i64 k0, .int .i64 k1, .int .i64 k2, .int .i64 k3, .int .i64 k4, .int .i64 k5, .int .i64 k6]), (w.heap.size + 1, #[.bool n1, .slice a1 len1 cap1, .int .i64 e1]), (w.heap.size, #[.bool n, .slice a len cap, .int .i64 e])] w2) := Lib.hid (HeldL.keep H1.out hb)
  clear H1
  clear hb
  have q0 : w2.cell? ⟨w.heap.size, 0, none⟩ = some (.bool n) := (H2.out.f (List.Mem.tail _ (List.Mem.tail _ (List.Mem.head _)))).cell 0
  have q1 : w2.cell? ⟨w.heap.size, 1, none⟩ = some (.slice a len cap) := (H2.out.f (List.Mem.tail _ (List.Mem.tail _ (List.Mem.head _)))).cell 1
  have q2 : w2.cell? ⟨w.heap.size, 2, none⟩ = some (.int .i64 e) := (H2.out.f (List.Mem.tail _ (List.Mem.tail _ (List.Mem.head _)))).cell 2
  have ql : w.heap.size < w2.heap.size := (H2.out.f (List.Mem.tail _ (List.Mem.tail _ (List.Mem.head _)))).lt
  have r0 : w2.cell? ⟨w.heap.size + 1, 0, none⟩ = some (.bool n1) := (H2.out.f (List.Mem.tail _ (List.Mem.head _))).cell 0
  have r1 : w2.cell? ⟨w.heap.size + 1, 1, none⟩ = some (.slice a1 len1 cap1) := (H2.out.f (List.Mem.tail _ (List.Mem.head _))).cell 1
  have r2 : w2.cell? ⟨w.heap.size + 1, 2, none⟩ = some (.int .i64 e1) := (H2.out.f (List.Mem.tail _ (List.Mem.head _))).cell 2
  have rl : w.heap.size + 1 < w2.heap.size := (H2.out.f (List.Mem.tail _ (List.Mem.head _))).lt
  have k0 : w2.cell? ⟨w.heap.size + 1 + 1, 0, none⟩ = some (.int .i64 k0) := (H2.out.f (List.Mem.head _)).cell 0
  have k1 : w2.cell? ⟨w.heap.size + 1 + 1, 1, none⟩ = some (.int .i64 k1) := (H2.out.f (List.Mem.head _)).cell 1
  have k2 : w2.cell? ⟨w.heap.size + 1 + 1, 2, none⟩ = some (.int .i64 k2) := (H2.out.f (List.Mem.head _)).cell 2
  have k3 : w2.cell? ⟨w.heap.size + 1 + 1, 3, none⟩ = some (.int .i64 k3) := (H2.out.f (List.Mem.head _)).cell 3
  have k4 : w2.cell? ⟨w.heap.size + 1 + 1, 4, none⟩ = some (.int .i64 k4) := (H2.out.f (List.Mem.head _)).cell 4
  have k5 : w2.cell? ⟨w.heap.size + 1 + 1, 5, none⟩ = some (.int .i64 k5) := (H2.out.f (List.Mem.head _)).cell 5
  have k6 : w2.cell? ⟨w.heap.size + 1 + 1, 6, none⟩ = some (.int .i64 k6) := (H2.out.f (List.Mem.head _)).cell 6
  have kl : w.heap.size + 1 + 1 < w2.heap.size := (H2.out.f (List.Mem.head _)).lt
  go_wp2_with fail
  with_reducible refine (few_yes n1 a1 len1 cap1 e1 30 _ hcB hmB (by decide) (by decide) (by omega) i2 i3).mono ?_
  rintro x w3 ⟨rfl, hb⟩
  clear q0 q1 q2 ql r0 r1 r2 rl k0 k1 k2 k3 k4 k5 k6 kl
  have H3 : Hid (HeldL w [(w.heap.size + 1 + 1, #[.int .i64 k0, .int .i64 k1, .int .i64 k2, .int .i64 k3, .int .i64 k4, .int .i64 k5, .int .i64 k6]), (w.heap.size + 1, #[.bool n1, .slice a1 len1 cap1, .int .i64 e1]), (w.heap.size, #[.bool n, .slice a len cap, .int .i64 e])] w3) := Lib.hid (HeldL.keep H2.out hb)
  clear H2
  clear hb
  have q0 : w3.cell? ⟨w.heap.size, 0, none⟩ = some (.bool n) := (H3.out.f (List.Mem.tail _ (List.Mem.tail _ (List.Mem.head _)))).cell 0
  have q1 : w3.cell? ⟨w.heap.size, 1, none⟩ = some (.slice a len cap) := (H3.out.f (List.Mem.tail _ (List.Mem.tail _ (List.Mem.head _)))).cell 1
  have q2 : w3.cell? ⟨w.heap.size, 2, none⟩ = some (.int .i64 e) := (H3.out.f (List.Mem.tail _ (List.Mem.tail _ (List.Mem.head _)))).cell 2
  have ql : w.heap.size < w3.heap.size := (H3.out.f (List.Mem.tail _ (List.Mem.tail _ (List.Mem.head _)))).lt
  have r0 : w3.cell? ⟨w.heap.size + 1, 0, none⟩ = some (.bool n1) := (H3.out.f (List.Mem.tail _ (List.Mem.head _))).cell 0
  have r1 : w3.cell? ⟨w.heap.size + 1, 1, none⟩ = some (.slice a1 len1 cap1) := (H3.out.f (List.Mem.tail _ (List.Mem.head _))).cell 1
  have r2 : w3.cell? ⟨w.heap.size + 1, 2, none⟩ = some (.int .i64 e1) := (H3.out.f (List.Mem.tail _ (List.Mem.head _))).cell 2
  have rl : w.heap.size + 1 < w3.heap.size := (H3.out.f (List.Mem.tail _ (List.Mem.head _))).lt
  have k0 : w3.cell? ⟨w.heap.size + 1 + 1, 0, none⟩ = some (.int .i64 k0) := (H3.out.f (List.Mem.head _)).cell 0
  have k1 : w3.cell? ⟨w.heap.size + 1 + 1, 1, none⟩ = some (.int .i64 k1) := (H3.out.f (List.Mem.head _)).cell 1
  have k2 : w3.cell? ⟨w.heap.size + 1 + 1, 2, none⟩ = some (.int .i64 k2) := (H3.out.f (List.Mem.head _)).cell 2
  have k3 : w3.cell? ⟨w.heap.size + 1 + 1, 3, none⟩ = some (.int .i64 k3) := (H3.out.f (List.Mem.head _)).cell 3
  have k4 : w3.cell? ⟨w.heap.size + 1 + 1, 4, none⟩ = some (.int .i64 k4) := (H3.out.f (List.Mem.head _)).cell 4
  have k5 : w3.cell? ⟨w.heap.size + 1 + 1, 5, none⟩ = some (.int .i64 k5) := (H3.out.f (List.Mem.head _)).cell 5
  have k6 : w3.cell? ⟨w.heap.size + 1 + 1, 6, none⟩ = some (.int .i64 k6) := (H3.out.f (List.Mem.head _)).cell 6
  have kl : w.heap.size + 1 + 1 < w3.heap.size := (H3.out.f (List.Mem.head _)).lt
  go_wp2_with fail
  with_reducible refine (HPR.out _ (HT.out.below H3.out.bel)).mono ?_
  rintro x w4 ⟨rfl, hb⟩
  clear q0 q1 q2 ql r0 r1 r2 rl k0 k1 k2 k3 k4 k5 k6 kl
  have H4 : Hid (HeldL w [(w.heap.size + 1 + 1, #[.int .i64 k0, .int .i64 k1, .int .i64 k2, .int .i64 k3, .int .i64 k4, .int .i64 k5, .int .i64 k6]), (w.heap.size + 1, #[.bool n1, .slice a1 len1 cap1, .int .i64 e1]), (w.heap.size, #[.bool n, .slice a len cap, .int .i64 e])] w4) := Lib.hid (HeldL.keep H3.out hb)
  clear H3
  clear hb
  have q0 : w4.cell? ⟨w.heap.size, 0, none⟩ = some (.bool n) := (H4.out.f (List.Mem.tail _ (List.Mem.tail _ (List.Mem.head _)))).cell 0
  have q1 : w4.cell? ⟨w.heap.size, 1, none⟩ = some (.slice a len cap) := (H4.out.f (List.Mem.tail _ (List.Mem.tail _ (List.Mem.head _)))).cell 1
  have q2 : w4.cell? ⟨w.heap.size, 2, none⟩ = some (.int .i64 e) := (H4.out.f (List.Mem.tail _ (List.Mem.tail _ (List.Mem.head _)))).cell 2
  have ql : w.heap.size < w4.heap.size := (H4.out.f (List.Mem.tail _ (List.Mem.tail _ (List.Mem.head _)))).lt
  have r0 : w4.cell? ⟨w.heap.size + 1, 0, none⟩ = some (.bool n1) := (H4.out.f (List.Mem.tail _ (List.Mem.head _))).cell 0
  have r1 : w4.cell? ⟨w.heap.size + 1, 1, none⟩ = some (.slice a1 len1 cap1) := (H4.out.f (List.Mem.tail _ (List.Mem.head _))).cell 1
  have r2 : w4.cell? ⟨w.heap.size + 1, 2, none⟩ = some (.int .i64 e1) := (H4.out.f (List.Mem.tail _ (List.Mem.head _))).cell 2
  have rl : w.heap.size + 1 < w4.heap.size := (H4.out.f (List.Mem.tail _ (List.Mem.head _))).lt
  go_wp2_with fail
  with_reducible refine (make_as n a len cap L e _ (HIN.out.below (HeldL.alloc H4.out (w4.heap.size) #[.int .i64 p.kind, .int .i64 p.mn, .int .i64 p.mx, .bool p.inc.neg, S p.inc.l, .int .i64 p.inc.e, .int .i64 p.mode, .int .i64 p.mi] 46 (by simp)).bel) (by omega)).mono ?_
  rintro x w5 ⟨rfl, hb⟩
  clear q0 q1 q2 ql r0 r1 r2 rl
  have H5 : Hid (HeldL w [(w4.heap.size, #[.int .i64 p.kind, .int .i64 p.mn, .int .i64 p.mx, .bool p.inc.neg, S p.inc.l, .int .i64 p.inc.e, .int .i64 p.mode, .int .i64 p.mi]), (w.heap.size + 1 + 1, #[.int .i64 k0, .int .i64 k1, .int .i64 k2, .int .i64 k3, .int .i64 k4, .int .i64 k5, .int .i64 k6]), (w.heap.size + 1, #[.bool n1, .slice a1 len1 cap1, .int .i64 e1]), (w.heap.size, #[.bool n, .slice a len cap, .int .i64 e])] w5) := Lib.hid (HeldL.keep (HeldL.alloc H4.out (w4.heap.size) #[.int .i64 p.kind, .int .i64 p.mn, .int .i64 p.mx, .bool p.inc.neg, S p.inc.l, .int .i64 p.inc.e, .int .i64 p.mode, .int .i64 p.mi] 46 (by simp)) hb)
  clear H4
  clear hb
  have r0 : w5.cell? ⟨w.heap.size + 1, 0, none⟩ = some (.bool n1) := (H5.out.f (List.Mem.tail _ (List.Mem.tail _ (List.Mem.head _)))).cell 0
  have r1 : w5.cell? ⟨w.heap.size + 1, 1, none⟩ = some (.slice a1 len1 cap1) := (H5.out.f (List.Mem.tail _ (List.Mem.tail _ (List.Mem.head _)))).cell 1
  have r2 : w5.cell? ⟨w.heap.size + 1, 2, none⟩ = some (.int .i64 e1) := (H5.out.f (List.Mem.tail _ (List.Mem.tail _ (List.Mem.head _)))).cell 2
  have rl : w.heap.size + 1 < w5.heap.size := (H5.out.f (List.Mem.tail _ (List.Mem.tail _ (List.Mem.head _)))).lt
  have bp0 : w5.cell? ⟨w4.heap.size, 0, none⟩ = some (.int .i64 p.kind) := (H5.out.f (List.Mem.head _)).cell 0
  have bp1 : w5.cell? ⟨w4.heap.size, 1, none⟩ = some (.int .i64 p.mn) := (H5.out.f (List.Mem.head _)).cell 1
  have bp2 : w5.cell? ⟨w4.heap.size, 2, none⟩ = some (.int .i64 p.mx) := (H5.out.f (List.Mem.head _)).cell 2
  have bp3 : w5.cell? ⟨w4.heap.size, 3, none⟩ = some (.bool p.inc.neg) := (H5.out.f (List.Mem.head _)).cell 3
  have bp4 : w5.cell? ⟨w4.heap.size, 4, none⟩ = some (S p.inc.l) := (H5.out.f (List.Mem.head _)).cell 4
  have bp5 : w5.cell? ⟨w4.heap.size, 5, none⟩ = some (.int .i64 p.inc.e) := (H5.out.f (List.Mem.head _)).cell 5
  have bp6 : w5.cell? ⟨w4.heap.size, 6, none⟩ = some (.int .i64 p.mode) := (H5.out.f (List.Mem.head _)).cell 6
  have bp7 : w5.cell? ⟨w4.heap.size, 7, none⟩ = some (.int .i64 p.mi) := (H5.out.f (List.Mem.head _)).cell 7
  have bpl : w4.heap.size < w5.heap.size := (H5.out.f (List.Mem.head _)).lt
  go_wp2_with fail
  with_reducible refine (make_as n1 a1 len1 cap1 L1 e1 _ (HIN1.out.below (HeldL.alloc H5.out (w5.heap.size) #[.bool n, S (dgs L), .int .i64 e] 31 (by simp)).bel) (by omega)).mono ?_
  rintro x w6 ⟨rfl, hb⟩
  clear r0 r1 r2 rl bp0 bp1 bp2 bp3 bp4 bp5 bp6 bp7 bpl
  have H6 : Hid (HeldL w [(w5.heap.size, #[.bool n, S (dgs L), .int .i64 e]), (w4.heap.size, #[.int .i64 p.kind, .int .i64 p.mn, .int .i64 p.mx, .bool p.inc.neg, S p.inc.l, .int .i64 p.inc.e, .int .i64 p.mode, .int .i64 p.mi]), (w.heap.size + 1 + 1, #[.int .i64 k0, .int .i64 k1, .int .i64 k2, .int .i64 k3, .int .i64 k4, .int .i64 k5, .int .i64 k6]), (w.heap.size + 1, #[.bool n1, .slice a1 len1 cap1, .int .i64 e1]), (w.heap.size, #[.bool n, .slice a len cap, .int .i64 e])] w6) := Lib.hid (HeldL.keep (HeldL.alloc H5.out (w5.heap.size) #[.bool n, S (dgs L), .int .i64 e] 31 (by simp)) hb)
  clear H5
  clear hb
  have bp0 : w6.cell? ⟨w4.heap.size, 0, none⟩ = some (.int .i64 p.kind) := (H6.out.f (List.Mem.tail _ (List.Mem.head _))).cell 0
  have bp1 : w6.cell? ⟨w4.heap.size, 1, none⟩ = some (.int .i64 p.mn) := (H6.out.f (List.Mem.tail _ (List.Mem.head _))).cell 1
  have bp2 : w6.cell? ⟨w4.heap.size, 2, none⟩ = some (.int .i64 p.mx) := (H6.out.f (List.Mem.tail _ (List.Mem.head _))).cell 2
  have bp3 : w6.cell? ⟨w4.heap.size, 3, none⟩ = some (.bool p.inc.neg) := (H6.out.f (List.Mem.tail _ (List.Mem.head _))).cell 3
  have bp4 : w6.cell? ⟨w4.heap.size, 4, none⟩ = some (S p.inc.l) := (H6.out.f (List.Mem.tail _ (List.Mem.head _))).cell 4
  have bp5 : w6.cell? ⟨w4.heap.size, 5, none⟩ = some (.int .i64 p.inc.e) := (H6.out.f (List.Mem.tail _ (List.Mem.head _))).cell 5
  have bp6 : w6.cell? ⟨w4.heap.size, 6, none⟩ = some (.int .i64 p.mode) := (H6.out.f (List.Mem.tail _ (List.Mem.head _))).cell 6
  have bp7 : w6.cell? ⟨w4.heap.size, 7, none⟩ = some (.int .i64 p.mi) := (H6.out.f (List.Mem.tail _ (List.Mem.head _))).cell 7
  have bpl : w4.heap.size < w6.heap.size := (H6.out.f (List.Mem.tail _ (List.Mem.head _))).lt
  have bx0 : w6.cell? ⟨w5.heap.size, 0, none⟩ = some (.bool n) := (H6.out.f (List.Mem.head _)).cell 0
  have bx1 : w6.cell? ⟨w5.heap.size, 1, none⟩ = some (S (dgs L)) := (H6.out.f (List.Mem.head _)).cell 1
  have bx2 : w6.cell? ⟨w5.heap.size, 2, none⟩ = some (.int .i64 e) := (H6.out.f (List.Mem.head _)).cell 2
  have bxl : w5.heap.size < w6.heap.size := (H6.out.f (List.Mem.head _)).lt
  go_wp2_with fail
  with_reducible refine (HA1.out _ (HT.out.below (HeldL.alloc H6.out (w6.heap.size) #[.bool n1, S (dgs L1), .int .i64 e1] 31 (by simp)).bel)).mono ?_
  rintro x w7 ⟨rfl, hb⟩
  clear bp0 bp1 bp2 bp3 bp4 bp5 bp6 bp7 bpl bx0 bx1 bx2 bxl
  have H7 : Hid (HeldL w [(w6.heap.size, #[.bool n1, S (dgs L1), .int .i64 e1]), (w5.heap.size, #[.bool n, S (dgs L), .int .i64 e]), (w4.heap.size, #[.int .i64 p.kind, .int .i64 p.mn, .int .i64 p.mx, .bool p.inc.neg, S p.inc.l, .int .i64 p.inc.e, .int .i64 p.mode, .int .i64 p.mi]), (w.heap.size + 1 + 1, #[.int .i64 k0, .int .i64 k1, .int .i64 k2, .int .i64 k3, .int .i64 k4, .int .i64 k5, .int .i64 k6]), (w.heap.size + 1, #[.bool n1, .slice a1 len1 cap1, .int .i64 e1]), (w.heap.size, #[.bool n, .slice a len cap, .int .i64 e])] w7) := Lib.hid (HeldL.keep (HeldL.alloc H6.out (w6.heap.size) #[.bool n1, S (dgs L1), .int .i64 e1] 31 (by simp)) hb)
  clear H6
  clear hb
  have bp0 : w7.cell? ⟨w4.heap.size, 0, none⟩ = some (.int .i64 p.kind) := (H7.out.f (List.Mem.tail _ (List.Mem.tail _ (List.Mem.head _)))).cell 0
  have bp1 : w7.cell? ⟨w4.heap.size, 1, none⟩ = some (.int .i64 p.mn) := (H7.out.f (List.Mem.tail _ (List.Mem.tail _ (List.Mem.head _)))).cell 1
  have bp2 : w7.cell? ⟨w4.heap.size, 2, none⟩ = some (.int .i64 p.mx) := (H7.out.f (List.Mem.tail _ (List.Mem.tail _ (List.Mem.head _)))).cell 2
  have bp3 : w7.cell? ⟨w4.heap.size, 3, none⟩ = some (.bool p.inc.neg) := (H7.out.f (List.Mem.tail _ (List.Mem.tail _ (List.Mem.head _)))).cell 3
  have bp4 : w7.cell? ⟨w4.heap.size, 4, none⟩ = some (S p.inc.l) := (H7.out.f (List.Mem.tail _ (List.Mem.tail _ (List.Mem.head _)))).cell 4
  have bp5 : w7.cell? ⟨w4.heap.size, 5, none⟩ = some (.int .i64 p.inc.e) := (H7.out.f (List.Mem.tail _ (List.Mem.tail _ (List.Mem.head _)))).cell 5
  have bp6 : w7.cell? ⟨w4.heap.size, 6, none⟩ = some (.int .i64 p.mode) := (H7.out.f (List.Mem.tail _ (List.Mem.tail _ (List.Mem.head _)))).cell 6
  have bp7 : w7.cell? ⟨w4.heap.size, 7, none⟩ = some (.int .i64 p.mi) := (H7.out.f (List.Mem.tail _ (List.Mem.tail _ (List.Mem.head _)))).cell 7
  have bpl : w4.heap.size < w7.heap.size := (H7.out.f (List.Mem.tail _ (List.Mem.tail _ (List.Mem.head _)))).lt
  have bx0 : w7.cell? ⟨w5.heap.size, 0, none⟩ = some (.bool n) := (H7.out.f (List.Mem.tail _ (List.Mem.head _))).cell 0
  have bx1 : w7.cell? ⟨w5.heap.size, 1, none⟩ = some (S (dgs L)) := (H7.out.f (List.Mem.tail _ (List.Mem.head _))).cell 1
  have bx2 : w7.cell? ⟨w5.heap.size, 2, none⟩ = some (.int .i64 e) := (H7.out.f (List.Mem.tail _ (List.Mem.head _))).cell 2
  have bxl : w5.heap.size < w7.heap.size := (H7.out.f (List.Mem.tail _ (List.Mem.head _))).lt
  have by0 : w7.cell? ⟨w6.heap.size, 0, none⟩ = some (.bool n1) := (H7.out.f (List.Mem.head _)).cell 0
  have by1 : w7.cell? ⟨w6.heap.size, 1, none⟩ = some (S (dgs L1)) := (H7.out.f (List.Mem.head _)).cell 1
  have by2 : w7.cell? ⟨w6.heap.size, 2, none⟩ = some (.int .i64 e1) := (H7.out.f (List.Mem.head _)).cell 2
  have byl : w6.heap.size < w7.heap.size := (H7.out.f (List.Mem.head _)).lt
  go_wp2_with fail
  with_reducible refine (HA2.out _ (HT.out.below (HeldL.alloc H7.out (w7.heap.size) #[.bool v.neg, S v.i, S v.f] 49 (by simp)).bel)).mono ?_
  rintro x w8 ⟨rfl, hb⟩
  clear bp0 bp1 bp2 bp3 bp4 bp5 bp6 bp7 bpl bx0 bx1 bx2 bxl by0 by1 by2 byl
  have H8 : Hid (HeldL w [(w7.heap.size, #[.bool v.neg, S v.i, S v.f]), (w6.heap.size, #[.bool n1, S (dgs L1), .int .i64 e1]), (w5.heap.size, #[.bool n, S (dgs L), .int .i64 e]), (w4.heap.size, #[.int .i64 p.kind, .int .i64 p.mn, .int .i64 p.mx, .bool p.inc.neg, S p.inc.l, .int .i64 p.inc.e, .int .i64 p.mode, .int .i64 p.mi]), (w.heap.size + 1 + 1, #[.int .i64 k0, .int .i64 k1, .int .i64 k2, .int .i64 k3, .int .i64 k4, .int .i64 k5, .int .i64 k6]), (w.heap.size + 1, #[.bool n1, .slice a1 len1 cap1, .int .i64 e1]), (w.heap.size, #[.bool n, .slice a len cap, .int .i64 e])] w8) := Lib.hid (HeldL.keep (HeldL.alloc H7.out (w7.heap.size) #[.bool v.neg, S v.i, S v.f] 49 (by simp)) hb)
  clear H7
  clear hb
  have bp0 : w8.cell? ⟨w4.heap.size, 0, none⟩ = some (.int .i64 p.kind) := (H8.out.f (List.Mem.tail _ (List.Mem.tail _ (List.Mem.tail _ (List.Mem.head _))))).cell 0
  have bp1 : w8.cell? ⟨w4.heap.size, 1, none⟩ = some (.int .i64 p.mn) := (H8.out.f (List.Mem.tail _ (List.Mem.tail _ (List.Mem.tail _ (List.Mem.head _))))).cell 1
  have bp2 : w8.cell? ⟨w4.heap.size, 2, none⟩ = some (.int .i64 p.mx) := (H8.out.f (List.Mem.tail _ (List.Mem.tail _ (List.Mem.tail _ (List.Mem.head _))))).cell 2
  have bp3 : w8.cell? ⟨w4.heap.size, 3, none⟩ = some (.bool p.inc.neg) := (H8.out.f (List.Mem.tail _ (List.Mem.tail _ (List.Mem.tail _ (List.Mem.head _))))).cell 3
  have bp4 : w8.cell? ⟨w4.heap.size, 4, none⟩ = some (S p.inc.l) := (H8.out.f (List.Mem.tail _ (List.Mem.tail _ (List.Mem.tail _ (List.Mem.head _))))).cell 4
  have bp5 : w8.cell? ⟨w4.heap.size, 5, none⟩ = some (.int .i64 p.inc.e) := (H8.out.f (List.Mem.tail _ (List.Mem.tail _ (List.Mem.tail _ (List.Mem.head _))))).cell 5
  have bp6 : w8.cell? ⟨w4.heap.size, 6, none⟩ = some (.int .i64 p.mode) := (H8.out.f (List.Mem.tail _ (List.Mem.tail _ (List.Mem.tail _ (List.Mem.head _))))).cell 6
  have bp7 : w8.cell? ⟨w4.heap.size, 7, none⟩ = some (.int .i64 p.mi) := (H8.out.f (List.Mem.tail _ (List.Mem.tail _ (List.Mem.tail _ (List.Mem.head _))))).cell 7
  have bpl : w4.heap.size < w8.heap.size := (H8.out.f (List.Mem.tail _ (List.Mem.tail _ (List.Mem.tail _ (List.Mem.head _))))).lt
  have bx0 : w8.cell? ⟨w5.heap.size, 0, none⟩ = some (.bool n) := (H8.out.f (List.Mem.tail _ (List.Mem.tail _ (List.Mem.head _)))).cell 0
  have bx1 : w8.cell? ⟨w5.heap.size, 1, none⟩ = some (S (dgs L)) := (H8.out.f (List.Mem.tail _ (List.Mem.tail _ (List.Mem.head _)))).cell 1
  have bx2 : w8.cell? ⟨w5.heap.size, 2, none⟩ = some (.int .i64 e) := (H8.out.f (List.Mem.tail _ (List.Mem.tail _ (List.Mem.head _)))).cell 2
  have bxl : w5.heap.size < w8.heap.size := (H8.out.f (List.Mem.tail _ (List.Mem.tail _ (List.Mem.head _)))).lt
  have by0 : w8.cell? ⟨w6.heap.size, 0, none⟩ = some (.bool n1) := (H8.out.f (List.Mem.tail _ (List.Mem.head _))).cell 0
  have by1 : w8.cell? ⟨w6.heap.size, 1, none⟩ = some (S (dgs L1)) := (H8.out.f (List.Mem.tail _ (List.Mem.head _))).cell 1
  have by2 : w8.cell? ⟨w6.heap.size, 2, none⟩ = some (.int .i64 e1) := (H8.out.f (List.Mem.tail _ (List.Mem.head _))).cell 2
  have byl : w6.heap.size < w8.heap.size := (H8.out.f (List.Mem.tail _ (List.Mem.head _))).lt
  have bv0 : w8.cell? ⟨w7.heap.size, 0, none⟩ = some (.bool v.neg) := (H8.out.f (List.Mem.head _)).cell 0
  have bv1 : w8.cell? ⟨w7.heap.size, 1, none⟩ = some (S v.i) := (H8.out.f (List.Mem.head _)).cell 1
  have bv2 : w8.cell? ⟨w7.heap.size, 2, none⟩ = some (S v.f) := (H8.out.f (List.Mem.head _)).cell 2
  have bvl : w7.heap.size < w8.heap.size := (H8.out.f (List.Mem.head _)).lt
  go_upto_region 10 with fail
  go_cut [14, 15] from 17 (fun vp ve w' => ∃ b : Nat, vp = .pointer (some ⟨b, 0, none⟩) ∧ ve = .int .i64 0 ∧ HeldL w ((b, #[.bool v.neg, S v.i, S v.f]) :: [(w8.heap.size, #[.bool v.neg, S v.i, S v.f]), (w7.heap.size, #[.bool v.neg, S v.i, S v.f]), (w6.heap.size, #[.bool n1, S (dgs L1), .int .i64 e1]), (w5.heap.size, #[.bool n, S (dgs L), .int .i64 e]), (w4.heap.size, #[.int .i64 p.kind, .int .i64 p.mn, .int .i64 p.mx, .bool p.inc.neg, S p.inc.l, .int .i64 p.inc.e, .int .i64 p.mode, .int .i64 p.mi]), (w.heap.size + 1 + 1, #[.int .i64 k0, .int .i64 k1, .int .i64 k2, .int .i64 k3, .int .i64 k4, .int .i64 k5, .int .i64 k6]), (w.heap.size + 1, #[.bool n1, .slice a1 len1 cap1, .int .i64 e1]), (w.heap.size, #[.bool n, .slice a len cap, .int .i64 e])]) w')
  case first =>
    have ALL1 : Hid (∀ w' : World, HeldL w [(w8.heap.size, #[.bool v.neg, S v.i, S v.f]), (w7.heap.size, #[.bool v.neg, S v.i, S v.f]), (w6.heap.size, #[.bool n1, S (dgs L1), .int .i64 e1]), (w5.heap.size, #[.bool n, S (dgs L), .int .i64 e]), (w4.heap.size, #[.int .i64 p.kind, .int .i64 p.mn, .int .i64 p.mx, .bool p.inc.neg, S p.inc.l, .int .i64 p.inc.e, .int .i64 p.mode, .int .i64 p.mi]), (w.heap.size + 1 + 1, #[.int .i64 k0, .int .i64 k1, .int .i64 k2, .int .i64 k3, .int .i64 k4, .int .i64 k5, .int .i64 k6]), (w.heap.size + 1, #[.bool n1, .slice a1 len1 cap1, .int .i64 e1]), (w.heap.size, #[.bool n, .slice a len cap, .int .i64 e])] w' → w'.cell? ⟨w4.heap.size, 0, none⟩ = some (.int .i64 p.kind) ∧ w'.cell? ⟨w4.heap.size, 1, none⟩ = some (.int .i64 p.mn) ∧ w'.cell? ⟨w4.heap.size, 2, none⟩ = some (.int .i64 p.mx) ∧ w'.cell? ⟨w4.heap.size, 3, none⟩ = some (.bool p.inc.neg) ∧ w'.cell? ⟨w4.heap.size, 4, none⟩ = some (S p.inc.l) ∧ w'.cell? ⟨w4.heap.size, 5, none⟩ = some (.int .i64 p.inc.e) ∧ w'.cell? ⟨w4.heap.size, 6, none⟩ = some (.int .i64 p.mode) ∧ w'.cell? ⟨w4.heap.size, 7, none⟩ = some (.int .i64 p.mi) ∧ w'.cell? ⟨w7.heap.size, 0, none⟩ = some (.bool v.neg) ∧ w'.cell? ⟨w7.heap.size, 1, none⟩ = some (S v.i) ∧ w'.cell? ⟨w7.heap.size, 2, none⟩ = some (S v.f) ∧ HeldL w [(w8.heap.size, #[.bool v.neg, S v.i, S v.f]), (w7.heap.size, #[.bool v.neg, S v.i, S v.f]), (w6.heap.size, #[.bool n1, S (dgs L1), .int .i64 e1]), (w5.heap.size, #[.bool n, S (dgs L), .int .i64 e]), (w4.heap.size, #[.int .i64 p.kind, .int .i64 p.mn, .int .i64 p.mx, .bool p.inc.neg, S p.inc.l, .int .i64 p.inc.e, .int .i64 p.mode, .int .i64 p.mi]), (w.heap.size + 1 + 1, #[.int .i64 k0, .int .i64 k1, .int .i64 k2, .int .i64 k3, .int .i64 k4, .int .i64 k5, .int .i64 k6]), (w.heap.size + 1, #[.bool n1, .slice a1 len1 cap1, .int .i64 e1]), (w.heap.size, #[.bool n, .slice a len cap, .int .i64 e])] w') := Lib.hid (fun w' h => ⟨(h.f (List.Mem.tail _ (List.Mem.tail _ (List.Mem.tail _ (List.Mem.tail _ (List.Mem.head _)))))).cell 0, (h.f (List.Mem.tail _ (List.Mem.tail _ (List.Mem.tail _ (List.Mem.tail _ (List.Mem.head _)))))).cell 1, (h.f (List.Mem.tail _ (List.Mem.tail _ (List.Mem.tail _ (List.Mem.tail _ (List.Mem.head _)))))).cell 2, (h.f (List.Mem.tail _ (List.Mem.tail _ (List.Mem.tail _ (List.Mem.tail _ (List.Mem.head _)))))).cell 3, (h.f (List.Mem.tail _ (List.Mem.tail _ (List.Mem.tail _ (List.Mem.tail _ (List.Mem.head _)))))).cell 4, (h.f (List.Mem.tail _ (List.Mem.tail _ (List.Mem.tail _ (List.Mem.tail _ (List.Mem.head _)))))).cell 5, (h.f (List.Mem.tail _ (List.Mem.tail _ (List.Mem.tail _ (List.Mem.tail _ (List.Mem.head _)))))).cell 6, (h.f (List.Mem.tail _ (List.Mem.tail _ (List.Mem.tail _ (List.Mem.tail _ (List.Mem.head _)))))).cell 7, (h.f (List.Mem.tail _ (List.Mem.head _))).cell 0, (h.f (List.Mem.tail _ (List.Mem.head _))).cell 1, (h.f (List.Mem.tail _ (List.Mem.head _))).cell 2, h⟩)
    have KEEP1 : Hid (∀ w' w'' : World, (w'.cell? ⟨w4.heap.size, 0, none⟩ = some (.int .i64 p.kind) ∧ w'.cell? ⟨w4.heap.size, 1, none⟩ = some (.int .i64 p.mn) ∧ w'.cell? ⟨w4.heap.size, 2, none⟩ = some (.int .i64 p.mx) ∧ w'.cell? ⟨w4.heap.size, 3, none⟩ = some (.bool p.inc.neg) ∧ w'.cell? ⟨w4.heap.size, 4, none⟩ = some (S p.inc.l) ∧ w'.cell? ⟨w4.heap.size, 5, none⟩ = some (.int .i64 p.inc.e) ∧ w'.cell? ⟨w4.heap.size, 6, none⟩ = some (.int .i64 p.mode) ∧ w'.cell? ⟨w4.heap.size, 7, none⟩ = some (.int .i64 p.mi) ∧ w'.cell? ⟨w7.heap.size, 0, none⟩ = some (.bool v.neg) ∧ w'.cell? ⟨w7.heap.size, 1, none⟩ = some (S v.i) ∧ w'.cell? ⟨w7.heap.size, 2, none⟩ = some (S v.f) ∧ HeldL w [(w8.heap.size, #[.bool v.neg, S v.i, S v.f]), (w7.heap.size, #[.bool v.neg, S v.i, S v.f]), (w6.heap.size, #[.bool n1, S (dgs L1), .int .i64 e1]), (w5.heap.size, #[.bool n, S (dgs L), .int .i64 e]), (w4.heap.size, #[.int .i64 p.kind, .int .i64 p.mn, .int .i64 p.mx, .bool p.inc.neg, S p.inc.l, .int .i64 p.inc.e, .int .i64 p.mode, .int .i64 p.mi]), (w.heap.size + 1 + 1, #[.int .i64 k0, .int .i64 k1, .int .i64 k2, .int .i64 k3, .int .i64 k4, .int .i64 k5, .int .i64 k6]), (w.heap.size + 1, #[.bool n1, .slice a1 len1 cap1, .int .i64 e1]), (w.heap.size, #[.bool n, .slice a len cap, .int .i64 e])] w') → Below w'.heap.size w' w'' → (w''.cell? ⟨w4.heap.size, 0, none⟩ = some (.int .i64 p.kind) ∧ w''.cell? ⟨w4.heap.size, 1, none⟩ = some (.int .i64 p.mn) ∧ w''.cell? ⟨w4.heap.size, 2, none⟩ = some (.int .i64 p.mx) ∧ w''.cell? ⟨w4.heap.size, 3, none⟩ = some (.bool p.inc.neg) ∧ w''.cell? ⟨w4.heap.size, 4, none⟩ = some (S p.inc.l) ∧ w''.cell? ⟨w4.heap.size, 5, none⟩ = some (.int .i64 p.inc.e) ∧ w''.cell? ⟨w4.heap.size, 6, none⟩ = some (.int .i64 p.mode) ∧ w''.cell? ⟨w4.heap.size, 7, none⟩ = some (.int .i64 p.mi) ∧ w''.cell? ⟨w7.heap.size, 0, none⟩ = some (.bool v.neg) ∧ w''.cell? ⟨w7.heap.size, 1, none⟩ = some (S v.i) ∧ w''.cell? ⟨w7.heap.size, 2, none⟩ = some (S v.f) ∧ HeldL w [(w8.heap.size, #[.bool v.neg, S v.i, S v.f]), (w7.heap.size, #[.bool v.neg, S v.i, S v.f]), (w6.heap.size, #[.bool n1, S (dgs L1), .int .i64 e1]), (w5.heap.size, #[.bool n, S (dgs L), .int .i64 e]), (w4.heap.size, #[.int .i64 p.kind, .int .i64 p.mn, .int .i64 p.mx, .bool p.inc.neg, S p.inc.l, .int .i64 p.inc.e, .int .i64 p.mode, .int .i64 p.mi]), (w.heap.size + 1 + 1, #[.int .i64 k0, .int .i64 k1, .int .i64 k2, .int .i64 k3, .int .i64 k4, .int .i64 k5, .int .i64 k6]), (w.heap.size + 1, #[.bool n1, .slice a1 len1 cap1, .int .i64 e1]), (w.heap.size, #[.bool n, .slice a len cap, .int .i64 e])] w'')) := Lib.hid (fun w' w'' h hb => ALL1.out _ (HeldL.keep (h.2.2.2.2.2.2.2.2.2.2.2) hb))
    have TAB1 : Hid (∀ w' : World, (w'.cell? ⟨w4.heap.size, 0, none⟩ = some (.int .i64 p.kind) ∧ w'.cell? ⟨w4.heap.size, 1, none⟩ = some (.int .i64 p.mn) ∧ w'.cell? ⟨w4.heap.size, 2, none⟩ = some (.int .i64 p.mx) ∧ w'.cell? ⟨w4.heap.size, 3, none⟩ = some (.bool p.inc.neg) ∧ w'.cell? ⟨w4.heap.size, 4, none⟩ = some (S p.inc.l) ∧ w'.cell? ⟨w4.heap.size, 5, none⟩ = some (.int .i64 p.inc.e) ∧ w'.cell? ⟨w4.heap.size, 6, none⟩ = some (.int .i64 p.mode) ∧ w'.cell? ⟨w4.heap.size, 7, none⟩ = some (.int .i64 p.mi) ∧ w'.cell? ⟨w7.heap.size, 0, none⟩ = some (.bool v.neg) ∧ w'.cell? ⟨w7.heap.size, 1, none⟩ = some (S v.i) ∧ w'.cell? ⟨w7.heap.size, 2, none⟩ = some (S v.f) ∧ HeldL w [(w8.heap.size, #[.bool v.neg, S v.i, S v.f]), (w7.heap.size, #[.bool v.neg, S v.i, S v.f]), (w6.heap.size, #[.bool n1, S (dgs L1), .int .i64 e1]), (w5.heap.size, #[.bool n, S (dgs L), .int .i64 e]), (w4.heap.size, #[.int .i64 p.kind, .int .i64 p.mn, .int .i64 p.mx, .bool p.inc.neg, S p.inc.l, .int .i64 p.inc.e, .int .i64 p.mode, .int .i64 p.mi]), (w.heap.size + 1 + 1, #[.int .i64 k0, .int .i64 k1, .int .i64 k2, .int .i64 k3, .int .i64 k4, .int .i64 k5, .int .i64 k6]), (w.heap.size + 1, #[.bool n1, .slice a1 len1 cap1, .int .i64 e1]), (w.heap.size, #[.bool n, .slice a len cap, .int .i64 e])] w') → Tab w') := Lib.hid (fun w' h => HT.out.below (h.2.2.2.2.2.2.2.2.2.2.2).bel)
    have HS1 : Hid (HeldL w [(w8.heap.size, #[.bool v.neg, S v.i, S v.f]), (w7.heap.size, #[.bool v.neg, S v.i, S v.f]), (w6.heap.size, #[.bool n1, S (dgs L1), .int .i64 e1]), (w5.heap.size, #[.bool n, S (dgs L), .int .i64 e]), (w4.heap.size, #[.int .i64 p.kind, .int .i64 p.mn, .int .i64 p.mx, .bool p.inc.neg, S p.inc.l, .int .i64 p.inc.e, .int .i64 p.mode, .int .i64 p.mi]), (w.heap.size + 1 + 1, #[.int .i64 k0, .int .i64 k1, .int .i64 k2, .int .i64 k3, .int .i64 k4, .int .i64 k5, .int .i64 k6]), (w.heap.size + 1, #[.bool n1, .slice a1 len1 cap1, .int .i64 e1]), (w.heap.size, #[.bool n, .slice a len cap, .int .i64 e])] _) := Lib.hid (HeldL.alloc H8.out (w8.heap.size) #[.bool v.neg, S v.i, S v.f] 49 (by simp))
    refine wp_region_held_drew (S := fun w' => w'.cell? ⟨w4.heap.size, 0, none⟩ = some (.int .i64 p.kind) ∧ w'.cell? ⟨w4.heap.size, 1, none⟩ = some (.int .i64 p.mn) ∧ w'.cell? ⟨w4.heap.size, 2, none⟩ = some (.int .i64 p.mx) ∧ w'.cell? ⟨w4.heap.size, 3, none⟩ = some (.bool p.inc.neg) ∧ w'.cell? ⟨w4.heap.size, 4, none⟩ = some (S p.inc.l) ∧ w'.cell? ⟨w4.heap.size, 5, none⟩ = some (.int .i64 p.inc.e) ∧ w'.cell? ⟨w4.heap.size, 6, none⟩ = some (.int .i64 p.mode) ∧ w'.cell? ⟨w4.heap.size, 7, none⟩ = some (.int .i64 p.mi) ∧ w'.cell? ⟨w7.heap.size, 0, none⟩ = some (.bool v.neg) ∧ w'.cell? ⟨w7.heap.size, 1, none⟩ = some (S v.i) ∧ w'.cell? ⟨w7.heap.size, 2, none⟩ = some (S v.f) ∧ HeldL w [(w8.heap.size, #[.bool v.neg, S v.i, S v.f]), (w7.heap.size, #[.bool v.neg, S v.i, S v.f]), (w6.heap.size, #[.bool n1, S (dgs L1), .int .i64 e1]), (w5.heap.size, #[.bool n, S (dgs L), .int .i64 e]), (w4.heap.size, #[.int .i64 p.kind, .int .i64 p.mn, .int .i64 p.mx, .bool p.inc.neg, S p.inc.l, .int .i64 p.inc.e, .int .i64 p.mode, .int .i64 p.mi]), (w.heap.size + 1 + 1, #[.int .i64 k0, .int .i64 k1, .int .i64 k2, .int .i64 k3, .int .i64 k4, .int .i64 k5, .int .i64 k6]), (w.heap.size + 1, #[.bool n1, .slice a1 len1 cap1, .int .i64 e1]), (w.heap.size, #[.bool n, .slice a len cap, .int .i64 e])] w') (by kernel_rfl) (ALL1.out _ (HeldL.drew HS1.out)) (fun hHeld => ?_)
    refine wpAnyH_take (i := 0) (oi := { dst := some 46, op := Go.Op.load 46 (Go.Operand.tmp 7), type := 46, pos := "law.go:191", after := #[], guard := none }) (v := ?_) rfl (by kernel_rfl) (by kernel_rfl) (by kernel_rfl) (fun _ _ _ h => h) (Or.inl ⟨by rfl, ?_⟩) hHeld ?_
    case refine_2 => (intro w hSw; (try dsimp only at hSw); go_simp <;> with_reducible rfl)
    try simp only [Act.put, List.setIfInBounds_toArray, List.set_cons_zero, List.set_cons_succ]
    refine wpAnyH_take (i := 1) (oi := { dst := some 47, op := Go.Op.load 49 (Go.Operand.tmp 10), type := 49, pos := "law.go:191", after := #[], guard := none }) (v := ?_) rfl (by kernel_rfl) (by kernel_rfl) (by kernel_rfl) (fun _ _ _ h => h) (Or.inl ⟨by rfl, ?_⟩) hHeld ?_
    case refine_2 => (intro w hSw; (try dsimp only at hSw); go_simp <;> with_reducible rfl)
    try simp only [Act.put, List.setIfInBounds_toArray, List.set_cons_zero, List.set_cons_succ]
    refine wpAnyH_ready (rs := [2, 7]) (by kernel_rfl) (by simp) ?_
    refine (AllReadyH.cons (o := { dst := some 48, op := Go.Op.call { callee := Go.Callee.value (Go.Operand.func 26), args := #[Go.Operand.tmp 47], argTypes := #[49] }, type := 31, pos := "law.go:191", after := #[{ on := 1, ground := Go.Ground.data }], guard := none }) rfl (fun KK hK => ?_) (AllReadyH.cons (o := { dst := some 14, op := Go.Op.alloc 49, type := 0, pos := "law.go:191", after := #[], guard := none }) rfl (fun KK hK => ?_) AllReadyH.nil))
    ·
      go_simp
      with_reducible refine (HV1.out _ (TAB1.out _ hHeld)).mono ?_
      rintro x wA ⟨rfl, hb⟩
      go_wp2_with fail
      refine hK.out _ _ (KEEP1.out _ _ hHeld hb) (fun hHeld2 => ?_)
      clear hK hHeld hb
      have hHeld := hHeld2
      clear hHeld2
      try simp only [Act.put, List.setIfInBounds_toArray, List.set_cons_zero, List.set_cons_succ]
      refine wpAnyH_ready (rs := [3, 7]) (by kernel_rfl) (by simp) ?_
      refine (AllReadyH.cons (o := { dst := some 49, op := Go.Op.call { callee := Go.Callee.value (Go.Operand.func 24), args := #[Go.Operand.tmp 46, Go.Operand.tmp 48], argTypes := #[46, 31] }, type := 51, pos := "law.go:191", after := #[{ on := 0, ground := Go.Ground.data }, { on := 2, ground := Go.Ground.data }, { on := 2, ground := Go.Ground.chain }], guard := none }) rfl (fun KK hK => ?_) (AllReadyH.cons (o := { dst := some 14, op := Go.Op.alloc 49, type := 0, pos := "law.go:191", after := #[], guard := none }) rfl (fun KK hK => ?_) AllReadyH.nil))
      ·
        go_simp
        with_reducible refine (HA3.out _ (TAB1.out _ hHeld)).mono ?_
        rintro x wB ⟨rfl, hb⟩
        go_wp2_with fail
        refine hK.out _ _ (KEEP1.out _ _ hHeld hb) (fun hHeld2 => ?_)
        clear hK hHeld hb
        have hHeld := hHeld2
        clear hHeld2
        try simp only [Act.put, List.setIfInBounds_toArray, List.set_cons_zero, List.set_cons_succ]
        refine wpAnyH_take (i := 4) (oi := { dst := some 45, op := Go.Op.move (Go.Operand.tmp 49), type := 51, pos := "law.go:191", after := #[{ on := 3, ground := Go.Ground.data }], guard := none }) (v := ?_) rfl (by kernel_rfl) (by kernel_rfl) (by kernel_rfl) (fun _ _ _ h => h) (Or.inl ⟨by rfl, ?_⟩) hHeld ?_
        case refine_2 => (intro w hSw; (try dsimp only at hSw); go_simp <;> with_reducible rfl)
        try simp only [Act.put, List.setIfInBounds_toArray, List.set_cons_zero, List.set_cons_succ]
        refine wpAnyH_take (i := 5) (oi := { dst := some 50, op := Go.Op.extract (Go.Operand.tmp 45) 0, type := 49, pos := "law.go:191", after := #[{ on := 4, ground := Go.Ground.data }], guard := none }) (v := ?_) rfl (by kernel_rfl) (by kernel_rfl) (by kernel_rfl) (fun _ _ _ h => h) (Or.inl ⟨by rfl, ?_⟩) hHeld ?_
        case refine_2 => (intro w hSw; (try dsimp only at hSw); go_simp <;> with_reducible rfl)
        try simp only [Act.put, List.setIfInBounds_toArray, List.set_cons_zero, List.set_cons_succ]
        refine wpAnyH_take (i := 6) (oi := { dst := some 51, op := Go.Op.extract (Go.Operand.tmp 45) 1, type := 50, pos := "law.go:191", after := #[{ on := 4, ground := Go.Ground.data }, { on := 8, ground := Go.Ground.gcOnly Go.Departure.lateStores }], guard := none }) (v := ?_) rfl (by kernel_rfl) (by kernel_rfl) (by kernel_rfl) (fun _ _ _ h => h) (Or.inl ⟨by rfl, ?_⟩) hHeld ?_
        case refine_2 => (intro w hSw; (try dsimp only at hSw); go_simp <;> with_reducible rfl)
        try simp only [Act.put, List.setIfInBounds_toArray, List.set_cons_zero, List.set_cons_succ]
        refine wpAnyH_ready (rs := [7]) (by kernel_rfl) (by simp) ?_
        refine (AllReadyH.cons (o := { dst := some 14, op := Go.Op.alloc 49, type := 0, pos := "law.go:191", after := #[], guard := none }) rfl (fun KK hK => ?_) AllReadyH.nil)
        have hH0 := hHeld
        go_simp
        refine hK.out _ _ (ALL1.out _ (HeldL.skip (hHeld.2.2.2.2.2.2.2.2.2.2.2) _)) (fun hHeld2 => ?_)
        clear hK hHeld
        have hHeld := hHeld2
        clear hHeld2
        try simp only [Act.put, List.setIfInBounds_toArray, List.set_cons_zero, List.set_cons_succ]
        refine wpAnyH_ready (rs := [8]) (by kernel_rfl) (by simp) ?_
        refine (AllReadyH.cons (o := { dst := none, op := Go.Op.store 49 (Go.Operand.tmp 14) (Go.Operand.tmp 50), type := 0, pos := "law.go:191", after := #[{ on := 7, ground := Go.Ground.data }, { on := 5, ground := Go.Ground.data }, { on := 3, ground := Go.Ground.chain }, { on := 0, ground := Go.Ground.phase }, { on := 1, ground := Go.Ground.phase }, { on := 2, ground := Go.Ground.phase }, { on := 3, ground := Go.Ground.phase }, { on := 4, ground := Go.Ground.phase }, { on := 5, ground := Go.Ground.phase }, { on := 6, ground := Go.Ground.textOnly Go.Departure.lateStores }, { on := 7, ground := Go.Ground.phase }], guard := none }) rfl (fun KK hK => ?_) AllReadyH.nil)
        go_simp
        refine hK.out _ _ (ALL1.out _ (HeldL.skip (hH0.2.2.2.2.2.2.2.2.2.2.2) _)) (fun hHeld2 => ?_)
        clear hK hHeld
        have hHeld := hHeld2
        clear hHeld2
        try simp only [Act.put, List.setIfInBounds_toArray, List.set_cons_zero, List.set_cons_succ]
        refine wpAnyH_take (i := 9) (oi := { dst := some 15, op := Go.Op.assign (Go.Operand.tmp 51), type := 50, pos := "law.go:191", after := #[{ on := 6, ground := Go.Ground.data }, { on := 8, ground := Go.Ground.chain }, { on := 0, ground := Go.Ground.phase }, { on := 1, ground := Go.Ground.phase }, { on := 2, ground := Go.Ground.phase }, { on := 3, ground := Go.Ground.phase }, { on := 4, ground := Go.Ground.phase }, { on := 5, ground := Go.Ground.phase }, { on := 6, ground := Go.Ground.phase }, { on := 7, ground := Go.Ground.phase }, { on := 8, ground := Go.Ground.phase }], guard := none }) (v := ?_) rfl (by kernel_rfl) (by kernel_rfl) (by kernel_rfl) (fun _ _ _ h => h) (Or.inl ⟨by rfl, ?_⟩) hHeld ?_
        case refine_2 => (intro w hSw; (try dsimp only at hSw); go_simp <;> with_reducible rfl)
        try simp only [Act.put, List.setIfInBounds_toArray, List.set_cons_zero, List.set_cons_succ]
        refine wpAnyH_done (by kernel_rfl) ?_ _
        go_wp2
        go_meet
        case rel => exact ⟨_, rfl, rfl, HeldL.alloc (hH0.2.2.2.2.2.2.2.2.2.2.2) _ _ _ rfl⟩
      ·
        go_simp
        have HN : Hid (HeldL w ((wA.heap.size, #[.bool false, .string ⟨#[]⟩, .string ⟨#[]⟩]) :: [(w8.heap.size, #[.bool v.neg, S v.i, S v.f]), (w7.heap.size, #[.bool v.neg, S v.i, S v.f]), (w6.heap.size, #[.bool n1, S (dgs L1), .int .i64 e1]), (w5.heap.size, #[.bool n, S (dgs L), .int .i64 e]), (w4.heap.size, #[.int .i64 p.kind, .int .i64 p.mn, .int .i64 p.mx, .bool p.inc.neg, S p.inc.l, .int .i64 p.inc.e, .int .i64 p.mode, .int .i64 p.mi]), (w.heap.size + 1 + 1, #[.int .i64 k0, .int .i64 k1, .int .i64 k2, .int .i64 k3, .int .i64 k4, .int .i64 k5, .int .i64 k6]), (w.heap.size + 1, #[.bool n1, .slice a1 len1 cap1, .int .i64 e1]), (w.heap.size, #[.bool n, .slice a len cap, .int .i64 e])]) _) := Lib.hid (HeldL.alloc (hHeld.2.2.2.2.2.2.2.2.2.2.2) (wA.heap.size) #[.bool false, .string ⟨#[]⟩, .string ⟨#[]⟩] 49 (by first | rfl | simp))
        refine hK.out _ _ (ALL1.out _ (HeldL.tail HN.out)) (fun hHeld2 => ?_)
        clear hK hHeld
        have hHeld := hHeld2
        clear hHeld2
        try simp only [Act.put, List.setIfInBounds_toArray, List.set_cons_zero, List.set_cons_succ]
        refine wpAnyH_ready (rs := [3]) (by kernel_rfl) (by simp) ?_
        refine (AllReadyH.cons (o := { dst := some 49, op := Go.Op.call { callee := Go.Callee.value (Go.Operand.func 24), args := #[Go.Operand.tmp 46, Go.Operand.tmp 48], argTypes := #[46, 31] }, type := 51, pos := "law.go:191", after := #[{ on := 0, ground := Go.Ground.data }, { on := 2, ground := Go.Ground.data }, { on := 2, ground := Go.Ground.chain }], guard := none }) rfl (fun KK hK => ?_) AllReadyH.nil)
        go_simp
        with_reducible refine (HA3.out _ (TAB1.out _ hHeld)).mono ?_
        rintro x wB ⟨rfl, hb⟩
        go_wp2_with fail
        refine hK.out _ _ (KEEP1.out _ _ hHeld hb) (fun hHeld2 => ?_)
        have HM : Hid (HeldL w ((wA.heap.size, #[.bool false, .string ⟨#[]⟩, .string ⟨#[]⟩]) :: [(w8.heap.size, #[.bool v.neg, S v.i, S v.f]), (w7.heap.size, #[.bool v.neg, S v.i, S v.f]), (w6.heap.size, #[.bool n1, S (dgs L1), .int .i64 e1]), (w5.heap.size, #[.bool n, S (dgs L), .int .i64 e]), (w4.heap.size, #[.int .i64 p.kind, .int .i64 p.mn, .int .i64 p.mx, .bool p.inc.neg, S p.inc.l, .int .i64 p.inc.e, .int .i64 p.mode, .int .i64 p.mi]), (w.heap.size + 1 + 1, #[.int .i64 k0, .int .i64 k1, .int .i64 k2, .int .i64 k3, .int .i64 k4, .int .i64 k5, .int .i64 k6]), (w.heap.size + 1, #[.bool n1, .slice a1 len1 cap1, .int .i64 e1]), (w.heap.size, #[.bool n, .slice a len cap, .int .i64 e])]) wB) := Lib.hid (HeldL.keep HN.out hb)
        clear HN
        have HN := HM
        clear HM
        clear hK hHeld hb
        have hHeld := hHeld2
        clear hHeld2
        try simp only [Act.put, List.setIfInBounds_toArray, List.set_cons_zero, List.set_cons_succ]
        refine wpAnyH_take (i := 4) (oi := { dst := some 45, op := Go.Op.move (Go.Operand.tmp 49), type := 51, pos := "law.go:191", after := #[{ on := 3, ground := Go.Ground.data }], guard := none }) (v := ?_) rfl (by kernel_rfl) (by kernel_rfl) (by kernel_rfl) (fun _ _ _ h => h) (Or.inl ⟨by rfl, ?_⟩) hHeld ?_
        case refine_2 => (intro w hSw; (try dsimp only at hSw); go_simp <;> with_reducible rfl)
        try simp only [Act.put, List.setIfInBounds_toArray, List.set_cons_zero, List.set_cons_succ]
        refine wpAnyH_take (i := 5) (oi := { dst := some 50, op := Go.Op.extract (Go.Operand.tmp 45) 0, type := 49, pos := "law.go:191", after := #[{ on := 4, ground := Go.Ground.data }], guard := none }) (v := ?_) rfl (by kernel_rfl) (by kernel_rfl) (by kernel_rfl) (fun _ _ _ h => h) (Or.inl ⟨by rfl, ?_⟩) hHeld ?_
        case refine_2 => (intro w hSw; (try dsimp only at hSw); go_simp <;> with_reducible rfl)
        try simp only [Act.put, List.setIfInBounds_toArray, List.set_cons_zero, List.set_cons_succ]
        refine wpAnyH_take (i := 6) (oi := { dst := some 51, op := Go.Op.extract (Go.Operand.tmp 45) 1, type := 50, pos := "law.go:191", after := #[{ on := 4, ground := Go.Ground.data }, { on := 8, ground := Go.Ground.gcOnly Go.Departure.lateStores }], guard := none }) (v := ?_) rfl (by kernel_rfl) (by kernel_rfl) (by kernel_rfl) (fun _ _ _ h => h) (Or.inl ⟨by rfl, ?_⟩) hHeld ?_
        case refine_2 => (intro w hSw; (try dsimp only at hSw); go_simp <;> with_reducible rfl)
        try simp only [Act.put, List.setIfInBounds_toArray, List.set_cons_zero, List.set_cons_succ]
        refine wpAnyH_ready (rs := [8]) (by kernel_rfl) (by simp) ?_
        refine (AllReadyH.cons (o := { dst := none, op := Go.Op.store 49 (Go.Operand.tmp 14) (Go.Operand.tmp 50), type := 0, pos := "law.go:191", after := #[{ on := 7, ground := Go.Ground.data }, { on := 5, ground := Go.Ground.data }, { on := 3, ground := Go.Ground.chain }, { on := 0, ground := Go.Ground.phase }, { on := 1, ground := Go.Ground.phase }, { on := 2, ground := Go.Ground.phase }, { on := 3, ground := Go.Ground.phase }, { on := 4, ground := Go.Ground.phase }, { on := 5, ground := Go.Ground.phase }, { on := 6, ground := Go.Ground.textOnly Go.Departure.lateStores }, { on := 7, ground := Go.Ground.phase }], guard := none }) rfl (fun KK hK => ?_) AllReadyH.nil)
        obtain ⟨nn0, nn1, nn2, nnz0, nnz1, nnz2, nnl⟩ := (HN.out.f (List.Mem.head _)).three
        go_simp
        refine hK.out _ _ (ALL1.out _ (HeldL.tail (HeldL.store3 [] [(w8.heap.size, #[.bool v.neg, S v.i, S v.f]), (w7.heap.size, #[.bool v.neg, S v.i, S v.f]), (w6.heap.size, #[.bool n1, S (dgs L1), .int .i64 e1]), (w5.heap.size, #[.bool n, S (dgs L), .int .i64 e]), (w4.heap.size, #[.int .i64 p.kind, .int .i64 p.mn, .int .i64 p.mx, .bool p.inc.neg, S p.inc.l, .int .i64 p.inc.e, .int .i64 p.mode, .int .i64 p.mi]), (w.heap.size + 1 + 1, #[.int .i64 k0, .int .i64 k1, .int .i64 k2, .int .i64 k3, .int .i64 k4, .int .i64 k5, .int .i64 k6]), (w.heap.size + 1, #[.bool n1, .slice a1 len1 cap1, .int .i64 e1]), (w.heap.size, #[.bool n, .slice a len cap, .int .i64 e])] HN.out (.bool v.neg) (S v.i) (S v.f)))) (fun hHeld2 => ?_)
        clear hK hHeld
        have hHeld := hHeld2
        clear hHeld2
        try simp only [Act.put, List.setIfInBounds_toArray, List.set_cons_zero, List.set_cons_succ]
        refine wpAnyH_take (i := 9) (oi := { dst := some 15, op := Go.Op.assign (Go.Operand.tmp 51), type := 50, pos := "law.go:191", after := #[{ on := 6, ground := Go.Ground.data }, { on := 8, ground := Go.Ground.chain }, { on := 0, ground := Go.Ground.phase }, { on := 1, ground := Go.Ground.phase }, { on := 2, ground := Go.Ground.phase }, { on := 3, ground := Go.Ground.phase }, { on := 4, ground := Go.Ground.phase }, { on := 5, ground := Go.Ground.phase }, { on := 6, ground := Go.Ground.phase }, { on := 7, ground := Go.Ground.phase }, { on := 8, ground := Go.Ground.phase }], guard := none }) (v := ?_) rfl (by kernel_rfl) (by kernel_rfl) (by kernel_rfl) (fun _ _ _ h => h) (Or.inl ⟨by rfl, ?_⟩) hHeld ?_
        case refine_2 => (intro w hSw; (try dsimp only at hSw); go_simp <;> with_reducible rfl)
        try simp only [Act.put, List.setIfInBounds_toArray, List.set_cons_zero, List.set_cons_succ]
        refine wpAnyH_done (by kernel_rfl) ?_ _
        go_wp2
        go_meet
        case rel => exact ⟨_, rfl, rfl, HeldL.store3 [] [(w8.heap.size, #[.bool v.neg, S v.i, S v.f]), (w7.heap.size, #[.bool v.neg, S v.i, S v.f]), (w6.heap.size, #[.bool n1, S (dgs L1), .int .i64 e1]), (w5.heap.size, #[.bool n, S (dgs L), .int .i64 e]), (w4.heap.size, #[.int .i64 p.kind, .int .i64 p.mn, .int .i64 p.mx, .bool p.inc.neg, S p.inc.l, .int .i64 p.inc.e, .int .i64 p.mode, .int .i64 p.mi]), (w.heap.size + 1 + 1, #[.int .i64 k0, .int .i64 k1, .int .i64 k2, .int .i64 k3, .int .i64 k4, .int .i64 k5, .int .i64 k6]), (w.heap.size + 1, #[.bool n1, .slice a1 len1 cap1, .int .i64 e1]), (w.heap.size, #[.bool n, .slice a len cap, .int .i64 e])] HN.out (.bool v.neg) (S v.i) (S v.f)⟩
    ·
      go_simp
      have HN : Hid (HeldL w ((w8.heap.size + 1, #[.bool false, .string ⟨#[]⟩, .string ⟨#[]⟩]) :: [(w8.heap.size, #[.bool v.neg, S v.i, S v.f]), (w7.heap.size, #[.bool v.neg, S v.i, S v.f]), (w6.heap.size, #[.bool n1, S (dgs L1), .int .i64 e1]), (w5.heap.size, #[.bool n, S (dgs L), .int .i64 e]), (w4.heap.size, #[.int .i64 p.kind, .int .i64 p.mn, .int .i64 p.mx, .bool p.inc.neg, S p.inc.l, .int .i64 p.inc.e, .int .i64 p.mode, .int .i64 p.mi]), (w.heap.size + 1 + 1, #[.int .i64 k0, .int .i64 k1, .int .i64 k2, .int .i64 k3, .int .i64 k4, .int .i64 k5, .int .i64 k6]), (w.heap.size + 1, #[.bool n1, .slice a1 len1 cap1, .int .i64 e1]), (w.heap.size, #[.bool n, .slice a len cap, .int .i64 e])]) _) := Lib.hid (HeldL.alloc (hHeld.2.2.2.2.2.2.2.2.2.2.2) (w8.heap.size + 1) #[.bool false, .string ⟨#[]⟩, .string ⟨#[]⟩] 49 (by first | rfl | simp))
      refine hK.out _ _ (ALL1.out _ (HeldL.tail HN.out)) (fun hHeld2 => ?_)
      clear hK hHeld
      have hHeld := hHeld2
      clear hHeld2
      try simp only [Act.put, List.setIfInBounds_toArray, List.set_cons_zero, List.set_cons_succ]
      refine wpAnyH_ready (rs := [2]) (by kernel_rfl) (by simp) ?_
      refine (AllReadyH.cons (o := { dst := some 48, op := Go.Op.call { callee := Go.Callee.value (Go.Operand.func 26), args := #[Go.Operand.tmp 47], argTypes := #[49] }, type := 31, pos := "law.go:191", after := #[{ on := 1, ground := Go.Ground.data }], guard := none }) rfl (fun KK hK => ?_) AllReadyH.nil)
      go_simp
      with_reducible refine (HV1.out _ (TAB1.out _ hHeld)).mono ?_
      rintro x wA ⟨rfl, hb⟩
      go_wp2_with fail
      refine hK.out _ _ (KEEP1.out _ _ hHeld hb) (fun hHeld2 => ?_)
      have HM : Hid (HeldL w ((w8.heap.size + 1, #[.bool false, .string ⟨#[]⟩, .string ⟨#[]⟩]) :: [(w8.heap.size, #[.bool v.neg, S v.i, S v.f]), (w7.heap.size, #[.bool v.neg, S v.i, S v.f]), (w6.heap.size, #[.bool n1, S (dgs L1), .int .i64 e1]), (w5.heap.size, #[.bool n, S (dgs L), .int .i64 e]), (w4.heap.size, #[.int .i64 p.kind, .int .i64 p.mn, .int .i64 p.mx, .bool p.inc.neg, S p.inc.l, .int .i64 p.inc.e, .int .i64 p.mode, .int .i64 p.mi]), (w.heap.size + 1 + 1, #[.int .i64 k0, .int .i64 k1, .int .i64 k2, .int .i64 k3, .int .i64 k4, .int .i64 k5, .int .i64 k6]), (w.heap.size + 1, #[.bool n1, .slice a1 len1 cap1, .int .i64 e1]), (w.heap.size, #[.bool n, .slice a len cap, .int .i64 e])]) wA) := Lib.hid (HeldL.keep HN.out hb)
      clear HN
      have HN := HM
      clear HM
      clear hK hHeld hb
      have hHeld := hHeld2
      clear hHeld2
      try simp only [Act.put, List.setIfInBounds_toArray, List.set_cons_zero, List.set_cons_succ]
      refine wpAnyH_ready (rs := [3]) (by kernel_rfl) (by simp) ?_
      refine (AllReadyH.cons (o := { dst := some 49, op := Go.Op.call { callee := Go.Callee.value (Go.Operand.func 24), args := #[Go.Operand.tmp 46, Go.Operand.tmp 48], argTypes := #[46, 31] }, type := 51, pos := "law.go:191", after := #[{ on := 0, ground := Go.Ground.data }, { on := 2, ground := Go.Ground.data }, { on := 2, ground := Go.Ground.chain }], guard := none }) rfl (fun KK hK => ?_) AllReadyH.nil)
      go_simp
      with_reducible refine (HA3.out _ (TAB1.out _ hHeld)).mono ?_
      rintro x wB ⟨rfl, hb⟩
      go_wp2_with fail
      refine hK.out _ _ (KEEP1.out _ _ hHeld hb) (fun hHeld2 => ?_)
      have HM : Hid (HeldL w ((w8.heap.size + 1, #[.bool false, .string ⟨#[]⟩, .string ⟨#[]⟩]) :: [(w8.heap.size, #[.bool v.neg, S v.i, S v.f]), (w7.heap.size, #[.bool v.neg, S v.i, S v.f]), (w6.heap.size, #[.bool n1, S (dgs L1), .int .i64 e1]), (w5.heap.size, #[.bool n, S (dgs L), .int .i64 e]), (w4.heap.size, #[.int .i64 p.kind, .int .i64 p.mn, .int .i64 p.mx, .bool p.inc.neg, S p.inc.l, .int .i64 p.inc.e, .int .i64 p.mode, .int .i64 p.mi]), (w.heap.size + 1 + 1, #[.int .i64 k0, .int .i64 k1, .int .i64 k2, .int .i64 k3, .int .i64 k4, .int .i64 k5, .int .i64 k6]), (w.heap.size + 1, #[.bool n1, .slice a1 len1 cap1, .int .i64 e1]), (w.heap.size, #[.bool n, .slice a len cap, .int .i64 e])]) wB) := Lib.hid (HeldL.keep HN.out hb)
      clear HN
      have HN := HM
      clear HM
      clear hK hHeld hb
      have hHeld := hHeld2
      clear hHeld2
      try simp only [Act.put, List.setIfInBounds_toArray, List.set_cons_zero, List.set_cons_succ]
      refine wpAnyH_take (i := 4) (oi := { dst := some 45, op := Go.Op.move (Go.Operand.tmp 49), type := 51, pos := "law.go:191", after := #[{ on := 3, ground := Go.Ground.data }], guard := none }) (v := ?_) rfl (by kernel_rfl) (by kernel_rfl) (by kernel_rfl) (fun _ _ _ h => h) (Or.inl ⟨by rfl, ?_⟩) hHeld ?_
      case refine_2 => (intro w hSw; (try dsimp only at hSw); go_simp <;> with_reducible rfl)
      try simp only [Act.put, List.setIfInBounds_toArray, List.set_cons_zero, List.set_cons_succ]
      refine wpAnyH_take (i := 5) (oi := { dst := some 50, op := Go.Op.extract (Go.Operand.tmp 45) 0, type := 49, pos := "law.go:191", after := #[{ on := 4, ground := Go.Ground.data }], guard := none }) (v := ?_) rfl (by kernel_rfl) (by kernel_rfl) (by kernel_rfl) (fun _ _ _ h => h) (Or.inl ⟨by rfl, ?_⟩) hHeld ?_
      case refine_2 => (intro w hSw; (try dsimp only at hSw); go_simp <;> with_reducible rfl)
      try simp only [Act.put, List.setIfInBounds_toArray, List.set_cons_zero, List.set_cons_succ]
      refine wpAnyH_take (i := 6) (oi := { dst := some 51, op := Go.Op.extract (Go.Operand.tmp 45) 1, type := 50, pos := "law.go:191", after := #[{ on := 4, ground := Go.Ground.data }, { on := 8, ground := Go.Ground.gcOnly Go.Departure.lateStores }], guard := none }) (v := ?_) rfl (by kernel_rfl) (by kernel_rfl) (by kernel_rfl) (fun _ _ _ h => h) (Or.inl ⟨by rfl, ?_⟩) hHeld ?_
      case refine_2 => (intro w hSw; (try dsimp only at hSw); go_simp <;> with_reducible rfl)
      try simp only [Act.put, List.setIfInBounds_toArray, List.set_cons_zero, List.set_cons_succ]
      refine wpAnyH_ready (rs := [8]) (by kernel_rfl) (by simp) ?_
      refine (AllReadyH.cons (o := { dst := none, op := Go.Op.store 49 (Go.Operand.tmp 14) (Go.Operand.tmp 50), type := 0, pos := "law.go:191", after := #[{ on := 7, ground := Go.Ground.data }, { on := 5, ground := Go.Ground.data }, { on := 3, ground := Go.Ground.chain }, { on := 0, ground := Go.Ground.phase }, { on := 1, ground := Go.Ground.phase }, { on := 2, ground := Go.Ground.phase }, { on := 3, ground := Go.Ground.phase }, { on := 4, ground := Go.Ground.phase }, { on := 5, ground := Go.Ground.phase }, { on := 6, ground := Go.Ground.textOnly Go.Departure.lateStores }, { on := 7, ground := Go.Ground.phase }], guard := none }) rfl (fun KK hK => ?_) AllReadyH.nil)
      obtain ⟨nn0, nn1, nn2, nnz0, nnz1, nnz2, nnl⟩ := (HN.out.f (List.Mem.head _)).three
      go_simp
      refine hK.out _ _ (ALL1.out _ (HeldL.tail (HeldL.store3 [] [(w8.heap.size, #[.bool v.neg, S v.i, S v.f]), (w7.heap.size, #[.bool v.neg, S v.i, S v.f]), (w6.heap.size, #[.bool n1, S (dgs L1), .int .i64 e1]), (w5.heap.size, #[.bool n, S (dgs L), .int .i64 e]), (w4.heap.size, #[.int .i64 p.kind, .int .i64 p.mn, .int .i64 p.mx, .bool p.inc.neg, S p.inc.l, .int .i64 p.inc.e, .int .i64 p.mode, .int .i64 p.mi]), (w.heap.size + 1 + 1, #[.int .i64 k0, .int .i64 k1, .int .i64 k2, .int .i64 k3, .int .i64 k4, .int .i64 k5, .int .i64 k6]), (w.heap.size + 1, #[.bool n1, .slice a1 len1 cap1, .int .i64 e1]), (w.heap.size, #[.bool n, .slice a len cap, .int .i64 e])] HN.out (.bool v.neg) (S v.i) (S v.f)))) (fun hHeld2 => ?_)
      clear hK hHeld
      have hHeld := hHeld2
      clear hHeld2
      try simp only [Act.put, List.setIfInBounds_toArray, List.set_cons_zero, List.set_cons_succ]
      refine wpAnyH_take (i := 9) (oi := { dst := some 15, op := Go.Op.assign (Go.Operand.tmp 51), type := 50, pos := "law.go:191", after := #[{ on := 6, ground := Go.Ground.data }, { on := 8, ground := Go.Ground.chain }, { on := 0, ground := Go.Ground.phase }, { on := 1, ground := Go.Ground.phase }, { on := 2, ground := Go.Ground.phase }, { on := 3, ground := Go.Ground.phase }, { on := 4, ground := Go.Ground.phase }, { on := 5, ground := Go.Ground.phase }, { on := 6, ground := Go.Ground.phase }, { on := 7, ground := Go.Ground.phase }, { on := 8, ground := Go.Ground.phase }], guard := none }) (v := ?_) rfl (by kernel_rfl) (by kernel_rfl) (by kernel_rfl) (fun _ _ _ h => h) (Or.inl ⟨by rfl, ?_⟩) hHeld ?_
      case refine_2 => (intro w hSw; (try dsimp only at hSw); go_simp <;> with_reducible rfl)
      try simp only [Act.put, List.setIfInBounds_toArray, List.set_cons_zero, List.set_cons_succ]
      refine wpAnyH_done (by kernel_rfl) ?_ _
      go_wp2
      go_meet
      case rel => exact ⟨_, rfl, rfl, HeldL.store3 [] [(w8.heap.size, #[.bool v.neg, S v.i, S v.f]), (w7.heap.size, #[.bool v.neg, S v.i, S v.f]), (w6.heap.size, #[.bool n1, S (dgs L1), .int .i64 e1]), (w5.heap.size, #[.bool n, S (dgs L), .int .i64 e]), (w4.heap.size, #[.int .i64 p.kind, .int .i64 p.mn, .int .i64 p.mx, .bool p.inc.neg, S p.inc.l, .int .i64 p.inc.e, .int .i64 p.mode, .int .i64 p.mi]), (w.heap.size + 1 + 1, #[.int .i64 k0, .int .i64 k1, .int .i64 k2, .int .i64 k3, .int .i64 k4, .int .i64 k5, .int .i64 k6]), (w.heap.size + 1, #[.bool n1, .slice a1 len1 cap1, .int .i64 e1]), (w.heap.size, #[.bool n, .slice a len cap, .int .i64 e])] HN.out (.bool v.neg) (S v.i) (S v.f)⟩
  case rest =>
  clear bp0 bp1 bp2 bp3 bp4 bp5 bp6 bp7 bpl bx0 bx1 bx2 bxl by0 by1 by2 byl bv0 bv1 bv2 bvl
  obtain ⟨b9, hvp, hve, hh⟩ := hcut
  subst hvp hve
  have H9 : Hid (HeldL w ((b9, #[.bool v.neg, S v.i, S v.f]) :: [(w8.heap.size, #[.bool v.neg, S v.i, S v.f]), (w7.heap.size, #[.bool v.neg, S v.i, S v.f]), (w6.heap.size, #[.bool n1, S (dgs L1), .int .i64 e1]), (w5.heap.size, #[.bool n, S (dgs L), .int .i64 e]), (w4.heap.size, #[.int .i64 p.kind, .int .i64 p.mn, .int .i64 p.mx, .bool p.inc.neg, S p.inc.l, .int .i64 p.inc.e, .int .i64 p.mode, .int .i64 p.mi]), (w.heap.size + 1 + 1, #[.int .i64 k0, .int .i64 k1, .int .i64 k2, .int .i64 k3, .int .i64 k4, .int .i64 k5, .int .i64 k6]), (w.heap.size + 1, #[.bool n1, .slice a1 len1 cap1, .int .i64 e1]), (w.heap.size, #[.bool n, .slice a len cap, .int .i64 e])]) wc) := Lib.hid hh
  clear hh H8
  have bx0 : wc.cell? ⟨w5.heap.size, 0, none⟩ = some (.bool n) := (H9.out.f (List.Mem.tail _ (List.Mem.tail _ (List.Mem.tail _ (List.Mem.tail _ (List.Mem.head _)))))).cell 0
  have bx1 : wc.cell? ⟨w5.heap.size, 1, none⟩ = some (S (dgs L)) := (H9.out.f (List.Mem.tail _ (List.Mem.tail _ (List.Mem.tail _ (List.Mem.tail _ (List.Mem.head _)))))).cell 1
  have bx2 : wc.cell? ⟨w5.heap.size, 2, none⟩ = some (.int .i64 e) := (H9.out.f (List.Mem.tail _ (List.Mem.tail _ (List.Mem.tail _ (List.Mem.tail _ (List.Mem.head _)))))).cell 2
  have bxl : w5.heap.size < wc.heap.size := (H9.out.f (List.Mem.tail _ (List.Mem.tail _ (List.Mem.tail _ (List.Mem.tail _ (List.Mem.head _)))))).lt
  have by0 : wc.cell? ⟨w6.heap.size, 0, none⟩ = some (.bool n1) := (H9.out.f (List.Mem.tail _ (List.Mem.tail _ (List.Mem.tail _ (List.Mem.head _))))).cell 0
  have by1 : wc.cell? ⟨w6.heap.size, 1, none⟩ = some (S (dgs L1)) := (H9.out.f (List.Mem.tail _ (List.Mem.tail _ (List.Mem.tail _ (List.Mem.head _))))).cell 1
  have by2 : wc.cell? ⟨w6.heap.size, 2, none⟩ = some (.int .i64 e1) := (H9.out.f (List.Mem.tail _ (List.Mem.tail _ (List.Mem.tail _ (List.Mem.head _))))).cell 2
  have byl : w6.heap.size < wc.heap.size := (H9.out.f (List.Mem.tail _ (List.Mem.tail _ (List.Mem.tail _ (List.Mem.head _))))).lt
  have bv0 : wc.cell? ⟨w7.heap.size, 0, none⟩ = some (.bool v.neg) := (H9.out.f (List.Mem.tail _ (List.Mem.tail _ (List.Mem.head _)))).cell 0
  have bv1 : wc.cell? ⟨w7.heap.size, 1, none⟩ = some (S v.i) := (H9.out.f (List.Mem.tail _ (List.Mem.tail _ (List.Mem.head _)))).cell 1
  have bv2 : wc.cell? ⟨w7.heap.size, 2, none⟩ = some (S v.f) := (H9.out.f (List.Mem.tail _ (List.Mem.tail _ (List.Mem.head _)))).cell 2
  have bvl : w7.heap.size < wc.heap.size := (H9.out.f (List.Mem.tail _ (List.Mem.tail _ (List.Mem.head _)))).lt
  have bu0 : wc.cell? ⟨w8.heap.size, 0, none⟩ = some (.bool v.neg) := (H9.out.f (List.Mem.tail _ (List.Mem.head _))).cell 0
  have bu1 : wc.cell? ⟨w8.heap.size, 1, none⟩ = some (S v.i) := (H9.out.f (List.Mem.tail _ (List.Mem.head _))).cell 1
  have bu2 : wc.cell? ⟨w8.heap.size, 2, none⟩ = some (S v.f) := (H9.out.f (List.Mem.tail _ (List.Mem.head _))).cell 2
  have bul : w8.heap.size < wc.heap.size := (H9.out.f (List.Mem.tail _ (List.Mem.head _))).lt
  have ba0 : wc.cell? ⟨b9, 0, none⟩ = some (.bool v.neg) := (H9.out.f (List.Mem.head _)).cell 0
  have ba1 : wc.cell? ⟨b9, 1, none⟩ = some (S v.i) := (H9.out.f (List.Mem.head _)).cell 1
  have ba2 : wc.cell? ⟨b9, 2, none⟩ = some (S v.f) := (H9.out.f (List.Mem.head _)).cell 2
  have bal : b9 < wc.heap.size := (H9.out.f (List.Mem.head _)).lt
  go_wp2_with fail
  with_reducible refine (cmp_T ⟨n, dgs L, e⟩ ⟨n1, dgs L1, e1⟩ 0 _ LL LL1 HC.out).mono ?_
  rintro x w10 ⟨rfl, hb⟩
  clear bx0 bx1 bx2 bxl by0 by1 by2 byl bv0 bv1 bv2 bvl bu0 bu1 bu2 bul ba0 ba1 ba2 bal
  have H10 : Hid (HeldL w [(b9, #[.bool v.neg, S v.i, S v.f]), (w8.heap.size, #[.bool v.neg, S v.i, S v.f]), (w7.heap.size, #[.bool v.neg, S v.i, S v.f]), (w6.heap.size, #[.bool n1, S (dgs L1), .int .i64 e1]), (w5.heap.size, #[.bool n, S (dgs L), .int .i64 e]), (w4.heap.size, #[.int .i64 p.kind, .int .i64 p.mn, .int .i64 p.mx, .bool p.inc.neg, S p.inc.l, .int .i64 p.inc.e, .int .i64 p.mode, .int .i64 p.mi]), (w.heap.size + 1 + 1, #[.int .i64 k0, .int .i64 k1, .int .i64 k2, .int .i64 k3, .int .i64 k4, .int .i64 k5, .int .i64 k6]), (w.heap.size + 1, #[.bool n1, .slice a1 len1 cap1, .int .i64 e1]), (w.heap.size, #[.bool n, .slice a len cap, .int .i64 e])] w10) := Lib.hid (HeldL.keep H9.out hb)
  clear H9
  clear hb
  have bv0 : w10.cell? ⟨w7.heap.size, 0, none⟩ = some (.bool v.neg) := (H10.out.f (List.Mem.tail _ (List.Mem.tail _ (List.Mem.head _)))).cell 0
  have bv1 : w10.cell? ⟨w7.heap.size, 1, none⟩ = some (S v.i) := (H10.out.f (List.Mem.tail _ (List.Mem.tail _ (List.Mem.head _)))).cell 1
  have bv2 : w10.cell? ⟨w7.heap.size, 2, none⟩ = some (S v.f) := (H10.out.f (List.Mem.tail _ (List.Mem.tail _ (List.Mem.head _)))).cell 2
  have bvl : w7.heap.size < w10.heap.size := (H10.out.f (List.Mem.tail _ (List.Mem.tail _ (List.Mem.head _)))).lt
  have bu0 : w10.cell? ⟨w8.heap.size, 0, none⟩ = some (.bool v.neg) := (H10.out.f (List.Mem.tail _ (List.Mem.head _))).cell 0
  have bu1 : w10.cell? ⟨w8.heap.size, 1, none⟩ = some (S v.i) := (H10.out.f (List.Mem.tail _ (List.Mem.head _))).cell 1
  have bu2 : w10.cell? ⟨w8.heap.size, 2, none⟩ = some (S v.f) := (H10.out.f (List.Mem.tail _ (List.Mem.head _))).cell 2
  have bul : w8.heap.size < w10.heap.size := (H10.out.f (List.Mem.tail _ (List.Mem.head _))).lt
  have ba0 : w10.cell? ⟨b9, 0, none⟩ = some (.bool v.neg) := (H10.out.f (List.Mem.head _)).cell 0
  have ba1 : w10.cell? ⟨b9, 1, none⟩ = some (S v.i) := (H10.out.f (List.Mem.head _)).cell 1
  have ba2 : w10.cell? ⟨b9, 2, none⟩ = some (S v.f) := (H10.out.f (List.Mem.head _)).cell 2
  have bal : b9 < w10.heap.size := (H10.out.f (List.Mem.head _)).lt
  go_wp2_with fail
  have ALL2 : Hid (∀ w' : World, HeldL w [(b9, #[.bool v.neg, S v.i, S v.f]), (w8.heap.size, #[.bool v.neg, S v.i, S v.f]), (w7.heap.size, #[.bool v.neg, S v.i, S v.f]), (w6.heap.size, #[.bool n1, S (dgs L1), .int .i64 e1]), (w5.heap.size, #[.bool n, S (dgs L), .int .i64 e]), (w4.heap.size, #[.int .i64 p.kind, .int .i64 p.mn, .int .i64 p.mx, .bool p.inc.neg, S p.inc.l, .int .i64 p.inc.e, .int .i64 p.mode, .int .i64 p.mi]), (w.heap.size + 1 + 1, #[.int .i64 k0, .int .i64 k1, .int .i64 k2, .int .i64 k3, .int .i64 k4, .int .i64 k5, .int .i64 k6]), (w.heap.size + 1, #[.bool n1, .slice a1 len1 cap1, .int .i64 e1]), (w.heap.size, #[.bool n, .slice a len cap, .int .i64 e])] w' → w'.cell? ⟨b9, 0, none⟩ = some (.bool v.neg) ∧ w'.cell? ⟨b9, 1, none⟩ = some (S v.i) ∧ w'.cell? ⟨b9, 2, none⟩ = some (S v.f) ∧ w'.cell? ⟨w7.heap.size, 0, none⟩ = some (.bool v.neg) ∧ w'.cell? ⟨w7.heap.size, 1, none⟩ = some (S v.i) ∧ w'.cell? ⟨w7.heap.size, 2, none⟩ = some (S v.f) ∧ w'.cell? ⟨w8.heap.size, 0, none⟩ = some (.bool v.neg) ∧ w'.cell? ⟨w8.heap.size, 1, none⟩ = some (S v.i) ∧ w'.cell? ⟨w8.heap.size, 2, none⟩ = some (S v.f) ∧ HeldL w [(b9, #[.bool v.neg, S v.i, S v.f]), (w8.heap.size, #[.bool v.neg, S v.i, S v.f]), (w7.heap.size, #[.bool v.neg, S v.i, S v.f]), (w6.heap.size, #[.bool n1, S (dgs L1), .int .i64 e1]), (w5.heap.size, #[.bool n, S (dgs L), .int .i64 e]), (w4.heap.size, #[.int .i64 p.kind, .int .i64 p.mn, .int .i64 p.mx, .bool p.inc.neg, S p.inc.l, .int .i64 p.inc.e, .int .i64 p.mode, .int .i64 p.mi]), (w.heap.size + 1 + 1, #[.int .i64 k0, .int .i64 k1, .int .i64 k2, .int .i64 k3, .int .i64 k4, .int .i64 k5, .int .i64 k6]), (w.heap.size + 1, #[.bool n1, .slice a1 len1 cap1, .int .i64 e1]), (w.heap.size, #[.bool n, .slice a len cap, .int .i64 e])] w') := Lib.hid (fun w' h => ⟨(h.f (List.Mem.head _)).cell 0, (h.f (List.Mem.head _)).cell 1, (h.f (List.Mem.head _)).cell 2, (h.f (List.Mem.tail _ (List.Mem.tail _ (List.Mem.head _)))).cell 0, (h.f (List.Mem.tail _ (List.Mem.tail _ (List.Mem.head _)))).cell 1, (h.f (List.Mem.tail _ (List.Mem.tail _ (List.Mem.head _)))).cell 2, (h.f (List.Mem.tail _ (List.Mem.head _))).cell 0, (h.f (List.Mem.tail _ (List.Mem.head _))).cell 1, (h.f (List.Mem.tail _ (List.Mem.head _))).cell 2, h⟩)
  have KEEP2 : Hid (∀ w' w'' : World, (w'.cell? ⟨b9, 0, none⟩ = some (.bool v.neg) ∧ w'.cell? ⟨b9, 1, none⟩ = some (S v.i) ∧ w'.cell? ⟨b9, 2, none⟩ = some (S v.f) ∧ w'.cell? ⟨w7.heap.size, 0, none⟩ = some (.bool v.neg) ∧ w'.cell? ⟨w7.heap.size, 1, none⟩ = some (S v.i) ∧ w'.cell? ⟨w7.heap.size, 2, none⟩ = some (S v.f) ∧ w'.cell? ⟨w8.heap.size, 0, none⟩ = some (.bool v.neg) ∧ w'.cell? ⟨w8.heap.size, 1, none⟩ = some (S v.i) ∧ w'.cell? ⟨w8.heap.size, 2, none⟩ = some (S v.f) ∧ HeldL w [(b9, #[.bool v.neg, S v.i, S v.f]), (w8.heap.size, #[.bool v.neg, S v.i, S v.f]), (w7.heap.size, #[.bool v.neg, S v.i, S v.f]), (w6.heap.size, #[.bool n1, S (dgs L1), .int .i64 e1]), (w5.heap.size, #[.bool n, S (dgs L), .int .i64 e]), (w4.heap.size, #[.int .i64 p.kind, .int .i64 p.mn, .int .i64 p.mx, .bool p.inc.neg, S p.inc.l, .int .i64 p.inc.e, .int .i64 p.mode, .int .i64 p.mi]), (w.heap.size + 1 + 1, #[.int .i64 k0, .int .i64 k1, .int .i64 k2, .int .i64 k3, .int .i64 k4, .int .i64 k5, .int .i64 k6]), (w.heap.size + 1, #[.bool n1, .slice a1 len1 cap1, .int .i64 e1]), (w.heap.size, #[.bool n, .slice a len cap, .int .i64 e])] w') → Below w'.heap.size w' w'' → (w''.cell? ⟨b9, 0, none⟩ = some (.bool v.neg) ∧ w''.cell? ⟨b9, 1, none⟩ = some (S v.i) ∧ w''.cell? ⟨b9, 2, none⟩ = some (S v.f) ∧ w''.cell? ⟨w7.heap.size, 0, none⟩ = some (.bool v.neg) ∧ w''.cell? ⟨w7.heap.size, 1, none⟩ = some (S v.i) ∧ w''.cell? ⟨w7.heap.size, 2, none⟩ = some (S v.f) ∧ w''.cell? ⟨w8.heap.size, 0, none⟩ = some (.bool v.neg) ∧ w''.cell? ⟨w8.heap.size, 1, none⟩ = some (S v.i) ∧ w''.cell? ⟨w8.heap.size, 2, none⟩ = some (S v.f) ∧ HeldL w [(b9, #[.bool v.neg, S v.i, S v.f]), (w8.heap.size, #[.bool v.neg, S v.i, S v.f]), (w7.heap.size, #[.bool v.neg, S v.i, S v.f]), (w6.heap.size, #[.bool n1, S (dgs L1), .int .i64 e1]), (w5.heap.size, #[.bool n, S (dgs L), .int .i64 e]), (w4.heap.size, #[.int .i64 p.kind, .int .i64 p.mn, .int .i64 p.mx, .bool p.inc.neg, S p.inc.l, .int .i64 p.inc.e, .int .i64 p.mode, .int .i64 p.mi]), (w.heap.size + 1 + 1, #[.int .i64 k0, .int .i64 k1, .int .i64 k2, .int .i64 k3, .int .i64 k4, .int .i64 k5, .int .i64 k6]), (w.heap.size + 1, #[.bool n1, .slice a1 len1 cap1, .int .i64 e1]), (w.heap.size, #[.bool n, .slice a len cap, .int .i64 e])] w'')) := Lib.hid (fun w' w'' h hb => ALL2.out _ (HeldL.keep (h.2.2.2.2.2.2.2.2.2) hb))
  have HS2 : Hid (HeldL w [(b9, #[.bool v.neg, S v.i, S v.f]), (w8.heap.size, #[.bool v.neg, S v.i, S v.f]), (w7.heap.size, #[.bool v.neg, S v.i, S v.f]), (w6.heap.size, #[.bool n1, S (dgs L1), .int .i64 e1]), (w5.heap.size, #[.bool n, S (dgs L), .int .i64 e]), (w4.heap.size, #[.int .i64 p.kind, .int .i64 p.mn, .int .i64 p.mx, .bool p.inc.neg, S p.inc.l, .int .i64 p.inc.e, .int .i64 p.mode, .int .i64 p.mi]), (w.heap.size + 1 + 1, #[.int .i64 k0, .int .i64 k1, .int .i64 k2, .int .i64 k3, .int .i64 k4, .int .i64 k5, .int .i64 k6]), (w.heap.size + 1, #[.bool n1, .slice a1 len1 cap1, .int .i64 e1]), (w.heap.size, #[.bool n, .slice a len cap, .int .i64 e])] _) := Lib.hid H10.out
  have TAB2 : Hid (∀ w' : World, (w'.cell? ⟨b9, 0, none⟩ = some (.bool v.neg) ∧ w'.cell? ⟨b9, 1, none⟩ = some (S v.i) ∧ w'.cell? ⟨b9, 2, none⟩ = some (S v.f) ∧ w'.cell? ⟨w7.heap.size, 0, none⟩ = some (.bool v.neg) ∧ w'.cell? ⟨w7.heap.size, 1, none⟩ = some (S v.i) ∧ w'.cell? ⟨w7.heap.size, 2, none⟩ = some (S v.f) ∧ w'.cell? ⟨w8.heap.size, 0, none⟩ = some (.bool v.neg) ∧ w'.cell? ⟨w8.heap.size, 1, none⟩ = some (S v.i) ∧ w'.cell? ⟨w8.heap.size, 2, none⟩ = some (S v.f) ∧ HeldL w [(b9, #[.bool v.neg, S v.i, S v.f]), (w8.heap.size, #[.bool v.neg, S v.i, S v.f]), (w7.heap.size, #[.bool v.neg, S v.i, S v.f]), (w6.heap.size, #[.bool n1, S (dgs L1), .int .i64 e1]), (w5.heap.size, #[.bool n, S (dgs L), .int .i64 e]), (w4.heap.size, #[.int .i64 p.kind, .int .i64 p.mn, .int .i64 p.mx, .bool p.inc.neg, S p.inc.l, .int .i64 p.inc.e, .int .i64 p.mode, .int .i64 p.mi]), (w.heap.size + 1 + 1, #[.int .i64 k0, .int .i64 k1, .int .i64 k2, .int .i64 k3, .int .i64 k4, .int .i64 k5, .int .i64 k6]), (w.heap.size + 1, #[.bool n1, .slice a1 len1 cap1, .int .i64 e1]), (w.heap.size, #[.bool n, .slice a len cap, .int .i64 e])] w') → Tab w') := Lib.hid (fun w' h => HT.out.below (h.2.2.2.2.2.2.2.2.2).bel)
  go_region_held3 (fun w' => w'.cell? ⟨b9, 0, none⟩ = some (.bool v.neg) ∧ w'.cell? ⟨b9, 1, none⟩ = some (S v.i) ∧ w'.cell? ⟨b9, 2, none⟩ = some (S v.f) ∧ w'.cell? ⟨w7.heap.size, 0, none⟩ = some (.bool v.neg) ∧ w'.cell? ⟨w7.heap.size, 1, none⟩ = some (S v.i) ∧ w'.cell? ⟨w7.heap.size, 2, none⟩ = some (S v.f) ∧ w'.cell? ⟨w8.heap.size, 0, none⟩ = some (.bool v.neg) ∧ w'.cell? ⟨w8.heap.size, 1, none⟩ = some (S v.i) ∧ w'.cell? ⟨w8.heap.size, 2, none⟩ = some (S v.f) ∧ HeldL w [(b9, #[.bool v.neg, S v.i, S v.f]), (w8.heap.size, #[.bool v.neg, S v.i, S v.f]), (w7.heap.size, #[.bool v.neg, S v.i, S v.f]), (w6.heap.size, #[.bool n1, S (dgs L1), .int .i64 e1]), (w5.heap.size, #[.bool n, S (dgs L), .int .i64 e]), (w4.heap.size, #[.int .i64 p.kind, .int .i64 p.mn, .int .i64 p.mx, .bool p.inc.neg, S p.inc.l, .int .i64 p.inc.e, .int .i64 p.mode, .int .i64 p.mi]), (w.heap.size + 1 + 1, #[.int .i64 k0, .int .i64 k1, .int .i64 k2, .int .i64 k3, .int .i64 k4, .int .i64 k5, .int .i64 k6]), (w.heap.size + 1, #[.bool n1, .slice a1 len1 cap1, .int .i64 e1]), (w.heap.size, #[.bool n, .slice a len cap, .int .i64 e])] w')
    (first | exact ALL2.out _ (HeldL.drew HS2.out) | exact KEEP2.out _ _ (by assumption) hb | assumption)
    (first | (go_at_call 26; (with_reducible refine (HV1.out _ (by first | exact HT.out.below HS2.out.bel.drew | exact TAB2.out _ (by assumption))).mono ?_); rintro x wD ⟨rfl, hb⟩) | (go_at_call 26; (with_reducible refine (HV2.out _ (by first | exact HT.out.below HS2.out.bel.drew | exact TAB2.out _ (by assumption))).mono ?_); rintro x wE ⟨rfl, hb⟩) | (go_at_call 32; (with_reducible refine (cmp_T g g c2 _ gl gl HC2.out).mono ?_); rintro x wF ⟨rfl, hb⟩))
  have HH : HeldL w [(b9, #[.bool v.neg, S v.i, S v.f]), (w8.heap.size, #[.bool v.neg, S v.i, S v.f]), (w7.heap.size, #[.bool v.neg, S v.i, S v.f]), (w6.heap.size, #[.bool n1, S (dgs L1), .int .i64 e1]), (w5.heap.size, #[.bool n, S (dgs L), .int .i64 e]), (w4.heap.size, #[.int .i64 p.kind, .int .i64 p.mn, .int .i64 p.mx, .bool p.inc.neg, S p.inc.l, .int .i64 p.inc.e, .int .i64 p.mode, .int .i64 p.mi]), (w.heap.size + 1 + 1, #[.int .i64 k0, .int .i64 k1, .int .i64 k2, .int .i64 k3, .int .i64 k4, .int .i64 k5, .int .i64 k6]), (w.heap.size + 1, #[.bool n1, .slice a1 len1 cap1, .int .i64 e1]), (w.heap.size, #[.bool n, .slice a len cap, .int .i64 e])] wF := (‹wF.cell? ⟨b9, 0, none⟩ = some (.bool v.neg) ∧ wF.cell? ⟨b9, 1, none⟩ = some (S v.i) ∧ wF.cell? ⟨b9, 2, none⟩ = some (S v.f) ∧ wF.cell? ⟨w7.heap.size, 0, none⟩ = some (.bool v.neg) ∧ wF.cell? ⟨w7.heap.size, 1, none⟩ = some (S v.i) ∧ wF.cell? ⟨w7.heap.size, 2, none⟩ = some (S v.f) ∧ wF.cell? ⟨w8.heap.size, 0, none⟩ = some (.bool v.neg) ∧ wF.cell? ⟨w8.heap.size, 1, none⟩ = some (S v.i) ∧ wF.cell? ⟨w8.heap.size, 2, none⟩ = some (S v.f) ∧ HeldL w [(b9, #[.bool v.neg, S v.i, S v.f]), (w8.heap.size, #[.bool v.neg, S v.i, S v.f]), (w7.heap.size, #[.bool v.neg, S v.i, S v.f]), (w6.heap.size, #[.bool n1, S (dgs L1), .int .i64 e1]), (w5.heap.size, #[.bool n, S (dgs L), .int .i64 e]), (w4.heap.size, #[.int .i64 p.kind, .int .i64 p.mn, .int .i64 p.mx, .bool p.inc.neg, S p.inc.l, .int .i64 p.inc.e, .int .i64 p.mode, .int .i64 p.mi]), (w.heap.size + 1 + 1, #[.int .i64 k0, .int .i64 k1, .int .i64 k2, .int .i64 k3, .int .i64 k4, .int .i64 k5, .int .i64 k6]), (w.heap.size + 1, #[.bool n1, .slice a1 len1 cap1, .int .i64 e1]), (w.heap.size, #[.bool n, .slice a len cap, .int .i64 e])] wF›).2.2.2.2.2.2.2.2.2
  clear bv0 bv1 bv2 bvl bu0 bu1 bu2 bul ba0 ba1 ba2 bal
  have H11 : Hid (HeldL w [(b9, #[.bool v.neg, S v.i, S v.f]), (w8.heap.size, #[.bool v.neg, S v.i, S v.f]), (w7.heap.size, #[.bool v.neg, S v.i, S v.f]), (w6.heap.size, #[.bool n1, S (dgs L1), .int .i64 e1]), (w5.heap.size, #[.bool n, S (dgs L), .int .i64 e]), (w4.heap.size, #[.int .i64 p.kind, .int .i64 p.mn, .int .i64 p.mx, .bool p.inc.neg, S p.inc.l, .int .i64 p.inc.e, .int .i64 p.mode, .int .i64 p.mi]), (w.heap.size + 1 + 1, #[.int .i64 k0, .int .i64 k1, .int .i64 k2, .int .i64 k3, .int .i64 k4, .int .i64 k5, .int .i64 k6]), (w.heap.size + 1, #[.bool n1, .slice a1 len1 cap1, .int .i64 e1]), (w.heap.size, #[.bool n, .slice a len cap, .int .i64 e])] wF) := Lib.hid HH
  clear HH ALL2 KEEP2 HS2 TAB2 H10
  go_wp2
  go_ret
  exact ⟨rfl, H11.out.bel⟩

set_option maxRecDepth 100000 in
set_option maxHeartbeats 6400000 in
theorem again4_ne (n : Bool) (a : Option Addr) (len cap : Nat) (L : List UInt8) (e : Int) (n1 : Bool) (a1 : Option Addr) (len1 cap1 : Nat) (L1 : List UInt8) (e1 : Int) (k0 k1 k2 k3 k4 k5 k6 : Int) (w : World) (hin : InB w a len cap L) (hin1 : InB w a1 len1 cap1 L1) (htab : Tab w) (h1 : len ≤ 30) (h2 : -30 ≤ e) (h3 : e ≤ 30) (i1 : len1 ≤ 30) (i2 : -30 ≤ e1) (i3 : e1 ≤ 30) (p : Prc) (hpr : (∀ w : World, Tab w → Calls Tryz.prog 22 #[.agg #[.int .i64 k0, .int .i64 k1, .int .i64 k2, .int .i64 k3, .int .i64 k4, .int .i64 k5, .int .i64 k6]] w fun z w' => z = .returned (PV p) ∧ Below w.heap.size w w')) (g h : Tri) (gl : g.l.length ≤ 100000) (hl : h.l.length ≤ 100000) (v u : Vs) (ha1 : (∀ w : World, Tab w → Calls Tryz.prog 24 #[PV p, V ⟨n, dgs L, e⟩] w fun z w' => z = .returned (.tuple #[VV v, .int .i64 0]) ∧ Below w.heap.size w w')) (ha2 : (∀ w : World, Tab w → Calls Tryz.prog 24 #[PV p, V ⟨n1, dgs L1, e1⟩] w fun z w' => z = .returned (.tuple #[VV u, .int .i64 0]) ∧ Below w.heap.size w w')) (hv1 : (∀ w : World, Tab w → Calls Tryz.prog 26 #[VV v] w fun z w' => z = .returned (V g) ∧ Below w.heap.size w w')) (hv2 : (∀ w : World, Tab w → Calls Tryz.prog 26 #[VV u] w fun z w' => z = .returned (V h) ∧ Below w.heap.size w w')) (ha3 : (∀ w : World, Tab w → Calls Tryz.prog 24 #[PV p, V g] w fun z w' => z = .returned (.tuple #[VV v, .int .i64 0]) ∧ Below w.heap.size w w')) (c c2 : Int) (hc : CmpIs ⟨n, dgs L, e⟩ ⟨n1, dgs L1, e1⟩ c) (c0 : ¬ c = 0) (cb1 : -1 ≤ c) (cb2 : c ≤ 1) (hc2 : CmpIs g h c2) (d1 : (0 : Int) ≤ c2 * c) (e2 : c2 * c ≤ 1) :
    Calls Tryz.prog 8 #[RV n a len cap e, RV n1 a1 len1 cap1 e1, .agg #[.int .i64 k0, .int .i64 k1, .int .i64 k2, .int .i64 k3, .int .i64 k4, .int .i64 k5, .int .i64 k6]] w fun x w' => x = .returned (.bool true) ∧ Below w.heap.size w w' := by
  have hcA := hin.2.1
  have hmA := hin.2.2.1
  have hcB := hin1.2.1
  have hmB := hin1.2.2.1
  have LL : (dgs L).length ≤ 100000 := by rw [dgs_length, hin.1]; omega
  have LL1 : (dgs L1).length ≤ 100000 := by rw [dgs_length, hin1.1]; omega
  have HT := Lib.hid htab
  have HIN := Lib.hid hin
  have HIN1 := Lib.hid hin1
  have HPR := Lib.hid hpr
  have HA1 := Lib.hid ha1
  have HA2 := Lib.hid ha2
  have HA3 := Lib.hid ha3
  have HV1 := Lib.hid hv1
  have HV2 := Lib.hid hv2
  have HC := Lib.hid hc
  have HC2 := Lib.hid hc2
  clear htab hin hin1 hpr ha1 ha2 ha3 hv1 hv2 hc hc2
  go_enter Tryz.func8, Tryz.ntmps8
  go_wp2_with fail
  with_reducible refine (head4 _ (HT.out.below (HeldL.alloc (HeldL.alloc (HeldL.alloc (HeldL.refl w) (w.heap.size) #[.bool n, .slice a len cap, .int .i64 e] 24 (by simp)) (w.heap.size + 1) #[.bool n1, .slice a1 len1 cap1, .int .i64 e1] 24 (by simp)) (w.heap.size + 1 + 1) #[.int .i64 k0, .int .i64 k1, .int .i64 k2, .int .i64 k3, .int .i64 k4, .int .i64 k5, .int .i64 k6] 43 (by simp)).bel)).mono ?_
  rintro x w1 ⟨rfl, hb⟩
  have H1 : Hid (HeldL w [(w.heap.size + 1 + 1, #[.int .i64 k0, .int .i64 k1, .int .i64 k2, .int .i64 k3, .int .i64 k4, .int .i64 k5, .int .i64 k6]), (w.heap.size + 1, #[.bool n1, .slice a1 len1 cap1, .int .i64 e1]), (w.heap.size, #[.bool n, .slice a len cap, .int .i64 e])] w1) := Lib.hid (HeldL.keep (HeldL.alloc (HeldL.alloc (HeldL.alloc (HeldL.refl w) (w.heap.size) #[.bool n, .slice a len cap, .int .i64 e] 24 (by simp)) (w.heap.size + 1) #[.bool n1, .slice a1 len1 cap1, .int .i64 e1] 24 (by simp)) (w.heap.size + 1 + 1) #[.int .i64 k0, .int .i64 k1, .int .i64 k2, .int .i64 k3, .int .i64 k4, .int .i64 k5, .int .i64 k6] 43 (by simp)) hb)
  clear hb
  have q0 : w1.cell? ⟨w.heap.size, 0, none⟩ = some (.bool n) := (H1.out.f (List.Mem.tail _ (List.Mem.tail _ (List.Mem.head _)))).cell 0
  have q1 : w1.cell? ⟨w.heap.size, 1, none⟩ = some (.slice a len cap) := (H1.out.f (List.Mem.tail _ (List.Mem.tail _ (List.Mem.head _)))).cell 1
  have q2 : w1.cell? ⟨w.heap.size, 2, none⟩ = some (.int .i64 e) := (H1.out.f (List.Mem.tail _ (List.Mem.tail _ (List.Mem.head _)))).cell 2
  have ql : w.heap.size < w1.heap.size := (H1.out.f (List.Mem.tail _ (List.Mem.tail _ (List.Mem.head _)))).lt
  have r0 : w1.cell? ⟨w.heap.size + 1, 0, none⟩ = some (.bool n1) := (H1.out.f (List.Mem.tail _ (List.Mem.head _))).cell 0
  have r1 : w1.cell? ⟨w.heap.size + 1, 1, none⟩ = some (.slice a1 len1 cap1) := (H1.out.f (List.Mem.tail _ (List.Mem.head _))).cell 1
  have r2 : w1.cell? ⟨w.heap.size + 1, 2, none⟩ = some (.int .i64 e1) := (H1.out.f (List.Mem.tail _ (List.Mem.head _))).cell 2
  have rl : w.heap.size + 1 < w1.heap.size := (H1.out.f (List.Mem.tail _ (List.Mem.head _))).lt
  have k0 : w1.cell? ⟨w.heap.size + 1 + 1, 0, none⟩ = some (.int .i64 k0) := (H1.out.f (List.Mem.head _)).cell 0
  have k1 : w1.cell? ⟨w.heap.size + 1 + 1, 1, none⟩ = some (.int .i64 k1) := (H1.out.f (List.Mem.head _)).cell 1
  have k2 : w1.cell? ⟨w.heap.size + 1 + 1, 2, none⟩ = some (.int .i64 k2) := (H1.out.f (List.Mem.head _)).cell 2
  have k3 : w1.cell? ⟨w.heap.size + 1 + 1, 3, none⟩ = some (.int .i64 k3) := (H1.out.f (List.Mem.head _)).cell 3
  have k4 : w1.cell? ⟨w.heap.size + 1 + 1, 4, none⟩ = some (.int .i64 k4) := (H1.out.f (List.Mem.head _)).cell 4
  have k5 : w1.cell? ⟨w.heap.size + 1 + 1, 5, none⟩ = some (.int .i64 k5) := (H1.out.f (List.Mem.head _)).cell 5
  have k6 : w1.cell? ⟨w.heap.size + 1 + 1, 6, none⟩ = some (.int .i64 k6) := (H1.out.f (List.Mem.head _)).cell 6
  have kl : w.heap.size + 1 + 1 < w1.heap.size := (H1.out.f (List.Mem.head _)).lt
  go_wp2_with fail
  with_reducible refine (few_yes n a len cap e 30 _ hcA hmA (by decide) (by decide) (by omega) h2 h3).mono ?_
  rintro x w2 ⟨rfl, hb⟩
  clear q0 q1 q2 ql r0 r1 r2 rl k0 k1 k2 k3 k4 k5 k6 kl
  have H2 : Hid (HeldL w [(w.heap.size + 1 + 1, #[.int .i64 k0, .int .i64 k1, .int .i64 k2, .int .i64 k3, .int .i64 k4, .int .i64 k5, .int .i64 k6]), (w.heap.size + 1, #[.bool n1, .slice a1 len1 cap1, .int .i64 e1]), (w.heap.size, #[.bool n, .slice a len cap, .int .i64 e])] w2) := Lib.hid (HeldL.keep H1.out hb)
  clear H1
  clear hb
  have q0 : w2.cell? ⟨w.heap.size, 0, none⟩ = some (.bool n) := (H2.out.f (List.Mem.tail _ (List.Mem.tail _ (List.Mem.head _)))).cell 0
  have q1 : w2.cell? ⟨w.heap.size, 1, none⟩ = some (.slice a len cap) := (H2.out.f (List.Mem.tail _ (List.Mem.tail _ (List.Mem.head _)))).cell 1
  have q2 : w2.cell? ⟨w.heap.size, 2, none⟩ = some (.int .i64 e) := (H2.out.f (List.Mem.tail _ (List.Mem.tail _ (List.Mem.head _)))).cell 2
  have ql : w.heap.size < w2.heap.size := (H2.out.f (List.Mem.tail _ (List.Mem.tail _ (List.Mem.head _)))).lt
  have r0 : w2.cell? ⟨w.heap.size + 1, 0, none⟩ = some (.bool n1) := (H2.out.f (List.Mem.tail _ (List.Mem.head _))).cell 0
  have r1 : w2.cell? ⟨w.heap.size + 1, 1, none⟩ = some (.slice a1 len1 cap1) := (H2.out.f (List.Mem.tail _ (List.Mem.head _))).cell 1
  have r2 : w2.cell? ⟨w.heap.size + 1, 2, none⟩ = some (.int .i64 e1) := (H2.out.f (List.Mem.tail _ (List.Mem.head _))).cell 2
  have rl : w.heap.size + 1 < w2.heap.size := (H2.out.f (List.Mem.tail _ (List.Mem.head _))).lt
  have k0 : w2.cell? ⟨w.heap.size + 1 + 1, 0, none⟩ = some (.int .i64 k0) := (H2.out.f (List.Mem.head _)).cell 0
  have k1 : w2.cell? ⟨w.heap.size + 1 + 1, 1, none⟩ = some (.int .i64 k1) := (H2.out.f (List.Mem.head _)).cell 1
  have k2 : w2.cell? ⟨w.heap.size + 1 + 1, 2, none⟩ = some (.int .i64 k2) := (H2.out.f (List.Mem.head _)).cell 2
  have k3 : w2.cell? ⟨w.heap.size + 1 + 1, 3, none⟩ = some (.int .i64 k3) := (H2.out.f (List.Mem.head _)).cell 3
  have k4 : w2.cell? ⟨w.heap.size + 1 + 1, 4, none⟩ = some (.int .i64 k4) := (H2.out.f (List.Mem.head _)).cell 4
  have k5 : w2.cell? ⟨w.heap.size + 1 + 1, 5, none⟩ = some (.int .i64 k5) := (H2.out.f (List.Mem.head _)).cell 5
  have k6 : w2.cell? ⟨w.heap.size + 1 + 1, 6, none⟩ = some (.int .i64 k6) := (H2.out.f (List.Mem.head _)).cell 6
  have kl : w.heap.size + 1 + 1 < w2.heap.size := (H2.out.f (List.Mem.head _)).lt
  go_wp2_with fail
  with_reducible refine (few_yes n1 a1 len1 cap1 e1 30 _ hcB hmB (by decide) (by decide) (by omega) i2 i3).mono ?_
  rintro x w3 ⟨rfl, hb⟩
  clear q0 q1 q2 ql r0 r1 r2 rl k0 k1 k2 k3 k4 k5 k6 kl
  have H3 : Hid (HeldL w [(w.heap.size + 1 + 1, #[.int .i64 k0, .int .i64 k1, .int .i64 k2, .int .i64 k3, .int .i64 k4, .int .i64 k5, .int .i64 k6]), (w.heap.size + 1, #[.bool n1, .slice a1 len1 cap1, .int .i64 e1]), (w.heap.size, #[.bool n, .slice a len cap, .int .i64 e])] w3) := Lib.hid (HeldL.keep H2.out hb)
  clear H2
  clear hb
  have q0 : w3.cell? ⟨w.heap.size, 0, none⟩ = some (.bool n) := (H3.out.f (List.Mem.tail _ (List.Mem.tail _ (List.Mem.head _)))).cell 0
  have q1 : w3.cell? ⟨w.heap.size, 1, none⟩ = some (.slice a len cap) := (H3.out.f (List.Mem.tail _ (List.Mem.tail _ (List.Mem.head _)))).cell 1
  have q2 : w3.cell? ⟨w.heap.size, 2, none⟩ = some (.int .i64 e) := (H3.out.f (List.Mem.tail _ (List.Mem.tail _ (List.Mem.head _)))).cell 2
  have ql : w.heap.size < w3.heap.size := (H3.out.f (List.Mem.tail _ (List.Mem.tail _ (List.Mem.head _)))).lt
  have r0 : w3.cell? ⟨w.heap.size + 1, 0, none⟩ = some (.bool n1) := (H3.out.f (List.Mem.tail _ (List.Mem.head _))).cell 0
  have r1 : w3.cell? ⟨w.heap.size + 1, 1, none⟩ = some (.slice a1 len1 cap1) := (H3.out.f (List.Mem.tail _ (List.Mem.head _))).cell 1
  have r2 : w3.cell? ⟨w.heap.size + 1, 2, none⟩ = some (.int .i64 e1) := (H3.out.f (List.Mem.tail _ (List.Mem.head _))).cell 2
  have rl : w.heap.size + 1 < w3.heap.size := (H3.out.f (List.Mem.tail _ (List.Mem.head _))).lt
  have k0 : w3.cell? ⟨w.heap.size + 1 + 1, 0, none⟩ = some (.int .i64 k0) := (H3.out.f (List.Mem.head _)).cell 0
  have k1 : w3.cell? ⟨w.heap.size + 1 + 1, 1, none⟩ = some (.int .i64 k1) := (H3.out.f (List.Mem.head _)).cell 1
  have k2 : w3.cell? ⟨w.heap.size + 1 + 1, 2, none⟩ = some (.int .i64 k2) := (H3.out.f (List.Mem.head _)).cell 2
  have k3 : w3.cell? ⟨w.heap.size + 1 + 1, 3, none⟩ = some (.int .i64 k3) := (H3.out.f (List.Mem.head _)).cell 3
  have k4 : w3.cell? ⟨w.heap.size + 1 + 1, 4, none⟩ = some (.int .i64 k4) := (H3.out.f (List.Mem.head _)).cell 4
  have k5 : w3.cell? ⟨w.heap.size + 1 + 1, 5, none⟩ = some (.int .i64 k5) := (H3.out.f (List.Mem.head _)).cell 5
  have k6 : w3.cell? ⟨w.heap.size + 1 + 1, 6, none⟩ = some (.int .i64 k6) := (H3.out.f (List.Mem.head _)).cell 6
  have kl : w.heap.size + 1 + 1 < w3.heap.size := (H3.out.f (List.Mem.head _)).lt
  go_wp2_with fail
  with_reducible refine (HPR.out _ (HT.out.below H3.out.bel)).mono ?_
  rintro x w4 ⟨rfl, hb⟩
  clear q0 q1 q2 ql r0 r1 r2 rl k0 k1 k2 k3 k4 k5 k6 kl
  have H4 : Hid (HeldL w [(w.heap.size + 1 + 1, #[.int .i64 k0, .int .i64 k1, .int .i64 k2, .int .i64 k3, .int .i64 k4, .int .i64 k5, .int .i64 k6]), (w.heap.size + 1, #[.bool n1, .slice a1 len1 cap1, .int .i64 e1]), (w.heap.size, #[.bool n, .slice a len cap, .int .i64 e])] w4) := Lib.hid (HeldL.keep H3.out hb)
  clear H3
  clear hb
  have q0 : w4.cell? ⟨w.heap.size, 0, none⟩ = some (.bool n) := (H4.out.f (List.Mem.tail _ (List.Mem.tail _ (List.Mem.head _)))).cell 0
  have q1 : w4.cell? ⟨w.heap.size, 1, none⟩ = some (.slice a len cap) := (H4.out.f (List.Mem.tail _ (List.Mem.tail _ (List.Mem.head _)))).cell 1
  have q2 : w4.cell? ⟨w.heap.size, 2, none⟩ = some (.int .i64 e) := (H4.out.f (List.Mem.tail _ (List.Mem.tail _ (List.Mem.head _)))).cell 2
  have ql : w.heap.size < w4.heap.size := (H4.out.f (List.Mem.tail _ (List.Mem.tail _ (List.Mem.head _)))).lt
  have r0 : w4.cell? ⟨w.heap.size + 1, 0, none⟩ = some (.bool n1) := (H4.out.f (List.Mem.tail _ (List.Mem.head _))).cell 0
  have r1 : w4.cell? ⟨w.heap.size + 1, 1, none⟩ = some (.slice a1 len1 cap1) := (H4.out.f (List.Mem.tail _ (List.Mem.head _))).cell 1
  have r2 : w4.cell? ⟨w.heap.size + 1, 2, none⟩ = some (.int .i64 e1) := (H4.out.f (List.Mem.tail _ (List.Mem.head _))).cell 2
  have rl : w.heap.size + 1 < w4.heap.size := (H4.out.f (List.Mem.tail _ (List.Mem.head _))).lt
  go_wp2_with fail
  with_reducible refine (make_as n a len cap L e _ (HIN.out.below (HeldL.alloc H4.out (w4.heap.size) #[.int .i64 p.kind, .int .i64 p.mn, .int .i64 p.mx, .bool p.inc.neg, S p.inc.l, .int .i64 p.inc.e, .int .i64 p.mode, .int .i64 p.mi] 46 (by simp)).bel) (by omega)).mono ?_
  rintro x w5 ⟨rfl, hb⟩
  clear q0 q1 q2 ql r0 r1 r2 rl
  have H5 : Hid (HeldL w [(w4.heap.size, #[.int .i64 p.kind, .int .i64 p.mn, .int .i64 p.mx, .bool p.inc.neg, S p.inc.l, .int .i64 p.inc.e, .int .i64 p.mode, .int .i64 p.mi]), (w.heap.size + 1 + 1, #[.int .i64 k0, .int .i64 k1, .int .i64 k2, .int .i64 k3, .int .i64 k4, .int .i64 k5, .int .i64 k6]), (w.heap.size + 1, #[.bool n1, .slice a1 len1 cap1, .int .i64 e1]), (w.heap.size, #[.bool n, .slice a len cap, .int .i64 e])] w5) := Lib.hid (HeldL.keep (HeldL.alloc H4.out (w4.heap.size) #[.int .i64 p.kind, .int .i64 p.mn, .int .i64 p.mx, .bool p.inc.neg, S p.inc.l, .int .i64 p.inc.e, .int .i64 p.mode, .int .i64 p.mi] 46 (by simp)) hb)
  clear H4
  clear hb
  have r0 : w5.cell? ⟨w.heap.size + 1, 0, none⟩ = some (.bool n1) := (H5.out.f (List.Mem.tail _ (List.Mem.tail _ (List.Mem.head _)))).cell 0
  have r1 : w5.cell? ⟨w.heap.size + 1, 1, none⟩ = some (.slice a1 len1 cap1) := (H5.out.f (List.Mem.tail _ (List.Mem.tail _ (List.Mem.head _)))).cell 1
  have r2 : w5.cell? ⟨w.heap.size + 1, 2, none⟩ = some (.int .i64 e1) := (H5.out.f (List.Mem.tail _ (List.Mem.tail _ (List.Mem.head _)))).cell 2
  have rl : w.heap.size + 1 < w5.heap.size := (H5.out.f (List.Mem.tail _ (List.Mem.tail _ (List.Mem.head _)))).lt
  have bp0 : w5.cell? ⟨w4.heap.size, 0, none⟩ = some (.int .i64 p.kind) := (H5.out.f (List.Mem.head _)).cell 0
  have bp1 : w5.cell? ⟨w4.heap.size, 1, none⟩ = some (.int .i64 p.mn) := (H5.out.f (List.Mem.head _)).cell 1
  have bp2 : w5.cell? ⟨w4.heap.size, 2, none⟩ = some (.int .i64 p.mx) := (H5.out.f (List.Mem.head _)).cell 2
  have bp3 : w5.cell? ⟨w4.heap.size, 3, none⟩ = some (.bool p.inc.neg) := (H5.out.f (List.Mem.head _)).cell 3
  have bp4 : w5.cell? ⟨w4.heap.size, 4, none⟩ = some (S p.inc.l) := (H5.out.f (List.Mem.head _)).cell 4
  have bp5 : w5.cell? ⟨w4.heap.size, 5, none⟩ = some (.int .i64 p.inc.e) := (H5.out.f (List.Mem.head _)).cell 5
  have bp6 : w5.cell? ⟨w4.heap.size, 6, none⟩ = some (.int .i64 p.mode) := (H5.out.f (List.Mem.head _)).cell 6
  have bp7 : w5.cell? ⟨w4.heap.size, 7, none⟩ = some (.int .i64 p.mi) := (H5.out.f (List.Mem.head _)).cell 7
  have bpl : w4.heap.size < w5.heap.size := (H5.out.f (List.Mem.head _)).lt
  go_wp2_with fail
  with_reducible refine (make_as n1 a1 len1 cap1 L1 e1 _ (HIN1.out.below (HeldL.alloc H5.out (w5.heap.size) #[.bool n, S (dgs L), .int .i64 e] 31 (by simp)).bel) (by omega)).mono ?_
  rintro x w6 ⟨rfl, hb⟩
  clear r0 r1 r2 rl bp0 bp1 bp2 bp3 bp4 bp5 bp6 bp7 bpl
  have H6 : Hid (HeldL w [(w5.heap.size, #[.bool n, S (dgs L), .int .i64 e]), (w4.heap.size, #[.int .i64 p.kind, .int .i64 p.mn, .int .i64 p.mx, .bool p.inc.neg, S p.inc.l, .int .i64 p.inc.e, .int .i64 p.mode, .int .i64 p.mi]), (w.heap.size + 1 + 1, #[.int .i64 k0, .int .i64 k1, .int .i64 k2, .int .i64 k3, .int .i64 k4, .int .i64 k5, .int .i64 k6]), (w.heap.size + 1, #[.bool n1, .slice a1 len1 cap1, .int .i64 e1]), (w.heap.size, #[.bool n, .slice a len cap, .int .i64 e])] w6) := Lib.hid (HeldL.keep (HeldL.alloc H5.out (w5.heap.size) #[.bool n, S (dgs L), .int .i64 e] 31 (by simp)) hb)
  clear H5
  clear hb
  have bp0 : w6.cell? ⟨w4.heap.size, 0, none⟩ = some (.int .i64 p.kind) := (H6.out.f (List.Mem.tail _ (List.Mem.head _))).cell 0
  have bp1 : w6.cell? ⟨w4.heap.size, 1, none⟩ = some (.int .i64 p.mn) := (H6.out.f (List.Mem.tail _ (List.Mem.head _))).cell 1
  have bp2 : w6.cell? ⟨w4.heap.size, 2, none⟩ = some (.int .i64 p.mx) := (H6.out.f (List.Mem.tail _ (List.Mem.head _))).cell 2
  have bp3 : w6.cell? ⟨w4.heap.size, 3, none⟩ = some (.bool p.inc.neg) := (H6.out.f (List.Mem.tail _ (List.Mem.head _))).cell 3
  have bp4 : w6.cell? ⟨w4.heap.size, 4, none⟩ = some (S p.inc.l) := (H6.out.f (List.Mem.tail _ (List.Mem.head _))).cell 4
  have bp5 : w6.cell? ⟨w4.heap.size, 5, none⟩ = some (.int .i64 p.inc.e) := (H6.out.f (List.Mem.tail _ (List.Mem.head _))).cell 5
  have bp6 : w6.cell? ⟨w4.heap.size, 6, none⟩ = some (.int .i64 p.mode) := (H6.out.f (List.Mem.tail _ (List.Mem.head _))).cell 6
  have bp7 : w6.cell? ⟨w4.heap.size, 7, none⟩ = some (.int .i64 p.mi) := (H6.out.f (List.Mem.tail _ (List.Mem.head _))).cell 7
  have bpl : w4.heap.size < w6.heap.size := (H6.out.f (List.Mem.tail _ (List.Mem.head _))).lt
  have bx0 : w6.cell? ⟨w5.heap.size, 0, none⟩ = some (.bool n) := (H6.out.f (List.Mem.head _)).cell 0
  have bx1 : w6.cell? ⟨w5.heap.size, 1, none⟩ = some (S (dgs L)) := (H6.out.f (List.Mem.head _)).cell 1
  have bx2 : w6.cell? ⟨w5.heap.size, 2, none⟩ = some (.int .i64 e) := (H6.out.f (List.Mem.head _)).cell 2
  have bxl : w5.heap.size < w6.heap.size := (H6.out.f (List.Mem.head _)).lt
  go_wp2_with fail
  with_reducible refine (HA1.out _ (HT.out.below (HeldL.alloc H6.out (w6.heap.size) #[.bool n1, S (dgs L1), .int .i64 e1] 31 (by simp)).bel)).mono ?_
  rintro x w7 ⟨rfl, hb⟩
  clear bp0 bp1 bp2 bp3 bp4 bp5 bp6 bp7 bpl bx0 bx1 bx2 bxl
  have H7 : Hid (HeldL w [(w6.heap.size, #[.bool n1, S (dgs L1), .int .i64 e1]), (w5.heap.size, #[.bool n, S (dgs L), .int .i64 e]), (w4.heap.size, #[.int .i64 p.kind, .int .i64 p.mn, .int .i64 p.mx, .bool p.inc.neg, S p.inc.l, .int .i64 p.inc.e, .int .i64 p.mode, .int .i64 p.mi]), (w.heap.size + 1 + 1, #[.int .i64 k0, .int .i64 k1, .int .i64 k2, .int .i64 k3, .int .i64 k4, .int .i64 k5, .int .i64 k6]), (w.heap.size + 1, #[.bool n1, .slice a1 len1 cap1, .int .i64 e1]), (w.heap.size, #[.bool n, .slice a len cap, .int .i64 e])] w7) := Lib.hid (HeldL.keep (HeldL.alloc H6.out (w6.heap.size) #[.bool n1, S (dgs L1), .int .i64 e1] 31 (by simp)) hb)
  clear H6
  clear hb
  have bp0 : w7.cell? ⟨w4.heap.size, 0, none⟩ = some (.int .i64 p.kind) := (H7.out.f (List.Mem.tail _ (List.Mem.tail _ (List.Mem.head _)))).cell 0
  have bp1 : w7.cell? ⟨w4.heap.size, 1, none⟩ = some (.int .i64 p.mn) := (H7.out.f (List.Mem.tail _ (List.Mem.tail _ (List.Mem.head _)))).cell 1
  have bp2 : w7.cell? ⟨w4.heap.size, 2, none⟩ = some (.int .i64 p.mx) := (H7.out.f (List.Mem.tail _ (List.Mem.tail _ (List.Mem.head _)))).cell 2
  have bp3 : w7.cell? ⟨w4.heap.size, 3, none⟩ = some (.bool p.inc.neg) := (H7.out.f (List.Mem.tail _ (List.Mem.tail _ (List.Mem.head _)))).cell 3
  have bp4 : w7.cell? ⟨w4.heap.size, 4, none⟩ = some (S p.inc.l) := (H7.out.f (List.Mem.tail _ (List.Mem.tail _ (List.Mem.head _)))).cell 4
  have bp5 : w7.cell? ⟨w4.heap.size, 5, none⟩ = some (.int .i64 p.inc.e) := (H7.out.f (List.Mem.tail _ (List.Mem.tail _ (List.Mem.head _)))).cell 5
  have bp6 : w7.cell? ⟨w4.heap.size, 6, none⟩ = some (.int .i64 p.mode) := (H7.out.f (List.Mem.tail _ (List.Mem.tail _ (List.Mem.head _)))).cell 6
  have bp7 : w7.cell? ⟨w4.heap.size, 7, none⟩ = some (.int .i64 p.mi) := (H7.out.f (List.Mem.tail _ (List.Mem.tail _ (List.Mem.head _)))).cell 7
  have bpl : w4.heap.size < w7.heap.size := (H7.out.f (List.Mem.tail _ (List.Mem.tail _ (List.Mem.head _)))).lt
  have bx0 : w7.cell? ⟨w5.heap.size, 0, none⟩ = some (.bool n) := (H7.out.f (List.Mem.tail _ (List.Mem.head _))).cell 0
  have bx1 : w7.cell? ⟨w5.heap.size, 1, none⟩ = some (S (dgs L)) := (H7.out.f (List.Mem.tail _ (List.Mem.head _))).cell 1
  have bx2 : w7.cell? ⟨w5.heap.size, 2, none⟩ = some (.int .i64 e) := (H7.out.f (List.Mem.tail _ (List.Mem.head _))).cell 2
  have bxl : w5.heap.size < w7.heap.size := (H7.out.f (List.Mem.tail _ (List.Mem.head _))).lt
  have by0 : w7.cell? ⟨w6.heap.size, 0, none⟩ = some (.bool n1) := (H7.out.f (List.Mem.head _)).cell 0
  have by1 : w7.cell? ⟨w6.heap.size, 1, none⟩ = some (S (dgs L1)) := (H7.out.f (List.Mem.head _)).cell 1
  have by2 : w7.cell? ⟨w6.heap.size, 2, none⟩ = some (.int .i64 e1) := (H7.out.f (List.Mem.head _)).cell 2
  have byl : w6.heap.size < w7.heap.size := (H7.out.f (List.Mem.head _)).lt
  go_wp2_with fail
  with_reducible refine (HA2.out _ (HT.out.below (HeldL.alloc H7.out (w7.heap.size) #[.bool v.neg, S v.i, S v.f] 49 (by simp)).bel)).mono ?_
  rintro x w8 ⟨rfl, hb⟩
  clear bp0 bp1 bp2 bp3 bp4 bp5 bp6 bp7 bpl bx0 bx1 bx2 bxl by0 by1 by2 byl
  have H8 : Hid (HeldL w [(w7.heap.size, #[.bool v.neg, S v.i, S v.f]), (w6.heap.size, #[.bool n1, S (dgs L1), .int .i64 e1]), (w5.heap.size, #[.bool n, S (dgs L), .int .i64 e]), (w4.heap.size, #[.int .i64 p.kind, .int .i64 p.mn, .int .i64 p.mx, .bool p.inc.neg, S p.inc.l, .int .i64 p.inc.e, .int .i64 p.mode, .int .i64 p.mi]), (w.heap.size + 1 + 1, #[.int .i64 k0, .int .i64 k1, .int .i64 k2, .int .i64 k3, .int .i64 k4, .int .i64 k5, .int .i64 k6]), (w.heap.size + 1, #[.bool n1, .slice a1 len1 cap1, .int .i64 e1]), (w.heap.size, #[.bool n, .slice a len cap, .int .i64 e])] w8) := Lib.hid (HeldL.keep (HeldL.alloc H7.out (w7.heap.size) #[.bool v.neg, S v.i, S v.f] 49 (by simp)) hb)
  clear H7
  clear hb
  have bp0 : w8.cell? ⟨w4.heap.size, 0, none⟩ = some (.int .i64 p.kind) := (H8.out.f (List.Mem.tail _ (List.Mem.tail _ (List.Mem.tail _ (List.Mem.head _))))).cell 0
  have bp1 : w8.cell? ⟨w4.heap.size, 1, none⟩ = some (.int .i64 p.mn) := (H8.out.f (List.Mem.tail _ (List.Mem.tail _ (List.Mem.tail _ (List.Mem.head _))))).cell 1
  have bp2 : w8.cell? ⟨w4.heap.size, 2, none⟩ = some (.int .i64 p.mx) := (H8.out.f (List.Mem.tail _ (List.Mem.tail _ (List.Mem.tail _ (List.Mem.head _))))).cell 2
  have bp3 : w8.cell? ⟨w4.heap.size, 3, none⟩ = some (.bool p.inc.neg) := (H8.out.f (List.Mem.tail _ (List.Mem.tail _ (List.Mem.tail _ (List.Mem.head _))))).cell 3
  have bp4 : w8.cell? ⟨w4.heap.size, 4, none⟩ = some (S p.inc.l) := (H8.out.f (List.Mem.tail _ (List.Mem.tail _ (List.Mem.tail _ (List.Mem.head _))))).cell 4
  have bp5 : w8.cell? ⟨w4.heap.size, 5, none⟩ = some (.int .i64 p.inc.e) := (H8.out.f (List.Mem.tail _ (List.Mem.tail _ (List.Mem.tail _ (List.Mem.head _))))).cell 5
  have bp6 : w8.cell? ⟨w4.heap.size, 6, none⟩ = some (.int .i64 p.mode) := (H8.out.f (List.Mem.tail _ (List.Mem.tail _ (List.Mem.tail _ (List.Mem.head _))))).cell 6
  have bp7 : w8.cell? ⟨w4.heap.size, 7, none⟩ = some (.int .i64 p.mi) := (H8.out.f (List.Mem.tail _ (List.Mem.tail _ (List.Mem.tail _ (List.Mem.head _))))).cell 7
  have bpl : w4.heap.size < w8.heap.size := (H8.out.f (List.Mem.tail _ (List.Mem.tail _ (List.Mem.tail _ (List.Mem.head _))))).lt
  have bx0 : w8.cell? ⟨w5.heap.size, 0, none⟩ = some (.bool n) := (H8.out.f (List.Mem.tail _ (List.Mem.tail _ (List.Mem.head _)))).cell 0
  have bx1 : w8.cell? ⟨w5.heap.size, 1, none⟩ = some (S (dgs L)) := (H8.out.f (List.Mem.tail _ (List.Mem.tail _ (List.Mem.head _)))).cell 1
  have bx2 : w8.cell? ⟨w5.heap.size, 2, none⟩ = some (.int .i64 e) := (H8.out.f (List.Mem.tail _ (List.Mem.tail _ (List.Mem.head _)))).cell 2
  have bxl : w5.heap.size < w8.heap.size := (H8.out.f (List.Mem.tail _ (List.Mem.tail _ (List.Mem.head _)))).lt
  have by0 : w8.cell? ⟨w6.heap.size, 0, none⟩ = some (.bool n1) := (H8.out.f (List.Mem.tail _ (List.Mem.head _))).cell 0
  have by1 : w8.cell? ⟨w6.heap.size, 1, none⟩ = some (S (dgs L1)) := (H8.out.f (List.Mem.tail _ (List.Mem.head _))).cell 1
  have by2 : w8.cell? ⟨w6.heap.size, 2, none⟩ = some (.int .i64 e1) := (H8.out.f (List.Mem.tail _ (List.Mem.head _))).cell 2
  have byl : w6.heap.size < w8.heap.size := (H8.out.f (List.Mem.tail _ (List.Mem.head _))).lt
  have bv0 : w8.cell? ⟨w7.heap.size, 0, none⟩ = some (.bool v.neg) := (H8.out.f (List.Mem.head _)).cell 0
  have bv1 : w8.cell? ⟨w7.heap.size, 1, none⟩ = some (S v.i) := (H8.out.f (List.Mem.head _)).cell 1
  have bv2 : w8.cell? ⟨w7.heap.size, 2, none⟩ = some (S v.f) := (H8.out.f (List.Mem.head _)).cell 2
  have bvl : w7.heap.size < w8.heap.size := (H8.out.f (List.Mem.head _)).lt
  go_upto_region 10 with fail
  go_cut [14, 15] from 17 (fun vp ve w' => ∃ b : Nat, vp = .pointer (some ⟨b, 0, none⟩) ∧ ve = .int .i64 0 ∧ HeldL w ((b, #[.bool v.neg, S v.i, S v.f]) :: [(w8.heap.size, #[.bool u.neg, S u.i, S u.f]), (w7.heap.size, #[.bool v.neg, S v.i, S v.f]), (w6.heap.size, #[.bool n1, S (dgs L1), .int .i64 e1]), (w5.heap.size, #[.bool n, S (dgs L), .int .i64 e]), (w4.heap.size, #[.int .i64 p.kind, .int .i64 p.mn, .int .i64 p.mx, .bool p.inc.neg, S p.inc.l, .int .i64 p.inc.e, .int .i64 p.mode, .int .i64 p.mi]), (w.heap.size + 1 + 1, #[.int .i64 k0, .int .i64 k1, .int .i64 k2, .int .i64 k3, .int .i64 k4, .int .i64 k5, .int .i64 k6]), (w.heap.size + 1, #[.bool n1, .slice a1 len1 cap1, .int .i64 e1]), (w.heap.size, #[.bool n, .slice a len cap, .int .i64 e])]) w')
  case first =>
    have ALL1 : Hid (∀ w' : World, HeldL w [(w8.heap.size, #[.bool u.neg, S u.i, S u.f]), (w7.heap.size, #[.bool v.neg, S v.i, S v.f]), (w6.heap.size, #[.bool n1, S (dgs L1), .int .i64 e1]), (w5.heap.size, #[.bool n, S (dgs L), .int .i64 e]), (w4.heap.size, #[.int .i64 p.kind, .int .i64 p.mn, .int .i64 p.mx, .bool p.inc.neg, S p.inc.l, .int .i64 p.inc.e, .int .i64 p.mode, .int .i64 p.mi]), (w.heap.size + 1 + 1, #[.int .i64 k0, .int .i64 k1, .int .i64 k2, .int .i64 k3, .int .i64 k4, .int .i64 k5, .int .i64 k6]), (w.heap.size + 1, #[.bool n1, .slice a1 len1 cap1, .int .i64 e1]), (w.heap.size, #[.bool n, .slice a len cap, .int .i64 e])] w' → w'.cell? ⟨w4.heap.size, 0, none⟩ = some (.int .i64 p.kind) ∧ w'.cell? ⟨w4.heap.size, 1, none⟩ = some (.int .i64 p.mn) ∧ w'.cell? ⟨w4.heap.size, 2, none⟩ = some (.int .i64 p.mx) ∧ w'.cell? ⟨w4.heap.size, 3, none⟩ = some (.bool p.inc.neg) ∧ w'.cell? ⟨w4.heap.size, 4, none⟩ = some (S p.inc.l) ∧ w'.cell? ⟨w4.heap.size, 5, none⟩ = some (.int .i64 p.inc.e) ∧ w'.cell? ⟨w4.heap.size, 6, none⟩ = some (.int .i64 p.mode) ∧ w'.cell? ⟨w4.heap.size, 7, none⟩ = some (.int .i64 p.mi) ∧ w'.cell? ⟨w7.heap.size, 0, none⟩ = some (.bool v.neg) ∧ w'.cell? ⟨w7.heap.size, 1, none⟩ = some (S v.i) ∧ w'.cell? ⟨w7.heap.size, 2, none⟩ = some (S v.f) ∧ HeldL w [(w8.heap.size, #[.bool u.neg, S u.i, S u.f]), (w7.heap.size, #[.bool v.neg, S v.i, S v.f]), (w6.heap.size, #[.bool n1, S (dgs L1), .int .i64 e1]), (w5.heap.size, #[.bool n, S (dgs L), .int .i64 e]), (w4.heap.size, #[.int .i64 p.kind, .int .i64 p.mn, .int .i64 p.mx, .bool p.inc.neg, S p.inc.l, .int .i64 p.inc.e, .int .i64 p.mode, .int .i64 p.mi]), (w.heap.size + 1 + 1, #[.int .i64 k0, .int .i64 k1, .int .i64 k2, .int .i64 k3, .int .i64 k4, .int .i64 k5, .int .i64 k6]), (w.heap.size + 1, #[.bool n1, .slice a1 len1 cap1, .int .i64 e1]), (w.heap.size, #[.bool n, .slice a len cap, .int .i64 e])] w') := Lib.hid (fun w' h => ⟨(h.f (List.Mem.tail _ (List.Mem.tail _ (List.Mem.tail _ (List.Mem.tail _ (List.Mem.head _)))))).cell 0, (h.f (List.Mem.tail _ (List.Mem.tail _ (List.Mem.tail _ (List.Mem.tail _ (List.Mem.head _)))))).cell 1, (h.f (List.Mem.tail _ (List.Mem.tail _ (List.Mem.tail _ (List.Mem.tail _ (List.Mem.head _)))))).cell 2, (h.f (List.Mem.tail _ (List.Mem.tail _ (List.Mem.tail _ (List.Mem.tail _ (List.Mem.head _)))))).cell 3, (h.f (List.Mem.tail _ (List.Mem.tail _ (List.Mem.tail _ (List.Mem.tail _ (List.Mem.head _)))))).cell 4, (h.f (List.Mem.tail _ (List.Mem.tail _ (List.Mem.tail _ (List.Mem.tail _ (List.Mem.head _)))))).cell 5, (h.f (List.Mem.tail _ (List.Mem.tail _ (List.Mem.tail _ (List.Mem.tail _ (List.Mem.head _)))))).cell 6, (h.f (List.Mem.tail _ (List.Mem.tail _ (List.Mem.tail _ (List.Mem.tail _ (List.Mem.head _)))))).cell 7, (h.f (List.Mem.tail _ (List.Mem.head _))).cell 0, (h.f (List.Mem.tail _ (List.Mem.head _))).cell 1, (h.f (List.Mem.tail _ (List.Mem.head _))).cell 2, h⟩)
    have KEEP1 : Hid (∀ w' w'' : World, (w'.cell? ⟨w4.heap.size, 0, none⟩ = some (.int .i64 p.kind) ∧ w'.cell? ⟨w4.heap.size, 1, none⟩ = some (.int .i64 p.mn) ∧ w'.cell? ⟨w4.heap.size, 2, none⟩ = some (.int .i64 p.mx) ∧ w'.cell? ⟨w4.heap.size, 3, none⟩ = some (.bool p.inc.neg) ∧ w'.cell? ⟨w4.heap.size, 4, none⟩ = some (S p.inc.l) ∧ w'.cell? ⟨w4.heap.size, 5, none⟩ = some (.int .i64 p.inc.e) ∧ w'.cell? ⟨w4.heap.size, 6, none⟩ = some (.int .i64 p.mode) ∧ w'.cell? ⟨w4.heap.size, 7, none⟩ = some (.int .i64 p.mi) ∧ w'.cell? ⟨w7.heap.size, 0, none⟩ = some (.bool v.neg) ∧ w'.cell? ⟨w7.heap.size, 1, none⟩ = some (S v.i) ∧ w'.cell? ⟨w7.heap.size, 2, none⟩ = some (S v.f) ∧ HeldL w [(w8.heap.size, #[.bool u.neg, S u.i, S u.f]), (w7.heap.size, #[.bool v.neg, S v.i, S v.f]), (w6.heap.size, #[.bool n1, S (dgs L1), .int .i64 e1]), (w5.heap.size, #[.bool n, S (dgs L), .int .i64 e]), (w4.heap.size, #[.int .i64 p.kind, .int .i64 p.mn, .int .i64 p.mx, .bool p.inc.neg, S p.inc.l, .int .i64 p.inc.e, .int .i64 p.mode, .int .i64 p.mi]), (w.heap.size + 1 + 1, #[.int .i64 k0, .int .i64 k1, .int .i64 k2, .int .i64 k3, .int .i64 k4, .int .i64 k5, .int .i64 k6]), (w.heap.size + 1, #[.bool n1, .slice a1 len1 cap1, .int .i64 e1]), (w.heap.size, #[.bool n, .slice a len cap, .int .i64 e])] w') → Below w'.heap.size w' w'' → (w''.cell? ⟨w4.heap.size, 0, none⟩ = some (.int .i64 p.kind) ∧ w''.cell? ⟨w4.heap.size, 1, none⟩ = some (.int .i64 p.mn) ∧ w''.cell? ⟨w4.heap.size, 2, none⟩ = some (.int .i64 p.mx) ∧ w''.cell? ⟨w4.heap.size, 3, none⟩ = some (.bool p.inc.neg) ∧ w''.cell? ⟨w4.heap.size, 4, none⟩ = some (S p.inc.l) ∧ w''.cell? ⟨w4.heap.size, 5, none⟩ = some (.int .i64 p.inc.e) ∧ w''.cell? ⟨w4.heap.size, 6, none⟩ = some (.int .i64 p.mode) ∧ w''.cell? ⟨w4.heap.size, 7, none⟩ = some (.int .i64 p.mi) ∧ w''.cell? ⟨w7.heap.size, 0, none⟩ = some (.bool v.neg) ∧ w''.cell? ⟨w7.heap.size, 1, none⟩ = some (S v.i) ∧ w''.cell? ⟨w7.heap.size, 2, none⟩ = some (S v.f) ∧ HeldL w [(w8.heap.size, #[.bool u.neg, S u.i, S u.f]), (w7.heap.size, #[.bool v.neg, S v.i, S v.f]), (w6.heap.size, #[.bool n1, S (dgs L1), .int .i64 e1]), (w5.heap.size, #[.bool n, S (dgs L), .int .i64 e]), (w4.heap.size, #[.int .i64 p.kind, .int .i64 p.mn, .int .i64 p.mx, .bool p.inc.neg, S p.inc.l, .int .i64 p.inc.e, .int .i64 p.mode, .int .i64 p.mi]), (w.heap.size + 1 + 1, #[.int .i64 k0, .int .i64 k1, .int .i64 k2, .int .i64 k3, .int .i64 k4, .int .i64 k5, .int .i64 k6]), (w.heap.size + 1, #[.bool n1, .slice a1 len1 cap1, .int .i64 e1]), (w.heap.size, #[.bool n, .slice a len cap, .int .i64 e])] w'')) := Lib.hid (fun w' w'' h hb => ALL1.out _ (HeldL.keep (h.2.2.2.2.2.2.2.2.2.2.2) hb))
    have TAB1 : Hid (∀ w' : World, (w'.cell? ⟨w4.heap.size, 0, none⟩ = some (.int .i64 p.kind) ∧ w'.cell? ⟨w4.heap.size, 1, none⟩ = some (.int .i64 p.mn) ∧ w'.cell? ⟨w4.heap.size, 2, none⟩ = some (.int .i64 p.mx) ∧ w'.cell? ⟨w4.heap.size, 3, none⟩ = some (.bool p.inc.neg) ∧ w'.cell? ⟨w4.heap.size, 4, none⟩ = some (S p.inc.l) ∧ w'.cell? ⟨w4.heap.size, 5, none⟩ = some (.int .i64 p.inc.e) ∧ w'.cell? ⟨w4.heap.size, 6, none⟩ = some (.int .i64 p.mode) ∧ w'.cell? ⟨w4.heap.size, 7, none⟩ = some (.int .i64 p.mi) ∧ w'.cell? ⟨w7.heap.size, 0, none⟩ = some (.bool v.neg) ∧ w'.cell? ⟨w7.heap.size, 1, none⟩ = some (S v.i) ∧ w'.cell? ⟨w7.heap.size, 2, none⟩ = some (S v.f) ∧ HeldL w [(w8.heap.size, #[.bool u.neg, S u.i, S u.f]), (w7.heap.size, #[.bool v.neg, S v.i, S v.f]), (w6.heap.size, #[.bool n1, S (dgs L1), .int .i64 e1]), (w5.heap.size, #[.bool n, S (dgs L), .int .i64 e]), (w4.heap.size, #[.int .i64 p.kind, .int .i64 p.mn, .int .i64 p.mx, .bool p.inc.neg, S p.inc.l, .int .i64 p.inc.e, .int .i64 p.mode, .int .i64 p.mi]), (w.heap.size + 1 + 1, #[.int .i64 k0, .int .i64 k1, .int .i64 k2, .int .i64 k3, .int .i64 k4, .int .i64 k5, .int .i64 k6]), (w.heap.size + 1, #[.bool n1, .slice a1 len1 cap1, .int .i64 e1]), (w.heap.size, #[.bool n, .slice a len cap, .int .i64 e])] w') → Tab w') := Lib.hid (fun w' h => HT.out.below (h.2.2.2.2.2.2.2.2.2.2.2).bel)
    have HS1 : Hid (HeldL w [(w8.heap.size, #[.bool u.neg, S u.i, S u.f]), (w7.heap.size, #[.bool v.neg, S v.i, S v.f]), (w6.heap.size, #[.bool n1, S (dgs L1), .int .i64 e1]), (w5.heap.size, #[.bool n, S (dgs L), .int .i64 e]), (w4.heap.size, #[.int .i64 p.kind, .int .i64 p.mn, .int .i64 p.mx, .bool p.inc.neg, S p.inc.l, .int .i64 p.inc.e, .int .i64 p.mode, .int .i64 p.mi]), (w.heap.size + 1 + 1, #[.int .i64 k0, .int .i64 k1, .int .i64 k2, .int .i64 k3, .int .i64 k4, .int .i64 k5, .int .i64 k6]), (w.heap.size + 1, #[.bool n1, .slice a1 len1 cap1, .int .i64 e1]), (w.heap.size, #[.bool n, .slice a len cap, .int .i64 e])] _) := Lib.hid (HeldL.alloc H8.out (w8.heap.size) #[.bool u.neg, S u.i, S u.f] 49 (by simp))
    refine wp_region_held_drew (S := fun w' => w'.cell? ⟨w4.heap.size, 0, none⟩ = some (.int .i64 p.kind) ∧ w'.cell? ⟨w4.heap.size, 1, none⟩ = some (.int .i64 p.mn) ∧ w'.cell? ⟨w4.heap.size, 2, none⟩ = some (.int .i64 p.mx) ∧ w'.cell? ⟨w4.heap.size, 3, none⟩ = some (.bool p.inc.neg) ∧ w'.cell? ⟨w4.heap.size, 4, none⟩ = some (S p.inc.l) ∧ w'.cell? ⟨w4.heap.size, 5, none⟩ = some (.int .i64 p.inc.e) ∧ w'.cell? ⟨w4.heap.size, 6, none⟩ = some (.int .i64 p.mode) ∧ w'.cell? ⟨w4.heap.size, 7, none⟩ = some (.int .i64 p.mi) ∧ w'.cell? ⟨w7.heap.size, 0, none⟩ = some (.bool v.neg) ∧ w'.cell? ⟨w7.heap.size, 1, none⟩ = some (S v.i) ∧ w'.cell? ⟨w7.heap.size, 2, none⟩ = some (S v.f) ∧ HeldL w [(w8.heap.size, #[.bool u.neg, S u.i, S u.f]), (w7.heap.size, #[.bool v.neg, S v.i, S v.f]), (w6.heap.size, #[.bool n1, S (dgs L1), .int .i64 e1]), (w5.heap.size, #[.bool n, S (dgs L), .int .i64 e]), (w4.heap.size, #[.int .i64 p.kind, .int .i64 p.mn, .int .i64 p.mx, .bool p.inc.neg, S p.inc.l, .int .i64 p.inc.e, .int .i64 p.mode, .int .i64 p.mi]), (w.heap.size + 1 + 1, #[.int .i64 k0, .int .i64 k1, .int .i64 k2, .int .i64 k3, .int .i64 k4, .int .i64 k5, .int .i64 k6]), (w.heap.size + 1, #[.bool n1, .slice a1 len1 cap1, .int .i64 e1]), (w.heap.size, #[.bool n, .slice a len cap, .int .i64 e])] w') (by kernel_rfl) (ALL1.out _ (HeldL.drew HS1.out)) (fun hHeld => ?_)
    refine wpAnyH_take (i := 0) (oi := { dst := some 46, op := Go.Op.load 46 (Go.Operand.tmp 7), type := 46, pos := "law.go:191", after := #[], guard := none }) (v := ?_) rfl (by kernel_rfl) (by kernel_rfl) (by kernel_rfl) (fun _ _ _ h => h) (Or.inl ⟨by rfl, ?_⟩) hHeld ?_
    case refine_2 => (intro w hSw; (try dsimp only at hSw); go_simp <;> with_reducible rfl)
    try simp only [Act.put, List.setIfInBounds_toArray, List.set_cons_zero, List.set_cons_succ]
    refine wpAnyH_take (i := 1) (oi := { dst := some 47, op := Go.Op.load 49 (Go.Operand.tmp 10), type := 49, pos := "law.go:191", after := #[], guard := none }) (v := ?_) rfl (by kernel_rfl) (by kernel_rfl) (by kernel_rfl) (fun _ _ _ h => h) (Or.inl ⟨by rfl, ?_⟩) hHeld ?_
    case refine_2 => (intro w hSw; (try dsimp only at hSw); go_simp <;> with_reducible rfl)
    try simp only [Act.put, List.setIfInBounds_toArray, List.set_cons_zero, List.set_cons_succ]
    refine wpAnyH_ready (rs := [2, 7]) (by kernel_rfl) (by simp) ?_
    refine (AllReadyH.cons (o := { dst := some 48, op := Go.Op.call { callee := Go.Callee.value (Go.Operand.func 26), args := #[Go.Operand.tmp 47], argTypes := #[49] }, type := 31, pos := "law.go:191", after := #[{ on := 1, ground := Go.Ground.data }], guard := none }) rfl (fun KK hK => ?_) (AllReadyH.cons (o := { dst := some 14, op := Go.Op.alloc 49, type := 0, pos := "law.go:191", after := #[], guard := none }) rfl (fun KK hK => ?_) AllReadyH.nil))
    ·
      go_simp
      with_reducible refine (HV1.out _ (TAB1.out _ hHeld)).mono ?_
      rintro x wA ⟨rfl, hb⟩
      go_wp2_with fail
      refine hK.out _ _ (KEEP1.out _ _ hHeld hb) (fun hHeld2 => ?_)
      clear hK hHeld hb
      have hHeld := hHeld2
      clear hHeld2
      try simp only [Act.put, List.setIfInBounds_toArray, List.set_cons_zero, List.set_cons_succ]
      refine wpAnyH_ready (rs := [3, 7]) (by kernel_rfl) (by simp) ?_
      refine (AllReadyH.cons (o := { dst := some 49, op := Go.Op.call { callee := Go.Callee.value (Go.Operand.func 24), args := #[Go.Operand.tmp 46, Go.Operand.tmp 48], argTypes := #[46, 31] }, type := 51, pos := "law.go:191", after := #[{ on := 0, ground := Go.Ground.data }, { on := 2, ground := Go.Ground.data }, { on := 2, ground := Go.Ground.chain }], guard := none }) rfl (fun KK hK => ?_) (AllReadyH.cons (o := { dst := some 14, op := Go.Op.alloc 49, type := 0, pos := "law.go:191", after := #[], guard := none }) rfl (fun KK hK => ?_) AllReadyH.nil))
      ·
        go_simp
        with_reducible refine (HA3.out _ (TAB1.out _ hHeld)).mono ?_
        rintro x wB ⟨rfl, hb⟩
        go_wp2_with fail
        refine hK.out _ _ (KEEP1.out _ _ hHeld hb) (fun hHeld2 => ?_)
        clear hK hHeld hb
        have hHeld := hHeld2
        clear hHeld2
        try simp only [Act.put, List.setIfInBounds_toArray, List.set_cons_zero, List.set_cons_succ]
        refine wpAnyH_take (i := 4) (oi := { dst := some 45, op := Go.Op.move (Go.Operand.tmp 49), type := 51, pos := "law.go:191", after := #[{ on := 3, ground := Go.Ground.data }], guard := none }) (v := ?_) rfl (by kernel_rfl) (by kernel_rfl) (by kernel_rfl) (fun _ _ _ h => h) (Or.inl ⟨by rfl, ?_⟩) hHeld ?_
        case refine_2 => (intro w hSw; (try dsimp only at hSw); go_simp <;> with_reducible rfl)
        try simp only [Act.put, List.setIfInBounds_toArray, List.set_cons_zero, List.set_cons_succ]
        refine wpAnyH_take (i := 5) (oi := { dst := some 50, op := Go.Op.extract (Go.Operand.tmp 45) 0, type := 49, pos := "law.go:191", after := #[{ on := 4, ground := Go.Ground.data }], guard := none }) (v := ?_) rfl (by kernel_rfl) (by kernel_rfl) (by kernel_rfl) (fun _ _ _ h => h) (Or.inl ⟨by rfl, ?_⟩) hHeld ?_
        case refine_2 => (intro w hSw; (try dsimp only at hSw); go_simp <;> with_reducible rfl)
        try simp only [Act.put, List.setIfInBounds_toArray, List.set_cons_zero, List.set_cons_succ]
        refine wpAnyH_take (i := 6) (oi := { dst := some 51, op := Go.Op.extract (Go.Operand.tmp 45) 1, type := 50, pos := "law.go:191", after := #[{ on := 4, ground := Go.Ground.data }, { on := 8, ground := Go.Ground.gcOnly Go.Departure.lateStores }], guard := none }) (v := ?_) rfl (by kernel_rfl) (by kernel_rfl) (by kernel_rfl) (fun _ _ _ h => h) (Or.inl ⟨by rfl, ?_⟩) hHeld ?_
        case refine_2 => (intro w hSw; (try dsimp only at hSw); go_simp <;> with_reducible rfl)
        try simp only [Act.put, List.setIfInBounds_toArray, List.set_cons_zero, List.set_cons_succ]
        refine wpAnyH_ready (rs := [7]) (by kernel_rfl) (by simp) ?_
        refine (AllReadyH.cons (o := { dst := some 14, op := Go.Op.alloc 49, type := 0, pos := "law.go:191", after := #[], guard := none }) rfl (fun KK hK => ?_) AllReadyH.nil)
        have hH0 := hHeld
        go_simp
        refine hK.out _ _ (ALL1.out _ (HeldL.skip (hHeld.2.2.2.2.2.2.2.2.2.2.2) _)) (fun hHeld2 => ?_)
        clear hK hHeld
        have hHeld := hHeld2
        clear hHeld2
        try simp only [Act.put, List.setIfInBounds_toArray, List.set_cons_zero, List.set_cons_succ]
        refine wpAnyH_ready (rs := [8]) (by kernel_rfl) (by simp) ?_
        refine (AllReadyH.cons (o := { dst := none, op := Go.Op.store 49 (Go.Operand.tmp 14) (Go.Operand.tmp 50), type := 0, pos := "law.go:191", after := #[{ on := 7, ground := Go.Ground.data }, { on := 5, ground := Go.Ground.data }, { on := 3, ground := Go.Ground.chain }, { on := 0, ground := Go.Ground.phase }, { on := 1, ground := Go.Ground.phase }, { on := 2, ground := Go.Ground.phase }, { on := 3, ground := Go.Ground.phase }, { on := 4, ground := Go.Ground.phase }, { on := 5, ground := Go.Ground.phase }, { on := 6, ground := Go.Ground.textOnly Go.Departure.lateStores }, { on := 7, ground := Go.Ground.phase }], guard := none }) rfl (fun KK hK => ?_) AllReadyH.nil)
        go_simp
        refine hK.out _ _ (ALL1.out _ (HeldL.skip (hH0.2.2.2.2.2.2.2.2.2.2.2) _)) (fun hHeld2 => ?_)
        clear hK hHeld
        have hHeld := hHeld2
        clear hHeld2
        try simp only [Act.put, List.setIfInBounds_toArray, List.set_cons_zero, List.set_cons_succ]
        refine wpAnyH_take (i := 9) (oi := { dst := some 15, op := Go.Op.assign (Go.Operand.tmp 51), type := 50, pos := "law.go:191", after := #[{ on := 6, ground := Go.Ground.data }, { on := 8, ground := Go.Ground.chain }, { on := 0, ground := Go.Ground.phase }, { on := 1, ground := Go.Ground.phase }, { on := 2, ground := Go.Ground.phase }, { on := 3, ground := Go.Ground.phase }, { on := 4, ground := Go.Ground.phase }, { on := 5, ground := Go.Ground.phase }, { on := 6, ground := Go.Ground.phase }, { on := 7, ground := Go.Ground.phase }, { on := 8, ground := Go.Ground.phase }], guard := none }) (v := ?_) rfl (by kernel_rfl) (by kernel_rfl) (by kernel_rfl) (fun _ _ _ h => h) (Or.inl ⟨by rfl, ?_⟩) hHeld ?_
        case refine_2 => (intro w hSw; (try dsimp only at hSw); go_simp <;> with_reducible rfl)
        try simp only [Act.put, List.setIfInBounds_toArray, List.set_cons_zero, List.set_cons_succ]
        refine wpAnyH_done (by kernel_rfl) ?_ _
        go_wp2
        go_meet
        case rel => exact ⟨_, rfl, rfl, HeldL.alloc (hH0.2.2.2.2.2.2.2.2.2.2.2) _ _ _ rfl⟩
      ·
        go_simp
        have HN : Hid (HeldL w ((wA.heap.size, #[.bool false, .string ⟨#[]⟩, .string ⟨#[]⟩]) :: [(w8.heap.size, #[.bool u.neg, S u.i, S u.f]), (w7.heap.size, #[.bool v.neg, S v.i, S v.f]), (w6.heap.size, #[.bool n1, S (dgs L1), .int .i64 e1]), (w5.heap.size, #[.bool n, S (dgs L), .int .i64 e]), (w4.heap.size, #[.int .i64 p.kind, .int .i64 p.mn, .int .i64 p.mx, .bool p.inc.neg, S p.inc.l, .int .i64 p.inc.e, .int .i64 p.mode, .int .i64 p.mi]), (w.heap.size + 1 + 1, #[.int .i64 k0, .int .i64 k1, .int .i64 k2, .int .i64 k3, .int .i64 k4, .int .i64 k5, .int .i64 k6]), (w.heap.size + 1, #[.bool n1, .slice a1 len1 cap1, .int .i64 e1]), (w.heap.size, #[.bool n, .slice a len cap, .int .i64 e])]) _) := Lib.hid (HeldL.alloc (hHeld.2.2.2.2.2.2.2.2.2.2.2) (wA.heap.size) #[.bool false, .string ⟨#[]⟩, .string ⟨#[]⟩] 49 (by first | rfl | simp))
        refine hK.out _ _ (ALL1.out _ (HeldL.tail HN.out)) (fun hHeld2 => ?_)
        clear hK hHeld
        have hHeld := hHeld2
        clear hHeld2
        try simp only [Act.put, List.setIfInBounds_toArray, List.set_cons_zero, List.set_cons_succ]
        refine wpAnyH_ready (rs := [3]) (by kernel_rfl) (by simp) ?_
        refine (AllReadyH.cons (o := { dst := some 49, op := Go.Op.call { callee := Go.Callee.value (Go.Operand.func 24), args := #[Go.Operand.tmp 46, Go.Operand.tmp 48], argTypes := #[46, 31] }, type := 51, pos := "law.go:191", after := #[{ on := 0, ground := Go.Ground.data }, { on := 2, ground := Go.Ground.data }, { on := 2, ground := Go.Ground.chain }], guard := none }) rfl (fun KK hK => ?_) AllReadyH.nil)
        go_simp
        with_reducible refine (HA3.out _ (TAB1.out _ hHeld)).mono ?_
        rintro x wB ⟨rfl, hb⟩
        go_wp2_with fail
        refine hK.out _ _ (KEEP1.out _ _ hHeld hb) (fun hHeld2 => ?_)
        have HM : Hid (HeldL w ((wA.heap.size, #[.bool false, .string ⟨#[]⟩, .string ⟨#[]⟩]) :: [(w8.heap.size, #[.bool u.neg, S u.i, S u.f]), (w7.heap.size, #[.bool v.neg, S v.i, S v.f]), (w6.heap.size, #[.bool n1, S (dgs L1), .int .i64 e1]), (w5.heap.size, #[.bool n, S (dgs L), .int .i64 e]), (w4.heap.size, #[.int .i64 p.kind, .int .i64 p.mn, .int .i64 p.mx, .bool p.inc.neg, S p.inc.l, .int .i64 p.inc.e, .int .i64 p.mode, .int .i64 p.mi]), (w.heap.size + 1 + 1, #[.int .i64 k0, .int .i64 k1, .int .i64 k2, .int .i64 k3, .int .i64 k4, .int .i64 k5, .int .i64 k6]), (w.heap.size + 1, #[.bool n1, .slice a1 len1 cap1, .int .i64 e1]), (w.heap.size, #[.bool n, .slice a len cap, .int .i64 e])]) wB) := Lib.hid (HeldL.keep HN.out hb)
        clear HN
        have HN := HM
        clear HM
        clear hK hHeld hb
        have hHeld := hHeld2
        clear hHeld2
        try simp only [Act.put, List.setIfInBounds_toArray, List.set_cons_zero, List.set_cons_succ]
        refine wpAnyH_take (i := 4) (oi := { dst := some 45, op := Go.Op.move (Go.Operand.tmp 49), type := 51, pos := "law.go:191", after := #[{ on := 3, ground := Go.Ground.data }], guard := none }) (v := ?_) rfl (by kernel_rfl) (by kernel_rfl) (by kernel_rfl) (fun _ _ _ h => h) (Or.inl ⟨by rfl, ?_⟩) hHeld ?_
        case refine_2 => (intro w hSw; (try dsimp only at hSw); go_simp <;> with_reducible rfl)
        try simp only [Act.put, List.setIfInBounds_toArray, List.set_cons_zero, List.set_cons_succ]
        refine wpAnyH_take (i := 5) (oi := { dst := some 50, op := Go.Op.extract (Go.Operand.tmp 45) 0, type := 49, pos := "law.go:191", after := #[{ on := 4, ground := Go.Ground.data }], guard := none }) (v := ?_) rfl (by kernel_rfl) (by kernel_rfl) (by kernel_rfl) (fun _ _ _ h => h) (Or.inl ⟨by rfl, ?_⟩) hHeld ?_
        case refine_2 => (intro w hSw; (try dsimp only at hSw); go_simp <;> with_reducible rfl)
        try simp only [Act.put, List.setIfInBounds_toArray, List.set_cons_zero, List.set_cons_succ]
        refine wpAnyH_take (i := 6) (oi := { dst := some 51, op := Go.Op.extract (Go.Operand.tmp 45) 1, type := 50, pos := "law.go:191", after := #[{ on := 4, ground := Go.Ground.data }, { on := 8, ground := Go.Ground.gcOnly Go.Departure.lateStores }], guard := none }) (v := ?_) rfl (by kernel_rfl) (by kernel_rfl) (by kernel_rfl) (fun _ _ _ h => h) (Or.inl ⟨by rfl, ?_⟩) hHeld ?_
        case refine_2 => (intro w hSw; (try dsimp only at hSw); go_simp <;> with_reducible rfl)
        try simp only [Act.put, List.setIfInBounds_toArray, List.set_cons_zero, List.set_cons_succ]
        refine wpAnyH_ready (rs := [8]) (by kernel_rfl) (by simp) ?_
        refine (AllReadyH.cons (o := { dst := none, op := Go.Op.store 49 (Go.Operand.tmp 14) (Go.Operand.tmp 50), type := 0, pos := "law.go:191", after := #[{ on := 7, ground := Go.Ground.data }, { on := 5, ground := Go.Ground.data }, { on := 3, ground := Go.Ground.chain }, { on := 0, ground := Go.Ground.phase }, { on := 1, ground := Go.Ground.phase }, { on := 2, ground := Go.Ground.phase }, { on := 3, ground := Go.Ground.phase }, { on := 4, ground := Go.Ground.phase }, { on := 5, ground := Go.Ground.phase }, { on := 6, ground := Go.Ground.textOnly Go.Departure.lateStores }, { on := 7, ground := Go.Ground.phase }], guard := none }) rfl (fun KK hK => ?_) AllReadyH.nil)
        obtain ⟨nn0, nn1, nn2, nnz0, nnz1, nnz2, nnl⟩ := (HN.out.f (List.Mem.head _)).three
        go_simp
        refine hK.out _ _ (ALL1.out _ (HeldL.tail (HeldL.store3 [] [(w8.heap.size, #[.bool u.neg, S u.i, S u.f]), (w7.heap.size, #[.bool v.neg, S v.i, S v.f]), (w6.heap.size, #[.bool n1, S (dgs L1), .int .i64 e1]), (w5.heap.size, #[.bool n, S (dgs L), .int .i64 e]), (w4.heap.size, #[.int .i64 p.kind, .int .i64 p.mn, .int .i64 p.mx, .bool p.inc.neg, S p.inc.l, .int .i64 p.inc.e, .int .i64 p.mode, .int .i64 p.mi]), (w.heap.size + 1 + 1, #[.int .i64 k0, .int .i64 k1, .int .i64 k2, .int .i64 k3, .int .i64 k4, .int .i64 k5, .int .i64 k6]), (w.heap.size + 1, #[.bool n1, .slice a1 len1 cap1, .int .i64 e1]), (w.heap.size, #[.bool n, .slice a len cap, .int .i64 e])] HN.out (.bool v.neg) (S v.i) (S v.f)))) (fun hHeld2 => ?_)
        clear hK hHeld
        have hHeld := hHeld2
        clear hHeld2
        try simp only [Act.put, List.setIfInBounds_toArray, List.set_cons_zero, List.set_cons_succ]
        refine wpAnyH_take (i := 9) (oi := { dst := some 15, op := Go.Op.assign (Go.Operand.tmp 51), type := 50, pos := "law.go:191", after := #[{ on := 6, ground := Go.Ground.data }, { on := 8, ground := Go.Ground.chain }, { on := 0, ground := Go.Ground.phase }, { on := 1, ground := Go.Ground.phase }, { on := 2, ground := Go.Ground.phase }, { on := 3, ground := Go.Ground.phase }, { on := 4, ground := Go.Ground.phase }, { on := 5, ground := Go.Ground.phase }, { on := 6, ground := Go.Ground.phase }, { on := 7, ground := Go.Ground.phase }, { on := 8, ground := Go.Ground.phase }], guard := none }) (v := ?_) rfl (by kernel_rfl) (by kernel_rfl) (by kernel_rfl) (fun _ _ _ h => h) (Or.inl ⟨by rfl, ?_⟩) hHeld ?_
        case refine_2 => (intro w hSw; (try dsimp only at hSw); go_simp <;> with_reducible rfl)
        try simp only [Act.put, List.setIfInBounds_toArray, List.set_cons_zero, List.set_cons_succ]
        refine wpAnyH_done (by kernel_rfl) ?_ _
        go_wp2
        go_meet
        case rel => exact ⟨_, rfl, rfl, HeldL.store3 [] [(w8.heap.size, #[.bool u.neg, S u.i, S u.f]), (w7.heap.size, #[.bool v.neg, S v.i, S v.f]), (w6.heap.size, #[.bool n1, S (dgs L1), .int .i64 e1]), (w5.heap.size, #[.bool n, S (dgs L), .int .i64 e]), (w4.heap.size, #[.int .i64 p.kind, .int .i64 p.mn, .int .i64 p.mx, .bool p.inc.neg, S p.inc.l, .int .i64 p.inc.e, .int .i64 p.mode, .int .i64 p.mi]), (w.heap.size + 1 + 1, #[.int .i64 k0, .int .i64 k1, .int .i64 k2, .int .i64 k3, .int .i64 k4, .int .i64 k5, .int .i64 k6]), (w.heap.size + 1, #[.bool n1, .slice a1 len1 cap1, .int .i64 e1]), (w.heap.size, #[.bool n, .slice a len cap, .int .i64 e])] HN.out (.bool v.neg) (S v.i) (S v.f)⟩
    ·
      go_simp
      have HN : Hid (HeldL w ((w8.heap.size + 1, #[.bool false, .string ⟨#[]⟩, .string ⟨#[]⟩]) :: [(w8.heap.size, #[.bool u.neg, S u.i, S u.f]), (w7.heap.size, #[.bool v.neg, S v.i, S v.f]), (w6.heap.size, #[.bool n1, S (dgs L1), .int .i64 e1]), (w5.heap.size, #[.bool n, S (dgs L), .int .i64 e]), (w4.heap.size, #[.int .i64 p.kind, .int .i64 p.mn, .int .i64 p.mx, .bool p.inc.neg, S p.inc.l, .int .i64 p.inc.e, .int .i64 p.mode, .int .i64 p.mi]), (w.heap.size + 1 + 1, #[.int .i64 k0, .int .i64 k1, .int .i64 k2, .int .i64 k3, .int .i64 k4, .int .i64 k5, .int .i64 k6]), (w.heap.size + 1, #[.bool n1, .slice a1 len1 cap1, .int .i64 e1]), (w.heap.size, #[.bool n, .slice a len cap, .int .i64 e])]) _) := Lib.hid (HeldL.alloc (hHeld.2.2.2.2.2.2.2.2.2.2.2) (w8.heap.size + 1) #[.bool false, .string ⟨#[]⟩, .string ⟨#[]⟩] 49 (by first | rfl | simp))
      refine hK.out _ _ (ALL1.out _ (HeldL.tail HN.out)) (fun hHeld2 => ?_)
      clear hK hHeld
      have hHeld := hHeld2
      clear hHeld2
      try simp only [Act.put, List.setIfInBounds_toArray, List.set_cons_zero, List.set_cons_succ]
      refine wpAnyH_ready (rs := [2]) (by kernel_rfl) (by simp) ?_
      refine (AllReadyH.cons (o := { dst := some 48, op := Go.Op.call { callee := Go.Callee.value (Go.Operand.func 26), args := #[Go.Operand.tmp 47], argTypes := #[49] }, type := 31, pos := "law.go:191", after := #[{ on := 1, ground := Go.Ground.data }], guard := none }) rfl (fun KK hK => ?_) AllReadyH.nil)
      go_simp
      with_reducible refine (HV1.out _ (TAB1.out _ hHeld)).mono ?_
      rintro x wA ⟨rfl, hb⟩
      go_wp2_with fail
      refine hK.out _ _ (KEEP1.out _ _ hHeld hb) (fun hHeld2 => ?_)
      have HM : Hid (HeldL w ((w8.heap.size + 1, #[.bool false, .string ⟨#[]⟩, .string ⟨#[]⟩]) :: [(w8.heap.size, #[.bool u.neg, S u.i, S u.f]), (w7.heap.size, #[.bool v.neg, S v.i, S v.f]), (w6.heap.size, #[.bool n1, S (dgs L1), .int .i64 e1]), (w5.heap.size, #[.bool n, S (dgs L), .int .i64 e]), (w4.heap.size, #[.int .i64 p.kind, .int .i64 p.mn, .int .i64 p.mx, .bool p.inc.neg, S p.inc.l, .int .i64 p.inc.e, .int .i64 p.mode, .int .i64 p.mi]), (w.heap.size + 1 + 1, #[.int .i64 k0, .int .i64 k1, .int .i64 k2, .int .i64 k3, .int .i64 k4, .int .i64 k5, .int .i64 k6]), (w.heap.size + 1, #[.bool n1, .slice a1 len1 cap1, .int .i64 e1]), (w.heap.size, #[.bool n, .slice a len cap, .int .i64 e])]) wA) := Lib.hid (HeldL.keep HN.out hb)
      clear HN
      have HN := HM
      clear HM
      clear hK hHeld hb
      have hHeld := hHeld2
      clear hHeld2
      try simp only [Act.put, List.setIfInBounds_toArray, List.set_cons_zero, List.set_cons_succ]
      refine wpAnyH_ready (rs := [3]) (by kernel_rfl) (by simp) ?_
      refine (AllReadyH.cons (o := { dst := some 49, op := Go.Op.call { callee := Go.Callee.value (Go.Operand.func 24), args := #[Go.Operand.tmp 46, Go.Operand.tmp 48], argTypes := #[46, 31] }, type := 51, pos := "law.go:191", after := #[{ on := 0, ground := Go.Ground.data }, { on := 2, ground := Go.Ground.data }, { on := 2, ground := Go.Ground.chain }], guard := none }) rfl (fun KK hK => ?_) AllReadyH.nil)
      go_simp
      with_reducible refine (HA3.out _ (TAB1.out _ hHeld)).mono ?_
      rintro x wB ⟨rfl, hb⟩
      go_wp2_with fail
      refine hK.out _ _ (KEEP1.out _ _ hHeld hb) (fun hHeld2 => ?_)
      have HM : Hid (HeldL w ((w8.heap.size + 1, #[.bool false, .string ⟨#[]⟩, .string ⟨#[]⟩]) :: [(w8.heap.size, #[.bool u.neg, S u.i, S u.f]), (w7.heap.size, #[.bool v.neg, S v.i, S v.f]), (w6.heap.size, #[.bool n1, S (dgs L1), .int .i64 e1]), (w5.heap.size, #[.bool n, S (dgs L), .int .i64 e]), (w4.heap.size, #[.int .i64 p.kind, .int .i64 p.mn, .int .i64 p.mx, .bool p.inc.neg, S p.inc.l, .int .i64 p.inc.e, .int .i64 p.mode, .int .i64 p.mi]), (w.heap.size + 1 + 1, #[.int .i64 k0, .int .i64 k1, .int .i64 k2, .int .i64 k3, .int .i64 k4, .int .i64 k5, .int .i64 k6]), (w.heap.size + 1, #[.bool n1, .slice a1 len1 cap1, .int .i64 e1]), (w.heap.size, #[.bool n, .slice a len cap, .int .i64 e])]) wB) := Lib.hid (HeldL.keep HN.out hb)
      clear HN
      have HN := HM
      clear HM
      clear hK hHeld hb
      have hHeld := hHeld2
      clear hHeld2
      try simp only [Act.put, List.setIfInBounds_toArray, List.set_cons_zero, List.set_cons_succ]
      refine wpAnyH_take (i := 4) (oi := { dst := some 45, op := Go.Op.move (Go.Operand.tmp 49), type := 51, pos := "law.go:191", after := #[{ on := 3, ground := Go.Ground.data }], guard := none }) (v := ?_) rfl (by kernel_rfl) (by kernel_rfl) (by kernel_rfl) (fun _ _ _ h => h) (Or.inl ⟨by rfl, ?_⟩) hHeld ?_
      case refine_2 => (intro w hSw; (try dsimp only at hSw); go_simp <;> with_reducible rfl)
      try simp only [Act.put, List.setIfInBounds_toArray, List.set_cons_zero, List.set_cons_succ]
      refine wpAnyH_take (i := 5) (oi := { dst := some 50, op := Go.Op.extract (Go.Operand.tmp 45) 0, type := 49, pos := "law.go:191", after := #[{ on := 4, ground := Go.Ground.data }], guard := none }) (v := ?_) rfl (by kernel_rfl) (by kernel_rfl) (by kernel_rfl) (fun _ _ _ h => h) (Or.inl ⟨by rfl, ?_⟩) hHeld ?_
      case refine_2 => (intro w hSw; (try dsimp only at hSw); go_simp <;> with_reducible rfl)
      try simp only [Act.put, List.setIfInBounds_toArray, List.set_cons_zero, List.set_cons_succ]
      refine wpAnyH_take (i := 6) (oi := { dst := some 51, op := Go.Op.extract (Go.Operand.tmp 45) 1, type := 50, pos := "law.go:191", after := #[{ on := 4, ground := Go.Ground.data }, { on := 8, ground := Go.Ground.gcOnly Go.Departure.lateStores }], guard := none }) (v := ?_) rfl (by kernel_rfl) (by kernel_rfl) (by kernel_rfl) (fun _ _ _ h => h) (Or.inl ⟨by rfl, ?_⟩) hHeld ?_
      case refine_2 => (intro w hSw; (try dsimp only at hSw); go_simp <;> with_reducible rfl)
      try simp only [Act.put, List.setIfInBounds_toArray, List.set_cons_zero, List.set_cons_succ]
      refine wpAnyH_ready (rs := [8]) (by kernel_rfl) (by simp) ?_
      refine (AllReadyH.cons (o := { dst := none, op := Go.Op.store 49 (Go.Operand.tmp 14) (Go.Operand.tmp 50), type := 0, pos := "law.go:191", after := #[{ on := 7, ground := Go.Ground.data }, { on := 5, ground := Go.Ground.data }, { on := 3, ground := Go.Ground.chain }, { on := 0, ground := Go.Ground.phase }, { on := 1, ground := Go.Ground.phase }, { on := 2, ground := Go.Ground.phase }, { on := 3, ground := Go.Ground.phase }, { on := 4, ground := Go.Ground.phase }, { on := 5, ground := Go.Ground.phase }, { on := 6, ground := Go.Ground.textOnly Go.Departure.lateStores }, { on := 7, ground := Go.Ground.phase }], guard := none }) rfl (fun KK hK => ?_) AllReadyH.nil)
      obtain ⟨nn0, nn1, nn2, nnz0, nnz1, nnz2, nnl⟩ := (HN.out.f (List.Mem.head _)).three
      go_simp
      refine hK.out _ _ (ALL1.out _ (HeldL.tail (HeldL.store3 [] [(w8.heap.size, #[.bool u.neg, S u.i, S u.f]), (w7.heap.size, #[.bool v.neg, S v.i, S v.f]), (w6.heap.size, #[.bool n1, S (dgs L1), .int .i64 e1]), (w5.heap.size, #[.bool n, S (dgs L), .int .i64 e]), (w4.heap.size, #[.int .i64 p.kind, .int .i64 p.mn, .int .i64 p.mx, .bool p.inc.neg, S p.inc.l, .int .i64 p.inc.e, .int .i64 p.mode, .int .i64 p.mi]), (w.heap.size + 1 + 1, #[.int .i64 k0, .int .i64 k1, .int .i64 k2, .int .i64 k3, .int .i64 k4, .int .i64 k5, .int .i64 k6]), (w.heap.size + 1, #[.bool n1, .slice a1 len1 cap1, .int .i64 e1]), (w.heap.size, #[.bool n, .slice a len cap, .int .i64 e])] HN.out (.bool v.neg) (S v.i) (S v.f)))) (fun hHeld2 => ?_)
      clear hK hHeld
      have hHeld := hHeld2
      clear hHeld2
      try simp only [Act.put, List.setIfInBounds_toArray, List.set_cons_zero, List.set_cons_succ]
      refine wpAnyH_take (i := 9) (oi := { dst := some 15, op := Go.Op.assign (Go.Operand.tmp 51), type := 50, pos := "law.go:191", after := #[{ on := 6, ground := Go.Ground.data }, { on := 8, ground := Go.Ground.chain }, { on := 0, ground := Go.Ground.phase }, { on := 1, ground := Go.Ground.phase }, { on := 2, ground := Go.Ground.phase }, { on := 3, ground := Go.Ground.phase }, { on := 4, ground := Go.Ground.phase }, { on := 5, ground := Go.Ground.phase }, { on := 6, ground := Go.Ground.phase }, { on := 7, ground := Go.Ground.phase }, { on := 8, ground := Go.Ground.phase }], guard := none }) (v := ?_) rfl (by kernel_rfl) (by kernel_rfl) (by kernel_rfl) (fun _ _ _ h => h) (Or.inl ⟨by rfl, ?_⟩) hHeld ?_
      case refine_2 => (intro w hSw; (try dsimp only at hSw); go_simp <;> with_reducible rfl)
      try simp only [Act.put, List.setIfInBounds_toArray, List.set_cons_zero, List.set_cons_succ]
      refine wpAnyH_done (by kernel_rfl) ?_ _
      go_wp2
      go_meet
      case rel => exact ⟨_, rfl, rfl, HeldL.store3 [] [(w8.heap.size, #[.bool u.neg, S u.i, S u.f]), (w7.heap.size, #[.bool v.neg, S v.i, S v.f]), (w6.heap.size, #[.bool n1, S (dgs L1), .int .i64 e1]), (w5.heap.size, #[.bool n, S (dgs L), .int .i64 e]), (w4.heap.size, #[.int .i64 p.kind, .int .i64 p.mn, .int .i64 p.mx, .bool p.inc.neg, S p.inc.l, .int .i64 p.inc.e, .int .i64 p.mode, .int .i64 p.mi]), (w.heap.size + 1 + 1, #[.int .i64 k0, .int .i64 k1, .int .i64 k2, .int .i64 k3, .int .i64 k4, .int .i64 k5, .int .i64 k6]), (w.heap.size + 1, #[.bool n1, .slice a1 len1 cap1, .int .i64 e1]), (w.heap.size, #[.bool n, .slice a len cap, .int .i64 e])] HN.out (.bool v.neg) (S v.i) (S v.f)⟩
  case rest =>
  clear bp0 bp1 bp2 bp3 bp4 bp5 bp6 bp7 bpl bx0 bx1 bx2 bxl by0 by1 by2 byl bv0 bv1 bv2 bvl
  obtain ⟨b9, hvp, hve, hh⟩ := hcut
  subst hvp hve
  have H9 : Hid (HeldL w ((b9, #[.bool v.neg, S v.i, S v.f]) :: [(w8.heap.size, #[.bool u.neg, S u.i, S u.f]), (w7.heap.size, #[.bool v.neg, S v.i, S v.f]), (w6.heap.size, #[.bool n1, S (dgs L1), .int .i64 e1]), (w5.heap.size, #[.bool n, S (dgs L), .int .i64 e]), (w4.heap.size, #[.int .i64 p.kind, .int .i64 p.mn, .int .i64 p.mx, .bool p.inc.neg, S p.inc.l, .int .i64 p.inc.e, .int .i64 p.mode, .int .i64 p.mi]), (w.heap.size + 1 + 1, #[.int .i64 k0, .int .i64 k1, .int .i64 k2, .int .i64 k3, .int .i64 k4, .int .i64 k5, .int .i64 k6]), (w.heap.size + 1, #[.bool n1, .slice a1 len1 cap1, .int .i64 e1]), (w.heap.size, #[.bool n, .slice a len cap, .int .i64 e])]) wc) := Lib.hid hh
  clear hh H8
  have bx0 : wc.cell? ⟨w5.heap.size, 0, none⟩ = some (.bool n) := (H9.out.f (List.Mem.tail _ (List.Mem.tail _ (List.Mem.tail _ (List.Mem.tail _ (List.Mem.head _)))))).cell 0
  have bx1 : wc.cell? ⟨w5.heap.size, 1, none⟩ = some (S (dgs L)) := (H9.out.f (List.Mem.tail _ (List.Mem.tail _ (List.Mem.tail _ (List.Mem.tail _ (List.Mem.head _)))))).cell 1
  have bx2 : wc.cell? ⟨w5.heap.size, 2, none⟩ = some (.int .i64 e) := (H9.out.f (List.Mem.tail _ (List.Mem.tail _ (List.Mem.tail _ (List.Mem.tail _ (List.Mem.head _)))))).cell 2
  have bxl : w5.heap.size < wc.heap.size := (H9.out.f (List.Mem.tail _ (List.Mem.tail _ (List.Mem.tail _ (List.Mem.tail _ (List.Mem.head _)))))).lt
  have by0 : wc.cell? ⟨w6.heap.size, 0, none⟩ = some (.bool n1) := (H9.out.f (List.Mem.tail _ (List.Mem.tail _ (List.Mem.tail _ (List.Mem.head _))))).cell 0
  have by1 : wc.cell? ⟨w6.heap.size, 1, none⟩ = some (S (dgs L1)) := (H9.out.f (List.Mem.tail _ (List.Mem.tail _ (List.Mem.tail _ (List.Mem.head _))))).cell 1
  have by2 : wc.cell? ⟨w6.heap.size, 2, none⟩ = some (.int .i64 e1) := (H9.out.f (List.Mem.tail _ (List.Mem.tail _ (List.Mem.tail _ (List.Mem.head _))))).cell 2
  have byl : w6.heap.size < wc.heap.size := (H9.out.f (List.Mem.tail _ (List.Mem.tail _ (List.Mem.tail _ (List.Mem.head _))))).lt
  have bv0 : wc.cell? ⟨w7.heap.size, 0, none⟩ = some (.bool v.neg) := (H9.out.f (List.Mem.tail _ (List.Mem.tail _ (List.Mem.head _)))).cell 0
  have bv1 : wc.cell? ⟨w7.heap.size, 1, none⟩ = some (S v.i) := (H9.out.f (List.Mem.tail _ (List.Mem.tail _ (List.Mem.head _)))).cell 1
  have bv2 : wc.cell? ⟨w7.heap.size, 2, none⟩ = some (S v.f) := (H9.out.f (List.Mem.tail _ (List.Mem.tail _ (List.Mem.head _)))).cell 2
  have bvl : w7.heap.size < wc.heap.size := (H9.out.f (List.Mem.tail _ (List.Mem.tail _ (List.Mem.head _)))).lt
  have bu0 : wc.cell? ⟨w8.heap.size, 0, none⟩ = some (.bool u.neg) := (H9.out.f (List.Mem.tail _ (List.Mem.head _))).cell 0
  have bu1 : wc.cell? ⟨w8.heap.size, 1, none⟩ = some (S u.i) := (H9.out.f (List.Mem.tail _ (List.Mem.head _))).cell 1
  have bu2 : wc.cell? ⟨w8.heap.size, 2, none⟩ = some (S u.f) := (H9.out.f (List.Mem.tail _ (List.Mem.head _))).cell 2
  have bul : w8.heap.size < wc.heap.size := (H9.out.f (List.Mem.tail _ (List.Mem.head _))).lt
  have ba0 : wc.cell? ⟨b9, 0, none⟩ = some (.bool v.neg) := (H9.out.f (List.Mem.head _)).cell 0
  have ba1 : wc.cell? ⟨b9, 1, none⟩ = some (S v.i) := (H9.out.f (List.Mem.head _)).cell 1
  have ba2 : wc.cell? ⟨b9, 2, none⟩ = some (S v.f) := (H9.out.f (List.Mem.head _)).cell 2
  have bal : b9 < wc.heap.size := (H9.out.f (List.Mem.head _)).lt
  go_wp2_with fail
  with_reducible refine (cmp_T ⟨n, dgs L, e⟩ ⟨n1, dgs L1, e1⟩ c _ LL LL1 HC.out).mono ?_
  rintro x w10 ⟨rfl, hb⟩
  clear bx0 bx1 bx2 bxl by0 by1 by2 byl bv0 bv1 bv2 bvl bu0 bu1 bu2 bul ba0 ba1 ba2 bal
  have H10 : Hid (HeldL w [(b9, #[.bool v.neg, S v.i, S v.f]), (w8.heap.size, #[.bool u.neg, S u.i, S u.f]), (w7.heap.size, #[.bool v.neg, S v.i, S v.f]), (w6.heap.size, #[.bool n1, S (dgs L1), .int .i64 e1]), (w5.heap.size, #[.bool n, S (dgs L), .int .i64 e]), (w4.heap.size, #[.int .i64 p.kind, .int .i64 p.mn, .int .i64 p.mx, .bool p.inc.neg, S p.inc.l, .int .i64 p.inc.e, .int .i64 p.mode, .int .i64 p.mi]), (w.heap.size + 1 + 1, #[.int .i64 k0, .int .i64 k1, .int .i64 k2, .int .i64 k3, .int .i64 k4, .int .i64 k5, .int .i64 k6]), (w.heap.size + 1, #[.bool n1, .slice a1 len1 cap1, .int .i64 e1]), (w.heap.size, #[.bool n, .slice a len cap, .int .i64 e])] w10) := Lib.hid (HeldL.keep H9.out hb)
  clear H9
  clear hb
  have bv0 : w10.cell? ⟨w7.heap.size, 0, none⟩ = some (.bool v.neg) := (H10.out.f (List.Mem.tail _ (List.Mem.tail _ (List.Mem.head _)))).cell 0
  have bv1 : w10.cell? ⟨w7.heap.size, 1, none⟩ = some (S v.i) := (H10.out.f (List.Mem.tail _ (List.Mem.tail _ (List.Mem.head _)))).cell 1
  have bv2 : w10.cell? ⟨w7.heap.size, 2, none⟩ = some (S v.f) := (H10.out.f (List.Mem.tail _ (List.Mem.tail _ (List.Mem.head _)))).cell 2
  have bvl : w7.heap.size < w10.heap.size := (H10.out.f (List.Mem.tail _ (List.Mem.tail _ (List.Mem.head _)))).lt
  have bu0 : w10.cell? ⟨w8.heap.size, 0, none⟩ = some (.bool u.neg) := (H10.out.f (List.Mem.tail _ (List.Mem.head _))).cell 0
  have bu1 : w10.cell? ⟨w8.heap.size, 1, none⟩ = some (S u.i) := (H10.out.f (List.Mem.tail _ (List.Mem.head _))).cell 1
  have bu2 : w10.cell? ⟨w8.heap.size, 2, none⟩ = some (S u.f) := (H10.out.f (List.Mem.tail _ (List.Mem.head _))).cell 2
  have bul : w8.heap.size < w10.heap.size := (H10.out.f (List.Mem.tail _ (List.Mem.head _))).lt
  have ba0 : w10.cell? ⟨b9, 0, none⟩ = some (.bool v.neg) := (H10.out.f (List.Mem.head _)).cell 0
  have ba1 : w10.cell? ⟨b9, 1, none⟩ = some (S v.i) := (H10.out.f (List.Mem.head _)).cell 1
  have ba2 : w10.cell? ⟨b9, 2, none⟩ = some (S v.f) := (H10.out.f (List.Mem.head _)).cell 2
  have bal : b9 < w10.heap.size := (H10.out.f (List.Mem.head _)).lt
  have cbn : (c != 0) = true := by simp [c0]
  have hwm : IntKind.i64.wrap (c2 * c) = c2 * c := by rw [IntKind.wrap_i64]; omega
  have hd0 : decide (0 ≤ c2 * c) = true := by simp; omega
  go_wp2_with fail
  have ALL2 : Hid (∀ w' : World, HeldL w [(b9, #[.bool v.neg, S v.i, S v.f]), (w8.heap.size, #[.bool u.neg, S u.i, S u.f]), (w7.heap.size, #[.bool v.neg, S v.i, S v.f]), (w6.heap.size, #[.bool n1, S (dgs L1), .int .i64 e1]), (w5.heap.size, #[.bool n, S (dgs L), .int .i64 e]), (w4.heap.size, #[.int .i64 p.kind, .int .i64 p.mn, .int .i64 p.mx, .bool p.inc.neg, S p.inc.l, .int .i64 p.inc.e, .int .i64 p.mode, .int .i64 p.mi]), (w.heap.size + 1 + 1, #[.int .i64 k0, .int .i64 k1, .int .i64 k2, .int .i64 k3, .int .i64 k4, .int .i64 k5, .int .i64 k6]), (w.heap.size + 1, #[.bool n1, .slice a1 len1 cap1, .int .i64 e1]), (w.heap.size, #[.bool n, .slice a len cap, .int .i64 e])] w' → w'.cell? ⟨b9, 0, none⟩ = some (.bool v.neg) ∧ w'.cell? ⟨b9, 1, none⟩ = some (S v.i) ∧ w'.cell? ⟨b9, 2, none⟩ = some (S v.f) ∧ w'.cell? ⟨w7.heap.size, 0, none⟩ = some (.bool v.neg) ∧ w'.cell? ⟨w7.heap.size, 1, none⟩ = some (S v.i) ∧ w'.cell? ⟨w7.heap.size, 2, none⟩ = some (S v.f) ∧ w'.cell? ⟨w8.heap.size, 0, none⟩ = some (.bool u.neg) ∧ w'.cell? ⟨w8.heap.size, 1, none⟩ = some (S u.i) ∧ w'.cell? ⟨w8.heap.size, 2, none⟩ = some (S u.f) ∧ HeldL w [(b9, #[.bool v.neg, S v.i, S v.f]), (w8.heap.size, #[.bool u.neg, S u.i, S u.f]), (w7.heap.size, #[.bool v.neg, S v.i, S v.f]), (w6.heap.size, #[.bool n1, S (dgs L1), .int .i64 e1]), (w5.heap.size, #[.bool n, S (dgs L), .int .i64 e]), (w4.heap.size, #[.int .i64 p.kind, .int .i64 p.mn, .int .i64 p.mx, .bool p.inc.neg, S p.inc.l, .int .i64 p.inc.e, .int .i64 p.mode, .int .i64 p.mi]), (w.heap.size + 1 + 1, #[.int .i64 k0, .int .i64 k1, .int .i64 k2, .int .i64 k3, .int .i64 k4, .int .i64 k5, .int .i64 k6]), (w.heap.size + 1, #[.bool n1, .slice a1 len1 cap1, .int .i64 e1]), (w.heap.size, #[.bool n, .slice a len cap, .int .i64 e])] w') := Lib.hid (fun w' h => ⟨(h.f (List.Mem.head _)).cell 0, (h.f (List.Mem.head _)).cell 1, (h.f (List.Mem.head _)).cell 2, (h.f (List.Mem.tail _ (List.Mem.tail _ (List.Mem.head _)))).cell 0, (h.f (List.Mem.tail _ (List.Mem.tail _ (List.Mem.head _)))).cell 1, (h.f (List.Mem.tail _ (List.Mem.tail _ (List.Mem.head _)))).cell 2, (h.f (List.Mem.tail _ (List.Mem.head _))).cell 0, (h.f (List.Mem.tail _ (List.Mem.head _))).cell 1, (h.f (List.Mem.tail _ (List.Mem.head _))).cell 2, h⟩)
  have KEEP2 : Hid (∀ w' w'' : World, (w'.cell? ⟨b9, 0, none⟩ = some (.bool v.neg) ∧ w'.cell? ⟨b9, 1, none⟩ = some (S v.i) ∧ w'.cell? ⟨b9, 2, none⟩ = some (S v.f) ∧ w'.cell? ⟨w7.heap.size, 0, none⟩ = some (.bool v.neg) ∧ w'.cell? ⟨w7.heap.size, 1, none⟩ = some (S v.i) ∧ w'.cell? ⟨w7.heap.size, 2, none⟩ = some (S v.f) ∧ w'.cell? ⟨w8.heap.size, 0, none⟩ = some (.bool u.neg) ∧ w'.cell? ⟨w8.heap.size, 1, none⟩ = some (S u.i) ∧ w'.cell? ⟨w8.heap.size, 2, none⟩ = some (S u.f) ∧ HeldL w [(b9, #[.bool v.neg, S v.i, S v.f]), (w8.heap.size, #[.bool u.neg, S u.i, S u.f]), (w7.heap.size, #[.bool v.neg, S v.i, S v.f]), (w6.heap.size, #[.bool n1, S (dgs L1), .int .i64 e1]), (w5.heap.size, #[.bool n, S (dgs L), .int .i64 e]), (w4.heap.size, #[.int .i64 p.kind, .int .i64 p.mn, .int .i64 p.mx, .bool p.inc.neg, S p.inc.l, .int .i64 p.inc.e, .int .i64 p.mode, .int .i64 p.mi]), (w.heap.size + 1 + 1, #[.int .i64 k0, .int .i64 k1, .int .i64 k2, .int .i64 k3, .int .i64 k4, .int .i64 k5, .int .i64 k6]), (w.heap.size + 1, #[.bool n1, .slice a1 len1 cap1, .int .i64 e1]), (w.heap.size, #[.bool n, .slice a len cap, .int .i64 e])] w') → Below w'.heap.size w' w'' → (w''.cell? ⟨b9, 0, none⟩ = some (.bool v.neg) ∧ w''.cell? ⟨b9, 1, none⟩ = some (S v.i) ∧ w''.cell? ⟨b9, 2, none⟩ = some (S v.f) ∧ w''.cell? ⟨w7.heap.size, 0, none⟩ = some (.bool v.neg) ∧ w''.cell? ⟨w7.heap.size, 1, none⟩ = some (S v.i) ∧ w''.cell? ⟨w7.heap.size, 2, none⟩ = some (S v.f) ∧ w''.cell? ⟨w8.heap.size, 0, none⟩ = some (.bool u.neg) ∧ w''.cell? ⟨w8.heap.size, 1, none⟩ = some (S u.i) ∧ w''.cell? ⟨w8.heap.size, 2, none⟩ = some (S u.f) ∧ HeldL w [(b9, #[.bool v.neg, S v.i, S v.f]), (w8.heap.size, #[.bool u.neg, S u.i, S u.f]), (w7.heap.size, #[.bool v.neg, S v.i, S v.f]), (w6.heap.size, #[.bool n1, S (dgs L1), .int .i64 e1]), (w5.heap.size, #[.bool n, S (dgs L), .int .i64 e]), (w4.heap.size, #[.int .i64 p.kind, .int .i64 p.mn, .int .i64 p.mx, .bool p.inc.neg, S p.inc.l, .int .i64 p.inc.e, .int .i64 p.mode, .int .i64 p.mi]), (w.heap.size + 1 + 1, #[.int .i64 k0, .int .i64 k1, .int .i64 k2, .int .i64 k3, .int .i64 k4, .int .i64 k5, .int .i64 k6]), (w.heap.size + 1, #[.bool n1, .slice a1 len1 cap1, .int .i64 e1]), (w.heap.size, #[.bool n, .slice a len cap, .int .i64 e])] w'')) := Lib.hid (fun w' w'' h hb => ALL2.out _ (HeldL.keep (h.2.2.2.2.2.2.2.2.2) hb))
  have HS2 : Hid (HeldL w [(b9, #[.bool v.neg, S v.i, S v.f]), (w8.heap.size, #[.bool u.neg, S u.i, S u.f]), (w7.heap.size, #[.bool v.neg, S v.i, S v.f]), (w6.heap.size, #[.bool n1, S (dgs L1), .int .i64 e1]), (w5.heap.size, #[.bool n, S (dgs L), .int .i64 e]), (w4.heap.size, #[.int .i64 p.kind, .int .i64 p.mn, .int .i64 p.mx, .bool p.inc.neg, S p.inc.l, .int .i64 p.inc.e, .int .i64 p.mode, .int .i64 p.mi]), (w.heap.size + 1 + 1, #[.int .i64 k0, .int .i64 k1, .int .i64 k2, .int .i64 k3, .int .i64 k4, .int .i64 k5, .int .i64 k6]), (w.heap.size + 1, #[.bool n1, .slice a1 len1 cap1, .int .i64 e1]), (w.heap.size, #[.bool n, .slice a len cap, .int .i64 e])] _) := Lib.hid H10.out
  have TAB2 : Hid (∀ w' : World, (w'.cell? ⟨b9, 0, none⟩ = some (.bool v.neg) ∧ w'.cell? ⟨b9, 1, none⟩ = some (S v.i) ∧ w'.cell? ⟨b9, 2, none⟩ = some (S v.f) ∧ w'.cell? ⟨w7.heap.size, 0, none⟩ = some (.bool v.neg) ∧ w'.cell? ⟨w7.heap.size, 1, none⟩ = some (S v.i) ∧ w'.cell? ⟨w7.heap.size, 2, none⟩ = some (S v.f) ∧ w'.cell? ⟨w8.heap.size, 0, none⟩ = some (.bool u.neg) ∧ w'.cell? ⟨w8.heap.size, 1, none⟩ = some (S u.i) ∧ w'.cell? ⟨w8.heap.size, 2, none⟩ = some (S u.f) ∧ HeldL w [(b9, #[.bool v.neg, S v.i, S v.f]), (w8.heap.size, #[.bool u.neg, S u.i, S u.f]), (w7.heap.size, #[.bool v.neg, S v.i, S v.f]), (w6.heap.size, #[.bool n1, S (dgs L1), .int .i64 e1]), (w5.heap.size, #[.bool n, S (dgs L), .int .i64 e]), (w4.heap.size, #[.int .i64 p.kind, .int .i64 p.mn, .int .i64 p.mx, .bool p.inc.neg, S p.inc.l, .int .i64 p.inc.e, .int .i64 p.mode, .int .i64 p.mi]), (w.heap.size + 1 + 1, #[.int .i64 k0, .int .i64 k1, .int .i64 k2, .int .i64 k3, .int .i64 k4, .int .i64 k5, .int .i64 k6]), (w.heap.size + 1, #[.bool n1, .slice a1 len1 cap1, .int .i64 e1]), (w.heap.size, #[.bool n, .slice a len cap, .int .i64 e])] w') → Tab w') := Lib.hid (fun w' h => HT.out.below (h.2.2.2.2.2.2.2.2.2).bel)
  refine wp_region_held_drew (S := fun w' => w'.cell? ⟨b9, 0, none⟩ = some (.bool v.neg) ∧ w'.cell? ⟨b9, 1, none⟩ = some (S v.i) ∧ w'.cell? ⟨b9, 2, none⟩ = some (S v.f) ∧ w'.cell? ⟨w7.heap.size, 0, none⟩ = some (.bool v.neg) ∧ w'.cell? ⟨w7.heap.size, 1, none⟩ = some (S v.i) ∧ w'.cell? ⟨w7.heap.size, 2, none⟩ = some (S v.f) ∧ w'.cell? ⟨w8.heap.size, 0, none⟩ = some (.bool u.neg) ∧ w'.cell? ⟨w8.heap.size, 1, none⟩ = some (S u.i) ∧ w'.cell? ⟨w8.heap.size, 2, none⟩ = some (S u.f) ∧ HeldL w [(b9, #[.bool v.neg, S v.i, S v.f]), (w8.heap.size, #[.bool u.neg, S u.i, S u.f]), (w7.heap.size, #[.bool v.neg, S v.i, S v.f]), (w6.heap.size, #[.bool n1, S (dgs L1), .int .i64 e1]), (w5.heap.size, #[.bool n, S (dgs L), .int .i64 e]), (w4.heap.size, #[.int .i64 p.kind, .int .i64 p.mn, .int .i64 p.mx, .bool p.inc.neg, S p.inc.l, .int .i64 p.inc.e, .int .i64 p.mode, .int .i64 p.mi]), (w.heap.size + 1 + 1, #[.int .i64 k0, .int .i64 k1, .int .i64 k2, .int .i64 k3, .int .i64 k4, .int .i64 k5, .int .i64 k6]), (w.heap.size + 1, #[.bool n1, .slice a1 len1 cap1, .int .i64 e1]), (w.heap.size, #[.bool n, .slice a len cap, .int .i64 e])] w') (by kernel_rfl) (ALL2.out _ (HeldL.drew HS2.out)) (fun hHeld => ?_)
  refine wpAnyH_take (i := 0) (oi := { dst := some 55, op := Go.Op.move (Go.Operand.tmp 11), type := 50, pos := "law.go:193", after := #[], guard := none }) (v := ?_) rfl (by kernel_rfl) (by kernel_rfl) (by kernel_rfl) (fun _ _ _ h => h) (Or.inl ⟨by rfl, ?_⟩) hHeld ?_
  case refine_2 => (intro w hSw; (try dsimp only at hSw); go_simp <;> with_reducible rfl)
  try simp only [Act.put, List.setIfInBounds_toArray, List.set_cons_zero, List.set_cons_succ]
  refine wpAnyH_take (i := 1) (oi := { dst := some 56, op := Go.Op.binOp Go.BinOp.eql 50 (Go.Operand.tmp 55) (Go.Operand.const (Go.Value.int Go.IntKind.i64 0)) 50, type := 4, pos := "law.go:193", after := #[{ on := 0, ground := Go.Ground.data }], guard := none }) (v := ?_) rfl (by kernel_rfl) (by kernel_rfl) (by kernel_rfl) (fun _ _ _ h => h) (Or.inl ⟨by rfl, ?_⟩) hHeld ?_
  case refine_2 => (intro w hSw; (try dsimp only at hSw); go_simp <;> with_reducible rfl)
  try simp only [Act.put, List.setIfInBounds_toArray, List.set_cons_zero, List.set_cons_succ]
  refine wpAnyH_take (i := 2) (oi := { dst := some 57, op := Go.Op.move (Go.Operand.tmp 56), type := 4, pos := "law.go:193", after := #[{ on := 1, ground := Go.Ground.data }], guard := none }) (v := ?_) rfl (by kernel_rfl) (by kernel_rfl) (by kernel_rfl) (fun _ _ _ h => h) (Or.inl ⟨by rfl, ?_⟩) hHeld ?_
  case refine_2 => (intro w hSw; (try dsimp only at hSw); go_simp <;> with_reducible rfl)
  try simp only [Act.put, List.setIfInBounds_toArray, List.set_cons_zero, List.set_cons_succ]
  refine wpAnyH_take (i := 3) (oi := { dst := some 58, op := Go.Op.move (Go.Operand.tmp 13), type := 50, pos := "law.go:193", after := #[{ on := 2, ground := Go.Ground.guard }], guard := some (2, true) }) (v := ?_) rfl (by kernel_rfl) (by kernel_rfl) (by kernel_rfl) (fun _ _ _ h => h) (Or.inl ⟨by rfl, ?_⟩) hHeld ?_
  case refine_2 => (intro w hSw; (try dsimp only at hSw); go_simp <;> with_reducible rfl)
  try simp only [Act.put, List.setIfInBounds_toArray, List.set_cons_zero, List.set_cons_succ]
  refine wpAnyH_take (i := 4) (oi := { dst := some 59, op := Go.Op.binOp Go.BinOp.eql 50 (Go.Operand.tmp 58) (Go.Operand.const (Go.Value.int Go.IntKind.i64 0)) 50, type := 4, pos := "law.go:193", after := #[{ on := 3, ground := Go.Ground.data }, { on := 2, ground := Go.Ground.guard }], guard := some (2, true) }) (v := ?_) rfl (by kernel_rfl) (by kernel_rfl) (by kernel_rfl) (fun _ _ _ h => h) (Or.inl ⟨by rfl, ?_⟩) hHeld ?_
  case refine_2 => (intro w hSw; (try dsimp only at hSw); go_simp <;> with_reducible rfl)
  try simp only [Act.put, List.setIfInBounds_toArray, List.set_cons_zero, List.set_cons_succ]
  refine wpAnyH_take (i := 5) (oi := { dst := some 60, op := Go.Op.pick (Go.Operand.tmp 57) (Go.Operand.tmp 59) (Go.Operand.const (Go.Value.bool false)), type := 4, pos := "law.go:193", after := #[{ on := 2, ground := Go.Ground.data }, { on := 4, ground := Go.Ground.data }], guard := none }) (v := ?_) rfl (by kernel_rfl) (by kernel_rfl) (by kernel_rfl) (fun _ _ _ h => h) (Or.inl ⟨by rfl, ?_⟩) hHeld ?_
  case refine_2 => (intro w hSw; (try dsimp only at hSw); go_simp <;> with_reducible rfl)
  try simp only [Act.put, List.setIfInBounds_toArray, List.set_cons_zero, List.set_cons_succ]
  refine wpAnyH_take (i := 6) (oi := { dst := some 61, op := Go.Op.move (Go.Operand.tmp 60), type := 4, pos := "law.go:193", after := #[{ on := 5, ground := Go.Ground.data }, { on := 2, ground := Go.Ground.chain }], guard := none }) (v := ?_) rfl (by kernel_rfl) (by kernel_rfl) (by kernel_rfl) (fun _ _ _ h => h) (Or.inl ⟨by rfl, ?_⟩) hHeld ?_
  case refine_2 => (intro w hSw; (try dsimp only at hSw); go_simp <;> with_reducible rfl)
  try simp only [Act.put, List.setIfInBounds_toArray, List.set_cons_zero, List.set_cons_succ]
  refine wpAnyH_take (i := 7) (oi := { dst := some 62, op := Go.Op.move (Go.Operand.tmp 15), type := 50, pos := "law.go:193", after := #[{ on := 6, ground := Go.Ground.guard }], guard := some (6, true) }) (v := ?_) rfl (by kernel_rfl) (by kernel_rfl) (by kernel_rfl) (fun _ _ _ h => h) (Or.inl ⟨by rfl, ?_⟩) hHeld ?_
  case refine_2 => (intro w hSw; (try dsimp only at hSw); go_simp <;> with_reducible rfl)
  try simp only [Act.put, List.setIfInBounds_toArray, List.set_cons_zero, List.set_cons_succ]
  refine wpAnyH_take (i := 8) (oi := { dst := some 63, op := Go.Op.binOp Go.BinOp.eql 50 (Go.Operand.tmp 62) (Go.Operand.const (Go.Value.int Go.IntKind.i64 0)) 50, type := 4, pos := "law.go:193", after := #[{ on := 7, ground := Go.Ground.data }, { on := 6, ground := Go.Ground.guard }], guard := some (6, true) }) (v := ?_) rfl (by kernel_rfl) (by kernel_rfl) (by kernel_rfl) (fun _ _ _ h => h) (Or.inl ⟨by rfl, ?_⟩) hHeld ?_
  case refine_2 => (intro w hSw; (try dsimp only at hSw); go_simp <;> with_reducible rfl)
  try simp only [Act.put, List.setIfInBounds_toArray, List.set_cons_zero, List.set_cons_succ]
  refine wpAnyH_take (i := 9) (oi := { dst := some 64, op := Go.Op.pick (Go.Operand.tmp 61) (Go.Operand.tmp 63) (Go.Operand.const (Go.Value.bool false)), type := 4, pos := "law.go:193", after := #[{ on := 6, ground := Go.Ground.data }, { on := 8, ground := Go.Ground.data }], guard := none }) (v := ?_) rfl (by kernel_rfl) (by kernel_rfl) (by kernel_rfl) (fun _ _ _ h => h) (Or.inl ⟨by rfl, ?_⟩) hHeld ?_
  case refine_2 => (intro w hSw; (try dsimp only at hSw); go_simp <;> with_reducible rfl)
  try simp only [Act.put, List.setIfInBounds_toArray, List.set_cons_zero, List.set_cons_succ]
  refine wpAnyH_take (i := 10) (oi := { dst := some 65, op := Go.Op.move (Go.Operand.tmp 64), type := 4, pos := "law.go:193", after := #[{ on := 9, ground := Go.Ground.data }, { on := 6, ground := Go.Ground.chain }], guard := none }) (v := ?_) rfl (by kernel_rfl) (by kernel_rfl) (by kernel_rfl) (fun _ _ _ h => h) (Or.inl ⟨by rfl, ?_⟩) hHeld ?_
  case refine_2 => (intro w hSw; (try dsimp only at hSw); go_simp <;> with_reducible rfl)
  try simp only [Act.put, List.setIfInBounds_toArray, List.set_cons_zero, List.set_cons_succ]
  refine wpAnyH_take (i := 11) (oi := { dst := some 66, op := Go.Op.load 49 (Go.Operand.tmp 14), type := 49, pos := "law.go:193", after := #[{ on := 10, ground := Go.Ground.guard }], guard := some (10, true) }) (v := ?_) rfl (by kernel_rfl) (by kernel_rfl) (by kernel_rfl) (fun _ _ _ h => h) (Or.inl ⟨by rfl, ?_⟩) hHeld ?_
  case refine_2 => (intro w hSw; (try dsimp only at hSw); go_simp <;> with_reducible rfl)
  try simp only [Act.put, List.setIfInBounds_toArray, List.set_cons_zero, List.set_cons_succ]
  refine wpAnyH_take (i := 12) (oi := { dst := some 67, op := Go.Op.load 49 (Go.Operand.tmp 10), type := 49, pos := "law.go:193", after := #[{ on := 10, ground := Go.Ground.guard }], guard := some (10, true) }) (v := ?_) rfl (by kernel_rfl) (by kernel_rfl) (by kernel_rfl) (fun _ _ _ h => h) (Or.inl ⟨by rfl, ?_⟩) hHeld ?_
  case refine_2 => (intro w hSw; (try dsimp only at hSw); go_simp <;> with_reducible rfl)
  try simp only [Act.put, List.setIfInBounds_toArray, List.set_cons_zero, List.set_cons_succ]
  refine wpAnyH_take (i := 13) (oi := { dst := some 68, op := Go.Op.binOp Go.BinOp.eql 49 (Go.Operand.tmp 66) (Go.Operand.tmp 67) 49, type := 4, pos := "law.go:193", after := #[{ on := 11, ground := Go.Ground.data }, { on := 12, ground := Go.Ground.data }, { on := 10, ground := Go.Ground.guard }], guard := some (10, true) }) (v := ?_) rfl (by kernel_rfl) (by kernel_rfl) (by kernel_rfl) (fun _ _ _ h => h) (Or.inl ⟨by rfl, ?_⟩) hHeld ?_
  case refine_2 => (intro w hSw; (try dsimp only at hSw); go_simp <;> with_reducible rfl)
  try simp only [Act.put, List.setIfInBounds_toArray, List.set_cons_zero, List.set_cons_succ]
  refine wpAnyH_take (i := 14) (oi := { dst := some 69, op := Go.Op.pick (Go.Operand.tmp 65) (Go.Operand.tmp 68) (Go.Operand.const (Go.Value.bool false)), type := 4, pos := "law.go:193", after := #[{ on := 10, ground := Go.Ground.data }, { on := 13, ground := Go.Ground.data }], guard := none }) (v := ?_) rfl (by kernel_rfl) (by kernel_rfl) (by kernel_rfl) (fun _ _ _ h => h) (Or.inl ⟨by rfl, ?_⟩) hHeld ?_
  case refine_2 => (intro w hSw; (try dsimp only at hSw); go_simp <;> with_reducible rfl)
  try simp only [Act.put, List.setIfInBounds_toArray, List.set_cons_zero, List.set_cons_succ]
  refine wpAnyH_take (i := 15) (oi := { dst := some 70, op := Go.Op.move (Go.Operand.tmp 69), type := 4, pos := "law.go:193", after := #[{ on := 14, ground := Go.Ground.data }, { on := 10, ground := Go.Ground.chain }], guard := none }) (v := ?_) rfl (by kernel_rfl) (by kernel_rfl) (by kernel_rfl) (fun _ _ _ h => h) (Or.inl ⟨by rfl, ?_⟩) hHeld ?_
  case refine_2 => (intro w hSw; (try dsimp only at hSw); go_simp <;> with_reducible rfl)
  try simp only [Act.put, List.setIfInBounds_toArray, List.set_cons_zero, List.set_cons_succ]
  refine wpAnyH_take (i := 16) (oi := { dst := some 71, op := Go.Op.move (Go.Operand.tmp 16), type := 3, pos := "law.go:193", after := #[{ on := 15, ground := Go.Ground.guard }], guard := some (15, true) }) (v := ?_) rfl (by kernel_rfl) (by kernel_rfl) (by kernel_rfl) (fun _ _ _ h => h) (Or.inl ⟨by rfl, ?_⟩) hHeld ?_
  case refine_2 => (intro w hSw; (try dsimp only at hSw); go_simp <;> with_reducible rfl)
  try simp only [Act.put, List.setIfInBounds_toArray, List.set_cons_zero, List.set_cons_succ]
  refine wpAnyH_take (i := 17) (oi := { dst := some 72, op := Go.Op.binOp Go.BinOp.neq 3 (Go.Operand.tmp 71) (Go.Operand.const (Go.Value.int Go.IntKind.i64 0)) 3, type := 4, pos := "law.go:193", after := #[{ on := 16, ground := Go.Ground.data }, { on := 15, ground := Go.Ground.guard }], guard := some (15, true) }) (v := ?_) rfl (by kernel_rfl) (by kernel_rfl) (by kernel_rfl) (fun _ _ _ h => h) (Or.inl ⟨by rfl, ?_⟩) hHeld ?_
  case refine_2 => (intro w hSw; (try dsimp only at hSw); go_simp <;> with_reducible rfl)
  try simp only [Act.put, List.setIfInBounds_toArray, List.set_cons_zero, List.set_cons_succ]
  refine wpAnyH_take (i := 18) (oi := { dst := some 73, op := Go.Op.move (Go.Operand.tmp 72), type := 4, pos := "law.go:193", after := #[{ on := 17, ground := Go.Ground.data }, { on := 15, ground := Go.Ground.chain }, { on := 15, ground := Go.Ground.guard }], guard := some (15, true) }) (v := ?_) rfl (by kernel_rfl) (by kernel_rfl) (by kernel_rfl) (fun _ _ _ h => h) (Or.inl ⟨by rfl, ?_⟩) hHeld ?_
  case refine_2 => (intro w hSw; (try dsimp only at hSw); go_simp <;> with_reducible rfl)
  try simp only [Act.put, List.setIfInBounds_toArray, List.set_cons_zero, List.set_cons_succ]
  refine wpAnyH_take (i := 19) (oi := { dst := some 74, op := Go.Op.load 49 (Go.Operand.tmp 10), type := 49, pos := "law.go:193", after := #[{ on := 18, ground := Go.Ground.guard }], guard := some (18, false) }) (v := undef) rfl (by kernel_rfl) (by kernel_rfl) (by kernel_rfl) (fun _ _ _ h => h) (Or.inr ⟨by rfl, rfl⟩) hHeld ?_
  try simp only [Act.put, List.setIfInBounds_toArray, List.set_cons_zero, List.set_cons_succ]
  refine wpAnyH_take (i := 20) (oi := { dst := some 75, op := Go.Op.load 49 (Go.Operand.tmp 12), type := 49, pos := "law.go:193", after := #[{ on := 18, ground := Go.Ground.guard }], guard := some (18, false) }) (v := undef) rfl (by kernel_rfl) (by kernel_rfl) (by kernel_rfl) (fun _ _ _ h => h) (Or.inr ⟨by rfl, rfl⟩) hHeld ?_
  try simp only [Act.put, List.setIfInBounds_toArray, List.set_cons_zero, List.set_cons_succ]
  refine wpAnyH_take (i := 21) (oi := { dst := some 76, op := Go.Op.binOp Go.BinOp.eql 49 (Go.Operand.tmp 74) (Go.Operand.tmp 75) 49, type := 4, pos := "law.go:193", after := #[{ on := 19, ground := Go.Ground.data }, { on := 20, ground := Go.Ground.data }, { on := 18, ground := Go.Ground.guard }], guard := some (18, false) }) (v := undef) rfl (by kernel_rfl) (by kernel_rfl) (by kernel_rfl) (fun _ _ _ h => h) (Or.inr ⟨by rfl, rfl⟩) hHeld ?_
  try simp only [Act.put, List.setIfInBounds_toArray, List.set_cons_zero, List.set_cons_succ]
  refine wpAnyH_take (i := 22) (oi := { dst := some 77, op := Go.Op.pick (Go.Operand.tmp 73) (Go.Operand.const (Go.Value.bool true)) (Go.Operand.tmp 76), type := 4, pos := "law.go:193", after := #[{ on := 18, ground := Go.Ground.data }, { on := 21, ground := Go.Ground.data }, { on := 15, ground := Go.Ground.guard }], guard := some (15, true) }) (v := ?_) rfl (by kernel_rfl) (by kernel_rfl) (by kernel_rfl) (fun _ _ _ h => h) (Or.inl ⟨by rfl, ?_⟩) hHeld ?_
  case refine_2 => (intro w hSw; (try dsimp only at hSw); go_simp <;> with_reducible rfl)
  try simp only [Act.put, List.setIfInBounds_toArray, List.set_cons_zero, List.set_cons_succ]
  refine wpAnyH_take (i := 23) (oi := { dst := some 78, op := Go.Op.pick (Go.Operand.tmp 70) (Go.Operand.tmp 77) (Go.Operand.const (Go.Value.bool false)), type := 4, pos := "law.go:193", after := #[{ on := 15, ground := Go.Ground.data }, { on := 22, ground := Go.Ground.data }], guard := none }) (v := ?_) rfl (by kernel_rfl) (by kernel_rfl) (by kernel_rfl) (fun _ _ _ h => h) (Or.inl ⟨by rfl, ?_⟩) hHeld ?_
  case refine_2 => (intro w hSw; (try dsimp only at hSw); go_simp <;> with_reducible rfl)
  try simp only [Act.put, List.setIfInBounds_toArray, List.set_cons_zero, List.set_cons_succ]
  refine wpAnyH_take (i := 24) (oi := { dst := some 79, op := Go.Op.move (Go.Operand.tmp 78), type := 4, pos := "law.go:193", after := #[{ on := 23, ground := Go.Ground.data }, { on := 18, ground := Go.Ground.chain }], guard := none }) (v := ?_) rfl (by kernel_rfl) (by kernel_rfl) (by kernel_rfl) (fun _ _ _ h => h) (Or.inl ⟨by rfl, ?_⟩) hHeld ?_
  case refine_2 => (intro w hSw; (try dsimp only at hSw); go_simp <;> with_reducible rfl)
  try simp only [Act.put, List.setIfInBounds_toArray, List.set_cons_zero, List.set_cons_succ]
  refine wpAnyH_take (i := 25) (oi := { dst := some 80, op := Go.Op.load 49 (Go.Operand.tmp 10), type := 49, pos := "law.go:193", after := #[{ on := 24, ground := Go.Ground.guard }], guard := some (24, true) }) (v := ?_) rfl (by kernel_rfl) (by kernel_rfl) (by kernel_rfl) (fun _ _ _ h => h) (Or.inl ⟨by rfl, ?_⟩) hHeld ?_
  case refine_2 => (intro w hSw; (try dsimp only at hSw); go_simp <;> with_reducible rfl)
  try simp only [Act.put, List.setIfInBounds_toArray, List.set_cons_zero, List.set_cons_succ]
  refine wpAnyH_take (i := 27) (oi := { dst := some 82, op := Go.Op.load 49 (Go.Operand.tmp 12), type := 49, pos := "law.go:193", after := #[{ on := 24, ground := Go.Ground.guard }], guard := some (24, true) }) (v := ?_) rfl (by kernel_rfl) (by kernel_rfl) (by kernel_rfl) (fun _ _ _ h => h) (Or.inl ⟨by rfl, ?_⟩) hHeld ?_
  case refine_2 => (intro w hSw; (try dsimp only at hSw); go_simp <;> with_reducible rfl)
  try simp only [Act.put, List.setIfInBounds_toArray, List.set_cons_zero, List.set_cons_succ]
  refine wpAnyH_take (i := 30) (oi := { dst := some 85, op := Go.Op.move (Go.Operand.tmp 16), type := 3, pos := "law.go:193", after := #[{ on := 24, ground := Go.Ground.guard }], guard := some (24, true) }) (v := ?_) rfl (by kernel_rfl) (by kernel_rfl) (by kernel_rfl) (fun _ _ _ h => h) (Or.inl ⟨by rfl, ?_⟩) hHeld ?_
  case refine_2 => (intro w hSw; (try dsimp only at hSw); go_simp <;> with_reducible rfl)
  try simp only [Act.put, List.setIfInBounds_toArray, List.set_cons_zero, List.set_cons_succ]
  refine wpAnyH_ready (rs := [26]) (by kernel_rfl) (by simp) ?_
  refine AllReadyH.cons (o := { dst := some 81, op := Go.Op.call { callee := Go.Callee.value (Go.Operand.func 26), args := #[Go.Operand.tmp 80], argTypes := #[49] }, type := 31, pos := "law.go:193", after := #[{ on := 25, ground := Go.Ground.data }, { on := 24, ground := Go.Ground.chain }, { on := 24, ground := Go.Ground.guard }], guard := some (24, true) }) rfl (fun KK hK => ?_) AllReadyH.nil
  go_simp
  with_reducible refine (HV1.out _ (TAB2.out _ hHeld)).mono ?_
  rintro x wD ⟨rfl, hb⟩
  go_wp2_with fail
  refine hK.out _ _ (KEEP2.out _ _ hHeld hb) (fun hHeld2 => ?_)
  clear hK hHeld hb
  have hHeld := hHeld2
  clear hHeld2
  try simp only [Act.put, List.setIfInBounds_toArray, List.set_cons_zero, List.set_cons_succ]
  refine wpAnyH_ready (rs := [28]) (by kernel_rfl) (by simp) ?_
  refine AllReadyH.cons (o := { dst := some 83, op := Go.Op.call { callee := Go.Callee.value (Go.Operand.func 26), args := #[Go.Operand.tmp 82], argTypes := #[49] }, type := 31, pos := "law.go:193", after := #[{ on := 27, ground := Go.Ground.data }, { on := 26, ground := Go.Ground.chain }, { on := 24, ground := Go.Ground.guard }], guard := some (24, true) }) rfl (fun KK hK => ?_) AllReadyH.nil
  go_simp
  with_reducible refine (HV2.out _ (TAB2.out _ hHeld)).mono ?_
  rintro x wE ⟨rfl, hb⟩
  go_wp2_with fail
  refine hK.out _ _ (KEEP2.out _ _ hHeld hb) (fun hHeld2 => ?_)
  clear hK hHeld hb
  have hHeld := hHeld2
  clear hHeld2
  try simp only [Act.put, List.setIfInBounds_toArray, List.set_cons_zero, List.set_cons_succ]
  refine wpAnyH_ready (rs := [29]) (by kernel_rfl) (by simp) ?_
  refine AllReadyH.cons (o := { dst := some 84, op := Go.Op.call { callee := Go.Callee.value (Go.Operand.func 32), args := #[Go.Operand.tmp 81, Go.Operand.tmp 83], argTypes := #[31, 31] }, type := 3, pos := "law.go:193", after := #[{ on := 26, ground := Go.Ground.data }, { on := 28, ground := Go.Ground.data }, { on := 28, ground := Go.Ground.chain }, { on := 24, ground := Go.Ground.guard }], guard := some (24, true) }) rfl (fun KK hK => ?_) AllReadyH.nil
  go_simp
  with_reducible refine (cmp_T g h c2 _ gl hl HC2.out).mono ?_
  rintro x wF ⟨rfl, hb⟩
  go_wp2_with fail
  refine hK.out _ _ (KEEP2.out _ _ hHeld hb) (fun hHeld2 => ?_)
  clear hK hHeld hb
  have hHeld := hHeld2
  clear hHeld2
  try simp only [Act.put, List.setIfInBounds_toArray, List.set_cons_zero, List.set_cons_succ]
  refine wpAnyH_take (i := 31) (oi := { dst := some 86, op := Go.Op.binOp Go.BinOp.mul 3 (Go.Operand.tmp 84) (Go.Operand.tmp 85) 3, type := 3, pos := "law.go:193", after := #[{ on := 29, ground := Go.Ground.data }, { on := 30, ground := Go.Ground.data }, { on := 24, ground := Go.Ground.guard }], guard := some (24, true) }) (v := ?_) rfl (by kernel_rfl) (by kernel_rfl) (by kernel_rfl) (fun _ _ _ h => h) (Or.inl ⟨by rfl, ?_⟩) hHeld ?_
  case refine_2 => (intro w hSw; (try dsimp only at hSw); go_simp <;> with_reducible rfl)
  try simp only [Act.put, List.setIfInBounds_toArray, List.set_cons_zero, List.set_cons_succ]
  refine wpAnyH_take (i := 32) (oi := { dst := some 87, op := Go.Op.binOp Go.BinOp.geq 3 (Go.Operand.tmp 86) (Go.Operand.const (Go.Value.int Go.IntKind.i64 0)) 3, type := 4, pos := "law.go:193", after := #[{ on := 31, ground := Go.Ground.data }, { on := 24, ground := Go.Ground.guard }], guard := some (24, true) }) (v := ?_) rfl (by kernel_rfl) (by kernel_rfl) (by kernel_rfl) (fun _ _ _ h => h) (Or.inl ⟨by rfl, ?_⟩) hHeld ?_
  case refine_2 => (intro w hSw; (try dsimp only at hSw); go_simp <;> with_reducible rfl)
  try simp only [Act.put, List.setIfInBounds_toArray, List.set_cons_zero, List.set_cons_succ]
  refine wpAnyH_take (i := 33) (oi := { dst := some 88, op := Go.Op.pick (Go.Operand.tmp 79) (Go.Operand.tmp 87) (Go.Operand.const (Go.Value.bool false)), type := 4, pos := "law.go:193", after := #[{ on := 24, ground := Go.Ground.data }, { on := 32, ground := Go.Ground.data }], guard := none }) (v := ?_) rfl (by kernel_rfl) (by kernel_rfl) (by kernel_rfl) (fun _ _ _ h => h) (Or.inl ⟨by rfl, ?_⟩) hHeld ?_
  case refine_2 => (intro w hSw; (try dsimp only at hSw); go_simp <;> with_reducible rfl)
  try simp only [Act.put, List.setIfInBounds_toArray, List.set_cons_zero, List.set_cons_succ]
  refine wpAnyH_take (i := 34) (oi := { dst := some 6, op := Go.Op.assign (Go.Operand.tmp 88), type := 4, pos := "law.go:193", after := #[{ on := 33, ground := Go.Ground.data }, { on := 29, ground := Go.Ground.chain }, { on := 0, ground := Go.Ground.phase }, { on := 1, ground := Go.Ground.phase }, { on := 2, ground := Go.Ground.phase }, { on := 3, ground := Go.Ground.phase }, { on := 4, ground := Go.Ground.phase }, { on := 5, ground := Go.Ground.phase }, { on := 6, ground := Go.Ground.phase }, { on := 7, ground := Go.Ground.phase }, { on := 8, ground := Go.Ground.phase }, { on := 9, ground := Go.Ground.phase }, { on := 10, ground := Go.Ground.phase }, { on := 11, ground := Go.Ground.phase }, { on := 12, ground := Go.Ground.phase }, { on := 13, ground := Go.Ground.phase }, { on := 14, ground := Go.Ground.phase }, { on := 15, ground := Go.Ground.phase }, { on := 16, ground := Go.Ground.phase }, { on := 17, ground := Go.Ground.phase }, { on := 18, ground := Go.Ground.phase }, { on := 19, ground := Go.Ground.phase }, { on := 20, ground := Go.Ground.phase }, { on := 21, ground := Go.Ground.phase }, { on := 22, ground := Go.Ground.phase }, { on := 23, ground := Go.Ground.phase }, { on := 24, ground := Go.Ground.phase }, { on := 25, ground := Go.Ground.phase }, { on := 26, ground := Go.Ground.phase }, { on := 27, ground := Go.Ground.phase }, { on := 28, ground := Go.Ground.phase }, { on := 29, ground := Go.Ground.phase }, { on := 30, ground := Go.Ground.phase }, { on := 31, ground := Go.Ground.phase }, { on := 32, ground := Go.Ground.phase }, { on := 33, ground := Go.Ground.phase }], guard := none }) (v := ?_) rfl (by kernel_rfl) (by kernel_rfl) (by kernel_rfl) (fun _ _ _ h => h) (Or.inl ⟨by rfl, ?_⟩) hHeld ?_
  case refine_2 => (intro w hSw; (try dsimp only at hSw); go_simp <;> with_reducible rfl)
  try simp only [Act.put, List.setIfInBounds_toArray, List.set_cons_zero, List.set_cons_succ]
  refine wpAnyH_done (by kernel_rfl) ?_ _
  clear bv0 bv1 bv2 bvl bu0 bu1 bu2 bul ba0 ba1 ba2 bal
  have H11 : Hid (HeldL w [(b9, #[.bool v.neg, S v.i, S v.f]), (w8.heap.size, #[.bool u.neg, S u.i, S u.f]), (w7.heap.size, #[.bool v.neg, S v.i, S v.f]), (w6.heap.size, #[.bool n1, S (dgs L1), .int .i64 e1]), (w5.heap.size, #[.bool n, S (dgs L), .int .i64 e]), (w4.heap.size, #[.int .i64 p.kind, .int .i64 p.mn, .int .i64 p.mx, .bool p.inc.neg, S p.inc.l, .int .i64 p.inc.e, .int .i64 p.mode, .int .i64 p.mi]), (w.heap.size + 1 + 1, #[.int .i64 k0, .int .i64 k1, .int .i64 k2, .int .i64 k3, .int .i64 k4, .int .i64 k5, .int .i64 k6]), (w.heap.size + 1, #[.bool n1, .slice a1 len1 cap1, .int .i64 e1]), (w.heap.size, #[.bool n, .slice a len cap, .int .i64 e])] wF) := Lib.hid (hHeld.2.2.2.2.2.2.2.2.2)
  clear hHeld ALL2 KEEP2 HS2 TAB2 H10
  go_wp2
  go_ret
  exact ⟨rfl, H11.out.bel⟩

end Go.Proofs.YtfbfjkacaadbpaaGreatDoor
