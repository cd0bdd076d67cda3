/- ShwV, ShwP, RddA, RddB, RddC, LawT1, LawT1v, LawT1w, in one text. -/
import Derived.Test.YtfbfjkacaadbpaaGreatDoorMShw
import Derived.Test.YtfbfjkacaadbpaaGreatDoorRndP
namespace Go.Proofs.YtfbfjkacaadbpaaGreatDoor
open Go.RowKit Florin
set_option linter.unusedVariables false
set_option linter.unusedSimpArgs false
attribute [local go_sem ↓] Go.wp_at_zero Go.wp_at_succ

set_option maxRecDepth 100000 in
set_option maxHeartbeats 3200000 in
theorem value_as (v : Vs) (g : Tri) (w : World) (il : v.i.length ≤ 900000) (fl : v.f.length ≤ 2000) (hg : made v.neg (v.i ++ rt v.f) (-((rt v.f).length : Int)) = g) :
    Calls Tryz.prog 26 #[VV v] w fun z w' => z = .returned (V g) ∧ Below w.heap.size w w' := by
  have tm : (⟨v.f.toArray⟩ : ByteArray).size ≤ maxLen := by rw [arr_size]; unfold maxLen; omega
  obtain ⟨u, hu⟩ := bytes_of (rt v.f)
  have HU : Hid (u.data.toList = rt (⟨v.f.toArray⟩ : ByteArray).data.toList) := Lib.hid (by rw [arr_list]; exact hu)
  have ul : u.size ≤ 2000 := by rw [← size_list, hu]; exact Nat.le_trans (rt_length_le _) fl
  have us : (u.size : Int) = ((rt v.f).length : Int) := by rw [← hu, size_list]
  have SC : Hid ((⟨v.i.toArray⟩ : ByteArray) ++ u = ⟨(v.i ++ rt v.f).toArray⟩) := Lib.hid (by rw [← arr_append, ← hu, back_data])
  have HG : Hid (made v.neg (v.i ++ rt v.f) (-(u.size : Int)) = g) := Lib.hid (by rw [us]; exact hg)
  have hcat : ¬ 9223372036854775807 < v.i.length + u.size := by omega
  have lsum : (v.i ++ rt v.f).length ≤ 1000000 := by rw [List.length_append]; have := rt_length_le v.f; omega
  clear hu us hg
  go_enter Tryz.func26, Tryz.ntmps26
  go_wp2_with fail
  with_reducible refine (trimRight_some ⟨v.f.toArray⟩ _ tm u HU.out).mono ?_
  rintro x wz ⟨rfl, rfl⟩
  go_wp2_with fail
  rw [SC.out]
  with_reducible refine (made_as v.neg ⟨(v.i ++ rt v.f).toArray⟩ (-(u.size : Int)) _ (by rw [arr_size]; exact lsum) g (by rw [arr_list]; exact HG.out)).mono ?_
  rintro x w1 ⟨rfl, hb⟩
  have H1 : Hid (HeldL w [(w.heap.size + 1, #[.bool false, .string ⟨#[]⟩, .int .i64 0]), (w.heap.size, #[.bool v.neg, S v.i, S v.f])] w1) := Lib.hid (HeldL.keep (HeldL.alloc (HeldL.alloc (HeldL.refl w) (w.heap.size) #[.bool v.neg, S v.i, S v.f] 49 (by simp)) (w.heap.size + 1) #[.bool false, .string ⟨#[]⟩, .int .i64 0] 31 (by simp)) hb)
  clear hb
  have r0 : w1.cell? ⟨w.heap.size + 1, 0, none⟩ = some (.bool false) := (H1.out.f (List.Mem.head _)).cell 0
  have rz0 : w1.frozen? ⟨w.heap.size + 1, 0, none⟩ = false := (H1.out.f (List.Mem.head _)).frozen 0
  have r1 : w1.cell? ⟨w.heap.size + 1, 1, none⟩ = some (.string ⟨#[]⟩) := (H1.out.f (List.Mem.head _)).cell 1
  have rz1 : w1.frozen? ⟨w.heap.size + 1, 1, none⟩ = false := (H1.out.f (List.Mem.head _)).frozen 1
  have r2 : w1.cell? ⟨w.heap.size + 1, 2, none⟩ = some (.int .i64 0) := (H1.out.f (List.Mem.head _)).cell 2
  have rz2 : w1.frozen? ⟨w.heap.size + 1, 2, none⟩ = false := (H1.out.f (List.Mem.head _)).frozen 2
  have rl : w.heap.size + 1 < w1.heap.size := (H1.out.f (List.Mem.head _)).lt
  go_wp2
  exact bodyPost_ret (v := V g) (by simp [results, Tryz.results26, go_sem, r0, r1, r2]) rfl ⟨rfl, (HeldL.store3 [] [(w.heap.size, #[.bool v.neg, S v.i, S v.f])] H1.out (.bool g.neg) (S g.l) (.int .i64 g.e)).bel⟩

end Go.Proofs.YtfbfjkacaadbpaaGreatDoor

namespace Go.Proofs.YtfbfjkacaadbpaaGreatDoor
open Go.RowKit Florin
set_option linter.unusedVariables false
set_option linter.unusedSimpArgs false
attribute [local go_sem ↓] Go.wp_at_zero Go.wp_at_succ

set_option maxRecDepth 100000 in
set_option maxHeartbeats 6400000 in
theorem prec_0 (k0 k1 k2 k3 k4 k5 k6 : Int) (w : World) (hk : IntKind.i64.wrap ((IntKind.u64.wrap k0).tmod 3) = 0) (j1 j2 j4 : Nat) (hj1 : bits .and .i64 k1 7 = (j1 : Int)) (hj2 : bits .and .i64 k2 7 = (j2 : Int)) (hj4 : bits .and .i64 k4 7 = (j4 : Int)) (l1 : j1 ≤ 7) (l2 : j2 ≤ 7) (l4 : j4 ≤ 7) (M : Int) (hM : ∀ w : World, Calls Tryz.prog 11 #[.int .i64 k3] w fun x w' => x = .returned (.int .i64 M) ∧ w = w') (htab : Tab w) :
    Calls Tryz.prog 22 #[.agg #[.int .i64 k0, .int .i64 k1, .int .i64 k2, .int .i64 k3, .int .i64 k4, .int .i64 k5, .int .i64 k6]] w fun z w' => z = .returned (PV ⟨0, j1, j1 + j2, zero, M, j4⟩) ∧ Below w.heap.size w w' := by
  have HM := Lib.hid hM
  have HT := Lib.hid htab
  clear hM htab
  go_enter Tryz.func22, Tryz.ntmps22
  go_wp2_with fail
  have ALL1 : Hid (∀ w' : World, HeldL w [(w.heap.size + 1, #[.int .i64 0, .int .i64 0, .int .i64 0, .bool false, .string ⟨#[]⟩, .int .i64 0, .int .i64 0, .int .i64 0]), (w.heap.size, #[.int .i64 k0, .int .i64 k1, .int .i64 k2, .int .i64 k3, .int .i64 k4, .int .i64 k5, .int .i64 k6])] w' → w'.cell? ⟨w.heap.size, 0, none⟩ = some (.int .i64 k0) ∧ w'.cell? ⟨w.heap.size, 1, none⟩ = some (.int .i64 k1) ∧ w'.cell? ⟨w.heap.size, 2, none⟩ = some (.int .i64 k2) ∧ w'.cell? ⟨w.heap.size, 3, none⟩ = some (.int .i64 k3) ∧ w'.cell? ⟨w.heap.size, 4, none⟩ = some (.int .i64 k4) ∧ w'.cell? ⟨w.heap.size, 5, none⟩ = some (.int .i64 k5) ∧ w'.cell? ⟨w.heap.size, 6, none⟩ = some (.int .i64 k6) ∧ HeldL w [(w.heap.size + 1, #[.int .i64 0, .int .i64 0, .int .i64 0, .bool false, .string ⟨#[]⟩, .int .i64 0, .int .i64 0, .int .i64 0]), (w.heap.size, #[.int .i64 k0, .int .i64 k1, .int .i64 k2, .int .i64 k3, .int .i64 k4, .int .i64 k5, .int .i64 k6])] w') := Lib.hid (fun w' h => ⟨(h.f (List.Mem.tail _ (List.Mem.head _))).cell 0, (h.f (List.Mem.tail _ (List.Mem.head _))).cell 1, (h.f (List.Mem.tail _ (List.Mem.head _))).cell 2, (h.f (List.Mem.tail _ (List.Mem.head _))).cell 3, (h.f (List.Mem.tail _ (List.Mem.head _))).cell 4, (h.f (List.Mem.tail _ (List.Mem.head _))).cell 5, (h.f (List.Mem.tail _ (List.Mem.head _))).cell 6, h⟩)
  have HS1 : Hid (HeldL w [(w.heap.size + 1, #[.int .i64 0, .int .i64 0, .int .i64 0, .bool false, .string ⟨#[]⟩, .int .i64 0, .int .i64 0, .int .i64 0]), (w.heap.size, #[.int .i64 k0, .int .i64 k1, .int .i64 k2, .int .i64 k3, .int .i64 k4, .int .i64 k5, .int .i64 k6])] _) := Lib.hid (HeldL.alloc (HeldL.alloc (HeldL.refl w) (w.heap.size) #[.int .i64 k0, .int .i64 k1, .int .i64 k2, .int .i64 k3, .int .i64 k4, .int .i64 k5, .int .i64 k6] 43 (by simp)) (w.heap.size + 1) #[.int .i64 0, .int .i64 0, .int .i64 0, .bool false, .string ⟨#[]⟩, .int .i64 0, .int .i64 0, .int .i64 0] 46 (by simp))
  refine wp_region_held_drew (S := fun w' => w'.cell? ⟨w.heap.size, 0, none⟩ = some (.int .i64 k0) ∧ w'.cell? ⟨w.heap.size, 1, none⟩ = some (.int .i64 k1) ∧ w'.cell? ⟨w.heap.size, 2, none⟩ = some (.int .i64 k2) ∧ w'.cell? ⟨w.heap.size, 3, none⟩ = some (.int .i64 k3) ∧ w'.cell? ⟨w.heap.size, 4, none⟩ = some (.int .i64 k4) ∧ w'.cell? ⟨w.heap.size, 5, none⟩ = some (.int .i64 k5) ∧ w'.cell? ⟨w.heap.size, 6, none⟩ = some (.int .i64 k6) ∧ HeldL w [(w.heap.size + 1, #[.int .i64 0, .int .i64 0, .int .i64 0, .bool false, .string ⟨#[]⟩, .int .i64 0, .int .i64 0, .int .i64 0]), (w.heap.size, #[.int .i64 k0, .int .i64 k1, .int .i64 k2, .int .i64 k3, .int .i64 k4, .int .i64 k5, .int .i64 k6])] w') (by kernel_rfl) (ALL1.out _ (HeldL.drew HS1.out)) (fun hHeld => ?_)
  refine wpAnyH_take (i := 0) (oi := { dst := some 4, op := Go.Op.fieldAddr 43 (Go.Operand.tmp 1) 0, type := 0, pos := "law.go:30", after := #[], guard := none }) (v := ?_) rfl (by kernel_rfl) (by kernel_rfl) (by kernel_rfl) (fun _ _ _ h => h) (Or.inl ⟨by rfl, ?_⟩) hHeld ?_
  case refine_2 => (intro w hSw; (try dsimp only at hSw); go_simp <;> with_reducible rfl)
  try simp only [Act.put, List.setIfInBounds_toArray, List.set_cons_zero, List.set_cons_succ]
  refine wpAnyH_take (i := 1) (oi := { dst := some 5, op := Go.Op.load 3 (Go.Operand.tmp 4), type := 3, pos := "law.go:30", after := #[{ on := 0, ground := Go.Ground.data }], guard := none }) (v := ?_) rfl (by kernel_rfl) (by kernel_rfl) (by kernel_rfl) (fun _ _ _ h => h) (Or.inl ⟨by rfl, ?_⟩) hHeld ?_
  case refine_2 => (intro w hSw; (try dsimp only at hSw); go_simp <;> with_reducible rfl)
  try simp only [Act.put, List.setIfInBounds_toArray, List.set_cons_zero, List.set_cons_succ]
  refine wpAnyH_take (i := 2) (oi := { dst := some 6, op := Go.Op.convert 3 62 (Go.Operand.tmp 5), type := 62, pos := "law.go:30", after := #[{ on := 1, ground := Go.Ground.data }], guard := none }) (v := ?_) rfl (by kernel_rfl) (by kernel_rfl) (by kernel_rfl) (fun _ _ _ h => h) (Or.inl ⟨by rfl, ?_⟩) hHeld ?_
  case refine_2 => (intro w hSw; (try dsimp only at hSw); go_simp <;> with_reducible rfl)
  try simp only [Act.put, List.setIfInBounds_toArray, List.set_cons_zero, List.set_cons_succ]
  refine wpAnyH_take (i := 3) (oi := { dst := some 7, op := Go.Op.binOp Go.BinOp.rem 62 (Go.Operand.tmp 6) (Go.Operand.const (Go.Value.int Go.IntKind.u64 3)) 62, type := 62, pos := "law.go:30", after := #[{ on := 2, ground := Go.Ground.data }], guard := none }) (v := ?_) rfl (by kernel_rfl) (by kernel_rfl) (by kernel_rfl) (fun _ _ _ h => h) (Or.inl ⟨by rfl, ?_⟩) hHeld ?_
  case refine_2 => (intro w hSw; (try dsimp only at hSw); go_simp <;> with_reducible rfl)
  try simp only [Act.put, List.setIfInBounds_toArray, List.set_cons_zero, List.set_cons_succ]
  refine wpAnyH_take (i := 4) (oi := { dst := some 8, op := Go.Op.convert 62 3 (Go.Operand.tmp 7), type := 3, pos := "law.go:30", after := #[{ on := 3, ground := Go.Ground.data }], guard := none }) (v := ?_) rfl (by kernel_rfl) (by kernel_rfl) (by kernel_rfl) (fun _ _ _ h => h) (Or.inl ⟨by rfl, ?_⟩) hHeld ?_
  case refine_2 => (intro w hSw; (try dsimp only at hSw); go_simp <;> with_reducible rfl)
  try simp only [Act.put, List.setIfInBounds_toArray, List.set_cons_zero, List.set_cons_succ]
  refine wpAnyH_take (i := 5) (oi := { dst := some 9, op := Go.Op.fieldAddr 43 (Go.Operand.tmp 1) 1, type := 0, pos := "law.go:30", after := #[], guard := none }) (v := ?_) rfl (by kernel_rfl) (by kernel_rfl) (by kernel_rfl) (fun _ _ _ h => h) (Or.inl ⟨by rfl, ?_⟩) hHeld ?_
  case refine_2 => (intro w hSw; (try dsimp only at hSw); go_simp <;> with_reducible rfl)
  try simp only [Act.put, List.setIfInBounds_toArray, List.set_cons_zero, List.set_cons_succ]
  refine wpAnyH_take (i := 6) (oi := { dst := some 10, op := Go.Op.load 3 (Go.Operand.tmp 9), type := 3, pos := "law.go:30", after := #[{ on := 5, ground := Go.Ground.data }], guard := none }) (v := ?_) rfl (by kernel_rfl) (by kernel_rfl) (by kernel_rfl) (fun _ _ _ h => h) (Or.inl ⟨by rfl, ?_⟩) hHeld ?_
  case refine_2 => (intro w hSw; (try dsimp only at hSw); go_simp <;> with_reducible rfl)
  try simp only [Act.put, List.setIfInBounds_toArray, List.set_cons_zero, List.set_cons_succ]
  refine wpAnyH_take (i := 7) (oi := { dst := some 11, op := Go.Op.binOp Go.BinOp.and 3 (Go.Operand.tmp 10) (Go.Operand.const (Go.Value.int Go.IntKind.i64 7)) 3, type := 3, pos := "law.go:30", after := #[{ on := 6, ground := Go.Ground.data }], guard := none }) (v := ?_) rfl (by kernel_rfl) (by kernel_rfl) (by kernel_rfl) (fun _ _ _ h => h) (Or.inl ⟨by rfl, ?_⟩) hHeld ?_
  case refine_2 => (intro w hSw; (try dsimp only at hSw); go_simp <;> with_reducible rfl)
  try simp only [Act.put, List.setIfInBounds_toArray, List.set_cons_zero, List.set_cons_succ]
  refine wpAnyH_take (i := 8) (oi := { dst := some 12, op := Go.Op.fieldAddr 43 (Go.Operand.tmp 1) 3, type := 0, pos := "law.go:30", after := #[], guard := none }) (v := ?_) rfl (by kernel_rfl) (by kernel_rfl) (by kernel_rfl) (fun _ _ _ h => h) (Or.inl ⟨by rfl, ?_⟩) hHeld ?_
  case refine_2 => (intro w hSw; (try dsimp only at hSw); go_simp <;> with_reducible rfl)
  try simp only [Act.put, List.setIfInBounds_toArray, List.set_cons_zero, List.set_cons_succ]
  refine wpAnyH_take (i := 9) (oi := { dst := some 13, op := Go.Op.load 3 (Go.Operand.tmp 12), type := 3, pos := "law.go:30", after := #[{ on := 8, ground := Go.Ground.data }], guard := none }) (v := ?_) rfl (by kernel_rfl) (by kernel_rfl) (by kernel_rfl) (fun _ _ _ h => h) (Or.inl ⟨by rfl, ?_⟩) hHeld ?_
  case refine_2 => (intro w hSw; (try dsimp only at hSw); go_simp <;> with_reducible rfl)
  try simp only [Act.put, List.setIfInBounds_toArray, List.set_cons_zero, List.set_cons_succ]
  refine wpAnyH_take (i := 11) (oi := { dst := some 15, op := Go.Op.fieldAddr 43 (Go.Operand.tmp 1) 4, type := 0, pos := "law.go:30", after := #[], guard := none }) (v := ?_) rfl (by kernel_rfl) (by kernel_rfl) (by kernel_rfl) (fun _ _ _ h => h) (Or.inl ⟨by rfl, ?_⟩) hHeld ?_
  case refine_2 => (intro w hSw; (try dsimp only at hSw); go_simp <;> with_reducible rfl)
  try simp only [Act.put, List.setIfInBounds_toArray, List.set_cons_zero, List.set_cons_succ]
  refine wpAnyH_take (i := 12) (oi := { dst := some 16, op := Go.Op.load 3 (Go.Operand.tmp 15), type := 3, pos := "law.go:30", after := #[{ on := 11, ground := Go.Ground.data }], guard := none }) (v := ?_) rfl (by kernel_rfl) (by kernel_rfl) (by kernel_rfl) (fun _ _ _ h => h) (Or.inl ⟨by rfl, ?_⟩) hHeld ?_
  case refine_2 => (intro w hSw; (try dsimp only at hSw); go_simp <;> with_reducible rfl)
  try simp only [Act.put, List.setIfInBounds_toArray, List.set_cons_zero, List.set_cons_succ]
  refine wpAnyH_take (i := 13) (oi := { dst := some 17, op := Go.Op.binOp Go.BinOp.and 3 (Go.Operand.tmp 16) (Go.Operand.const (Go.Value.int Go.IntKind.i64 7)) 3, type := 3, pos := "law.go:30", after := #[{ on := 12, ground := Go.Ground.data }], guard := none }) (v := ?_) rfl (by kernel_rfl) (by kernel_rfl) (by kernel_rfl) (fun _ _ _ h => h) (Or.inl ⟨by rfl, ?_⟩) hHeld ?_
  case refine_2 => (intro w hSw; (try dsimp only at hSw); go_simp <;> with_reducible rfl)
  try simp only [Act.put, List.setIfInBounds_toArray, List.set_cons_zero, List.set_cons_succ]
  have hH0 := hHeld
  refine wpAnyH_ready (rs := [10, 15]) (by kernel_rfl) (by simp) ?_
  refine AllReadyH.cons (o := { dst := some 14, op := Go.Op.call { callee := Go.Callee.value (Go.Operand.func 11), args := #[Go.Operand.tmp 13], argTypes := #[3] }, type := 27, pos := "law.go:30", after := #[{ on := 9, ground := Go.Ground.data }], guard := none }) rfl (fun KK hK => ?_) (AllReadyH.cons (o := { dst := some 3, op := Go.Op.alloc 46, type := 0, pos := "law.go:30", after := #[], guard := none }) rfl (fun KK hK => ?_) AllReadyH.nil)
  ·
    go_simp
    with_reducible refine (HM.out _).mono ?_
    rintro x wz ⟨rfl, rfl⟩
    go_wp2_with fail
    refine hK.out _ _ hHeld (fun _ => ?_)
    clear hK
    try simp only [Act.put, List.setIfInBounds_toArray, List.set_cons_zero, List.set_cons_succ]
    refine wpAnyH_take (i := 14) (oi := { dst := some 18, op := Go.Op.build 46 #[(0, Go.Operand.tmp 8), (1, Go.Operand.tmp 11), (4, Go.Operand.tmp 14), (5, Go.Operand.tmp 17)], type := 46, pos := "law.go:30", after := #[{ on := 4, ground := Go.Ground.data }, { on := 7, ground := Go.Ground.data }, { on := 10, ground := Go.Ground.data }, { on := 13, ground := Go.Ground.data }], guard := none }) (v := ?_) rfl (by kernel_rfl) (by kernel_rfl) (by kernel_rfl) (fun _ _ _ h => h) (Or.inl ⟨by rfl, ?_⟩) hHeld ?_
    case refine_2 => (intro w hSw; (try dsimp only at hSw); go_simp <;> with_reducible rfl)
    try simp only [Act.put, List.setIfInBounds_toArray, List.set_cons_zero, List.set_cons_succ]
    refine wpAnyH_ready (rs := [15]) (by kernel_rfl) (by simp) ?_
    refine AllReadyH.cons (o := { dst := some 3, op := Go.Op.alloc 46, type := 0, pos := "law.go:30", after := #[], guard := none }) rfl (fun KK hK => ?_) AllReadyH.nil
    go_simp
    refine hK.out _ _ (ALL1.out _ (HeldL.skip (hH0.2.2.2.2.2.2.2) _)) (fun hHeld2 => ?_)
    clear hK hHeld
    have hHeld := hHeld2
    clear hHeld2
    try simp only [Act.put, List.setIfInBounds_toArray, List.set_cons_zero, List.set_cons_succ]
    refine wpAnyH_ready (rs := [16]) (by kernel_rfl) (by simp) ?_
    refine AllReadyH.cons (o := { dst := none, op := Go.Op.store 46 (Go.Operand.tmp 3) (Go.Operand.tmp 18), type := 0, pos := "law.go:30", after := #[{ on := 15, ground := Go.Ground.data }, { on := 14, ground := Go.Ground.data }, { on := 10, ground := Go.Ground.chain }, { on := 0, ground := Go.Ground.phase }, { on := 1, ground := Go.Ground.phase }, { on := 2, ground := Go.Ground.phase }, { on := 3, ground := Go.Ground.phase }, { on := 4, ground := Go.Ground.phase }, { on := 5, ground := Go.Ground.phase }, { on := 6, ground := Go.Ground.phase }, { on := 7, ground := Go.Ground.phase }, { on := 8, ground := Go.Ground.phase }, { on := 9, ground := Go.Ground.phase }, { on := 10, ground := Go.Ground.phase }, { on := 11, ground := Go.Ground.phase }, { on := 12, ground := Go.Ground.phase }, { on := 13, ground := Go.Ground.phase }, { on := 14, ground := Go.Ground.phase }, { on := 15, ground := Go.Ground.phase }], guard := none }) rfl (fun KK hK => ?_) AllReadyH.nil
    go_simp
    refine hK.out _ _ (ALL1.out _ (HeldL.skip (hH0.2.2.2.2.2.2.2) _)) (fun hHeld2 => ?_)
    clear hK hHeld2
    try simp only [Act.put, List.setIfInBounds_toArray, List.set_cons_zero, List.set_cons_succ]
    refine wpAnyH_done (by kernel_rfl) ?_ _
    clear hHeld hH0 ALL1 HS1
    go_wp2
    exact bodyPost_ret (v := .agg #[.int .i64 0, .int .i64 j1, .int .i64 ((j1 : Int) + j2), .bool false, .string ⟨#[]⟩, .int .i64 0, .int .i64 M, .int .i64 j4]) (by simp [results, Tryz.results22, go_sem]) rfl ⟨rfl, (below_alloc3 w _ _ _).drew⟩
  ·
    go_simp
    refine hK.out _ _ (ALL1.out _ (HeldL.skip (hH0.2.2.2.2.2.2.2) _)) (fun hHeld2 => ?_)
    clear hK hHeld
    have hHeld := hHeld2
    clear hHeld2
    try simp only [Act.put, List.setIfInBounds_toArray, List.set_cons_zero, List.set_cons_succ]
    refine wpAnyH_ready (rs := [10]) (by kernel_rfl) (by simp) ?_
    refine AllReadyH.cons (o := { dst := some 14, op := Go.Op.call { callee := Go.Callee.value (Go.Operand.func 11), args := #[Go.Operand.tmp 13], argTypes := #[3] }, type := 27, pos := "law.go:30", after := #[{ on := 9, ground := Go.Ground.data }], guard := none }) rfl (fun KK hK => ?_) AllReadyH.nil
    go_simp
    with_reducible refine (HM.out _).mono ?_
    rintro x wz ⟨rfl, rfl⟩
    go_wp2_with fail
    refine hK.out _ _ hHeld (fun _ => ?_)
    clear hK
    try simp only [Act.put, List.setIfInBounds_toArray, List.set_cons_zero, List.set_cons_succ]
    refine wpAnyH_take (i := 14) (oi := { dst := some 18, op := Go.Op.build 46 #[(0, Go.Operand.tmp 8), (1, Go.Operand.tmp 11), (4, Go.Operand.tmp 14), (5, Go.Operand.tmp 17)], type := 46, pos := "law.go:30", after := #[{ on := 4, ground := Go.Ground.data }, { on := 7, ground := Go.Ground.data }, { on := 10, ground := Go.Ground.data }, { on := 13, ground := Go.Ground.data }], guard := none }) (v := ?_) rfl (by kernel_rfl) (by kernel_rfl) (by kernel_rfl) (fun _ _ _ h => h) (Or.inl ⟨by rfl, ?_⟩) hHeld ?_
    case refine_2 => (intro w hSw; (try dsimp only at hSw); go_simp <;> with_reducible rfl)
    try simp only [Act.put, List.setIfInBounds_toArray, List.set_cons_zero, List.set_cons_succ]
    refine wpAnyH_ready (rs := [16]) (by kernel_rfl) (by simp) ?_
    refine AllReadyH.cons (o := { dst := none, op := Go.Op.store 46 (Go.Operand.tmp 3) (Go.Operand.tmp 18), type := 0, pos := "law.go:30", after := #[{ on := 15, ground := Go.Ground.data }, { on := 14, ground := Go.Ground.data }, { on := 10, ground := Go.Ground.chain }, { on := 0, ground := Go.Ground.phase }, { on := 1, ground := Go.Ground.phase }, { on := 2, ground := Go.Ground.phase }, { on := 3, ground := Go.Ground.phase }, { on := 4, ground := Go.Ground.phase }, { on := 5, ground := Go.Ground.phase }, { on := 6, ground := Go.Ground.phase }, { on := 7, ground := Go.Ground.phase }, { on := 8, ground := Go.Ground.phase }, { on := 9, ground := Go.Ground.phase }, { on := 10, ground := Go.Ground.phase }, { on := 11, ground := Go.Ground.phase }, { on := 12, ground := Go.Ground.phase }, { on := 13, ground := Go.Ground.phase }, { on := 14, ground := Go.Ground.phase }, { on := 15, ground := Go.Ground.phase }], guard := none }) rfl (fun KK hK => ?_) AllReadyH.nil
    go_simp
    refine hK.out _ _ (ALL1.out _ (HeldL.skip (hH0.2.2.2.2.2.2.2) _)) (fun hHeld2 => ?_)
    clear hK hHeld2
    try simp only [Act.put, List.setIfInBounds_toArray, List.set_cons_zero, List.set_cons_succ]
    refine wpAnyH_done (by kernel_rfl) ?_ _
    clear hHeld hH0 ALL1 HS1
    go_wp2
    exact bodyPost_ret (v := .agg #[.int .i64 0, .int .i64 j1, .int .i64 ((j1 : Int) + j2), .bool false, .string ⟨#[]⟩, .int .i64 0, .int .i64 M, .int .i64 j4]) (by simp [results, Tryz.results22, go_sem]) rfl ⟨rfl, (below_alloc3 w _ _ _).drew⟩

set_option maxRecDepth 100000 in
set_option maxHeartbeats 6400000 in
theorem prec_1 (k0 k1 k2 k3 k4 k5 k6 : Int) (w : World) (hk : IntKind.i64.wrap ((IntKind.u64.wrap k0).tmod 3) = 1) (j1 j2 j4 : Nat) (hj1 : bits .and .i64 k1 7 = (j1 : Int)) (hj2 : bits .and .i64 k2 7 = (j2 : Int)) (hj4 : bits .and .i64 k4 7 = (j4 : Int)) (l1 : j1 ≤ 7) (l2 : j2 ≤ 7) (l4 : j4 ≤ 7) (M : Int) (hM : ∀ w : World, Calls Tryz.prog 11 #[.int .i64 k3] w fun x w' => x = .returned (.int .i64 M) ∧ w = w') (htab : Tab w) :
    Calls Tryz.prog 22 #[.agg #[.int .i64 k0, .int .i64 k1, .int .i64 k2, .int .i64 k3, .int .i64 k4, .int .i64 k5, .int .i64 k6]] w fun z w' => z = .returned (PV ⟨1, j1 + 1, j1 + 1 + j2, zero, M, j4⟩) ∧ Below w.heap.size w w' := by
  have HM := Lib.hid hM
  have HT := Lib.hid htab
  clear hM htab
  go_enter Tryz.func22, Tryz.ntmps22
  go_wp2_with fail
  have ALL1 : Hid (∀ w' : World, HeldL w [(w.heap.size + 1, #[.int .i64 0, .int .i64 0, .int .i64 0, .bool false, .string ⟨#[]⟩, .int .i64 0, .int .i64 0, .int .i64 0]), (w.heap.size, #[.int .i64 k0, .int .i64 k1, .int .i64 k2, .int .i64 k3, .int .i64 k4, .int .i64 k5, .int .i64 k6])] w' → w'.cell? ⟨w.heap.size, 0, none⟩ = some (.int .i64 k0) ∧ w'.cell? ⟨w.heap.size, 1, none⟩ = some (.int .i64 k1) ∧ w'.cell? ⟨w.heap.size, 2, none⟩ = some (.int .i64 k2) ∧ w'.cell? ⟨w.heap.size, 3, none⟩ = some (.int .i64 k3) ∧ w'.cell? ⟨w.heap.size, 4, none⟩ = some (.int .i64 k4) ∧ w'.cell? ⟨w.heap.size, 5, none⟩ = some (.int .i64 k5) ∧ w'.cell? ⟨w.heap.size, 6, none⟩ = some (.int .i64 k6) ∧ HeldL w [(w.heap.size + 1, #[.int .i64 0, .int .i64 0, .int .i64 0, .bool false, .string ⟨#[]⟩, .int .i64 0, .int .i64 0, .int .i64 0]), (w.heap.size, #[.int .i64 k0, .int .i64 k1, .int .i64 k2, .int .i64 k3, .int .i64 k4, .int .i64 k5, .int .i64 k6])] w') := Lib.hid (fun w' h => ⟨(h.f (List.Mem.tail _ (List.Mem.head _))).cell 0, (h.f (List.Mem.tail _ (List.Mem.head _))).cell 1, (h.f (List.Mem.tail _ (List.Mem.head _))).cell 2, (h.f (List.Mem.tail _ (List.Mem.head _))).cell 3, (h.f (List.Mem.tail _ (List.Mem.head _))).cell 4, (h.f (List.Mem.tail _ (List.Mem.head _))).cell 5, (h.f (List.Mem.tail _ (List.Mem.head _))).cell 6, h⟩)
  have HS1 : Hid (HeldL w [(w.heap.size + 1, #[.int .i64 0, .int .i64 0, .int .i64 0, .bool false, .string ⟨#[]⟩, .int .i64 0, .int .i64 0, .int .i64 0]), (w.heap.size, #[.int .i64 k0, .int .i64 k1, .int .i64 k2, .int .i64 k3, .int .i64 k4, .int .i64 k5, .int .i64 k6])] _) := Lib.hid (HeldL.alloc (HeldL.alloc (HeldL.refl w) (w.heap.size) #[.int .i64 k0, .int .i64 k1, .int .i64 k2, .int .i64 k3, .int .i64 k4, .int .i64 k5, .int .i64 k6] 43 (by simp)) (w.heap.size + 1) #[.int .i64 0, .int .i64 0, .int .i64 0, .bool false, .string ⟨#[]⟩, .int .i64 0, .int .i64 0, .int .i64 0] 46 (by simp))
  refine wp_region_held_drew (S := fun w' => w'.cell? ⟨w.heap.size, 0, none⟩ = some (.int .i64 k0) ∧ w'.cell? ⟨w.heap.size, 1, none⟩ = some (.int .i64 k1) ∧ w'.cell? ⟨w.heap.size, 2, none⟩ = some (.int .i64 k2) ∧ w'.cell? ⟨w.heap.size, 3, none⟩ = some (.int .i64 k3) ∧ w'.cell? ⟨w.heap.size, 4, none⟩ = some (.int .i64 k4) ∧ w'.cell? ⟨w.heap.size, 5, none⟩ = some (.int .i64 k5) ∧ w'.cell? ⟨w.heap.size, 6, none⟩ = some (.int .i64 k6) ∧ HeldL w [(w.heap.size + 1, #[.int .i64 0, .int .i64 0, .int .i64 0, .bool false, .string ⟨#[]⟩, .int .i64 0, .int .i64 0, .int .i64 0]), (w.heap.size, #[.int .i64 k0, .int .i64 k1, .int .i64 k2, .int .i64 k3, .int .i64 k4, .int .i64 k5, .int .i64 k6])] w') (by kernel_rfl) (ALL1.out _ (HeldL.drew HS1.out)) (fun hHeld => ?_)
  refine wpAnyH_take (i := 0) (oi := { dst := some 4, op := Go.Op.fieldAddr 43 (Go.Operand.tmp 1) 0, type := 0, pos := "law.go:30", after := #[], guard := none }) (v := ?_) rfl (by kernel_rfl) (by kernel_rfl) (by kernel_rfl) (fun _ _ _ h => h) (Or.inl ⟨by rfl, ?_⟩) hHeld ?_
  case refine_2 => (intro w hSw; (try dsimp only at hSw); go_simp <;> with_reducible rfl)
  try simp only [Act.put, List.setIfInBounds_toArray, List.set_cons_zero, List.set_cons_succ]
  refine wpAnyH_take (i := 1) (oi := { dst := some 5, op := Go.Op.load 3 (Go.Operand.tmp 4), type := 3, pos := "law.go:30", after := #[{ on := 0, ground := Go.Ground.data }], guard := none }) (v := ?_) rfl (by kernel_rfl) (by kernel_rfl) (by kernel_rfl) (fun _ _ _ h => h) (Or.inl ⟨by rfl, ?_⟩) hHeld ?_
  case refine_2 => (intro w hSw; (try dsimp only at hSw); go_simp <;> with_reducible rfl)
  try simp only [Act.put, List.setIfInBounds_toArray, List.set_cons_zero, List.set_cons_succ]
  refine wpAnyH_take (i := 2) (oi := { dst := some 6, op := Go.Op.convert 3 62 (Go.Operand.tmp 5), type := 62, pos := "law.go:30", after := #[{ on := 1, ground := Go.Ground.data }], guard := none }) (v := ?_) rfl (by kernel_rfl) (by kernel_rfl) (by kernel_rfl) (fun _ _ _ h => h) (Or.inl ⟨by rfl, ?_⟩) hHeld ?_
  case refine_2 => (intro w hSw; (try dsimp only at hSw); go_simp <;> with_reducible rfl)
  try simp only [Act.put, List.setIfInBounds_toArray, List.set_cons_zero, List.set_cons_succ]
  refine wpAnyH_take (i := 3) (oi := { dst := some 7, op := Go.Op.binOp Go.BinOp.rem 62 (Go.Operand.tmp 6) (Go.Operand.const (Go.Value.int Go.IntKind.u64 3)) 62, type := 62, pos := "law.go:30", after := #[{ on := 2, ground := Go.Ground.data }], guard := none }) (v := ?_) rfl (by kernel_rfl) (by kernel_rfl) (by kernel_rfl) (fun _ _ _ h => h) (Or.inl ⟨by rfl, ?_⟩) hHeld ?_
  case refine_2 => (intro w hSw; (try dsimp only at hSw); go_simp <;> with_reducible rfl)
  try simp only [Act.put, List.setIfInBounds_toArray, List.set_cons_zero, List.set_cons_succ]
  refine wpAnyH_take (i := 4) (oi := { dst := some 8, op := Go.Op.convert 62 3 (Go.Operand.tmp 7), type := 3, pos := "law.go:30", after := #[{ on := 3, ground := Go.Ground.data }], guard := none }) (v := ?_) rfl (by kernel_rfl) (by kernel_rfl) (by kernel_rfl) (fun _ _ _ h => h) (Or.inl ⟨by rfl, ?_⟩) hHeld ?_
  case refine_2 => (intro w hSw; (try dsimp only at hSw); go_simp <;> with_reducible rfl)
  try simp only [Act.put, List.setIfInBounds_toArray, List.set_cons_zero, List.set_cons_succ]
  refine wpAnyH_take (i := 5) (oi := { dst := some 9, op := Go.Op.fieldAddr 43 (Go.Operand.tmp 1) 1, type := 0, pos := "law.go:30", after := #[], guard := none }) (v := ?_) rfl (by kernel_rfl) (by kernel_rfl) (by kernel_rfl) (fun _ _ _ h => h) (Or.inl ⟨by rfl, ?_⟩) hHeld ?_
  case refine_2 => (intro w hSw; (try dsimp only at hSw); go_simp <;> with_reducible rfl)
  try simp only [Act.put, List.setIfInBounds_toArray, List.set_cons_zero, List.set_cons_succ]
  refine wpAnyH_take (i := 6) (oi := { dst := some 10, op := Go.Op.load 3 (Go.Operand.tmp 9), type := 3, pos := "law.go:30", after := #[{ on := 5, ground := Go.Ground.data }], guard := none }) (v := ?_) rfl (by kernel_rfl) (by kernel_rfl) (by kernel_rfl) (fun _ _ _ h => h) (Or.inl ⟨by rfl, ?_⟩) hHeld ?_
  case refine_2 => (intro w hSw; (try dsimp only at hSw); go_simp <;> with_reducible rfl)
  try simp only [Act.put, List.setIfInBounds_toArray, List.set_cons_zero, List.set_cons_succ]
  refine wpAnyH_take (i := 7) (oi := { dst := some 11, op := Go.Op.binOp Go.BinOp.and 3 (Go.Operand.tmp 10) (Go.Operand.const (Go.Value.int Go.IntKind.i64 7)) 3, type := 3, pos := "law.go:30", after := #[{ on := 6, ground := Go.Ground.data }], guard := none }) (v := ?_) rfl (by kernel_rfl) (by kernel_rfl) (by kernel_rfl) (fun _ _ _ h => h) (Or.inl ⟨by rfl, ?_⟩) hHeld ?_
  case refine_2 => (intro w hSw; (try dsimp only at hSw); go_simp <;> with_reducible rfl)
  try simp only [Act.put, List.setIfInBounds_toArray, List.set_cons_zero, List.set_cons_succ]
  refine wpAnyH_take (i := 8) (oi := { dst := some 12, op := Go.Op.fieldAddr 43 (Go.Operand.tmp 1) 3, type := 0, pos := "law.go:30", after := #[], guard := none }) (v := ?_) rfl (by kernel_rfl) (by kernel_rfl) (by kernel_rfl) (fun _ _ _ h => h) (Or.inl ⟨by rfl, ?_⟩) hHeld ?_
  case refine_2 => (intro w hSw; (try dsimp only at hSw); go_simp <;> with_reducible rfl)
  try simp only [Act.put, List.setIfInBounds_toArray, List.set_cons_zero, List.set_cons_succ]
  refine wpAnyH_take (i := 9) (oi := { dst := some 13, op := Go.Op.load 3 (Go.Operand.tmp 12), type := 3, pos := "law.go:30", after := #[{ on := 8, ground := Go.Ground.data }], guard := none }) (v := ?_) rfl (by kernel_rfl) (by kernel_rfl) (by kernel_rfl) (fun _ _ _ h => h) (Or.inl ⟨by rfl, ?_⟩) hHeld ?_
  case refine_2 => (intro w hSw; (try dsimp only at hSw); go_simp <;> with_reducible rfl)
  try simp only [Act.put, List.setIfInBounds_toArray, List.set_cons_zero, List.set_cons_succ]
  refine wpAnyH_take (i := 11) (oi := { dst := some 15, op := Go.Op.fieldAddr 43 (Go.Operand.tmp 1) 4, type := 0, pos := "law.go:30", after := #[], guard := none }) (v := ?_) rfl (by kernel_rfl) (by kernel_rfl) (by kernel_rfl) (fun _ _ _ h => h) (Or.inl ⟨by rfl, ?_⟩) hHeld ?_
  case refine_2 => (intro w hSw; (try dsimp only at hSw); go_simp <;> with_reducible rfl)
  try simp only [Act.put, List.setIfInBounds_toArray, List.set_cons_zero, List.set_cons_succ]
  refine wpAnyH_take (i := 12) (oi := { dst := some 16, op := Go.Op.load 3 (Go.Operand.tmp 15), type := 3, pos := "law.go:30", after := #[{ on := 11, ground := Go.Ground.data }], guard := none }) (v := ?_) rfl (by kernel_rfl) (by kernel_rfl) (by kernel_rfl) (fun _ _ _ h => h) (Or.inl ⟨by rfl, ?_⟩) hHeld ?_
  case refine_2 => (intro w hSw; (try dsimp only at hSw); go_simp <;> with_reducible rfl)
  try simp only [Act.put, List.setIfInBounds_toArray, List.set_cons_zero, List.set_cons_succ]
  refine wpAnyH_take (i := 13) (oi := { dst := some 17, op := Go.Op.binOp Go.BinOp.and 3 (Go.Operand.tmp 16) (Go.Operand.const (Go.Value.int Go.IntKind.i64 7)) 3, type := 3, pos := "law.go:30", after := #[{ on := 12, ground := Go.Ground.data }], guard := none }) (v := ?_) rfl (by kernel_rfl) (by kernel_rfl) (by kernel_rfl) (fun _ _ _ h => h) (Or.inl ⟨by rfl, ?_⟩) hHeld ?_
  case refine_2 => (intro w hSw; (try dsimp only at hSw); go_simp <;> with_reducible rfl)
  try simp only [Act.put, List.setIfInBounds_toArray, List.set_cons_zero, List.set_cons_succ]
  have hH0 := hHeld
  refine wpAnyH_ready (rs := [10, 15]) (by kernel_rfl) (by simp) ?_
  refine AllReadyH.cons (o := { dst := some 14, op := Go.Op.call { callee := Go.Callee.value (Go.Operand.func 11), args := #[Go.Operand.tmp 13], argTypes := #[3] }, type := 27, pos := "law.go:30", after := #[{ on := 9, ground := Go.Ground.data }], guard := none }) rfl (fun KK hK => ?_) (AllReadyH.cons (o := { dst := some 3, op := Go.Op.alloc 46, type := 0, pos := "law.go:30", after := #[], guard := none }) rfl (fun KK hK => ?_) AllReadyH.nil)
  ·
    go_simp
    with_reducible refine (HM.out _).mono ?_
    rintro x wz ⟨rfl, rfl⟩
    go_wp2_with fail
    refine hK.out _ _ hHeld (fun _ => ?_)
    clear hK
    try simp only [Act.put, List.setIfInBounds_toArray, List.set_cons_zero, List.set_cons_succ]
    refine wpAnyH_take (i := 14) (oi := { dst := some 18, op := Go.Op.build 46 #[(0, Go.Operand.tmp 8), (1, Go.Operand.tmp 11), (4, Go.Operand.tmp 14), (5, Go.Operand.tmp 17)], type := 46, pos := "law.go:30", after := #[{ on := 4, ground := Go.Ground.data }, { on := 7, ground := Go.Ground.data }, { on := 10, ground := Go.Ground.data }, { on := 13, ground := Go.Ground.data }], guard := none }) (v := ?_) rfl (by kernel_rfl) (by kernel_rfl) (by kernel_rfl) (fun _ _ _ h => h) (Or.inl ⟨by rfl, ?_⟩) hHeld ?_
    case refine_2 => (intro w hSw; (try dsimp only at hSw); go_simp <;> with_reducible rfl)
    try simp only [Act.put, List.setIfInBounds_toArray, List.set_cons_zero, List.set_cons_succ]
    refine wpAnyH_ready (rs := [15]) (by kernel_rfl) (by simp) ?_
    refine AllReadyH.cons (o := { dst := some 3, op := Go.Op.alloc 46, type := 0, pos := "law.go:30", after := #[], guard := none }) rfl (fun KK hK => ?_) AllReadyH.nil
    go_simp
    refine hK.out _ _ (ALL1.out _ (HeldL.skip (hH0.2.2.2.2.2.2.2) _)) (fun hHeld2 => ?_)
    clear hK hHeld
    have hHeld := hHeld2
    clear hHeld2
    try simp only [Act.put, List.setIfInBounds_toArray, List.set_cons_zero, List.set_cons_succ]
    refine wpAnyH_ready (rs := [16]) (by kernel_rfl) (by simp) ?_
    refine AllReadyH.cons (o := { dst := none, op := Go.Op.store 46 (Go.Operand.tmp 3) (Go.Operand.tmp 18), type := 0, pos := "law.go:30", after := #[{ on := 15, ground := Go.Ground.data }, { on := 14, ground := Go.Ground.data }, { on := 10, ground := Go.Ground.chain }, { on := 0, ground := Go.Ground.phase }, { on := 1, ground := Go.Ground.phase }, { on := 2, ground := Go.Ground.phase }, { on := 3, ground := Go.Ground.phase }, { on := 4, ground := Go.Ground.phase }, { on := 5, ground := Go.Ground.phase }, { on := 6, ground := Go.Ground.phase }, { on := 7, ground := Go.Ground.phase }, { on := 8, ground := Go.Ground.phase }, { on := 9, ground := Go.Ground.phase }, { on := 10, ground := Go.Ground.phase }, { on := 11, ground := Go.Ground.phase }, { on := 12, ground := Go.Ground.phase }, { on := 13, ground := Go.Ground.phase }, { on := 14, ground := Go.Ground.phase }, { on := 15, ground := Go.Ground.phase }], guard := none }) rfl (fun KK hK => ?_) AllReadyH.nil
    go_simp
    refine hK.out _ _ (ALL1.out _ (HeldL.skip (hH0.2.2.2.2.2.2.2) _)) (fun hHeld2 => ?_)
    clear hK hHeld2
    try simp only [Act.put, List.setIfInBounds_toArray, List.set_cons_zero, List.set_cons_succ]
    refine wpAnyH_done (by kernel_rfl) ?_ _
    clear hHeld hH0 ALL1 HS1
    go_wp2
    exact bodyPost_ret (v := .agg #[.int .i64 1, .int .i64 ((j1 : Int) + 1), .int .i64 ((j1 : Int) + 1 + j2), .bool false, .string ⟨#[]⟩, .int .i64 0, .int .i64 M, .int .i64 j4]) (by simp [results, Tryz.results22, go_sem]) rfl ⟨rfl, (below_alloc3 w _ _ _).drew⟩
  ·
    go_simp
    refine hK.out _ _ (ALL1.out _ (HeldL.skip (hH0.2.2.2.2.2.2.2) _)) (fun hHeld2 => ?_)
    clear hK hHeld
    have hHeld := hHeld2
    clear hHeld2
    try simp only [Act.put, List.setIfInBounds_toArray, List.set_cons_zero, List.set_cons_succ]
    refine wpAnyH_ready (rs := [10]) (by kernel_rfl) (by simp) ?_
    refine AllReadyH.cons (o := { dst := some 14, op := Go.Op.call { callee := Go.Callee.value (Go.Operand.func 11), args := #[Go.Operand.tmp 13], argTypes := #[3] }, type := 27, pos := "law.go:30", after := #[{ on := 9, ground := Go.Ground.data }], guard := none }) rfl (fun KK hK => ?_) AllReadyH.nil
    go_simp
    with_reducible refine (HM.out _).mono ?_
    rintro x wz ⟨rfl, rfl⟩
    go_wp2_with fail
    refine hK.out _ _ hHeld (fun _ => ?_)
    clear hK
    try simp only [Act.put, List.setIfInBounds_toArray, List.set_cons_zero, List.set_cons_succ]
    refine wpAnyH_take (i := 14) (oi := { dst := some 18, op := Go.Op.build 46 #[(0, Go.Operand.tmp 8), (1, Go.Operand.tmp 11), (4, Go.Operand.tmp 14), (5, Go.Operand.tmp 17)], type := 46, pos := "law.go:30", after := #[{ on := 4, ground := Go.Ground.data }, { on := 7, ground := Go.Ground.data }, { on := 10, ground := Go.Ground.data }, { on := 13, ground := Go.Ground.data }], guard := none }) (v := ?_) rfl (by kernel_rfl) (by kernel_rfl) (by kernel_rfl) (fun _ _ _ h => h) (Or.inl ⟨by rfl, ?_⟩) hHeld ?_
    case refine_2 => (intro w hSw; (try dsimp only at hSw); go_simp <;> with_reducible rfl)
    try simp only [Act.put, List.setIfInBounds_toArray, List.set_cons_zero, List.set_cons_succ]
    refine wpAnyH_ready (rs := [16]) (by kernel_rfl) (by simp) ?_
    refine AllReadyH.cons (o := { dst := none, op := Go.Op.store 46 (Go.Operand.tmp 3) (Go.Operand.tmp 18), type := 0, pos := "law.go:30", after := #[{ on := 15, ground := Go.Ground.data }, { on := 14, ground := Go.Ground.data }, { on := 10, ground := Go.Ground.chain }, { on := 0, ground := Go.Ground.phase }, { on := 1, ground := Go.Ground.phase }, { on := 2, ground := Go.Ground.phase }, { on := 3, ground := Go.Ground.phase }, { on := 4, ground := Go.Ground.phase }, { on := 5, ground := Go.Ground.phase }, { on := 6, ground := Go.Ground.phase }, { on := 7, ground := Go.Ground.phase }, { on := 8, ground := Go.Ground.phase }, { on := 9, ground := Go.Ground.phase }, { on := 10, ground := Go.Ground.phase }, { on := 11, ground := Go.Ground.phase }, { on := 12, ground := Go.Ground.phase }, { on := 13, ground := Go.Ground.phase }, { on := 14, ground := Go.Ground.phase }, { on := 15, ground := Go.Ground.phase }], guard := none }) rfl (fun KK hK => ?_) AllReadyH.nil
    go_simp
    refine hK.out _ _ (ALL1.out _ (HeldL.skip (hH0.2.2.2.2.2.2.2) _)) (fun hHeld2 => ?_)
    clear hK hHeld2
    try simp only [Act.put, List.setIfInBounds_toArray, List.set_cons_zero, List.set_cons_succ]
    refine wpAnyH_done (by kernel_rfl) ?_ _
    clear hHeld hH0 ALL1 HS1
    go_wp2
    exact bodyPost_ret (v := .agg #[.int .i64 1, .int .i64 ((j1 : Int) + 1), .int .i64 ((j1 : Int) + 1 + j2), .bool false, .string ⟨#[]⟩, .int .i64 0, .int .i64 M, .int .i64 j4]) (by simp [results, Tryz.results22, go_sem]) rfl ⟨rfl, (below_alloc3 w _ _ _).drew⟩

set_option maxRecDepth 100000 in
set_option maxHeartbeats 6400000 in
theorem prec_2 (k0 k1 k2 k3 k4 k5 k6 : Int) (w : World) (hk : IntKind.i64.wrap ((IntKind.u64.wrap k0).tmod 3) = 2) (j1 j2 j4 : Nat) (hj1 : bits .and .i64 k1 7 = (j1 : Int)) (hj2 : bits .and .i64 k2 7 = (j2 : Int)) (hj4 : bits .and .i64 k4 7 = (j4 : Int)) (l1 : j1 ≤ 7) (l2 : j2 ≤ 7) (l4 : j4 ≤ 7) (M : Int) (hM : ∀ w : World, Calls Tryz.prog 11 #[.int .i64 k3] w fun x w' => x = .returned (.int .i64 M) ∧ w = w') (htab : Tab w) (j5 : Nat) (hj5 : bits .and .i64 k5 65535 = (j5 : Int)) (l5 : j5 ≤ 65535) (t1 : -3 ≤ k6.tmod 4) (t2 : k6.tmod 4 ≤ 3) (g : Tri) (hg : made false (dig (j5 + 1)) (k6.tmod 4 - 3) = g) :
    Calls Tryz.prog 22 #[.agg #[.int .i64 k0, .int .i64 k1, .int .i64 k2, .int .i64 k3, .int .i64 k4, .int .i64 k5, .int .i64 k6]] w fun z w' => z = .returned (PV ⟨2, j1, j1 + j2, g, M, j4⟩) ∧ Below w.heap.size w w' := by
  have HM := Lib.hid hM
  have HT := Lib.hid htab
  have HG := Lib.hid hg
  clear hM htab hg
  have dl : (dig (j5 + 1)).length ≤ 1000000 := by have := (dig_length_le (j5 + 1) 6).2 (Nat.lt_of_le_of_lt (show j5 + 1 ≤ 65536 by omega) (by decide)); omega
  have hw5 : IntKind.i64.wrap (1 + (j5 : Int)) = ((j5 + 1 : Nat) : Int) := by rw [IntKind.wrap_i64]; omega
  have hw6 : IntKind.i64.wrap (k6.tmod 4 - 3) = k6.tmod 4 - 3 := by rw [IntKind.wrap_i64]; omega
  have HW5 := Lib.hid hw5
  go_enter Tryz.func22, Tryz.ntmps22
  go_wp2_with fail
  have ALL1 : Hid (∀ w' : World, HeldL w [(w.heap.size + 1, #[.int .i64 0, .int .i64 0, .int .i64 0, .bool false, .string ⟨#[]⟩, .int .i64 0, .int .i64 0, .int .i64 0]), (w.heap.size, #[.int .i64 k0, .int .i64 k1, .int .i64 k2, .int .i64 k3, .int .i64 k4, .int .i64 k5, .int .i64 k6])] w' → w'.cell? ⟨w.heap.size, 0, none⟩ = some (.int .i64 k0) ∧ w'.cell? ⟨w.heap.size, 1, none⟩ = some (.int .i64 k1) ∧ w'.cell? ⟨w.heap.size, 2, none⟩ = some (.int .i64 k2) ∧ w'.cell? ⟨w.heap.size, 3, none⟩ = some (.int .i64 k3) ∧ w'.cell? ⟨w.heap.size, 4, none⟩ = some (.int .i64 k4) ∧ w'.cell? ⟨w.heap.size, 5, none⟩ = some (.int .i64 k5) ∧ w'.cell? ⟨w.heap.size, 6, none⟩ = some (.int .i64 k6) ∧ HeldL w [(w.heap.size + 1, #[.int .i64 0, .int .i64 0, .int .i64 0, .bool false, .string ⟨#[]⟩, .int .i64 0, .int .i64 0, .int .i64 0]), (w.heap.size, #[.int .i64 k0, .int .i64 k1, .int .i64 k2, .int .i64 k3, .int .i64 k4, .int .i64 k5, .int .i64 k6])] w') := Lib.hid (fun w' h => ⟨(h.f (List.Mem.tail _ (List.Mem.head _))).cell 0, (h.f (List.Mem.tail _ (List.Mem.head _))).cell 1, (h.f (List.Mem.tail _ (List.Mem.head _))).cell 2, (h.f (List.Mem.tail _ (List.Mem.head _))).cell 3, (h.f (List.Mem.tail _ (List.Mem.head _))).cell 4, (h.f (List.Mem.tail _ (List.Mem.head _))).cell 5, (h.f (List.Mem.tail _ (List.Mem.head _))).cell 6, h⟩)
  have HS1 : Hid (HeldL w [(w.heap.size + 1, #[.int .i64 0, .int .i64 0, .int .i64 0, .bool false, .string ⟨#[]⟩, .int .i64 0, .int .i64 0, .int .i64 0]), (w.heap.size, #[.int .i64 k0, .int .i64 k1, .int .i64 k2, .int .i64 k3, .int .i64 k4, .int .i64 k5, .int .i64 k6])] _) := Lib.hid (HeldL.alloc (HeldL.alloc (HeldL.refl w) (w.heap.size) #[.int .i64 k0, .int .i64 k1, .int .i64 k2, .int .i64 k3, .int .i64 k4, .int .i64 k5, .int .i64 k6] 43 (by simp)) (w.heap.size + 1) #[.int .i64 0, .int .i64 0, .int .i64 0, .bool false, .string ⟨#[]⟩, .int .i64 0, .int .i64 0, .int .i64 0] 46 (by simp))
  refine wp_region_held_drew (S := fun w' => w'.cell? ⟨w.heap.size, 0, none⟩ = some (.int .i64 k0) ∧ w'.cell? ⟨w.heap.size, 1, none⟩ = some (.int .i64 k1) ∧ w'.cell? ⟨w.heap.size, 2, none⟩ = some (.int .i64 k2) ∧ w'.cell? ⟨w.heap.size, 3, none⟩ = some (.int .i64 k3) ∧ w'.cell? ⟨w.heap.size, 4, none⟩ = some (.int .i64 k4) ∧ w'.cell? ⟨w.heap.size, 5, none⟩ = some (.int .i64 k5) ∧ w'.cell? ⟨w.heap.size, 6, none⟩ = some (.int .i64 k6) ∧ HeldL w [(w.heap.size + 1, #[.int .i64 0, .int .i64 0, .int .i64 0, .bool false, .string ⟨#[]⟩, .int .i64 0, .int .i64 0, .int .i64 0]), (w.heap.size, #[.int .i64 k0, .int .i64 k1, .int .i64 k2, .int .i64 k3, .int .i64 k4, .int .i64 k5, .int .i64 k6])] w') (by kernel_rfl) (ALL1.out _ (HeldL.drew HS1.out)) (fun hHeld => ?_)
  refine wpAnyH_take (i := 0) (oi := { dst := some 4, op := Go.Op.fieldAddr 43 (Go.Operand.tmp 1) 0, type := 0, pos := "law.go:30", after := #[], guard := none }) (v := ?_) rfl (by kernel_rfl) (by kernel_rfl) (by kernel_rfl) (fun _ _ _ h => h) (Or.inl ⟨by rfl, ?_⟩) hHeld ?_
  case refine_2 => (intro w hSw; (try dsimp only at hSw); go_simp <;> with_reducible rfl)
  try simp only [Act.put, List.setIfInBounds_toArray, List.set_cons_zero, List.set_cons_succ]
  refine wpAnyH_take (i := 1) (oi := { dst := some 5, op := Go.Op.load 3 (Go.Operand.tmp 4), type := 3, pos := "law.go:30", after := #[{ on := 0, ground := Go.Ground.data }], guard := none }) (v := ?_) rfl (by kernel_rfl) (by kernel_rfl) (by kernel_rfl) (fun _ _ _ h => h) (Or.inl ⟨by rfl, ?_⟩) hHeld ?_
  case refine_2 => (intro w hSw; (try dsimp only at hSw); go_simp <;> with_reducible rfl)
  try simp only [Act.put, List.setIfInBounds_toArray, List.set_cons_zero, List.set_cons_succ]
  refine wpAnyH_take (i := 2) (oi := { dst := some 6, op := Go.Op.convert 3 62 (Go.Operand.tmp 5), type := 62, pos := "law.go:30", after := #[{ on := 1, ground := Go.Ground.data }], guard := none }) (v := ?_) rfl (by kernel_rfl) (by kernel_rfl) (by kernel_rfl) (fun _ _ _ h => h) (Or.inl ⟨by rfl, ?_⟩) hHeld ?_
  case refine_2 => (intro w hSw; (try dsimp only at hSw); go_simp <;> with_reducible rfl)
  try simp only [Act.put, List.setIfInBounds_toArray, List.set_cons_zero, List.set_cons_succ]
  refine wpAnyH_take (i := 3) (oi := { dst := some 7, op := Go.Op.binOp Go.BinOp.rem 62 (Go.Operand.tmp 6) (Go.Operand.const (Go.Value.int Go.IntKind.u64 3)) 62, type := 62, pos := "law.go:30", after := #[{ on := 2, ground := Go.Ground.data }], guard := none }) (v := ?_) rfl (by kernel_rfl) (by kernel_rfl) (by kernel_rfl) (fun _ _ _ h => h) (Or.inl ⟨by rfl, ?_⟩) hHeld ?_
  case refine_2 => (intro w hSw; (try dsimp only at hSw); go_simp <;> with_reducible rfl)
  try simp only [Act.put, List.setIfInBounds_toArray, List.set_cons_zero, List.set_cons_succ]
  refine wpAnyH_take (i := 4) (oi := { dst := some 8, op := Go.Op.convert 62 3 (Go.Operand.tmp 7), type := 3, pos := "law.go:30", after := #[{ on := 3, ground := Go.Ground.data }], guard := none }) (v := ?_) rfl (by kernel_rfl) (by kernel_rfl) (by kernel_rfl) (fun _ _ _ h => h) (Or.inl ⟨by rfl, ?_⟩) hHeld ?_
  case refine_2 => (intro w hSw; (try dsimp only at hSw); go_simp <;> with_reducible rfl)
  try simp only [Act.put, List.setIfInBounds_toArray, List.set_cons_zero, List.set_cons_succ]
  refine wpAnyH_take (i := 5) (oi := { dst := some 9, op := Go.Op.fieldAddr 43 (Go.Operand.tmp 1) 1, type := 0, pos := "law.go:30", after := #[], guard := none }) (v := ?_) rfl (by kernel_rfl) (by kernel_rfl) (by kernel_rfl) (fun _ _ _ h => h) (Or.inl ⟨by rfl, ?_⟩) hHeld ?_
  case refine_2 => (intro w hSw; (try dsimp only at hSw); go_simp <;> with_reducible rfl)
  try simp only [Act.put, List.setIfInBounds_toArray, List.set_cons_zero, List.set_cons_succ]
  refine wpAnyH_take (i := 6) (oi := { dst := some 10, op := Go.Op.load 3 (Go.Operand.tmp 9), type := 3, pos := "law.go:30", after := #[{ on := 5, ground := Go.Ground.data }], guard := none }) (v := ?_) rfl (by kernel_rfl) (by kernel_rfl) (by kernel_rfl) (fun _ _ _ h => h) (Or.inl ⟨by rfl, ?_⟩) hHeld ?_
  case refine_2 => (intro w hSw; (try dsimp only at hSw); go_simp <;> with_reducible rfl)
  try simp only [Act.put, List.setIfInBounds_toArray, List.set_cons_zero, List.set_cons_succ]
  refine wpAnyH_take (i := 7) (oi := { dst := some 11, op := Go.Op.binOp Go.BinOp.and 3 (Go.Operand.tmp 10) (Go.Operand.const (Go.Value.int Go.IntKind.i64 7)) 3, type := 3, pos := "law.go:30", after := #[{ on := 6, ground := Go.Ground.data }], guard := none }) (v := ?_) rfl (by kernel_rfl) (by kernel_rfl) (by kernel_rfl) (fun _ _ _ h => h) (Or.inl ⟨by rfl, ?_⟩) hHeld ?_
  case refine_2 => (intro w hSw; (try dsimp only at hSw); go_simp <;> with_reducible rfl)
  try simp only [Act.put, List.setIfInBounds_toArray, List.set_cons_zero, List.set_cons_succ]
  refine wpAnyH_take (i := 8) (oi := { dst := some 12, op := Go.Op.fieldAddr 43 (Go.Operand.tmp 1) 3, type := 0, pos := "law.go:30", after := #[], guard := none }) (v := ?_) rfl (by kernel_rfl) (by kernel_rfl) (by kernel_rfl) (fun _ _ _ h => h) (Or.inl ⟨by rfl, ?_⟩) hHeld ?_
  case refine_2 => (intro w hSw; (try dsimp only at hSw); go_simp <;> with_reducible rfl)
  try simp only [Act.put, List.setIfInBounds_toArray, List.set_cons_zero, List.set_cons_succ]
  refine wpAnyH_take (i := 9) (oi := { dst := some 13, op := Go.Op.load 3 (Go.Operand.tmp 12), type := 3, pos := "law.go:30", after := #[{ on := 8, ground := Go.Ground.data }], guard := none }) (v := ?_) rfl (by kernel_rfl) (by kernel_rfl) (by kernel_rfl) (fun _ _ _ h => h) (Or.inl ⟨by rfl, ?_⟩) hHeld ?_
  case refine_2 => (intro w hSw; (try dsimp only at hSw); go_simp <;> with_reducible rfl)
  try simp only [Act.put, List.setIfInBounds_toArray, List.set_cons_zero, List.set_cons_succ]
  refine wpAnyH_take (i := 11) (oi := { dst := some 15, op := Go.Op.fieldAddr 43 (Go.Operand.tmp 1) 4, type := 0, pos := "law.go:30", after := #[], guard := none }) (v := ?_) rfl (by kernel_rfl) (by kernel_rfl) (by kernel_rfl) (fun _ _ _ h => h) (Or.inl ⟨by rfl, ?_⟩) hHeld ?_
  case refine_2 => (intro w hSw; (try dsimp only at hSw); go_simp <;> with_reducible rfl)
  try simp only [Act.put, List.setIfInBounds_toArray, List.set_cons_zero, List.set_cons_succ]
  refine wpAnyH_take (i := 12) (oi := { dst := some 16, op := Go.Op.load 3 (Go.Operand.tmp 15), type := 3, pos := "law.go:30", after := #[{ on := 11, ground := Go.Ground.data }], guard := none }) (v := ?_) rfl (by kernel_rfl) (by kernel_rfl) (by kernel_rfl) (fun _ _ _ h => h) (Or.inl ⟨by rfl, ?_⟩) hHeld ?_
  case refine_2 => (intro w hSw; (try dsimp only at hSw); go_simp <;> with_reducible rfl)
  try simp only [Act.put, List.setIfInBounds_toArray, List.set_cons_zero, List.set_cons_succ]
  refine wpAnyH_take (i := 13) (oi := { dst := some 17, op := Go.Op.binOp Go.BinOp.and 3 (Go.Operand.tmp 16) (Go.Operand.const (Go.Value.int Go.IntKind.i64 7)) 3, type := 3, pos := "law.go:30", after := #[{ on := 12, ground := Go.Ground.data }], guard := none }) (v := ?_) rfl (by kernel_rfl) (by kernel_rfl) (by kernel_rfl) (fun _ _ _ h => h) (Or.inl ⟨by rfl, ?_⟩) hHeld ?_
  case refine_2 => (intro w hSw; (try dsimp only at hSw); go_simp <;> with_reducible rfl)
  try simp only [Act.put, List.setIfInBounds_toArray, List.set_cons_zero, List.set_cons_succ]
  have hH0 := hHeld
  refine wpAnyH_ready (rs := [10, 15]) (by kernel_rfl) (by simp) ?_
  refine AllReadyH.cons (o := { dst := some 14, op := Go.Op.call { callee := Go.Callee.value (Go.Operand.func 11), args := #[Go.Operand.tmp 13], argTypes := #[3] }, type := 27, pos := "law.go:30", after := #[{ on := 9, ground := Go.Ground.data }], guard := none }) rfl (fun KK hK => ?_) (AllReadyH.cons (o := { dst := some 3, op := Go.Op.alloc 46, type := 0, pos := "law.go:30", after := #[], guard := none }) rfl (fun KK hK => ?_) AllReadyH.nil)
  ·
    go_simp
    with_reducible refine (HM.out _).mono ?_
    rintro x wz ⟨rfl, rfl⟩
    go_wp2_with fail
    refine hK.out _ _ hHeld (fun _ => ?_)
    clear hK
    try simp only [Act.put, List.setIfInBounds_toArray, List.set_cons_zero, List.set_cons_succ]
    refine wpAnyH_take (i := 14) (oi := { dst := some 18, op := Go.Op.build 46 #[(0, Go.Operand.tmp 8), (1, Go.Operand.tmp 11), (4, Go.Operand.tmp 14), (5, Go.Operand.tmp 17)], type := 46, pos := "law.go:30", after := #[{ on := 4, ground := Go.Ground.data }, { on := 7, ground := Go.Ground.data }, { on := 10, ground := Go.Ground.data }, { on := 13, ground := Go.Ground.data }], guard := none }) (v := ?_) rfl (by kernel_rfl) (by kernel_rfl) (by kernel_rfl) (fun _ _ _ h => h) (Or.inl ⟨by rfl, ?_⟩) hHeld ?_
    case refine_2 => (intro w hSw; (try dsimp only at hSw); go_simp <;> with_reducible rfl)
    try simp only [Act.put, List.setIfInBounds_toArray, List.set_cons_zero, List.set_cons_succ]
    refine wpAnyH_ready (rs := [15]) (by kernel_rfl) (by simp) ?_
    refine AllReadyH.cons (o := { dst := some 3, op := Go.Op.alloc 46, type := 0, pos := "law.go:30", after := #[], guard := none }) rfl (fun KK hK => ?_) AllReadyH.nil
    go_simp
    refine hK.out _ _ (ALL1.out _ (HeldL.skip (hH0.2.2.2.2.2.2.2) _)) (fun hHeld2 => ?_)
    clear hK hHeld
    have hHeld := hHeld2
    clear hHeld2
    try simp only [Act.put, List.setIfInBounds_toArray, List.set_cons_zero, List.set_cons_succ]
    refine wpAnyH_ready (rs := [16]) (by kernel_rfl) (by simp) ?_
    refine AllReadyH.cons (o := { dst := none, op := Go.Op.store 46 (Go.Operand.tmp 3) (Go.Operand.tmp 18), type := 0, pos := "law.go:30", after := #[{ on := 15, ground := Go.Ground.data }, { on := 14, ground := Go.Ground.data }, { on := 10, ground := Go.Ground.chain }, { on := 0, ground := Go.Ground.phase }, { on := 1, ground := Go.Ground.phase }, { on := 2, ground := Go.Ground.phase }, { on := 3, ground := Go.Ground.phase }, { on := 4, ground := Go.Ground.phase }, { on := 5, ground := Go.Ground.phase }, { on := 6, ground := Go.Ground.phase }, { on := 7, ground := Go.Ground.phase }, { on := 8, ground := Go.Ground.phase }, { on := 9, ground := Go.Ground.phase }, { on := 10, ground := Go.Ground.phase }, { on := 11, ground := Go.Ground.phase }, { on := 12, ground := Go.Ground.phase }, { on := 13, ground := Go.Ground.phase }, { on := 14, ground := Go.Ground.phase }, { on := 15, ground := Go.Ground.phase }], guard := none }) rfl (fun KK hK => ?_) AllReadyH.nil
    go_simp
    refine hK.out _ _ (ALL1.out _ (HeldL.skip (hH0.2.2.2.2.2.2.2) _)) (fun hHeld2 => ?_)
    clear hK hHeld2
    try simp only [Act.put, List.setIfInBounds_toArray, List.set_cons_zero, List.set_cons_succ]
    refine wpAnyH_done (by kernel_rfl) ?_ _
    clear hHeld hH0 ALL1 HS1
    go_wp2_with fail
    have H2 : Hid (HeldL w [(w.heap.size + 1 + 1, #[.int .i64 2, .int .i64 j1, .int .i64 ((j1 : Int) + j2), .bool false, .string ⟨#[]⟩, .int .i64 0, .int .i64 M, .int .i64 j4]), (w.heap.size + 1, #[.int .i64 0, .int .i64 0, .int .i64 0, .bool false, .string ⟨#[]⟩, .int .i64 0, .int .i64 0, .int .i64 0]), (w.heap.size, #[.int .i64 k0, .int .i64 k1, .int .i64 k2, .int .i64 k3, .int .i64 k4, .int .i64 k5, .int .i64 k6])] ((((w.alloc (.cells #[.int .i64 k0, .int .i64 k1, .int .i64 k2, .int .i64 k3, .int .i64 k4, .int .i64 k5, .int .i64 k6] 43)).alloc (.cells #[.int .i64 0, .int .i64 0, .int .i64 0, .bool false, .string ⟨#[]⟩, .int .i64 0, .int .i64 0, .int .i64 0] 46)).alloc (.cells #[.int .i64 2, .int .i64 j1, .int .i64 ((j1 : Int) + j2), .bool false, .string ⟨#[]⟩, .int .i64 0, .int .i64 M, .int .i64 j4] 46)).drew)) := Lib.hid (HeldL.drew (HeldL.alloc (HeldL.alloc (HeldL.alloc (HeldL.refl w) _ _ _ rfl) _ _ _ (by simp)) _ _ _ (by simp)))
    generalize (((w.alloc (.cells #[.int .i64 k0, .int .i64 k1, .int .i64 k2, .int .i64 k3, .int .i64 k4, .int .i64 k5, .int .i64 k6] 43)).alloc (.cells #[.int .i64 0, .int .i64 0, .int .i64 0, .bool false, .string ⟨#[]⟩, .int .i64 0, .int .i64 0, .int .i64 0] 46)).alloc (.cells #[.int .i64 2, .int .i64 j1, .int .i64 ((j1 : Int) + j2), .bool false, .string ⟨#[]⟩, .int .i64 0, .int .i64 M, .int .i64 j4] 46)).drew = w2 at *
    have q0 : w2.cell? ⟨w.heap.size, 0, none⟩ = some (.int .i64 k0) := (H2.out.f (List.Mem.tail _ (List.Mem.tail _ (List.Mem.head _)))).cell 0
    have q1 : w2.cell? ⟨w.heap.size, 1, none⟩ = some (.int .i64 k1) := (H2.out.f (List.Mem.tail _ (List.Mem.tail _ (List.Mem.head _)))).cell 1
    have q2 : w2.cell? ⟨w.heap.size, 2, none⟩ = some (.int .i64 k2) := (H2.out.f (List.Mem.tail _ (List.Mem.tail _ (List.Mem.head _)))).cell 2
    have q3 : w2.cell? ⟨w.heap.size, 3, none⟩ = some (.int .i64 k3) := (H2.out.f (List.Mem.tail _ (List.Mem.tail _ (List.Mem.head _)))).cell 3
    have q4 : w2.cell? ⟨w.heap.size, 4, none⟩ = some (.int .i64 k4) := (H2.out.f (List.Mem.tail _ (List.Mem.tail _ (List.Mem.head _)))).cell 4
    have q5 : w2.cell? ⟨w.heap.size, 5, none⟩ = some (.int .i64 k5) := (H2.out.f (List.Mem.tail _ (List.Mem.tail _ (List.Mem.head _)))).cell 5
    have q6 : w2.cell? ⟨w.heap.size, 6, none⟩ = some (.int .i64 k6) := (H2.out.f (List.Mem.tail _ (List.Mem.tail _ (List.Mem.head _)))).cell 6
    have ql : w.heap.size < w2.heap.size := (H2.out.f (List.Mem.tail _ (List.Mem.tail _ (List.Mem.head _)))).lt
    have p0 : w2.cell? ⟨w.heap.size + 1 + 1, 0, none⟩ = some (.int .i64 2) := (H2.out.f (List.Mem.head _)).cell 0
    have pz0 : w2.frozen? ⟨w.heap.size + 1 + 1, 0, none⟩ = false := (H2.out.f (List.Mem.head _)).frozen 0
    have p1 : w2.cell? ⟨w.heap.size + 1 + 1, 1, none⟩ = some (.int .i64 j1) := (H2.out.f (List.Mem.head _)).cell 1
    have pz1 : w2.frozen? ⟨w.heap.size + 1 + 1, 1, none⟩ = false := (H2.out.f (List.Mem.head _)).frozen 1
    have p2 : w2.cell? ⟨w.heap.size + 1 + 1, 2, none⟩ = some (.int .i64 ((j1 : Int) + j2)) := (H2.out.f (List.Mem.head _)).cell 2
    have pz2 : w2.frozen? ⟨w.heap.size + 1 + 1, 2, none⟩ = false := (H2.out.f (List.Mem.head _)).frozen 2
    have p3 : w2.cell? ⟨w.heap.size + 1 + 1, 3, none⟩ = some (.bool false) := (H2.out.f (List.Mem.head _)).cell 3
    have pz3 : w2.frozen? ⟨w.heap.size + 1 + 1, 3, none⟩ = false := (H2.out.f (List.Mem.head _)).frozen 3
    have p4 : w2.cell? ⟨w.heap.size + 1 + 1, 4, none⟩ = some (.string ⟨#[]⟩) := (H2.out.f (List.Mem.head _)).cell 4
    have pz4 : w2.frozen? ⟨w.heap.size + 1 + 1, 4, none⟩ = false := (H2.out.f (List.Mem.head _)).frozen 4
    have p5 : w2.cell? ⟨w.heap.size + 1 + 1, 5, none⟩ = some (.int .i64 0) := (H2.out.f (List.Mem.head _)).cell 5
    have pz5 : w2.frozen? ⟨w.heap.size + 1 + 1, 5, none⟩ = false := (H2.out.f (List.Mem.head _)).frozen 5
    have p6 : w2.cell? ⟨w.heap.size + 1 + 1, 6, none⟩ = some (.int .i64 M) := (H2.out.f (List.Mem.head _)).cell 6
    have pz6 : w2.frozen? ⟨w.heap.size + 1 + 1, 6, none⟩ = false := (H2.out.f (List.Mem.head _)).frozen 6
    have p7 : w2.cell? ⟨w.heap.size + 1 + 1, 7, none⟩ = some (.int .i64 j4) := (H2.out.f (List.Mem.head _)).cell 7
    have pz7 : w2.frozen? ⟨w.heap.size + 1 + 1, 7, none⟩ = false := (H2.out.f (List.Mem.head _)).frozen 7
    have pl : w.heap.size + 1 + 1 < w2.heap.size := (H2.out.f (List.Mem.head _)).lt
    have r0 : w2.cell? ⟨w.heap.size + 1, 0, none⟩ = some (.int .i64 0) := (H2.out.f (List.Mem.tail _ (List.Mem.head _))).cell 0
    have rz0 : w2.frozen? ⟨w.heap.size + 1, 0, none⟩ = false := (H2.out.f (List.Mem.tail _ (List.Mem.head _))).frozen 0
    have r1 : w2.cell? ⟨w.heap.size + 1, 1, none⟩ = some (.int .i64 0) := (H2.out.f (List.Mem.tail _ (List.Mem.head _))).cell 1
    have rz1 : w2.frozen? ⟨w.heap.size + 1, 1, none⟩ = false := (H2.out.f (List.Mem.tail _ (List.Mem.head _))).frozen 1
    have r2 : w2.cell? ⟨w.heap.size + 1, 2, none⟩ = some (.int .i64 0) := (H2.out.f (List.Mem.tail _ (List.Mem.head _))).cell 2
    have rz2 : w2.frozen? ⟨w.heap.size + 1, 2, none⟩ = false := (H2.out.f (List.Mem.tail _ (List.Mem.head _))).frozen 2
    have r3 : w2.cell? ⟨w.heap.size + 1, 3, none⟩ = some (.bool false) := (H2.out.f (List.Mem.tail _ (List.Mem.head _))).cell 3
    have rz3 : w2.frozen? ⟨w.heap.size + 1, 3, none⟩ = false := (H2.out.f (List.Mem.tail _ (List.Mem.head _))).frozen 3
    have r4 : w2.cell? ⟨w.heap.size + 1, 4, none⟩ = some (.string ⟨#[]⟩) := (H2.out.f (List.Mem.tail _ (List.Mem.head _))).cell 4
    have rz4 : w2.frozen? ⟨w.heap.size + 1, 4, none⟩ = false := (H2.out.f (List.Mem.tail _ (List.Mem.head _))).frozen 4
    have r5 : w2.cell? ⟨w.heap.size + 1, 5, none⟩ = some (.int .i64 0) := (H2.out.f (List.Mem.tail _ (List.Mem.head _))).cell 5
    have rz5 : w2.frozen? ⟨w.heap.size + 1, 5, none⟩ = false := (H2.out.f (List.Mem.tail _ (List.Mem.head _))).frozen 5
    have r6 : w2.cell? ⟨w.heap.size + 1, 6, none⟩ = some (.int .i64 0) := (H2.out.f (List.Mem.tail _ (List.Mem.head _))).cell 6
    have rz6 : w2.frozen? ⟨w.heap.size + 1, 6, none⟩ = false := (H2.out.f (List.Mem.tail _ (List.Mem.head _))).frozen 6
    have r7 : w2.cell? ⟨w.heap.size + 1, 7, none⟩ = some (.int .i64 0) := (H2.out.f (List.Mem.tail _ (List.Mem.head _))).cell 7
    have rz7 : w2.frozen? ⟨w.heap.size + 1, 7, none⟩ = false := (H2.out.f (List.Mem.tail _ (List.Mem.head _))).frozen 7
    have rl : w.heap.size + 1 < w2.heap.size := (H2.out.f (List.Mem.tail _ (List.Mem.head _))).lt
    have HS1 : Hid (HeldL w [(w.heap.size + 1 + 1, #[.int .i64 2, .int .i64 j1, .int .i64 ((j1 : Int) + j2), .bool false, .string ⟨#[]⟩, .int .i64 0, .int .i64 M, .int .i64 j4]), (w.heap.size + 1, #[.int .i64 0, .int .i64 0, .int .i64 0, .bool false, .string ⟨#[]⟩, .int .i64 0, .int .i64 0, .int .i64 0]), (w.heap.size, #[.int .i64 k0, .int .i64 k1, .int .i64 k2, .int .i64 k3, .int .i64 k4, .int .i64 k5, .int .i64 k6])] _) := Lib.hid H2.out
    go_region_with (first | (go_at_call 19; (rw [show ((j5 : Int) + 1) = ((j5 + 1 : Nat) : Int) from rfl]); (with_reducible refine (ofN (j5 + 1) _ (by omega) (HT.out.below ((HeldL.drew HS1.out)).bel)).mono ?_); rintro x wA ⟨rfl, hb⟩; have HKwA : Hid (HeldL w [(w.heap.size + 1 + 1, #[.int .i64 2, .int .i64 j1, .int .i64 ((j1 : Int) + j2), .bool false, .string ⟨#[]⟩, .int .i64 0, .int .i64 M, .int .i64 j4]), (w.heap.size + 1, #[.int .i64 0, .int .i64 0, .int .i64 0, .bool false, .string ⟨#[]⟩, .int .i64 0, .int .i64 0, .int .i64 0]), (w.heap.size, #[.int .i64 k0, .int .i64 k1, .int .i64 k2, .int .i64 k3, .int .i64 k4, .int .i64 k5, .int .i64 k6])] wA) := Lib.hid (HeldL.keep (HeldL.drew HS1.out) hb); clear hb; have qwA0 : wA.cell? ⟨w.heap.size, 0, none⟩ = some (.int .i64 k0) := (HKwA.out.f (List.Mem.tail _ (List.Mem.tail _ (List.Mem.head _)))).cell 0; have qwA1 : wA.cell? ⟨w.heap.size, 1, none⟩ = some (.int .i64 k1) := (HKwA.out.f (List.Mem.tail _ (List.Mem.tail _ (List.Mem.head _)))).cell 1; have qwA2 : wA.cell? ⟨w.heap.size, 2, none⟩ = some (.int .i64 k2) := (HKwA.out.f (List.Mem.tail _ (List.Mem.tail _ (List.Mem.head _)))).cell 2; have qwA3 : wA.cell? ⟨w.heap.size, 3, none⟩ = some (.int .i64 k3) := (HKwA.out.f (List.Mem.tail _ (List.Mem.tail _ (List.Mem.head _)))).cell 3; have qwA4 : wA.cell? ⟨w.heap.size, 4, none⟩ = some (.int .i64 k4) := (HKwA.out.f (List.Mem.tail _ (List.Mem.tail _ (List.Mem.head _)))).cell 4; have qwA5 : wA.cell? ⟨w.heap.size, 5, none⟩ = some (.int .i64 k5) := (HKwA.out.f (List.Mem.tail _ (List.Mem.tail _ (List.Mem.head _)))).cell 5; have qwA6 : wA.cell? ⟨w.heap.size, 6, none⟩ = some (.int .i64 k6) := (HKwA.out.f (List.Mem.tail _ (List.Mem.tail _ (List.Mem.head _)))).cell 6; have qwAl : w.heap.size < wA.heap.size := (HKwA.out.f (List.Mem.tail _ (List.Mem.tail _ (List.Mem.head _)))).lt; have pwA0 : wA.cell? ⟨w.heap.size + 1 + 1, 0, none⟩ = some (.int .i64 2) := (HKwA.out.f (List.Mem.head _)).cell 0; have pzwA0 : wA.frozen? ⟨w.heap.size + 1 + 1, 0, none⟩ = false := (HKwA.out.f (List.Mem.head _)).frozen 0; have pwA1 : wA.cell? ⟨w.heap.size + 1 + 1, 1, none⟩ = some (.int .i64 j1) := (HKwA.out.f (List.Mem.head _)).cell 1; have pzwA1 : wA.frozen? ⟨w.heap.size + 1 + 1, 1, none⟩ = false := (HKwA.out.f (List.Mem.head _)).frozen 1; have pwA2 : wA.cell? ⟨w.heap.size + 1 + 1, 2, none⟩ = some (.int .i64 ((j1 : Int) + j2)) := (HKwA.out.f (List.Mem.head _)).cell 2; have pzwA2 : wA.frozen? ⟨w.heap.size + 1 + 1, 2, none⟩ = false := (HKwA.out.f (List.Mem.head _)).frozen 2; have pwA3 : wA.cell? ⟨w.heap.size + 1 + 1, 3, none⟩ = some (.bool false) := (HKwA.out.f (List.Mem.head _)).cell 3; have pzwA3 : wA.frozen? ⟨w.heap.size + 1 + 1, 3, none⟩ = false := (HKwA.out.f (List.Mem.head _)).frozen 3; have pwA4 : wA.cell? ⟨w.heap.size + 1 + 1, 4, none⟩ = some (.string ⟨#[]⟩) := (HKwA.out.f (List.Mem.head _)).cell 4; have pzwA4 : wA.frozen? ⟨w.heap.size + 1 + 1, 4, none⟩ = false := (HKwA.out.f (List.Mem.head _)).frozen 4; have pwA5 : wA.cell? ⟨w.heap.size + 1 + 1, 5, none⟩ = some (.int .i64 0) := (HKwA.out.f (List.Mem.head _)).cell 5; have pzwA5 : wA.frozen? ⟨w.heap.size + 1 + 1, 5, none⟩ = false := (HKwA.out.f (List.Mem.head _)).frozen 5; have pwA6 : wA.cell? ⟨w.heap.size + 1 + 1, 6, none⟩ = some (.int .i64 M) := (HKwA.out.f (List.Mem.head _)).cell 6; have pzwA6 : wA.frozen? ⟨w.heap.size + 1 + 1, 6, none⟩ = false := (HKwA.out.f (List.Mem.head _)).frozen 6; have pwA7 : wA.cell? ⟨w.heap.size + 1 + 1, 7, none⟩ = some (.int .i64 j4) := (HKwA.out.f (List.Mem.head _)).cell 7; have pzwA7 : wA.frozen? ⟨w.heap.size + 1 + 1, 7, none⟩ = false := (HKwA.out.f (List.Mem.head _)).frozen 7; have pwAl : w.heap.size + 1 + 1 < wA.heap.size := (HKwA.out.f (List.Mem.head _)).lt; have rwA0 : wA.cell? ⟨w.heap.size + 1, 0, none⟩ = some (.int .i64 0) := (HKwA.out.f (List.Mem.tail _ (List.Mem.head _))).cell 0; have rzwA0 : wA.frozen? ⟨w.heap.size + 1, 0, none⟩ = false := (HKwA.out.f (List.Mem.tail _ (List.Mem.head _))).frozen 0; have rwA1 : wA.cell? ⟨w.heap.size + 1, 1, none⟩ = some (.int .i64 0) := (HKwA.out.f (List.Mem.tail _ (List.Mem.head _))).cell 1; have rzwA1 : wA.frozen? ⟨w.heap.size + 1, 1, none⟩ = false := (HKwA.out.f (List.Mem.tail _ (List.Mem.head _))).frozen 1; have rwA2 : wA.cell? ⟨w.heap.size + 1, 2, none⟩ = some (.int .i64 0) := (HKwA.out.f (List.Mem.tail _ (List.Mem.head _))).cell 2; have rzwA2 : wA.frozen? ⟨w.heap.size + 1, 2, none⟩ = false := (HKwA.out.f (List.Mem.tail _ (List.Mem.head _))).frozen 2; have rwA3 : wA.cell? ⟨w.heap.size + 1, 3, none⟩ = some (.bool false) := (HKwA.out.f (List.Mem.tail _ (List.Mem.head _))).cell 3; have rzwA3 : wA.frozen? ⟨w.heap.size + 1, 3, none⟩ = false := (HKwA.out.f (List.Mem.tail _ (List.Mem.head _))).frozen 3; have rwA4 : wA.cell? ⟨w.heap.size + 1, 4, none⟩ = some (.string ⟨#[]⟩) := (HKwA.out.f (List.Mem.tail _ (List.Mem.head _))).cell 4; have rzwA4 : wA.frozen? ⟨w.heap.size + 1, 4, none⟩ = false := (HKwA.out.f (List.Mem.tail _ (List.Mem.head _))).frozen 4; have rwA5 : wA.cell? ⟨w.heap.size + 1, 5, none⟩ = some (.int .i64 0) := (HKwA.out.f (List.Mem.tail _ (List.Mem.head _))).cell 5; have rzwA5 : wA.frozen? ⟨w.heap.size + 1, 5, none⟩ = false := (HKwA.out.f (List.Mem.tail _ (List.Mem.head _))).frozen 5; have rwA6 : wA.cell? ⟨w.heap.size + 1, 6, none⟩ = some (.int .i64 0) := (HKwA.out.f (List.Mem.tail _ (List.Mem.head _))).cell 6; have rzwA6 : wA.frozen? ⟨w.heap.size + 1, 6, none⟩ = false := (HKwA.out.f (List.Mem.tail _ (List.Mem.head _))).frozen 6; have rwA7 : wA.cell? ⟨w.heap.size + 1, 7, none⟩ = some (.int .i64 0) := (HKwA.out.f (List.Mem.tail _ (List.Mem.head _))).cell 7; have rzwA7 : wA.frozen? ⟨w.heap.size + 1, 7, none⟩ = false := (HKwA.out.f (List.Mem.tail _ (List.Mem.head _))).frozen 7; have rwAl : w.heap.size + 1 < wA.heap.size := (HKwA.out.f (List.Mem.tail _ (List.Mem.head _))).lt) | (go_at_call 18; (with_reducible refine (made_as false ⟨(dig (j5 + 1)).toArray⟩ (k6.tmod 4 - 3) _ (by rw [arr_size]; exact dl) g (by rw [arr_list]; exact HG.out)).mono ?_); rintro x wB ⟨rfl, hb⟩; have HKwB : Hid (HeldL w [(w.heap.size + 1 + 1, #[.int .i64 2, .int .i64 j1, .int .i64 ((j1 : Int) + j2), .bool false, .string ⟨#[]⟩, .int .i64 0, .int .i64 M, .int .i64 j4]), (w.heap.size + 1, #[.int .i64 0, .int .i64 0, .int .i64 0, .bool false, .string ⟨#[]⟩, .int .i64 0, .int .i64 0, .int .i64 0]), (w.heap.size, #[.int .i64 k0, .int .i64 k1, .int .i64 k2, .int .i64 k3, .int .i64 k4, .int .i64 k5, .int .i64 k6])] wB) := Lib.hid (HeldL.keep HKwA.out hb); clear hb; have p0 : wB.cell? ⟨w.heap.size + 1 + 1, 0, none⟩ = some (.int .i64 2) := (HKwB.out.f (List.Mem.head _)).cell 0; have pz0 : wB.frozen? ⟨w.heap.size + 1 + 1, 0, none⟩ = false := (HKwB.out.f (List.Mem.head _)).frozen 0; have p1 : wB.cell? ⟨w.heap.size + 1 + 1, 1, none⟩ = some (.int .i64 j1) := (HKwB.out.f (List.Mem.head _)).cell 1; have pz1 : wB.frozen? ⟨w.heap.size + 1 + 1, 1, none⟩ = false := (HKwB.out.f (List.Mem.head _)).frozen 1; have p2 : wB.cell? ⟨w.heap.size + 1 + 1, 2, none⟩ = some (.int .i64 ((j1 : Int) + j2)) := (HKwB.out.f (List.Mem.head _)).cell 2; have pz2 : wB.frozen? ⟨w.heap.size + 1 + 1, 2, none⟩ = false := (HKwB.out.f (List.Mem.head _)).frozen 2; have p3 : wB.cell? ⟨w.heap.size + 1 + 1, 3, none⟩ = some (.bool false) := (HKwB.out.f (List.Mem.head _)).cell 3; have pz3 : wB.frozen? ⟨w.heap.size + 1 + 1, 3, none⟩ = false := (HKwB.out.f (List.Mem.head _)).frozen 3; have p4 : wB.cell? ⟨w.heap.size + 1 + 1, 4, none⟩ = some (.string ⟨#[]⟩) := (HKwB.out.f (List.Mem.head _)).cell 4; have pz4 : wB.frozen? ⟨w.heap.size + 1 + 1, 4, none⟩ = false := (HKwB.out.f (List.Mem.head _)).frozen 4; have p5 : wB.cell? ⟨w.heap.size + 1 + 1, 5, none⟩ = some (.int .i64 0) := (HKwB.out.f (List.Mem.head _)).cell 5; have pz5 : wB.frozen? ⟨w.heap.size + 1 + 1, 5, none⟩ = false := (HKwB.out.f (List.Mem.head _)).frozen 5; have p6 : wB.cell? ⟨w.heap.size + 1 + 1, 6, none⟩ = some (.int .i64 M) := (HKwB.out.f (List.Mem.head _)).cell 6; have pz6 : wB.frozen? ⟨w.heap.size + 1 + 1, 6, none⟩ = false := (HKwB.out.f (List.Mem.head _)).frozen 6; have p7 : wB.cell? ⟨w.heap.size + 1 + 1, 7, none⟩ = some (.int .i64 j4) := (HKwB.out.f (List.Mem.head _)).cell 7; have pz7 : wB.frozen? ⟨w.heap.size + 1 + 1, 7, none⟩ = false := (HKwB.out.f (List.Mem.head _)).frozen 7; have pl : w.heap.size + 1 + 1 < wB.heap.size := (HKwB.out.f (List.Mem.head _)).lt; have r0 : wB.cell? ⟨w.heap.size + 1, 0, none⟩ = some (.int .i64 0) := (HKwB.out.f (List.Mem.tail _ (List.Mem.head _))).cell 0; have rz0 : wB.frozen? ⟨w.heap.size + 1, 0, none⟩ = false := (HKwB.out.f (List.Mem.tail _ (List.Mem.head _))).frozen 0; have r1 : wB.cell? ⟨w.heap.size + 1, 1, none⟩ = some (.int .i64 0) := (HKwB.out.f (List.Mem.tail _ (List.Mem.head _))).cell 1; have rz1 : wB.frozen? ⟨w.heap.size + 1, 1, none⟩ = false := (HKwB.out.f (List.Mem.tail _ (List.Mem.head _))).frozen 1; have r2 : wB.cell? ⟨w.heap.size + 1, 2, none⟩ = some (.int .i64 0) := (HKwB.out.f (List.Mem.tail _ (List.Mem.head _))).cell 2; have rz2 : wB.frozen? ⟨w.heap.size + 1, 2, none⟩ = false := (HKwB.out.f (List.Mem.tail _ (List.Mem.head _))).frozen 2; have r3 : wB.cell? ⟨w.heap.size + 1, 3, none⟩ = some (.bool false) := (HKwB.out.f (List.Mem.tail _ (List.Mem.head _))).cell 3; have rz3 : wB.frozen? ⟨w.heap.size + 1, 3, none⟩ = false := (HKwB.out.f (List.Mem.tail _ (List.Mem.head _))).frozen 3; have r4 : wB.cell? ⟨w.heap.size + 1, 4, none⟩ = some (.string ⟨#[]⟩) := (HKwB.out.f (List.Mem.tail _ (List.Mem.head _))).cell 4; have rz4 : wB.frozen? ⟨w.heap.size + 1, 4, none⟩ = false := (HKwB.out.f (List.Mem.tail _ (List.Mem.head _))).frozen 4; have r5 : wB.cell? ⟨w.heap.size + 1, 5, none⟩ = some (.int .i64 0) := (HKwB.out.f (List.Mem.tail _ (List.Mem.head _))).cell 5; have rz5 : wB.frozen? ⟨w.heap.size + 1, 5, none⟩ = false := (HKwB.out.f (List.Mem.tail _ (List.Mem.head _))).frozen 5; have r6 : wB.cell? ⟨w.heap.size + 1, 6, none⟩ = some (.int .i64 0) := (HKwB.out.f (List.Mem.tail _ (List.Mem.head _))).cell 6; have rz6 : wB.frozen? ⟨w.heap.size + 1, 6, none⟩ = false := (HKwB.out.f (List.Mem.tail _ (List.Mem.head _))).frozen 6; have r7 : wB.cell? ⟨w.heap.size + 1, 7, none⟩ = some (.int .i64 0) := (HKwB.out.f (List.Mem.tail _ (List.Mem.head _))).cell 7; have rz7 : wB.frozen? ⟨w.heap.size + 1, 7, none⟩ = false := (HKwB.out.f (List.Mem.tail _ (List.Mem.head _))).frozen 7; have rl : w.heap.size + 1 < wB.heap.size := (HKwB.out.f (List.Mem.tail _ (List.Mem.head _))).lt))
    all_goals
      have H3 : Hid (HeldL w [(w.heap.size + 1 + 1, #[.int .i64 2, .int .i64 j1, .int .i64 ((j1 : Int) + j2), .bool false, .string ⟨#[]⟩, .int .i64 0, .int .i64 M, .int .i64 j4]), (w.heap.size + 1, #[.int .i64 0, .int .i64 0, .int .i64 0, .bool false, .string ⟨#[]⟩, .int .i64 0, .int .i64 0, .int .i64 0]), (w.heap.size, #[.int .i64 k0, .int .i64 k1, .int .i64 k2, .int .i64 k3, .int .i64 k4, .int .i64 k5, .int .i64 k6])] wB) := HKwB
      clear HS1 HKwA HKwB H2
      go_wp2
      exact bodyPost_ret (v := .agg #[.int .i64 2, .int .i64 j1, .int .i64 ((j1 : Int) + j2), .bool g.neg, S g.l, .int .i64 g.e, .int .i64 M, .int .i64 j4]) (by simp [results, Tryz.results22, go_sem, r0, r1, r2, r3, r4, r5, r6, r7]) rfl ⟨rfl, (HeldL.store8 [_] [_] (HeldL.set1 (L1 := []) (L2 := [_, _]) (HeldL.set1 (L1 := []) (L2 := [_, _]) (HeldL.set1 (L1 := []) (L2 := [_, _]) H3.out 3 (.bool g.neg)) 4 (S g.l)) 5 (.int .i64 g.e)) (.int .i64 2) (.int .i64 j1) (.int .i64 ((j1 : Int) + j2)) (.bool g.neg) (S g.l) (.int .i64 g.e) (.int .i64 M) (.int .i64 j4)).bel⟩
  ·
    go_simp
    refine hK.out _ _ (ALL1.out _ (HeldL.skip (hH0.2.2.2.2.2.2.2) _)) (fun hHeld2 => ?_)
    clear hK hHeld
    have hHeld := hHeld2
    clear hHeld2
    try simp only [Act.put, List.setIfInBounds_toArray, List.set_cons_zero, List.set_cons_succ]
    refine wpAnyH_ready (rs := [10]) (by kernel_rfl) (by simp) ?_
    refine AllReadyH.cons (o := { dst := some 14, op := Go.Op.call { callee := Go.Callee.value (Go.Operand.func 11), args := #[Go.Operand.tmp 13], argTypes := #[3] }, type := 27, pos := "law.go:30", after := #[{ on := 9, ground := Go.Ground.data }], guard := none }) rfl (fun KK hK => ?_) AllReadyH.nil
    go_simp
    with_reducible refine (HM.out _).mono ?_
    rintro x wz ⟨rfl, rfl⟩
    go_wp2_with fail
    refine hK.out _ _ hHeld (fun _ => ?_)
    clear hK
    try simp only [Act.put, List.setIfInBounds_toArray, List.set_cons_zero, List.set_cons_succ]
    refine wpAnyH_take (i := 14) (oi := { dst := some 18, op := Go.Op.build 46 #[(0, Go.Operand.tmp 8), (1, Go.Operand.tmp 11), (4, Go.Operand.tmp 14), (5, Go.Operand.tmp 17)], type := 46, pos := "law.go:30", after := #[{ on := 4, ground := Go.Ground.data }, { on := 7, ground := Go.Ground.data }, { on := 10, ground := Go.Ground.data }, { on := 13, ground := Go.Ground.data }], guard := none }) (v := ?_) rfl (by kernel_rfl) (by kernel_rfl) (by kernel_rfl) (fun _ _ _ h => h) (Or.inl ⟨by rfl, ?_⟩) hHeld ?_
    case refine_2 => (intro w hSw; (try dsimp only at hSw); go_simp <;> with_reducible rfl)
    try simp only [Act.put, List.setIfInBounds_toArray, List.set_cons_zero, List.set_cons_succ]
    refine wpAnyH_ready (rs := [16]) (by kernel_rfl) (by simp) ?_
    refine AllReadyH.cons (o := { dst := none, op := Go.Op.store 46 (Go.Operand.tmp 3) (Go.Operand.tmp 18), type := 0, pos := "law.go:30", after := #[{ on := 15, ground := Go.Ground.data }, { on := 14, ground := Go.Ground.data }, { on := 10, ground := Go.Ground.chain }, { on := 0, ground := Go.Ground.phase }, { on := 1, ground := Go.Ground.phase }, { on := 2, ground := Go.Ground.phase }, { on := 3, ground := Go.Ground.phase }, { on := 4, ground := Go.Ground.phase }, { on := 5, ground := Go.Ground.phase }, { on := 6, ground := Go.Ground.phase }, { on := 7, ground := Go.Ground.phase }, { on := 8, ground := Go.Ground.phase }, { on := 9, ground := Go.Ground.phase }, { on := 10, ground := Go.Ground.phase }, { on := 11, ground := Go.Ground.phase }, { on := 12, ground := Go.Ground.phase }, { on := 13, ground := Go.Ground.phase }, { on := 14, ground := Go.Ground.phase }, { on := 15, ground := Go.Ground.phase }], guard := none }) rfl (fun KK hK => ?_) AllReadyH.nil
    go_simp
    refine hK.out _ _ (ALL1.out _ (HeldL.skip (hH0.2.2.2.2.2.2.2) _)) (fun hHeld2 => ?_)
    clear hK hHeld2
    try simp only [Act.put, List.setIfInBounds_toArray, List.set_cons_zero, List.set_cons_succ]
    refine wpAnyH_done (by kernel_rfl) ?_ _
    clear hHeld hH0 ALL1 HS1
    go_wp2_with fail
    have H2 : Hid (HeldL w [(w.heap.size + 1 + 1, #[.int .i64 2, .int .i64 j1, .int .i64 ((j1 : Int) + j2), .bool false, .string ⟨#[]⟩, .int .i64 0, .int .i64 M, .int .i64 j4]), (w.heap.size + 1, #[.int .i64 0, .int .i64 0, .int .i64 0, .bool false, .string ⟨#[]⟩, .int .i64 0, .int .i64 0, .int .i64 0]), (w.heap.size, #[.int .i64 k0, .int .i64 k1, .int .i64 k2, .int .i64 k3, .int .i64 k4, .int .i64 k5, .int .i64 k6])] ((((w.alloc (.cells #[.int .i64 k0, .int .i64 k1, .int .i64 k2, .int .i64 k3, .int .i64 k4, .int .i64 k5, .int .i64 k6] 43)).alloc (.cells #[.int .i64 0, .int .i64 0, .int .i64 0, .bool false, .string ⟨#[]⟩, .int .i64 0, .int .i64 0, .int .i64 0] 46)).alloc (.cells #[.int .i64 2, .int .i64 j1, .int .i64 ((j1 : Int) + j2), .bool false, .string ⟨#[]⟩, .int .i64 0, .int .i64 M, .int .i64 j4] 46)).drew)) := Lib.hid (HeldL.drew (HeldL.alloc (HeldL.alloc (HeldL.alloc (HeldL.refl w) _ _ _ rfl) _ _ _ (by simp)) _ _ _ (by simp)))
    generalize (((w.alloc (.cells #[.int .i64 k0, .int .i64 k1, .int .i64 k2, .int .i64 k3, .int .i64 k4, .int .i64 k5, .int .i64 k6] 43)).alloc (.cells #[.int .i64 0, .int .i64 0, .int .i64 0, .bool false, .string ⟨#[]⟩, .int .i64 0, .int .i64 0, .int .i64 0] 46)).alloc (.cells #[.int .i64 2, .int .i64 j1, .int .i64 ((j1 : Int) + j2), .bool false, .string ⟨#[]⟩, .int .i64 0, .int .i64 M, .int .i64 j4] 46)).drew = w2 at *
    have q0 : w2.cell? ⟨w.heap.size, 0, none⟩ = some (.int .i64 k0) := (H2.out.f (List.Mem.tail _ (List.Mem.tail _ (List.Mem.head _)))).cell 0
    have q1 : w2.cell? ⟨w.heap.size, 1, none⟩ = some (.int .i64 k1) := (H2.out.f (List.Mem.tail _ (List.Mem.tail _ (List.Mem.head _)))).cell 1
    have q2 : w2.cell? ⟨w.heap.size, 2, none⟩ = some (.int .i64 k2) := (H2.out.f (List.Mem.tail _ (List.Mem.tail _ (List.Mem.head _)))).cell 2
    have q3 : w2.cell? ⟨w.heap.size, 3, none⟩ = some (.int .i64 k3) := (H2.out.f (List.Mem.tail _ (List.Mem.tail _ (List.Mem.head _)))).cell 3
    have q4 : w2.cell? ⟨w.heap.size, 4, none⟩ = some (.int .i64 k4) := (H2.out.f (List.Mem.tail _ (List.Mem.tail _ (List.Mem.head _)))).cell 4
    have q5 : w2.cell? ⟨w.heap.size, 5, none⟩ = some (.int .i64 k5) := (H2.out.f (List.Mem.tail _ (List.Mem.tail _ (List.Mem.head _)))).cell 5
    have q6 : w2.cell? ⟨w.heap.size, 6, none⟩ = some (.int .i64 k6) := (H2.out.f (List.Mem.tail _ (List.Mem.tail _ (List.Mem.head _)))).cell 6
    have ql : w.heap.size < w2.heap.size := (H2.out.f (List.Mem.tail _ (List.Mem.tail _ (List.Mem.head _)))).lt
    have p0 : w2.cell? ⟨w.heap.size + 1 + 1, 0, none⟩ = some (.int .i64 2) := (H2.out.f (List.Mem.head _)).cell 0
    have pz0 : w2.frozen? ⟨w.heap.size + 1 + 1, 0, none⟩ = false := (H2.out.f (List.Mem.head _)).frozen 0
    have p1 : w2.cell? ⟨w.heap.size + 1 + 1, 1, none⟩ = some (.int .i64 j1) := (H2.out.f (List.Mem.head _)).cell 1
    have pz1 : w2.frozen? ⟨w.heap.size + 1 + 1, 1, none⟩ = false := (H2.out.f (List.Mem.head _)).frozen 1
    have p2 : w2.cell? ⟨w.heap.size + 1 + 1, 2, none⟩ = some (.int .i64 ((j1 : Int) + j2)) := (H2.out.f (List.Mem.head _)).cell 2
    have pz2 : w2.frozen? ⟨w.heap.size + 1 + 1, 2, none⟩ = false := (H2.out.f (List.Mem.head _)).frozen 2
    have p3 : w2.cell? ⟨w.heap.size + 1 + 1, 3, none⟩ = some (.bool false) := (H2.out.f (List.Mem.head _)).cell 3
    have pz3 : w2.frozen? ⟨w.heap.size + 1 + 1, 3, none⟩ = false := (H2.out.f (List.Mem.head _)).frozen 3
    have p4 : w2.cell? ⟨w.heap.size + 1 + 1, 4, none⟩ = some (.string ⟨#[]⟩) := (H2.out.f (List.Mem.head _)).cell 4
    have pz4 : w2.frozen? ⟨w.heap.size + 1 + 1, 4, none⟩ = false := (H2.out.f (List.Mem.head _)).frozen 4
    have p5 : w2.cell? ⟨w.heap.size + 1 + 1, 5, none⟩ = some (.int .i64 0) := (H2.out.f (List.Mem.head _)).cell 5
    have pz5 : w2.frozen? ⟨w.heap.size + 1 + 1, 5, none⟩ = false := (H2.out.f (List.Mem.head _)).frozen 5
    have p6 : w2.cell? ⟨w.heap.size + 1 + 1, 6, none⟩ = some (.int .i64 M) := (H2.out.f (List.Mem.head _)).cell 6
    have pz6 : w2.frozen? ⟨w.heap.size + 1 + 1, 6, none⟩ = false := (H2.out.f (List.Mem.head _)).frozen 6
    have p7 : w2.cell? ⟨w.heap.size + 1 + 1, 7, none⟩ = some (.int .i64 j4) := (H2.out.f (List.Mem.head _)).cell 7
    have pz7 : w2.frozen? ⟨w.heap.size + 1 + 1, 7, none⟩ = false := (H2.out.f (List.Mem.head _)).frozen 7
    have pl : w.heap.size + 1 + 1 < w2.heap.size := (H2.out.f (List.Mem.head _)).lt
    have r0 : w2.cell? ⟨w.heap.size + 1, 0, none⟩ = some (.int .i64 0) := (H2.out.f (List.Mem.tail _ (List.Mem.head _))).cell 0
    have rz0 : w2.frozen? ⟨w.heap.size + 1, 0, none⟩ = false := (H2.out.f (List.Mem.tail _ (List.Mem.head _))).frozen 0
    have r1 : w2.cell? ⟨w.heap.size + 1, 1, none⟩ = some (.int .i64 0) := (H2.out.f (List.Mem.tail _ (List.Mem.head _))).cell 1
    have rz1 : w2.frozen? ⟨w.heap.size + 1, 1, none⟩ = false := (H2.out.f (List.Mem.tail _ (List.Mem.head _))).frozen 1
    have r2 : w2.cell? ⟨w.heap.size + 1, 2, none⟩ = some (.int .i64 0) := (H2.out.f (List.Mem.tail _ (List.Mem.head _))).cell 2
    have rz2 : w2.frozen? ⟨w.heap.size + 1, 2, none⟩ = false := (H2.out.f (List.Mem.tail _ (List.Mem.head _))).frozen 2
    have r3 : w2.cell? ⟨w.heap.size + 1, 3, none⟩ = some (.bool false) := (H2.out.f (List.Mem.tail _ (List.Mem.head _))).cell 3
    have rz3 : w2.frozen? ⟨w.heap.size + 1, 3, none⟩ = false := (H2.out.f (List.Mem.tail _ (List.Mem.head _))).frozen 3
    have r4 : w2.cell? ⟨w.heap.size + 1, 4, none⟩ = some (.string ⟨#[]⟩) := (H2.out.f (List.Mem.tail _ (List.Mem.head _))).cell 4
    have rz4 : w2.frozen? ⟨w.heap.size + 1, 4, none⟩ = false := (H2.out.f (List.Mem.tail _ (List.Mem.head _))).frozen 4
    have r5 : w2.cell? ⟨w.heap.size + 1, 5, none⟩ = some (.int .i64 0) := (H2.out.f (List.Mem.tail _ (List.Mem.head _))).cell 5
    have rz5 : w2.frozen? ⟨w.heap.size + 1, 5, none⟩ = false := (H2.out.f (List.Mem.tail _ (List.Mem.head _))).frozen 5
    have r6 : w2.cell? ⟨w.heap.size + 1, 6, none⟩ = some (.int .i64 0) := (H2.out.f (List.Mem.tail _ (List.Mem.head _))).cell 6
    have rz6 : w2.frozen? ⟨w.heap.size + 1, 6, none⟩ = false := (H2.out.f (List.Mem.tail _ (List.Mem.head _))).frozen 6
    have r7 : w2.cell? ⟨w.heap.size + 1, 7, none⟩ = some (.int .i64 0) := (H2.out.f (List.Mem.tail _ (List.Mem.head _))).cell 7
    have rz7 : w2.frozen? ⟨w.heap.size + 1, 7, none⟩ = false := (H2.out.f (List.Mem.tail _ (List.Mem.head _))).frozen 7
    have rl : w.heap.size + 1 < w2.heap.size := (H2.out.f (List.Mem.tail _ (List.Mem.head _))).lt
    have HS2 : Hid (HeldL w [(w.heap.size + 1 + 1, #[.int .i64 2, .int .i64 j1, .int .i64 ((j1 : Int) + j2), .bool false, .string ⟨#[]⟩, .int .i64 0, .int .i64 M, .int .i64 j4]), (w.heap.size + 1, #[.int .i64 0, .int .i64 0, .int .i64 0, .bool false, .string ⟨#[]⟩, .int .i64 0, .int .i64 0, .int .i64 0]), (w.heap.size, #[.int .i64 k0, .int .i64 k1, .int .i64 k2, .int .i64 k3, .int .i64 k4, .int .i64 k5, .int .i64 k6])] _) := Lib.hid H2.out
    go_region_with (first | (go_at_call 19; (rw [show ((j5 : Int) + 1) = ((j5 + 1 : Nat) : Int) from rfl]); (with_reducible refine (ofN (j5 + 1) _ (by omega) (HT.out.below ((HeldL.drew HS2.out)).bel)).mono ?_); rintro x wA ⟨rfl, hb⟩; have HKwA : Hid (HeldL w [(w.heap.size + 1 + 1, #[.int .i64 2, .int .i64 j1, .int .i64 ((j1 : Int) + j2), .bool false, .string ⟨#[]⟩, .int .i64 0, .int .i64 M, .int .i64 j4]), (w.heap.size + 1, #[.int .i64 0, .int .i64 0, .int .i64 0, .bool false, .string ⟨#[]⟩, .int .i64 0, .int .i64 0, .int .i64 0]), (w.heap.size, #[.int .i64 k0, .int .i64 k1, .int .i64 k2, .int .i64 k3, .int .i64 k4, .int .i64 k5, .int .i64 k6])] wA) := Lib.hid (HeldL.keep (HeldL.drew HS2.out) hb); clear hb; have qwA0 : wA.cell? ⟨w.heap.size, 0, none⟩ = some (.int .i64 k0) := (HKwA.out.f (List.Mem.tail _ (List.Mem.tail _ (List.Mem.head _)))).cell 0; have qwA1 : wA.cell? ⟨w.heap.size, 1, none⟩ = some (.int .i64 k1) := (HKwA.out.f (List.Mem.tail _ (List.Mem.tail _ (List.Mem.head _)))).cell 1; have qwA2 : wA.cell? ⟨w.heap.size, 2, none⟩ = some (.int .i64 k2) := (HKwA.out.f (List.Mem.tail _ (List.Mem.tail _ (List.Mem.head _)))).cell 2; have qwA3 : wA.cell? ⟨w.heap.size, 3, none⟩ = some (.int .i64 k3) := (HKwA.out.f (List.Mem.tail _ (List.Mem.tail _ (List.Mem.head _)))).cell 3; have qwA4 : wA.cell? ⟨w.heap.size, 4, none⟩ = some (.int .i64 k4) := (HKwA.out.f (List.Mem.tail _ (List.Mem.tail _ (List.Mem.head _)))).cell 4; have qwA5 : wA.cell? ⟨w.heap.size, 5, none⟩ = some (.int .i64 k5) := (HKwA.out.f (List.Mem.tail _ (List.Mem.tail _ (List.Mem.head _)))).cell 5; have qwA6 : wA.cell? ⟨w.heap.size, 6, none⟩ = some (.int .i64 k6) := (HKwA.out.f (List.Mem.tail _ (List.Mem.tail _ (List.Mem.head _)))).cell 6; have qwAl : w.heap.size < wA.heap.size := (HKwA.out.f (List.Mem.tail _ (List.Mem.tail _ (List.Mem.head _)))).lt; have pwA0 : wA.cell? ⟨w.heap.size + 1 + 1, 0, none⟩ = some (.int .i64 2) := (HKwA.out.f (List.Mem.head _)).cell 0; have pzwA0 : wA.frozen? ⟨w.heap.size + 1 + 1, 0, none⟩ = false := (HKwA.out.f (List.Mem.head _)).frozen 0; have pwA1 : wA.cell? ⟨w.heap.size + 1 + 1, 1, none⟩ = some (.int .i64 j1) := (HKwA.out.f (List.Mem.head _)).cell 1; have pzwA1 : wA.frozen? ⟨w.heap.size + 1 + 1, 1, none⟩ = false := (HKwA.out.f (List.Mem.head _)).frozen 1; have pwA2 : wA.cell? ⟨w.heap.size + 1 + 1, 2, none⟩ = some (.int .i64 ((j1 : Int) + j2)) := (HKwA.out.f (List.Mem.head _)).cell 2; have pzwA2 : wA.frozen? ⟨w.heap.size + 1 + 1, 2, none⟩ = false := (HKwA.out.f (List.Mem.head _)).frozen 2; have pwA3 : wA.cell? ⟨w.heap.size + 1 + 1, 3, none⟩ = some (.bool false) := (HKwA.out.f (List.Mem.head _)).cell 3; have pzwA3 : wA.frozen? ⟨w.heap.size + 1 + 1, 3, none⟩ = false := (HKwA.out.f (List.Mem.head _)).frozen 3; have pwA4 : wA.cell? ⟨w.heap.size + 1 + 1, 4, none⟩ = some (.string ⟨#[]⟩) := (HKwA.out.f (List.Mem.head _)).cell 4; have pzwA4 : wA.frozen? ⟨w.heap.size + 1 + 1, 4, none⟩ = false := (HKwA.out.f (List.Mem.head _)).frozen 4; have pwA5 : wA.cell? ⟨w.heap.size + 1 + 1, 5, none⟩ = some (.int .i64 0) := (HKwA.out.f (List.Mem.head _)).cell 5; have pzwA5 : wA.frozen? ⟨w.heap.size + 1 + 1, 5, none⟩ = false := (HKwA.out.f (List.Mem.head _)).frozen 5; have pwA6 : wA.cell? ⟨w.heap.size + 1 + 1, 6, none⟩ = some (.int .i64 M) := (HKwA.out.f (List.Mem.head _)).cell 6; have pzwA6 : wA.frozen? ⟨w.heap.size + 1 + 1, 6, none⟩ = false := (HKwA.out.f (List.Mem.head _)).frozen 6; have pwA7 : wA.cell? ⟨w.heap.size + 1 + 1, 7, none⟩ = some (.int .i64 j4) := (HKwA.out.f (List.Mem.head _)).cell 7; have pzwA7 : wA.frozen? ⟨w.heap.size + 1 + 1, 7, none⟩ = false := (HKwA.out.f (List.Mem.head _)).frozen 7; have pwAl : w.heap.size + 1 + 1 < wA.heap.size := (HKwA.out.f (List.Mem.head _)).lt; have rwA0 : wA.cell? ⟨w.heap.size + 1, 0, none⟩ = some (.int .i64 0) := (HKwA.out.f (List.Mem.tail _ (List.Mem.head _))).cell 0; have rzwA0 : wA.frozen? ⟨w.heap.size + 1, 0, none⟩ = false := (HKwA.out.f (List.Mem.tail _ (List.Mem.head _))).frozen 0; have rwA1 : wA.cell? ⟨w.heap.size + 1, 1, none⟩ = some (.int .i64 0) := (HKwA.out.f (List.Mem.tail _ (List.Mem.head _))).cell 1; have rzwA1 : wA.frozen? ⟨w.heap.size + 1, 1, none⟩ = false := (HKwA.out.f (List.Mem.tail _ (List.Mem.head _))).frozen 1; have rwA2 : wA.cell? ⟨w.heap.size + 1, 2, none⟩ = some (.int .i64 0) := (HKwA.out.f (List.Mem.tail _ (List.Mem.head _))).cell 2; have rzwA2 : wA.frozen? ⟨w.heap.size + 1, 2, none⟩ = false := (HKwA.out.f (List.Mem.tail _ (List.Mem.head _))).frozen 2; have rwA3 : wA.cell? ⟨w.heap.size + 1, 3, none⟩ = some (.bool false) := (HKwA.out.f (List.Mem.tail _ (List.Mem.head _))).cell 3; have rzwA3 : wA.frozen? ⟨w.heap.size + 1, 3, none⟩ = false := (HKwA.out.f (List.Mem.tail _ (List.Mem.head _))).frozen 3; have rwA4 : wA.cell? ⟨w.heap.size + 1, 4, none⟩ = some (.string ⟨#[]⟩) := (HKwA.out.f (List.Mem.tail _ (List.Mem.head _))).cell 4; have rzwA4 : wA.frozen? ⟨w.heap.size + 1, 4, none⟩ = false := (HKwA.out.f (List.Mem.tail _ (List.Mem.head _))).frozen 4; have rwA5 : wA.cell? ⟨w.heap.size + 1, 5, none⟩ = some (.int .i64 0) := (HKwA.out.f (List.Mem.tail _ (List.Mem.head _))).cell 5; have rzwA5 : wA.frozen? ⟨w.heap.size + 1, 5, none⟩ = false := (HKwA.out.f (List.Mem.tail _ (List.Mem.head _))).frozen 5; have rwA6 : wA.cell? ⟨w.heap.size + 1, 6, none⟩ = some (.int .i64 0) := (HKwA.out.f (List.Mem.tail _ (List.Mem.head _))).cell 6; have rzwA6 : wA.frozen? ⟨w.heap.size + 1, 6, none⟩ = false := (HKwA.out.f (List.Mem.tail _ (List.Mem.head _))).frozen 6; have rwA7 : wA.cell? ⟨w.heap.size + 1, 7, none⟩ = some (.int .i64 0) := (HKwA.out.f (List.Mem.tail _ (List.Mem.head _))).cell 7; have rzwA7 : wA.frozen? ⟨w.heap.size + 1, 7, none⟩ = false := (HKwA.out.f (List.Mem.tail _ (List.Mem.head _))).frozen 7; have rwAl : w.heap.size + 1 < wA.heap.size := (HKwA.out.f (List.Mem.tail _ (List.Mem.head _))).lt) | (go_at_call 18; (with_reducible refine (made_as false ⟨(dig (j5 + 1)).toArray⟩ (k6.tmod 4 - 3) _ (by rw [arr_size]; exact dl) g (by rw [arr_list]; exact HG.out)).mono ?_); rintro x wB ⟨rfl, hb⟩; have HKwB : Hid (HeldL w [(w.heap.size + 1 + 1, #[.int .i64 2, .int .i64 j1, .int .i64 ((j1 : Int) + j2), .bool false, .string ⟨#[]⟩, .int .i64 0, .int .i64 M, .int .i64 j4]), (w.heap.size + 1, #[.int .i64 0, .int .i64 0, .int .i64 0, .bool false, .string ⟨#[]⟩, .int .i64 0, .int .i64 0, .int .i64 0]), (w.heap.size, #[.int .i64 k0, .int .i64 k1, .int .i64 k2, .int .i64 k3, .int .i64 k4, .int .i64 k5, .int .i64 k6])] wB) := Lib.hid (HeldL.keep HKwA.out hb); clear hb; have p0 : wB.cell? ⟨w.heap.size + 1 + 1, 0, none⟩ = some (.int .i64 2) := (HKwB.out.f (List.Mem.head _)).cell 0; have pz0 : wB.frozen? ⟨w.heap.size + 1 + 1, 0, none⟩ = false := (HKwB.out.f (List.Mem.head _)).frozen 0; have p1 : wB.cell? ⟨w.heap.size + 1 + 1, 1, none⟩ = some (.int .i64 j1) := (HKwB.out.f (List.Mem.head _)).cell 1; have pz1 : wB.frozen? ⟨w.heap.size + 1 + 1, 1, none⟩ = false := (HKwB.out.f (List.Mem.head _)).frozen 1; have p2 : wB.cell? ⟨w.heap.size + 1 + 1, 2, none⟩ = some (.int .i64 ((j1 : Int) + j2)) := (HKwB.out.f (List.Mem.head _)).cell 2; have pz2 : wB.frozen? ⟨w.heap.size + 1 + 1, 2, none⟩ = false := (HKwB.out.f (List.Mem.head _)).frozen 2; have p3 : wB.cell? ⟨w.heap.size + 1 + 1, 3, none⟩ = some (.bool false) := (HKwB.out.f (List.Mem.head _)).cell 3; have pz3 : wB.frozen? ⟨w.heap.size + 1 + 1, 3, none⟩ = false := (HKwB.out.f (List.Mem.head _)).frozen 3; have p4 : wB.cell? ⟨w.heap.size + 1 + 1, 4, none⟩ = some (.string ⟨#[]⟩) := (HKwB.out.f (List.Mem.head _)).cell 4; have pz4 : wB.frozen? ⟨w.heap.size + 1 + 1, 4, none⟩ = false := (HKwB.out.f (List.Mem.head _)).frozen 4; have p5 : wB.cell? ⟨w.heap.size + 1 + 1, 5, none⟩ = some (.int .i64 0) := (HKwB.out.f (List.Mem.head _)).cell 5; have pz5 : wB.frozen? ⟨w.heap.size + 1 + 1, 5, none⟩ = false := (HKwB.out.f (List.Mem.head _)).frozen 5; have p6 : wB.cell? ⟨w.heap.size + 1 + 1, 6, none⟩ = some (.int .i64 M) := (HKwB.out.f (List.Mem.head _)).cell 6; have pz6 : wB.frozen? ⟨w.heap.size + 1 + 1, 6, none⟩ = false := (HKwB.out.f (List.Mem.head _)).frozen 6; have p7 : wB.cell? ⟨w.heap.size + 1 + 1, 7, none⟩ = some (.int .i64 j4) := (HKwB.out.f (List.Mem.head _)).cell 7; have pz7 : wB.frozen? ⟨w.heap.size + 1 + 1, 7, none⟩ = false := (HKwB.out.f (List.Mem.head _)).frozen 7; have pl : w.heap.size + 1 + 1 < wB.heap.size := (HKwB.out.f (List.Mem.head _)).lt; have r0 : wB.cell? ⟨w.heap.size + 1, 0, none⟩ = some (.int .i64 0) := (HKwB.out.f (List.Mem.tail _ (List.Mem.head _))).cell 0; have rz0 : wB.frozen? ⟨w.heap.size + 1, 0, none⟩ = false := (HKwB.out.f (List.Mem.tail _ (List.Mem.head _))).frozen 0; have r1 : wB.cell? ⟨w.heap.size + 1, 1, none⟩ = some (.int .i64 0) := (HKwB.out.f (List.Mem.tail _ (List.Mem.head _))).cell 1; have rz1 : wB.frozen? ⟨w.heap.size + 1, 1, none⟩ = false := (HKwB.out.f (List.Mem.tail _ (List.Mem.head _))).frozen 1; have r2 : wB.cell? ⟨w.heap.size + 1, 2, none⟩ = some (.int .i64 0) := (HKwB.out.f (List.Mem.tail _ (List.Mem.head _))).cell 2; have rz2 : wB.frozen? ⟨w.heap.size + 1, 2, none⟩ = false := (HKwB.out.f (List.Mem.tail _ (List.Mem.head _))).frozen 2; have r3 : wB.cell? ⟨w.heap.size + 1, 3, none⟩ = some (.bool false) := (HKwB.out.f (List.Mem.tail _ (List.Mem.head _))).cell 3; have rz3 : wB.frozen? ⟨w.heap.size + 1, 3, none⟩ = false := (HKwB.out.f (List.Mem.tail _ (List.Mem.head _))).frozen 3; have r4 : wB.cell? ⟨w.heap.size + 1, 4, none⟩ = some (.string ⟨#[]⟩) := (HKwB.out.f (List.Mem.tail _ (List.Mem.head _))).cell 4; have rz4 : wB.frozen? ⟨w.heap.size + 1, 4, none⟩ = false := (HKwB.out.f (List.Mem.tail _ (List.Mem.head _))).frozen 4; have r5 : wB.cell? ⟨w.heap.size + 1, 5, none⟩ = some (.int .i64 0) := (HKwB.out.f (List.Mem.tail _ (List.Mem.head _))).cell 5; have rz5 : wB.frozen? ⟨w.heap.size + 1, 5, none⟩ = false := (HKwB.out.f (List.Mem.tail _ (List.Mem.head _))).frozen 5; have r6 : wB.cell? ⟨w.heap.size + 1, 6, none⟩ = some (.int .i64 0) := (HKwB.out.f (List.Mem.tail _ (List.Mem.head _))).cell 6; have rz6 : wB.frozen? ⟨w.heap.size + 1, 6, none⟩ = false := (HKwB.out.f (List.Mem.tail _ (List.Mem.head _))).frozen 6; have r7 : wB.cell? ⟨w.heap.size + 1, 7, none⟩ = some (.int .i64 0) := (HKwB.out.f (List.Mem.tail _ (List.Mem.head _))).cell 7; have rz7 : wB.frozen? ⟨w.heap.size + 1, 7, none⟩ = false := (HKwB.out.f (List.Mem.tail _ (List.Mem.head _))).frozen 7; have rl : w.heap.size + 1 < wB.heap.size := (HKwB.out.f (List.Mem.tail _ (List.Mem.head _))).lt))
    all_goals
      have H3 : Hid (HeldL w [(w.heap.size + 1 + 1, #[.int .i64 2, .int .i64 j1, .int .i64 ((j1 : Int) + j2), .bool false, .string ⟨#[]⟩, .int .i64 0, .int .i64 M, .int .i64 j4]), (w.heap.size + 1, #[.int .i64 0, .int .i64 0, .int .i64 0, .bool false, .string ⟨#[]⟩, .int .i64 0, .int .i64 0, .int .i64 0]), (w.heap.size, #[.int .i64 k0, .int .i64 k1, .int .i64 k2, .int .i64 k3, .int .i64 k4, .int .i64 k5, .int .i64 k6])] wB) := HKwB
      clear HS2 HKwA HKwB H2
      go_wp2
      exact bodyPost_ret (v := .agg #[.int .i64 2, .int .i64 j1, .int .i64 ((j1 : Int) + j2), .bool g.neg, S g.l, .int .i64 g.e, .int .i64 M, .int .i64 j4]) (by simp [results, Tryz.results22, go_sem, r0, r1, r2, r3, r4, r5, r6, r7]) rfl ⟨rfl, (HeldL.store8 [_] [_] (HeldL.set1 (L1 := []) (L2 := [_, _]) (HeldL.set1 (L1 := []) (L2 := [_, _]) (HeldL.set1 (L1 := []) (L2 := [_, _]) H3.out 3 (.bool g.neg)) 4 (S g.l)) 5 (.int .i64 g.e)) (.int .i64 2) (.int .i64 j1) (.int .i64 ((j1 : Int) + j2)) (.bool g.neg) (S g.l) (.int .i64 g.e) (.int .i64 M) (.int .i64 j4)).bel⟩

end Go.Proofs.YtfbfjkacaadbpaaGreatDoor

namespace Go.Proofs.YtfbfjkacaadbpaaGreatDoor
open Go.RowKit Florin
set_option linter.unusedVariables false
set_option linter.unusedSimpArgs false
attribute [local go_sem ↓] Go.wp_at_zero Go.wp_at_succ eq_V ne_V

/-- Is a decimal a whole multiple of another one? As the law reckons it. -/
def LMul (x u : Tri) (b : Bool) : Prop := ∃ (n : Nat) (y : Tri) (wh pt : List UInt8), isDig u.l = true ∧ val u.l = n ∧ 1 ≤ n ∧ n ≤ 1000000000 ∧ -60000 ≤ x.e - u.e ∧ x.e - u.e ≤ 60000 ∧ made false x.l (x.e - u.e) = y ∧ partsT y = (wh, pt) ∧ isDig wh = true ∧ wh.length ≤ 1000000 ∧ (pt.isEmpty && decide (val wh % n = 0)) = b
theorem partsL_T (d : Tri) (a b : List UInt8) (w : World) (h1 : d.l.length ≤ 100000) (h : partsT (made d.neg d.l d.e) = (a, b)) :
    Calls Tryz.prog 47 #[V d] w fun z w' => z = .returned (.tuple #[S a, S b]) ∧ Below w.heap.size w w' :=
  parts_as d.neg ⟨d.l.toArray⟩ d.e w (by rw [arr_size]; omega) _ (by rw [arr_list]) a b h
theorem scale_T (d : Tri) (k : Int) (g : Tri) (w : World) (h1 : d.l.length ≤ 100000) (h : made (made d.neg d.l d.e).neg (made d.neg d.l d.e).l ((made d.neg d.l d.e).e + clampS k) = g) :
    Calls Tryz.prog 59 #[V d, .int .i64 k] w fun z w' => z = .returned (V g) ∧ Below w.heap.size w w' :=
  scale_as d.neg ⟨d.l.toArray⟩ d.e k w (by rw [arr_size]; omega) _ g (by rw [arr_list]) h
set_option maxRecDepth 100000 in
set_option maxHeartbeats 3200000 in
theorem lmul_e (x u : Tri) (b : Bool) (w : World) (h1 : x.l.length ≤ 100000) (h2 : u.l.length ≤ 100000) (n : Nat) (y : Tri) (wh pt : List UInt8) (hdu : isDig u.l = true) (hn : val u.l = n) (n1 : 1 ≤ n) (n2 : n ≤ 1000000000) (e1 : -60000 ≤ x.e - u.e) (e2 : x.e - u.e ≤ 60000) (hy : made false x.l (x.e - u.e) = y) (hp : partsT y = (wh, [])) (hdw : isDig wh = true) (wl : wh.length ≤ 1000000) (hb : decide (val wh % n = 0) = b) (xe1 : -40000 ≤ x.e) (xe2 : x.e ≤ 40000) :
    Calls Tryz.prog 35 #[V x, V u] w fun z w' => z = .returned (.bool b) ∧ Below w.heap.size w w' := by
  have HL : Hid ((dig (val u.l)).length ≤ 18) := Lib.hid (by rw [hn]; exact (dig_length_le _ _).2 (Nat.lt_of_le_of_lt n2 (by decide)))
  have HV : Hid (((val u.l : Nat) : Int) = (n : Int)) := Lib.hid (by rw [hn])
  have HI : Hid (partsT (made y.neg y.l y.e) = (wh, [])) := Lib.hid (by rw [idem_of hy]; exact hp)
  obtain ⟨r, hr⟩ : ∃ r : Nat, val wh % n = r := ⟨_, rfl⟩
  have HR := Lib.hid hr
  have HBB : ((r : Int) == 0) = b := by rw [hr] at hb; rw [← hb]; by_cases h : r = 0 <;> simp [h]
  have HN := Lib.hid hn
  have HDU := Lib.hid hdu
  have HY := Lib.hid hy
  have HP := Lib.hid hp
  have HDW := Lib.hid hdw
  have yl : y.l.length ≤ 100000 := by rw [← hy]; have := made_length false x.l (x.e - u.e); omega
  have n1i : ¬ (n : Int) < 1 := by omega
  clear hn hdu hy hp hdw hr hb
  go_enter Tryz.func35, Tryz.ntmps35
  go_wp2_with fail
  with_reducible refine (intS u.l _ (by omega) HDU.out HL.out).mono ?_
  rintro x wz ⟨rfl, rfl⟩
  rw [HV.out]
  go_wp2_with fail
  with_reducible refine (made_as false ⟨x.l.toArray⟩ (x.e - u.e) _ (by rw [arr_size]; omega) y (by rw [arr_list]; exact HY.out)).mono ?_
  rintro x w1 ⟨rfl, hb⟩
  have H1 : Hid (HeldL w [(w.heap.size + 1, #[.bool u.neg, S u.l, .int .i64 u.e]), (w.heap.size, #[.bool x.neg, S x.l, .int .i64 x.e])] w1) := Lib.hid (HeldL.keep (HeldL.alloc (HeldL.alloc (HeldL.refl w) (w.heap.size) #[.bool x.neg, S x.l, .int .i64 x.e] 31 (by simp)) (w.heap.size + 1) #[.bool u.neg, S u.l, .int .i64 u.e] 31 (by simp)) hb)
  clear hb
  go_wp2_with fail
  with_reducible refine (partsL_T y wh [] _ yl HI.out).mono ?_
  rintro x w2 ⟨rfl, hb⟩
  have H2 : Hid (HeldL w [(w1.heap.size, #[.bool y.neg, S y.l, .int .i64 y.e]), (w.heap.size + 1, #[.bool u.neg, S u.l, .int .i64 u.e]), (w.heap.size, #[.bool x.neg, S x.l, .int .i64 x.e])] w2) := Lib.hid (HeldL.keep (HeldL.alloc H1.out (w1.heap.size) #[.bool y.neg, S y.l, .int .i64 y.e] 31 (by simp)) hb)
  clear H1
  clear hb
  go_wp2_with fail
  with_reducible refine (divS wh n _ wl HDW.out n1 n2).mono ?_
  rintro x w3 ⟨rfl, hb⟩
  have H3 : Hid (HeldL w [(w1.heap.size, #[.bool y.neg, S y.l, .int .i64 y.e]), (w.heap.size + 1, #[.bool u.neg, S u.l, .int .i64 u.e]), (w.heap.size, #[.bool x.neg, S x.l, .int .i64 x.e])] w3) := Lib.hid (HeldL.keep H2.out hb)
  clear H2
  clear hb
  rw [HR.out]
  go_wp2
  go_ret
  exact ⟨rfl, H3.out.bel⟩

set_option maxRecDepth 100000 in
set_option maxHeartbeats 3200000 in
theorem lmul_n (x u : Tri) (b : Bool) (w : World) (h1 : x.l.length ≤ 100000) (h2 : u.l.length ≤ 100000) (n : Nat) (y : Tri) (wh pt : List UInt8) (hdu : isDig u.l = true) (hn : val u.l = n) (n1 : 1 ≤ n) (n2 : n ≤ 1000000000) (e1 : -60000 ≤ x.e - u.e) (e2 : x.e - u.e ≤ 60000) (hy : made false x.l (x.e - u.e) = y) (hp : partsT y = (wh, pt)) (hdw : isDig wh = true) (wl : wh.length ≤ 1000000) (hne : pt.isEmpty = false) (xe1 : -40000 ≤ x.e) (xe2 : x.e ≤ 40000) :
    Calls Tryz.prog 35 #[V x, V u] w fun z w' => z = .returned (.bool false) ∧ Below w.heap.size w w' := by
  have HL : Hid ((dig (val u.l)).length ≤ 18) := Lib.hid (by rw [hn]; exact (dig_length_le _ _).2 (Nat.lt_of_le_of_lt n2 (by decide)))
  have HV : Hid (((val u.l : Nat) : Int) = (n : Int)) := Lib.hid (by rw [hn])
  have HI : Hid (partsT (made y.neg y.l y.e) = (wh, pt)) := Lib.hid (by rw [idem_of hy]; exact hp)
  obtain ⟨r, hr⟩ : ∃ r : Nat, val wh % n = r := ⟨_, rfl⟩
  have HR := Lib.hid hr
  have hpe := empty_of hne
  have hpn : ¬ pt = [] := by intro h; rw [h] at hne; cases hne
  have hpz := hne
  have HN := Lib.hid hn
  have HDU := Lib.hid hdu
  have HY := Lib.hid hy
  have HP := Lib.hid hp
  have HDW := Lib.hid hdw
  have yl : y.l.length ≤ 100000 := by rw [← hy]; have := made_length false x.l (x.e - u.e); omega
  have n1i : ¬ (n : Int) < 1 := by omega
  clear hn hdu hy hp hdw hr hne
  go_enter Tryz.func35, Tryz.ntmps35
  go_wp2_with fail
  with_reducible refine (intS u.l _ (by omega) HDU.out HL.out).mono ?_
  rintro x wz ⟨rfl, rfl⟩
  rw [HV.out]
  go_wp2_with fail
  with_reducible refine (made_as false ⟨x.l.toArray⟩ (x.e - u.e) _ (by rw [arr_size]; omega) y (by rw [arr_list]; exact HY.out)).mono ?_
  rintro x w1 ⟨rfl, hb⟩
  have H1 : Hid (HeldL w [(w.heap.size + 1, #[.bool u.neg, S u.l, .int .i64 u.e]), (w.heap.size, #[.bool x.neg, S x.l, .int .i64 x.e])] w1) := Lib.hid (HeldL.keep (HeldL.alloc (HeldL.alloc (HeldL.refl w) (w.heap.size) #[.bool x.neg, S x.l, .int .i64 x.e] 31 (by simp)) (w.heap.size + 1) #[.bool u.neg, S u.l, .int .i64 u.e] 31 (by simp)) hb)
  clear hb
  go_wp2_with fail
  with_reducible refine (partsL_T y wh pt _ yl HI.out).mono ?_
  rintro x w2 ⟨rfl, hb⟩
  have H2 : Hid (HeldL w [(w1.heap.size, #[.bool y.neg, S y.l, .int .i64 y.e]), (w.heap.size + 1, #[.bool u.neg, S u.l, .int .i64 u.e]), (w.heap.size, #[.bool x.neg, S x.l, .int .i64 x.e])] w2) := Lib.hid (HeldL.keep (HeldL.alloc H1.out (w1.heap.size) #[.bool y.neg, S y.l, .int .i64 y.e] 31 (by simp)) hb)
  clear H1
  clear hb
  go_wp2_with fail
  with_reducible refine (divS wh n _ wl HDW.out n1 n2).mono ?_
  rintro x w3 ⟨rfl, hb⟩
  have H3 : Hid (HeldL w [(w1.heap.size, #[.bool y.neg, S y.l, .int .i64 y.e]), (w.heap.size + 1, #[.bool u.neg, S u.l, .int .i64 u.e]), (w.heap.size, #[.bool x.neg, S x.l, .int .i64 x.e])] w3) := Lib.hid (HeldL.keep H2.out hb)
  clear H2
  clear hb
  rw [HR.out]
  go_wp2
  go_ret
  exact ⟨rfl, H3.out.bel⟩

theorem lmul_T (x u : Tri) (b : Bool) (w : World) (h1 : x.l.length ≤ 100000) (h2 : u.l.length ≤ 100000) (xe1 : -40000 ≤ x.e) (xe2 : x.e ≤ 40000) (h : LMul x u b) :
    Calls Tryz.prog 35 #[V x, V u] w fun z w' => z = .returned (.bool b) ∧ Below w.heap.size w w' := by
  obtain ⟨n, y, wh, pt, q1, q2, q3, q4, q5, q6, q7, q8, q9, q10, q11⟩ := h
  cases hpt : pt.isEmpty with
  | true =>
    have : pt = [] := by simpa using hpt
    subst this
    exact lmul_e x u b w h1 h2 n y wh [] q1 q2 q3 q4 q5 q6 q7 q8 q9 q10 (by simpa using q11) xe1 xe2
  | false =>
    rw [hpt] at q11
    simp only [Bool.false_and] at q11
    subst q11
    exact lmul_n x u false w h1 h2 n y wh pt q1 q2 q3 q4 q5 q6 q7 q8 q9 q10 hpt xe1 xe2

set_option maxRecDepth 100000 in
set_option maxHeartbeats 3200000 in
theorem even_T (r u : Tri) (w : World) (rl : r.l.length ≤ 100000) (ul : u.l.length ≤ 100000) (f : Nat → Tri) (hf0 : f 0 = r) (ha : ∀ i, i < 4 → AddIs (f i) r (f (i + 1))) (fl : ∀ i, i ≤ 4 → (f i).l.length ≤ 100000) (g : Tri) (gl : g.l.length ≤ 100000) (g1 : -40000 ≤ g.e) (g2 : g.e ≤ 40000)
    (hsc : made (made (f 4).neg (f 4).l (f 4).e).neg (made (f 4).neg (f 4).l (f 4).e).l ((made (f 4).neg (f 4).l (f 4).e).e + clampS (-1)) = g) (hm : LMul g u true) :
    Calls Tryz.prog 39 #[V r, V u] w fun z w' => z = .returned (.bool true) ∧ Below w.heap.size w w' := by
  have HA := Lib.hid ha
  have HF := Lib.hid hf0
  have HSC := Lib.hid hsc
  have HM := Lib.hid hm
  clear ha hf0 hsc hm
  go_enter Tryz.func39, Tryz.ntmps39
  go_wp2_with fail
  go_loopw [6] (fun v wr => ∃ i : Nat, i ≤ 4 ∧ v = .int .i64 i ∧ HeldL w [(w.heap.size + 1 + 1, #[.bool (f i).neg, S (f i).l, .int .i64 (f i).e]), (w.heap.size + 1, #[.bool u.neg, S u.l, .int .i64 u.e]), (w.heap.size, #[.bool r.neg, S r.l, .int .i64 r.e])] wr) (fun v _ => 4 - (intOf v).toNat)
  case atStart => exact ⟨0, by decide, rfl, by rw [HF.out]; exact (HeldL.alloc (HeldL.alloc (HeldL.alloc (HeldL.refl w) (w.heap.size) #[.bool r.neg, S r.l, .int .i64 r.e] 31 (by simp)) (w.heap.size + 1) #[.bool u.neg, S u.l, .int .i64 u.e] 31 (by simp)) (w.heap.size + 1 + 1) #[.bool r.neg, S r.l, .int .i64 r.e] 31 (by simp))⟩
  case round =>
    obtain ⟨i, hi, rfl, hh⟩ := hrel
    have H5 : Hid (HeldL w [(w.heap.size + 1 + 1, #[.bool (f i).neg, S (f i).l, .int .i64 (f i).e]), (w.heap.size + 1, #[.bool u.neg, S u.l, .int .i64 u.e]), (w.heap.size, #[.bool r.neg, S r.l, .int .i64 r.e])] _) := Lib.hid hh
    clear hh
    by_cases h4 : i = 4
    · subst h4
      have bh0 : wr.cell? ⟨w.heap.size + 1 + 1, 0, none⟩ = some (.bool (f 4).neg) := (H5.out.f (List.Mem.head _)).cell 0
      have bhz0 : wr.frozen? ⟨w.heap.size + 1 + 1, 0, none⟩ = false := (H5.out.f (List.Mem.head _)).frozen 0
      have bh1 : wr.cell? ⟨w.heap.size + 1 + 1, 1, none⟩ = some (S (f 4).l) := (H5.out.f (List.Mem.head _)).cell 1
      have bhz1 : wr.frozen? ⟨w.heap.size + 1 + 1, 1, none⟩ = false := (H5.out.f (List.Mem.head _)).frozen 1
      have bh2 : wr.cell? ⟨w.heap.size + 1 + 1, 2, none⟩ = some (.int .i64 (f 4).e) := (H5.out.f (List.Mem.head _)).cell 2
      have bhz2 : wr.frozen? ⟨w.heap.size + 1 + 1, 2, none⟩ = false := (H5.out.f (List.Mem.head _)).frozen 2
      have bhl : w.heap.size + 1 + 1 < wr.heap.size := (H5.out.f (List.Mem.head _)).lt
      have bu0 : wr.cell? ⟨w.heap.size + 1, 0, none⟩ = some (.bool u.neg) := (H5.out.f (List.Mem.tail _ (List.Mem.head _))).cell 0
      have bu1 : wr.cell? ⟨w.heap.size + 1, 1, none⟩ = some (S u.l) := (H5.out.f (List.Mem.tail _ (List.Mem.head _))).cell 1
      have bu2 : wr.cell? ⟨w.heap.size + 1, 2, none⟩ = some (.int .i64 u.e) := (H5.out.f (List.Mem.tail _ (List.Mem.head _))).cell 2
      have bul : w.heap.size + 1 < wr.heap.size := (H5.out.f (List.Mem.tail _ (List.Mem.head _))).lt
      go_wp2_with fail
      with_reducible refine (scale_T (f 4) (-1) g _ (fl 4 (by decide)) HSC.out).mono ?_
      rintro x w6 ⟨rfl, hb⟩
      clear bh0 bhz0 bh1 bhz1 bh2 bhz2 bhl bu0 bu1 bu2 bul
      have H6 : Hid (HeldL w [(w.heap.size + 1 + 1, #[.bool (f 4).neg, S (f 4).l, .int .i64 (f 4).e]), (w.heap.size + 1, #[.bool u.neg, S u.l, .int .i64 u.e]), (w.heap.size, #[.bool r.neg, S r.l, .int .i64 r.e])] w6) := Lib.hid (HeldL.keep H5.out hb)
      clear H5
      clear hb
      have bh0 : w6.cell? ⟨w.heap.size + 1 + 1, 0, none⟩ = some (.bool (f 4).neg) := (H6.out.f (List.Mem.head _)).cell 0
      have bhz0 : w6.frozen? ⟨w.heap.size + 1 + 1, 0, none⟩ = false := (H6.out.f (List.Mem.head _)).frozen 0
      have bh1 : w6.cell? ⟨w.heap.size + 1 + 1, 1, none⟩ = some (S (f 4).l) := (H6.out.f (List.Mem.head _)).cell 1
      have bhz1 : w6.frozen? ⟨w.heap.size + 1 + 1, 1, none⟩ = false := (H6.out.f (List.Mem.head _)).frozen 1
      have bh2 : w6.cell? ⟨w.heap.size + 1 + 1, 2, none⟩ = some (.int .i64 (f 4).e) := (H6.out.f (List.Mem.head _)).cell 2
      have bhz2 : w6.frozen? ⟨w.heap.size + 1 + 1, 2, none⟩ = false := (H6.out.f (List.Mem.head _)).frozen 2
      have bhl : w.heap.size + 1 + 1 < w6.heap.size := (H6.out.f (List.Mem.head _)).lt
      have bu0 : w6.cell? ⟨w.heap.size + 1, 0, none⟩ = some (.bool u.neg) := (H6.out.f (List.Mem.tail _ (List.Mem.head _))).cell 0
      have bu1 : w6.cell? ⟨w.heap.size + 1, 1, none⟩ = some (S u.l) := (H6.out.f (List.Mem.tail _ (List.Mem.head _))).cell 1
      have bu2 : w6.cell? ⟨w.heap.size + 1, 2, none⟩ = some (.int .i64 u.e) := (H6.out.f (List.Mem.tail _ (List.Mem.head _))).cell 2
      have bul : w.heap.size + 1 < w6.heap.size := (H6.out.f (List.Mem.tail _ (List.Mem.head _))).lt
      go_wp2_with fail
      clear bh0 bhz0 bh1 bhz1 bh2 bhz2 bhl bu0 bu1 bu2 bul
      have H7 : Hid (HeldL w [(w.heap.size + 1 + 1, #[.bool g.neg, S g.l, .int .i64 g.e]), (w.heap.size + 1, #[.bool u.neg, S u.l, .int .i64 u.e]), (w.heap.size, #[.bool r.neg, S r.l, .int .i64 r.e])] (((w6.setCell ⟨w.heap.size + 1 + 1, 0, none⟩ (.bool g.neg)).setCell ⟨w.heap.size + 1 + 1, 1, none⟩ (S g.l)).setCell ⟨w.heap.size + 1 + 1, 2, none⟩ (.int .i64 g.e))) := Lib.hid (HeldL.store3 [] [(w.heap.size + 1, #[.bool u.neg, S u.l, .int .i64 u.e]), (w.heap.size, #[.bool r.neg, S r.l, .int .i64 r.e])] (H6.out) (.bool g.neg) (S g.l) (.int .i64 g.e))
      generalize (((w6.setCell ⟨w.heap.size + 1 + 1, 0, none⟩ (.bool g.neg)).setCell ⟨w.heap.size + 1 + 1, 1, none⟩ (S g.l)).setCell ⟨w.heap.size + 1 + 1, 2, none⟩ (.int .i64 g.e)) = w7 at *
      clear H6
      have bh0 : w7.cell? ⟨w.heap.size + 1 + 1, 0, none⟩ = some (.bool g.neg) := (H7.out.f (List.Mem.head _)).cell 0
      have bh1 : w7.cell? ⟨w.heap.size + 1 + 1, 1, none⟩ = some (S g.l) := (H7.out.f (List.Mem.head _)).cell 1
      have bh2 : w7.cell? ⟨w.heap.size + 1 + 1, 2, none⟩ = some (.int .i64 g.e) := (H7.out.f (List.Mem.head _)).cell 2
      have bhl : w.heap.size + 1 + 1 < w7.heap.size := (H7.out.f (List.Mem.head _)).lt
      have bu0 : w7.cell? ⟨w.heap.size + 1, 0, none⟩ = some (.bool u.neg) := (H7.out.f (List.Mem.tail _ (List.Mem.head _))).cell 0
      have bu1 : w7.cell? ⟨w.heap.size + 1, 1, none⟩ = some (S u.l) := (H7.out.f (List.Mem.tail _ (List.Mem.head _))).cell 1
      have bu2 : w7.cell? ⟨w.heap.size + 1, 2, none⟩ = some (.int .i64 u.e) := (H7.out.f (List.Mem.tail _ (List.Mem.head _))).cell 2
      have bul : w.heap.size + 1 < w7.heap.size := (H7.out.f (List.Mem.tail _ (List.Mem.head _))).lt
      with_reducible refine (lmul_T g u true _ gl ul g1 g2 HM.out).mono ?_
      rintro x w8 ⟨rfl, hb⟩
      clear bh0 bh1 bh2 bhl bu0 bu1 bu2 bul
      have H8 : Hid (HeldL w [(w.heap.size + 1 + 1, #[.bool g.neg, S g.l, .int .i64 g.e]), (w.heap.size + 1, #[.bool u.neg, S u.l, .int .i64 u.e]), (w.heap.size, #[.bool r.neg, S r.l, .int .i64 r.e])] w8) := Lib.hid (HeldL.keep H7.out hb)
      clear H7
      clear hb
      go_wp2
      go_ret
      exact ⟨rfl, H8.out.bel⟩
    · have i4 : (i : Int) < 4 := by omega
      have bh0 : wr.cell? ⟨w.heap.size + 1 + 1, 0, none⟩ = some (.bool (f i).neg) := (H5.out.f (List.Mem.head _)).cell 0
      have bhz0 : wr.frozen? ⟨w.heap.size + 1 + 1, 0, none⟩ = false := (H5.out.f (List.Mem.head _)).frozen 0
      have bh1 : wr.cell? ⟨w.heap.size + 1 + 1, 1, none⟩ = some (S (f i).l) := (H5.out.f (List.Mem.head _)).cell 1
      have bhz1 : wr.frozen? ⟨w.heap.size + 1 + 1, 1, none⟩ = false := (H5.out.f (List.Mem.head _)).frozen 1
      have bh2 : wr.cell? ⟨w.heap.size + 1 + 1, 2, none⟩ = some (.int .i64 (f i).e) := (H5.out.f (List.Mem.head _)).cell 2
      have bhz2 : wr.frozen? ⟨w.heap.size + 1 + 1, 2, none⟩ = false := (H5.out.f (List.Mem.head _)).frozen 2
      have bhl : w.heap.size + 1 + 1 < wr.heap.size := (H5.out.f (List.Mem.head _)).lt
      have bx0 : wr.cell? ⟨w.heap.size, 0, none⟩ = some (.bool r.neg) := (H5.out.f (List.Mem.tail _ (List.Mem.tail _ (List.Mem.head _)))).cell 0
      have bx1 : wr.cell? ⟨w.heap.size, 1, none⟩ = some (S r.l) := (H5.out.f (List.Mem.tail _ (List.Mem.tail _ (List.Mem.head _)))).cell 1
      have bx2 : wr.cell? ⟨w.heap.size, 2, none⟩ = some (.int .i64 r.e) := (H5.out.f (List.Mem.tail _ (List.Mem.tail _ (List.Mem.head _)))).cell 2
      have bxl : w.heap.size < wr.heap.size := (H5.out.f (List.Mem.tail _ (List.Mem.tail _ (List.Mem.head _)))).lt
      go_wp2_with fail
      with_reducible refine (add_T (f i) r (f (i + 1)) _ (fl i hi) rl (HA.out i (by omega))).mono ?_
      rintro x w6 ⟨rfl, hb⟩
      clear bh0 bhz0 bh1 bhz1 bh2 bhz2 bhl bx0 bx1 bx2 bxl
      have H6 : Hid (HeldL w [(w.heap.size + 1 + 1, #[.bool (f i).neg, S (f i).l, .int .i64 (f i).e]), (w.heap.size + 1, #[.bool u.neg, S u.l, .int .i64 u.e]), (w.heap.size, #[.bool r.neg, S r.l, .int .i64 r.e])] w6) := Lib.hid (HeldL.keep H5.out hb)
      clear H5
      clear hb
      have bh0 : w6.cell? ⟨w.heap.size + 1 + 1, 0, none⟩ = some (.bool (f i).neg) := (H6.out.f (List.Mem.head _)).cell 0
      have bhz0 : w6.frozen? ⟨w.heap.size + 1 + 1, 0, none⟩ = false := (H6.out.f (List.Mem.head _)).frozen 0
      have bh1 : w6.cell? ⟨w.heap.size + 1 + 1, 1, none⟩ = some (S (f i).l) := (H6.out.f (List.Mem.head _)).cell 1
      have bhz1 : w6.frozen? ⟨w.heap.size + 1 + 1, 1, none⟩ = false := (H6.out.f (List.Mem.head _)).frozen 1
      have bh2 : w6.cell? ⟨w.heap.size + 1 + 1, 2, none⟩ = some (.int .i64 (f i).e) := (H6.out.f (List.Mem.head _)).cell 2
      have bhz2 : w6.frozen? ⟨w.heap.size + 1 + 1, 2, none⟩ = false := (H6.out.f (List.Mem.head _)).frozen 2
      have bhl : w.heap.size + 1 + 1 < w6.heap.size := (H6.out.f (List.Mem.head _)).lt
      have bx0 : w6.cell? ⟨w.heap.size, 0, none⟩ = some (.bool r.neg) := (H6.out.f (List.Mem.tail _ (List.Mem.tail _ (List.Mem.head _)))).cell 0
      have bx1 : w6.cell? ⟨w.heap.size, 1, none⟩ = some (S r.l) := (H6.out.f (List.Mem.tail _ (List.Mem.tail _ (List.Mem.head _)))).cell 1
      have bx2 : w6.cell? ⟨w.heap.size, 2, none⟩ = some (.int .i64 r.e) := (H6.out.f (List.Mem.tail _ (List.Mem.tail _ (List.Mem.head _)))).cell 2
      have bxl : w.heap.size < w6.heap.size := (H6.out.f (List.Mem.tail _ (List.Mem.tail _ (List.Mem.head _)))).lt
      go_wp2
      go_roundw
      case rel => exact ⟨i + 1, by omega, by go_num, HeldL.store3 [] [(w.heap.size + 1, #[.bool u.neg, S u.l, .int .i64 u.e]), (w.heap.size, #[.bool r.neg, S r.l, .int .i64 r.e])] H6.out _ _ _⟩
      case measure => simp [intOf]; omega

end Go.Proofs.YtfbfjkacaadbpaaGreatDoor

namespace Go.Proofs.YtfbfjkacaadbpaaGreatDoor
open Go.RowKit Florin
set_option linter.unusedVariables false
set_option linter.unusedSimpArgs false
attribute [local go_sem ↓] Go.wp_at_zero Go.wp_at_succ eq_V ne_V

set_option maxRecDepth 100000 in
set_option maxHeartbeats 3200000 in
theorem rounded_eq (x r u x2 : Tri) (m : Int) (w : World) (xl : x.l.length ≤ 100000) (rl : r.l.length ≤ 100000) (ul : u.l.length ≤ 100000) (x2l : x2.l.length ≤ 100000) (re1 : -40000 ≤ r.e) (re2 : r.e ≤ 40000) (hx : made x.neg x.l x.e = x2) (hm : LMul r u true) (d : Tri) (dl : d.l.length ≤ 100000) (hd : SubIs x2 r d) (hz : (made d.neg d.l d.e).l.isEmpty = true) (he : r = x2) :
    Calls Tryz.prog 12 #[V x, V r, V u, .int .i64 m] w fun z w' => z = .returned (.bool true) ∧ Below w.heap.size w w' := by
  have HX := Lib.hid hx
  have HM := Lib.hid hm
  have HD := Lib.hid hd
  have HZ := Lib.hid hz
  have eb : decide (r = x2) = true := by simp [he]
  clear hx hm hd hz he
  go_enter Tryz.func12, Tryz.ntmps12
  go_wp2_with fail
  with_reducible refine (norm_T x x2 _ xl HX.out).mono ?_
  rintro x w1 ⟨rfl, hb⟩
  have H1 : Hid (HeldL w [(w.heap.size + 1 + 1, #[.bool u.neg, S u.l, .int .i64 u.e]), (w.heap.size + 1, #[.bool r.neg, S r.l, .int .i64 r.e]), (w.heap.size, #[.bool x.neg, S x.l, .int .i64 x.e])] w1) := Lib.hid (HeldL.keep (HeldL.alloc (HeldL.alloc (HeldL.alloc (HeldL.refl w) (w.heap.size) #[.bool x.neg, S x.l, .int .i64 x.e] 31 (by simp)) (w.heap.size + 1) #[.bool r.neg, S r.l, .int .i64 r.e] 31 (by simp)) (w.heap.size + 1 + 1) #[.bool u.neg, S u.l, .int .i64 u.e] 31 (by simp)) hb)
  clear hb
  have bx0 : w1.cell? ⟨w.heap.size, 0, none⟩ = some (.bool x.neg) := (H1.out.f (List.Mem.tail _ (List.Mem.tail _ (List.Mem.head _)))).cell 0
  have bxz0 : w1.frozen? ⟨w.heap.size, 0, none⟩ = false := (H1.out.f (List.Mem.tail _ (List.Mem.tail _ (List.Mem.head _)))).frozen 0
  have bx1 : w1.cell? ⟨w.heap.size, 1, none⟩ = some (S x.l) := (H1.out.f (List.Mem.tail _ (List.Mem.tail _ (List.Mem.head _)))).cell 1
  have bxz1 : w1.frozen? ⟨w.heap.size, 1, none⟩ = false := (H1.out.f (List.Mem.tail _ (List.Mem.tail _ (List.Mem.head _)))).frozen 1
  have bx2 : w1.cell? ⟨w.heap.size, 2, none⟩ = some (.int .i64 x.e) := (H1.out.f (List.Mem.tail _ (List.Mem.tail _ (List.Mem.head _)))).cell 2
  have bxz2 : w1.frozen? ⟨w.heap.size, 2, none⟩ = false := (H1.out.f (List.Mem.tail _ (List.Mem.tail _ (List.Mem.head _)))).frozen 2
  have bxl : w.heap.size < w1.heap.size := (H1.out.f (List.Mem.tail _ (List.Mem.tail _ (List.Mem.head _)))).lt
  have br0 : w1.cell? ⟨w.heap.size + 1, 0, none⟩ = some (.bool r.neg) := (H1.out.f (List.Mem.tail _ (List.Mem.head _))).cell 0
  have br1 : w1.cell? ⟨w.heap.size + 1, 1, none⟩ = some (S r.l) := (H1.out.f (List.Mem.tail _ (List.Mem.head _))).cell 1
  have br2 : w1.cell? ⟨w.heap.size + 1, 2, none⟩ = some (.int .i64 r.e) := (H1.out.f (List.Mem.tail _ (List.Mem.head _))).cell 2
  have brl : w.heap.size + 1 < w1.heap.size := (H1.out.f (List.Mem.tail _ (List.Mem.head _))).lt
  have bu0 : w1.cell? ⟨w.heap.size + 1 + 1, 0, none⟩ = some (.bool u.neg) := (H1.out.f (List.Mem.head _)).cell 0
  have bu1 : w1.cell? ⟨w.heap.size + 1 + 1, 1, none⟩ = some (S u.l) := (H1.out.f (List.Mem.head _)).cell 1
  have bu2 : w1.cell? ⟨w.heap.size + 1 + 1, 2, none⟩ = some (.int .i64 u.e) := (H1.out.f (List.Mem.head _)).cell 2
  have bul : w.heap.size + 1 + 1 < w1.heap.size := (H1.out.f (List.Mem.head _)).lt
  go_wp2_with fail
  clear bx0 bxz0 bx1 bxz1 bx2 bxz2 bxl br0 br1 br2 brl bu0 bu1 bu2 bul
  have H2 : Hid (HeldL w [(w.heap.size + 1 + 1, #[.bool u.neg, S u.l, .int .i64 u.e]), (w.heap.size + 1, #[.bool r.neg, S r.l, .int .i64 r.e]), (w.heap.size, #[.bool x2.neg, S x2.l, .int .i64 x2.e])] (((w1.setCell ⟨w.heap.size, 0, none⟩ (.bool x2.neg)).setCell ⟨w.heap.size, 1, none⟩ (S x2.l)).setCell ⟨w.heap.size, 2, none⟩ (.int .i64 x2.e))) := Lib.hid (HeldL.store3 [(w.heap.size + 1 + 1, #[.bool u.neg, S u.l, .int .i64 u.e]), (w.heap.size + 1, #[.bool r.neg, S r.l, .int .i64 r.e])] [] (H1.out) (.bool x2.neg) (S x2.l) (.int .i64 x2.e))
  generalize (((w1.setCell ⟨w.heap.size, 0, none⟩ (.bool x2.neg)).setCell ⟨w.heap.size, 1, none⟩ (S x2.l)).setCell ⟨w.heap.size, 2, none⟩ (.int .i64 x2.e)) = w2 at *
  clear H1
  have bx0 : w2.cell? ⟨w.heap.size, 0, none⟩ = some (.bool x2.neg) := (H2.out.f (List.Mem.tail _ (List.Mem.tail _ (List.Mem.head _)))).cell 0
  have bx1 : w2.cell? ⟨w.heap.size, 1, none⟩ = some (S x2.l) := (H2.out.f (List.Mem.tail _ (List.Mem.tail _ (List.Mem.head _)))).cell 1
  have bx2 : w2.cell? ⟨w.heap.size, 2, none⟩ = some (.int .i64 x2.e) := (H2.out.f (List.Mem.tail _ (List.Mem.tail _ (List.Mem.head _)))).cell 2
  have bxl : w.heap.size < w2.heap.size := (H2.out.f (List.Mem.tail _ (List.Mem.tail _ (List.Mem.head _)))).lt
  have br0 : w2.cell? ⟨w.heap.size + 1, 0, none⟩ = some (.bool r.neg) := (H2.out.f (List.Mem.tail _ (List.Mem.head _))).cell 0
  have br1 : w2.cell? ⟨w.heap.size + 1, 1, none⟩ = some (S r.l) := (H2.out.f (List.Mem.tail _ (List.Mem.head _))).cell 1
  have br2 : w2.cell? ⟨w.heap.size + 1, 2, none⟩ = some (.int .i64 r.e) := (H2.out.f (List.Mem.tail _ (List.Mem.head _))).cell 2
  have brl : w.heap.size + 1 < w2.heap.size := (H2.out.f (List.Mem.tail _ (List.Mem.head _))).lt
  have bu0 : w2.cell? ⟨w.heap.size + 1 + 1, 0, none⟩ = some (.bool u.neg) := (H2.out.f (List.Mem.head _)).cell 0
  have bu1 : w2.cell? ⟨w.heap.size + 1 + 1, 1, none⟩ = some (S u.l) := (H2.out.f (List.Mem.head _)).cell 1
  have bu2 : w2.cell? ⟨w.heap.size + 1 + 1, 2, none⟩ = some (.int .i64 u.e) := (H2.out.f (List.Mem.head _)).cell 2
  have bul : w.heap.size + 1 + 1 < w2.heap.size := (H2.out.f (List.Mem.head _)).lt
  with_reducible refine (lmul_T r u true _ rl ul re1 re2 HM.out).mono ?_
  rintro x w3 ⟨rfl, hb⟩
  clear bx0 bx1 bx2 bxl br0 br1 br2 brl bu0 bu1 bu2 bul
  have H3 : Hid (HeldL w [(w.heap.size + 1 + 1, #[.bool u.neg, S u.l, .int .i64 u.e]), (w.heap.size + 1, #[.bool r.neg, S r.l, .int .i64 r.e]), (w.heap.size, #[.bool x2.neg, S x2.l, .int .i64 x2.e])] w3) := Lib.hid (HeldL.keep H2.out hb)
  clear H2
  clear hb
  have bx0 : w3.cell? ⟨w.heap.size, 0, none⟩ = some (.bool x2.neg) := (H3.out.f (List.Mem.tail _ (List.Mem.tail _ (List.Mem.head _)))).cell 0
  have bx1 : w3.cell? ⟨w.heap.size, 1, none⟩ = some (S x2.l) := (H3.out.f (List.Mem.tail _ (List.Mem.tail _ (List.Mem.head _)))).cell 1
  have bx2 : w3.cell? ⟨w.heap.size, 2, none⟩ = some (.int .i64 x2.e) := (H3.out.f (List.Mem.tail _ (List.Mem.tail _ (List.Mem.head _)))).cell 2
  have bxl : w.heap.size < w3.heap.size := (H3.out.f (List.Mem.tail _ (List.Mem.tail _ (List.Mem.head _)))).lt
  have br0 : w3.cell? ⟨w.heap.size + 1, 0, none⟩ = some (.bool r.neg) := (H3.out.f (List.Mem.tail _ (List.Mem.head _))).cell 0
  have br1 : w3.cell? ⟨w.heap.size + 1, 1, none⟩ = some (S r.l) := (H3.out.f (List.Mem.tail _ (List.Mem.head _))).cell 1
  have br2 : w3.cell? ⟨w.heap.size + 1, 2, none⟩ = some (.int .i64 r.e) := (H3.out.f (List.Mem.tail _ (List.Mem.head _))).cell 2
  have brl : w.heap.size + 1 < w3.heap.size := (H3.out.f (List.Mem.tail _ (List.Mem.head _))).lt
  have bu0 : w3.cell? ⟨w.heap.size + 1 + 1, 0, none⟩ = some (.bool u.neg) := (H3.out.f (List.Mem.head _)).cell 0
  have bu1 : w3.cell? ⟨w.heap.size + 1 + 1, 1, none⟩ = some (S u.l) := (H3.out.f (List.Mem.head _)).cell 1
  have bu2 : w3.cell? ⟨w.heap.size + 1 + 1, 2, none⟩ = some (.int .i64 u.e) := (H3.out.f (List.Mem.head _)).cell 2
  have bul : w.heap.size + 1 + 1 < w3.heap.size := (H3.out.f (List.Mem.head _)).lt
  go_wp2_with fail
  with_reducible refine (sub_T x2 r d _ x2l rl HD.out).mono ?_
  rintro x w4 ⟨rfl, hb⟩
  clear bx0 bx1 bx2 bxl br0 br1 br2 brl bu0 bu1 bu2 bul
  have H4 : Hid (HeldL w [(w.heap.size + 1 + 1, #[.bool u.neg, S u.l, .int .i64 u.e]), (w.heap.size + 1, #[.bool r.neg, S r.l, .int .i64 r.e]), (w.heap.size, #[.bool x2.neg, S x2.l, .int .i64 x2.e])] w4) := Lib.hid (HeldL.keep H3.out hb)
  clear H3
  clear hb
  have bx0 : w4.cell? ⟨w.heap.size, 0, none⟩ = some (.bool x2.neg) := (H4.out.f (List.Mem.tail _ (List.Mem.tail _ (List.Mem.head _)))).cell 0
  have bx1 : w4.cell? ⟨w.heap.size, 1, none⟩ = some (S x2.l) := (H4.out.f (List.Mem.tail _ (List.Mem.tail _ (List.Mem.head _)))).cell 1
  have bx2 : w4.cell? ⟨w.heap.size, 2, none⟩ = some (.int .i64 x2.e) := (H4.out.f (List.Mem.tail _ (List.Mem.tail _ (List.Mem.head _)))).cell 2
  have bxl : w.heap.size < w4.heap.size := (H4.out.f (List.Mem.tail _ (List.Mem.tail _ (List.Mem.head _)))).lt
  have br0 : w4.cell? ⟨w.heap.size + 1, 0, none⟩ = some (.bool r.neg) := (H4.out.f (List.Mem.tail _ (List.Mem.head _))).cell 0
  have br1 : w4.cell? ⟨w.heap.size + 1, 1, none⟩ = some (S r.l) := (H4.out.f (List.Mem.tail _ (List.Mem.head _))).cell 1
  have br2 : w4.cell? ⟨w.heap.size + 1, 2, none⟩ = some (.int .i64 r.e) := (H4.out.f (List.Mem.tail _ (List.Mem.head _))).cell 2
  have brl : w.heap.size + 1 < w4.heap.size := (H4.out.f (List.Mem.tail _ (List.Mem.head _))).lt
  have bu0 : w4.cell? ⟨w.heap.size + 1 + 1, 0, none⟩ = some (.bool u.neg) := (H4.out.f (List.Mem.head _)).cell 0
  have bu1 : w4.cell? ⟨w.heap.size + 1 + 1, 1, none⟩ = some (S u.l) := (H4.out.f (List.Mem.head _)).cell 1
  have bu2 : w4.cell? ⟨w.heap.size + 1 + 1, 2, none⟩ = some (.int .i64 u.e) := (H4.out.f (List.Mem.head _)).cell 2
  have bul : w.heap.size + 1 + 1 < w4.heap.size := (H4.out.f (List.Mem.head _)).lt
  go_wp2_with fail
  with_reducible refine (zero_T d true _ dl HZ.out).mono ?_
  rintro x w5 ⟨rfl, hb⟩
  clear bx0 bx1 bx2 bxl br0 br1 br2 brl bu0 bu1 bu2 bul
  have H5 : Hid (HeldL w [(w4.heap.size, #[.bool d.neg, S d.l, .int .i64 d.e]), (w.heap.size + 1 + 1, #[.bool u.neg, S u.l, .int .i64 u.e]), (w.heap.size + 1, #[.bool r.neg, S r.l, .int .i64 r.e]), (w.heap.size, #[.bool x2.neg, S x2.l, .int .i64 x2.e])] w5) := Lib.hid (HeldL.keep (HeldL.alloc H4.out (w4.heap.size) #[.bool d.neg, S d.l, .int .i64 d.e] 31 (by simp)) hb)
  clear H4
  clear hb
  have bx0 : w5.cell? ⟨w.heap.size, 0, none⟩ = some (.bool x2.neg) := (H5.out.f (List.Mem.tail _ (List.Mem.tail _ (List.Mem.tail _ (List.Mem.head _))))).cell 0
  have bx1 : w5.cell? ⟨w.heap.size, 1, none⟩ = some (S x2.l) := (H5.out.f (List.Mem.tail _ (List.Mem.tail _ (List.Mem.tail _ (List.Mem.head _))))).cell 1
  have bx2 : w5.cell? ⟨w.heap.size, 2, none⟩ = some (.int .i64 x2.e) := (H5.out.f (List.Mem.tail _ (List.Mem.tail _ (List.Mem.tail _ (List.Mem.head _))))).cell 2
  have bxl : w.heap.size < w5.heap.size := (H5.out.f (List.Mem.tail _ (List.Mem.tail _ (List.Mem.tail _ (List.Mem.head _))))).lt
  have br0 : w5.cell? ⟨w.heap.size + 1, 0, none⟩ = some (.bool r.neg) := (H5.out.f (List.Mem.tail _ (List.Mem.tail _ (List.Mem.head _)))).cell 0
  have br1 : w5.cell? ⟨w.heap.size + 1, 1, none⟩ = some (S r.l) := (H5.out.f (List.Mem.tail _ (List.Mem.tail _ (List.Mem.head _)))).cell 1
  have br2 : w5.cell? ⟨w.heap.size + 1, 2, none⟩ = some (.int .i64 r.e) := (H5.out.f (List.Mem.tail _ (List.Mem.tail _ (List.Mem.head _)))).cell 2
  have brl : w.heap.size + 1 < w5.heap.size := (H5.out.f (List.Mem.tail _ (List.Mem.tail _ (List.Mem.head _)))).lt
  go_wp2
  go_ret
  exact ⟨rfl, H5.out.bel⟩

set_option maxRecDepth 100000 in
set_option maxHeartbeats 6400000 in
theorem rounded_ne (x r u x2 : Tri) (m : Int) (w : World) (xl : x.l.length ≤ 100000) (rl : r.l.length ≤ 100000) (ul : u.l.length ≤ 100000) (x2l : x2.l.length ≤ 100000) (re1 : -40000 ≤ r.e) (re2 : r.e ≤ 40000) (hx : made x.neg x.l x.e = x2) (hm : LMul r u true) (d ad ar ax tw : Tri) (dl : d.l.length ≤ 100000) (adl : ad.l.length ≤ 100000) (arl : ar.l.length ≤ 100000) (axl : ax.l.length ≤ 100000) (twl : tw.l.length ≤ 100000) (xe1 : -40000 ≤ x2.e) (xe2 : x2.e ≤ 40000) (hd : SubIs x2 r d) (hz : (made d.neg d.l d.e).l.isEmpty = false) (hn : LMul x2 u false)
    (had : made false d.l d.e = ad) (har : made false r.l r.e = ar) (hax : made false x2.l x2.e = ax) (c0 co c : Int) (hc0 : CmpIs ad u c0) (c0n : c0 < 0) (hco : CmpIs ar ax co) (htw : AddIs ad ad tw) (hc : CmpIs tw u c) (o : Bool) (ho : decide (0 < co) = o) (ev : Prop) (hev : ev → ∀ w : World, Calls Tryz.prog 39 #[V r, V u] w fun z w' => z = .returned (.bool true) ∧ Below w.heap.size w w')
    (hans : (m = 3 ∧ o = true) ∨ (m = 4 ∧ o = false) ∨ (m = 5 ∧ d.neg = true) ∨ (m = 6 ∧ d.neg = false) ∨ ((m = 0 ∨ m = 1 ∨ m = 2) ∧ c < 0) ∨ (m = 1 ∧ c = 0 ∧ o = true) ∨ (m = 2 ∧ c = 0 ∧ o = false) ∨ (m = 0 ∧ c = 0 ∧ ev)) :
    Calls Tryz.prog 12 #[V x, V r, V u, .int .i64 m] w fun z w' => z = .returned (.bool true) ∧ Below w.heap.size w w' := by
  have HX := Lib.hid hx
  have HM := Lib.hid hm
  have HD := Lib.hid hd
  have HZ := Lib.hid hz
  have HN := Lib.hid hn
  have HAD := Lib.hid had
  have HAR := Lib.hid har
  have HAX := Lib.hid hax
  have HC0 := Lib.hid hc0
  have HCO := Lib.hid hco
  have HTW := Lib.hid htw
  have HC := Lib.hid hc
  have HEV := Lib.hid hev
  have HANS := Lib.hid hans
  have cb0 : decide (0 ≤ c0) = false := by simp; omega
  have cbo : decide (0 < co) = o := ho
  clear hx hm hd hz hn had har hax hc0 hco htw hc hev hans ho
  go_enter Tryz.func12, Tryz.ntmps12
  go_wp2_with fail
  with_reducible refine (norm_T x x2 _ xl HX.out).mono ?_
  rintro x w1 ⟨rfl, hb⟩
  have H1 : Hid (HeldL w [(w.heap.size + 1 + 1, #[.bool u.neg, S u.l, .int .i64 u.e]), (w.heap.size + 1, #[.bool r.neg, S r.l, .int .i64 r.e]), (w.heap.size, #[.bool x.neg, S x.l, .int .i64 x.e])] w1) := Lib.hid (HeldL.keep (HeldL.alloc (HeldL.alloc (HeldL.alloc (HeldL.refl w) (w.heap.size) #[.bool x.neg, S x.l, .int .i64 x.e] 31 (by simp)) (w.heap.size + 1) #[.bool r.neg, S r.l, .int .i64 r.e] 31 (by simp)) (w.heap.size + 1 + 1) #[.bool u.neg, S u.l, .int .i64 u.e] 31 (by simp)) hb)
  clear hb
  have bx0 : w1.cell? ⟨w.heap.size, 0, none⟩ = some (.bool x.neg) := (H1.out.f (List.Mem.tail _ (List.Mem.tail _ (List.Mem.head _)))).cell 0
  have bxz0 : w1.frozen? ⟨w.heap.size, 0, none⟩ = false := (H1.out.f (List.Mem.tail _ (List.Mem.tail _ (List.Mem.head _)))).frozen 0
  have bx1 : w1.cell? ⟨w.heap.size, 1, none⟩ = some (S x.l) := (H1.out.f (List.Mem.tail _ (List.Mem.tail _ (List.Mem.head _)))).cell 1
  have bxz1 : w1.frozen? ⟨w.heap.size, 1, none⟩ = false := (H1.out.f (List.Mem.tail _ (List.Mem.tail _ (List.Mem.head _)))).frozen 1
  have bx2 : w1.cell? ⟨w.heap.size, 2, none⟩ = some (.int .i64 x.e) := (H1.out.f (List.Mem.tail _ (List.Mem.tail _ (List.Mem.head _)))).cell 2
  have bxz2 : w1.frozen? ⟨w.heap.size, 2, none⟩ = false := (H1.out.f (List.Mem.tail _ (List.Mem.tail _ (List.Mem.head _)))).frozen 2
  have bxl : w.heap.size < w1.heap.size := (H1.out.f (List.Mem.tail _ (List.Mem.tail _ (List.Mem.head _)))).lt
  have br0 : w1.cell? ⟨w.heap.size + 1, 0, none⟩ = some (.bool r.neg) := (H1.out.f (List.Mem.tail _ (List.Mem.head _))).cell 0
  have br1 : w1.cell? ⟨w.heap.size + 1, 1, none⟩ = some (S r.l) := (H1.out.f (List.Mem.tail _ (List.Mem.head _))).cell 1
  have br2 : w1.cell? ⟨w.heap.size + 1, 2, none⟩ = some (.int .i64 r.e) := (H1.out.f (List.Mem.tail _ (List.Mem.head _))).cell 2
  have brl : w.heap.size + 1 < w1.heap.size := (H1.out.f (List.Mem.tail _ (List.Mem.head _))).lt
  have bu0 : w1.cell? ⟨w.heap.size + 1 + 1, 0, none⟩ = some (.bool u.neg) := (H1.out.f (List.Mem.head _)).cell 0
  have bu1 : w1.cell? ⟨w.heap.size + 1 + 1, 1, none⟩ = some (S u.l) := (H1.out.f (List.Mem.head _)).cell 1
  have bu2 : w1.cell? ⟨w.heap.size + 1 + 1, 2, none⟩ = some (.int .i64 u.e) := (H1.out.f (List.Mem.head _)).cell 2
  have bul : w.heap.size + 1 + 1 < w1.heap.size := (H1.out.f (List.Mem.head _)).lt
  go_wp2_with fail
  clear bx0 bxz0 bx1 bxz1 bx2 bxz2 bxl br0 br1 br2 brl bu0 bu1 bu2 bul
  have H2 : Hid (HeldL w [(w.heap.size + 1 + 1, #[.bool u.neg, S u.l, .int .i64 u.e]), (w.heap.size + 1, #[.bool r.neg, S r.l, .int .i64 r.e]), (w.heap.size, #[.bool x2.neg, S x2.l, .int .i64 x2.e])] (((w1.setCell ⟨w.heap.size, 0, none⟩ (.bool x2.neg)).setCell ⟨w.heap.size, 1, none⟩ (S x2.l)).setCell ⟨w.heap.size, 2, none⟩ (.int .i64 x2.e))) := Lib.hid (HeldL.store3 [(w.heap.size + 1 + 1, #[.bool u.neg, S u.l, .int .i64 u.e]), (w.heap.size + 1, #[.bool r.neg, S r.l, .int .i64 r.e])] [] (H1.out) (.bool x2.neg) (S x2.l) (.int .i64 x2.e))
  generalize (((w1.setCell ⟨w.heap.size, 0, none⟩ (.bool x2.neg)).setCell ⟨w.heap.size, 1, none⟩ (S x2.l)).setCell ⟨w.heap.size, 2, none⟩ (.int .i64 x2.e)) = w2 at *
  clear H1
  have bx0 : w2.cell? ⟨w.heap.size, 0, none⟩ = some (.bool x2.neg) := (H2.out.f (List.Mem.tail _ (List.Mem.tail _ (List.Mem.head _)))).cell 0
  have bx1 : w2.cell? ⟨w.heap.size, 1, none⟩ = some (S x2.l) := (H2.out.f (List.Mem.tail _ (List.Mem.tail _ (List.Mem.head _)))).cell 1
  have bx2 : w2.cell? ⟨w.heap.size, 2, none⟩ = some (.int .i64 x2.e) := (H2.out.f (List.Mem.tail _ (List.Mem.tail _ (List.Mem.head _)))).cell 2
  have bxl : w.heap.size < w2.heap.size := (H2.out.f (List.Mem.tail _ (List.Mem.tail _ (List.Mem.head _)))).lt
  have br0 : w2.cell? ⟨w.heap.size + 1, 0, none⟩ = some (.bool r.neg) := (H2.out.f (List.Mem.tail _ (List.Mem.head _))).cell 0
  have br1 : w2.cell? ⟨w.heap.size + 1, 1, none⟩ = some (S r.l) := (H2.out.f (List.Mem.tail _ (List.Mem.head _))).cell 1
  have br2 : w2.cell? ⟨w.heap.size + 1, 2, none⟩ = some (.int .i64 r.e) := (H2.out.f (List.Mem.tail _ (List.Mem.head _))).cell 2
  have brl : w.heap.size + 1 < w2.heap.size := (H2.out.f (List.Mem.tail _ (List.Mem.head _))).lt
  have bu0 : w2.cell? ⟨w.heap.size + 1 + 1, 0, none⟩ = some (.bool u.neg) := (H2.out.f (List.Mem.head _)).cell 0
  have bu1 : w2.cell? ⟨w.heap.size + 1 + 1, 1, none⟩ = some (S u.l) := (H2.out.f (List.Mem.head _)).cell 1
  have bu2 : w2.cell? ⟨w.heap.size + 1 + 1, 2, none⟩ = some (.int .i64 u.e) := (H2.out.f (List.Mem.head _)).cell 2
  have bul : w.heap.size + 1 + 1 < w2.heap.size := (H2.out.f (List.Mem.head _)).lt
  with_reducible refine (lmul_T r u true _ rl ul re1 re2 HM.out).mono ?_
  rintro x w3 ⟨rfl, hb⟩
  clear bx0 bx1 bx2 bxl br0 br1 br2 brl bu0 bu1 bu2 bul
  have H3 : Hid (HeldL w [(w.heap.size + 1 + 1, #[.bool u.neg, S u.l, .int .i64 u.e]), (w.heap.size + 1, #[.bool r.neg, S r.l, .int .i64 r.e]), (w.heap.size, #[.bool x2.neg, S x2.l, .int .i64 x2.e])] w3) := Lib.hid (HeldL.keep H2.out hb)
  clear H2
  clear hb
  have bx0 : w3.cell? ⟨w.heap.size, 0, none⟩ = some (.bool x2.neg) := (H3.out.f (List.Mem.tail _ (List.Mem.tail _ (List.Mem.head _)))).cell 0
  have bx1 : w3.cell? ⟨w.heap.size, 1, none⟩ = some (S x2.l) := (H3.out.f (List.Mem.tail _ (List.Mem.tail _ (List.Mem.head _)))).cell 1
  have bx2 : w3.cell? ⟨w.heap.size, 2, none⟩ = some (.int .i64 x2.e) := (H3.out.f (List.Mem.tail _ (List.Mem.tail _ (List.Mem.head _)))).cell 2
  have bxl : w.heap.size < w3.heap.size := (H3.out.f (List.Mem.tail _ (List.Mem.tail _ (List.Mem.head _)))).lt
  have br0 : w3.cell? ⟨w.heap.size + 1, 0, none⟩ = some (.bool r.neg) := (H3.out.f (List.Mem.tail _ (List.Mem.head _))).cell 0
  have br1 : w3.cell? ⟨w.heap.size + 1, 1, none⟩ = some (S r.l) := (H3.out.f (List.Mem.tail _ (List.Mem.head _))).cell 1
  have br2 : w3.cell? ⟨w.heap.size + 1, 2, none⟩ = some (.int .i64 r.e) := (H3.out.f (List.Mem.tail _ (List.Mem.head _))).cell 2
  have brl : w.heap.size + 1 < w3.heap.size := (H3.out.f (List.Mem.tail _ (List.Mem.head _))).lt
  have bu0 : w3.cell? ⟨w.heap.size + 1 + 1, 0, none⟩ = some (.bool u.neg) := (H3.out.f (List.Mem.head _)).cell 0
  have bu1 : w3.cell? ⟨w.heap.size + 1 + 1, 1, none⟩ = some (S u.l) := (H3.out.f (List.Mem.head _)).cell 1
  have bu2 : w3.cell? ⟨w.heap.size + 1 + 1, 2, none⟩ = some (.int .i64 u.e) := (H3.out.f (List.Mem.head _)).cell 2
  have bul : w.heap.size + 1 + 1 < w3.heap.size := (H3.out.f (List.Mem.head _)).lt
  go_wp2_with fail
  with_reducible refine (sub_T x2 r d _ x2l rl HD.out).mono ?_
  rintro x w4 ⟨rfl, hb⟩
  clear bx0 bx1 bx2 bxl br0 br1 br2 brl bu0 bu1 bu2 bul
  have H4 : Hid (HeldL w [(w.heap.size + 1 + 1, #[.bool u.neg, S u.l, .int .i64 u.e]), (w.heap.size + 1, #[.bool r.neg, S r.l, .int .i64 r.e]), (w.heap.size, #[.bool x2.neg, S x2.l, .int .i64 x2.e])] w4) := Lib.hid (HeldL.keep H3.out hb)
  clear H3
  clear hb
  have bx0 : w4.cell? ⟨w.heap.size, 0, none⟩ = some (.bool x2.neg) := (H4.out.f (List.Mem.tail _ (List.Mem.tail _ (List.Mem.head _)))).cell 0
  have bx1 : w4.cell? ⟨w.heap.size, 1, none⟩ = some (S x2.l) := (H4.out.f (List.Mem.tail _ (List.Mem.tail _ (List.Mem.head _)))).cell 1
  have bx2 : w4.cell? ⟨w.heap.size, 2, none⟩ = some (.int .i64 x2.e) := (H4.out.f (List.Mem.tail _ (List.Mem.tail _ (List.Mem.head _)))).cell 2
  have bxl : w.heap.size < w4.heap.size := (H4.out.f (List.Mem.tail _ (List.Mem.tail _ (List.Mem.head _)))).lt
  have br0 : w4.cell? ⟨w.heap.size + 1, 0, none⟩ = some (.bool r.neg) := (H4.out.f (List.Mem.tail _ (List.Mem.head _))).cell 0
  have br1 : w4.cell? ⟨w.heap.size + 1, 1, none⟩ = some (S r.l) := (H4.out.f (List.Mem.tail _ (List.Mem.head _))).cell 1
  have br2 : w4.cell? ⟨w.heap.size + 1, 2, none⟩ = some (.int .i64 r.e) := (H4.out.f (List.Mem.tail _ (List.Mem.head _))).cell 2
  have brl : w.heap.size + 1 < w4.heap.size := (H4.out.f (List.Mem.tail _ (List.Mem.head _))).lt
  have bu0 : w4.cell? ⟨w.heap.size + 1 + 1, 0, none⟩ = some (.bool u.neg) := (H4.out.f (List.Mem.head _)).cell 0
  have bu1 : w4.cell? ⟨w.heap.size + 1 + 1, 1, none⟩ = some (S u.l) := (H4.out.f (List.Mem.head _)).cell 1
  have bu2 : w4.cell? ⟨w.heap.size + 1 + 1, 2, none⟩ = some (.int .i64 u.e) := (H4.out.f (List.Mem.head _)).cell 2
  have bul : w.heap.size + 1 + 1 < w4.heap.size := (H4.out.f (List.Mem.head _)).lt
  go_wp2_with fail
  with_reducible refine (zero_T d false _ dl HZ.out).mono ?_
  rintro x w5 ⟨rfl, hb⟩
  clear bx0 bx1 bx2 bxl br0 br1 br2 brl bu0 bu1 bu2 bul
  have H5 : Hid (HeldL w [(w4.heap.size, #[.bool d.neg, S d.l, .int .i64 d.e]), (w.heap.size + 1 + 1, #[.bool u.neg, S u.l, .int .i64 u.e]), (w.heap.size + 1, #[.bool r.neg, S r.l, .int .i64 r.e]), (w.heap.size, #[.bool x2.neg, S x2.l, .int .i64 x2.e])] w5) := Lib.hid (HeldL.keep (HeldL.alloc H4.out (w4.heap.size) #[.bool d.neg, S d.l, .int .i64 d.e] 31 (by simp)) hb)
  clear H4
  clear hb
  have bx0 : w5.cell? ⟨w.heap.size, 0, none⟩ = some (.bool x2.neg) := (H5.out.f (List.Mem.tail _ (List.Mem.tail _ (List.Mem.tail _ (List.Mem.head _))))).cell 0
  have bx1 : w5.cell? ⟨w.heap.size, 1, none⟩ = some (S x2.l) := (H5.out.f (List.Mem.tail _ (List.Mem.tail _ (List.Mem.tail _ (List.Mem.head _))))).cell 1
  have bx2 : w5.cell? ⟨w.heap.size, 2, none⟩ = some (.int .i64 x2.e) := (H5.out.f (List.Mem.tail _ (List.Mem.tail _ (List.Mem.tail _ (List.Mem.head _))))).cell 2
  have bxl : w.heap.size < w5.heap.size := (H5.out.f (List.Mem.tail _ (List.Mem.tail _ (List.Mem.tail _ (List.Mem.head _))))).lt
  have br0 : w5.cell? ⟨w.heap.size + 1, 0, none⟩ = some (.bool r.neg) := (H5.out.f (List.Mem.tail _ (List.Mem.tail _ (List.Mem.head _)))).cell 0
  have br1 : w5.cell? ⟨w.heap.size + 1, 1, none⟩ = some (S r.l) := (H5.out.f (List.Mem.tail _ (List.Mem.tail _ (List.Mem.head _)))).cell 1
  have br2 : w5.cell? ⟨w.heap.size + 1, 2, none⟩ = some (.int .i64 r.e) := (H5.out.f (List.Mem.tail _ (List.Mem.tail _ (List.Mem.head _)))).cell 2
  have brl : w.heap.size + 1 < w5.heap.size := (H5.out.f (List.Mem.tail _ (List.Mem.tail _ (List.Mem.head _)))).lt
  have bu0 : w5.cell? ⟨w.heap.size + 1 + 1, 0, none⟩ = some (.bool u.neg) := (H5.out.f (List.Mem.tail _ (List.Mem.head _))).cell 0
  have bu1 : w5.cell? ⟨w.heap.size + 1 + 1, 1, none⟩ = some (S u.l) := (H5.out.f (List.Mem.tail _ (List.Mem.head _))).cell 1
  have bu2 : w5.cell? ⟨w.heap.size + 1 + 1, 2, none⟩ = some (.int .i64 u.e) := (H5.out.f (List.Mem.tail _ (List.Mem.head _))).cell 2
  have bul : w.heap.size + 1 + 1 < w5.heap.size := (H5.out.f (List.Mem.tail _ (List.Mem.head _))).lt
  have bd0 : w5.cell? ⟨w4.heap.size, 0, none⟩ = some (.bool d.neg) := (H5.out.f (List.Mem.head _)).cell 0
  have bd1 : w5.cell? ⟨w4.heap.size, 1, none⟩ = some (S d.l) := (H5.out.f (List.Mem.head _)).cell 1
  have bd2 : w5.cell? ⟨w4.heap.size, 2, none⟩ = some (.int .i64 d.e) := (H5.out.f (List.Mem.head _)).cell 2
  have bdl : w4.heap.size < w5.heap.size := (H5.out.f (List.Mem.head _)).lt
  go_wp2_with fail
  have ALL1 : Hid (∀ w' : World, HeldL w [(w4.heap.size, #[.bool d.neg, S d.l, .int .i64 d.e]), (w.heap.size + 1 + 1, #[.bool u.neg, S u.l, .int .i64 u.e]), (w.heap.size + 1, #[.bool r.neg, S r.l, .int .i64 r.e]), (w.heap.size, #[.bool x2.neg, S x2.l, .int .i64 x2.e])] w' → w'.cell? ⟨w.heap.size, 0, none⟩ = some (.bool x2.neg) ∧ w'.cell? ⟨w.heap.size, 1, none⟩ = some (S x2.l) ∧ w'.cell? ⟨w.heap.size, 2, none⟩ = some (.int .i64 x2.e) ∧ w'.cell? ⟨w4.heap.size, 0, none⟩ = some (.bool d.neg) ∧ w'.cell? ⟨w4.heap.size, 1, none⟩ = some (S d.l) ∧ w'.cell? ⟨w4.heap.size, 2, none⟩ = some (.int .i64 d.e) ∧ w'.cell? ⟨w.heap.size + 1 + 1, 0, none⟩ = some (.bool u.neg) ∧ w'.cell? ⟨w.heap.size + 1 + 1, 1, none⟩ = some (S u.l) ∧ w'.cell? ⟨w.heap.size + 1 + 1, 2, none⟩ = some (.int .i64 u.e) ∧ HeldL w [(w4.heap.size, #[.bool d.neg, S d.l, .int .i64 d.e]), (w.heap.size + 1 + 1, #[.bool u.neg, S u.l, .int .i64 u.e]), (w.heap.size + 1, #[.bool r.neg, S r.l, .int .i64 r.e]), (w.heap.size, #[.bool x2.neg, S x2.l, .int .i64 x2.e])] w') := Lib.hid (fun w' h => ⟨(h.f (List.Mem.tail _ (List.Mem.tail _ (List.Mem.tail _ (List.Mem.head _))))).cell 0, (h.f (List.Mem.tail _ (List.Mem.tail _ (List.Mem.tail _ (List.Mem.head _))))).cell 1, (h.f (List.Mem.tail _ (List.Mem.tail _ (List.Mem.tail _ (List.Mem.head _))))).cell 2, (h.f (List.Mem.head _)).cell 0, (h.f (List.Mem.head _)).cell 1, (h.f (List.Mem.head _)).cell 2, (h.f (List.Mem.tail _ (List.Mem.head _))).cell 0, (h.f (List.Mem.tail _ (List.Mem.head _))).cell 1, (h.f (List.Mem.tail _ (List.Mem.head _))).cell 2, h⟩)
  have KEEP1 : Hid (∀ w' w'' : World, (w'.cell? ⟨w.heap.size, 0, none⟩ = some (.bool x2.neg) ∧ w'.cell? ⟨w.heap.size, 1, none⟩ = some (S x2.l) ∧ w'.cell? ⟨w.heap.size, 2, none⟩ = some (.int .i64 x2.e) ∧ w'.cell? ⟨w4.heap.size, 0, none⟩ = some (.bool d.neg) ∧ w'.cell? ⟨w4.heap.size, 1, none⟩ = some (S d.l) ∧ w'.cell? ⟨w4.heap.size, 2, none⟩ = some (.int .i64 d.e) ∧ w'.cell? ⟨w.heap.size + 1 + 1, 0, none⟩ = some (.bool u.neg) ∧ w'.cell? ⟨w.heap.size + 1 + 1, 1, none⟩ = some (S u.l) ∧ w'.cell? ⟨w.heap.size + 1 + 1, 2, none⟩ = some (.int .i64 u.e) ∧ HeldL w [(w4.heap.size, #[.bool d.neg, S d.l, .int .i64 d.e]), (w.heap.size + 1 + 1, #[.bool u.neg, S u.l, .int .i64 u.e]), (w.heap.size + 1, #[.bool r.neg, S r.l, .int .i64 r.e]), (w.heap.size, #[.bool x2.neg, S x2.l, .int .i64 x2.e])] w') → Below w'.heap.size w' w'' → (w''.cell? ⟨w.heap.size, 0, none⟩ = some (.bool x2.neg) ∧ w''.cell? ⟨w.heap.size, 1, none⟩ = some (S x2.l) ∧ w''.cell? ⟨w.heap.size, 2, none⟩ = some (.int .i64 x2.e) ∧ w''.cell? ⟨w4.heap.size, 0, none⟩ = some (.bool d.neg) ∧ w''.cell? ⟨w4.heap.size, 1, none⟩ = some (S d.l) ∧ w''.cell? ⟨w4.heap.size, 2, none⟩ = some (.int .i64 d.e) ∧ w''.cell? ⟨w.heap.size + 1 + 1, 0, none⟩ = some (.bool u.neg) ∧ w''.cell? ⟨w.heap.size + 1 + 1, 1, none⟩ = some (S u.l) ∧ w''.cell? ⟨w.heap.size + 1 + 1, 2, none⟩ = some (.int .i64 u.e) ∧ HeldL w [(w4.heap.size, #[.bool d.neg, S d.l, .int .i64 d.e]), (w.heap.size + 1 + 1, #[.bool u.neg, S u.l, .int .i64 u.e]), (w.heap.size + 1, #[.bool r.neg, S r.l, .int .i64 r.e]), (w.heap.size, #[.bool x2.neg, S x2.l, .int .i64 x2.e])] w'')) := Lib.hid (fun w' w'' h hb => ALL1.out _ (HeldL.keep (h.2.2.2.2.2.2.2.2.2) hb))
  have HS1 : Hid (HeldL w [(w4.heap.size, #[.bool d.neg, S d.l, .int .i64 d.e]), (w.heap.size + 1 + 1, #[.bool u.neg, S u.l, .int .i64 u.e]), (w.heap.size + 1, #[.bool r.neg, S r.l, .int .i64 r.e]), (w.heap.size, #[.bool x2.neg, S x2.l, .int .i64 x2.e])] _) := Lib.hid H5.out
  go_region_held3 (fun w' => w'.cell? ⟨w.heap.size, 0, none⟩ = some (.bool x2.neg) ∧ w'.cell? ⟨w.heap.size, 1, none⟩ = some (S x2.l) ∧ w'.cell? ⟨w.heap.size, 2, none⟩ = some (.int .i64 x2.e) ∧ w'.cell? ⟨w4.heap.size, 0, none⟩ = some (.bool d.neg) ∧ w'.cell? ⟨w4.heap.size, 1, none⟩ = some (S d.l) ∧ w'.cell? ⟨w4.heap.size, 2, none⟩ = some (.int .i64 d.e) ∧ w'.cell? ⟨w.heap.size + 1 + 1, 0, none⟩ = some (.bool u.neg) ∧ w'.cell? ⟨w.heap.size + 1 + 1, 1, none⟩ = some (S u.l) ∧ w'.cell? ⟨w.heap.size + 1 + 1, 2, none⟩ = some (.int .i64 u.e) ∧ HeldL w [(w4.heap.size, #[.bool d.neg, S d.l, .int .i64 d.e]), (w.heap.size + 1 + 1, #[.bool u.neg, S u.l, .int .i64 u.e]), (w.heap.size + 1, #[.bool r.neg, S r.l, .int .i64 r.e]), (w.heap.size, #[.bool x2.neg, S x2.l, .int .i64 x2.e])] w')
    (first | exact ALL1.out _ (HeldL.drew HS1.out) | exact KEEP1.out _ _ (by assumption) hb | assumption)
    (first | (go_at_call 35; (with_reducible refine (lmul_T x2 u false _ x2l ul xe1 xe2 HN.out).mono ?_); rintro x wA ⟨rfl, hb⟩) | (go_at_call 37; (with_reducible refine (abs_T d ad _ dl HAD.out).mono ?_); rintro x wB ⟨rfl, hb⟩) | (go_at_call 32; (with_reducible refine (cmp_T ad u c0 _ adl ul HC0.out).mono ?_); rintro x wC ⟨rfl, hb⟩))
  have HH : HeldL w [(w4.heap.size, #[.bool d.neg, S d.l, .int .i64 d.e]), (w.heap.size + 1 + 1, #[.bool u.neg, S u.l, .int .i64 u.e]), (w.heap.size + 1, #[.bool r.neg, S r.l, .int .i64 r.e]), (w.heap.size, #[.bool x2.neg, S x2.l, .int .i64 x2.e])] wC := (‹wC.cell? ⟨w.heap.size, 0, none⟩ = some (.bool x2.neg) ∧ wC.cell? ⟨w.heap.size, 1, none⟩ = some (S x2.l) ∧ wC.cell? ⟨w.heap.size, 2, none⟩ = some (.int .i64 x2.e) ∧ wC.cell? ⟨w4.heap.size, 0, none⟩ = some (.bool d.neg) ∧ wC.cell? ⟨w4.heap.size, 1, none⟩ = some (S d.l) ∧ wC.cell? ⟨w4.heap.size, 2, none⟩ = some (.int .i64 d.e) ∧ wC.cell? ⟨w.heap.size + 1 + 1, 0, none⟩ = some (.bool u.neg) ∧ wC.cell? ⟨w.heap.size + 1 + 1, 1, none⟩ = some (S u.l) ∧ wC.cell? ⟨w.heap.size + 1 + 1, 2, none⟩ = some (.int .i64 u.e) ∧ HeldL w [(w4.heap.size, #[.bool d.neg, S d.l, .int .i64 d.e]), (w.heap.size + 1 + 1, #[.bool u.neg, S u.l, .int .i64 u.e]), (w.heap.size + 1, #[.bool r.neg, S r.l, .int .i64 r.e]), (w.heap.size, #[.bool x2.neg, S x2.l, .int .i64 x2.e])] wC›).2.2.2.2.2.2.2.2.2
  clear bx0 bx1 bx2 bxl br0 br1 br2 brl bu0 bu1 bu2 bul bd0 bd1 bd2 bdl
  have H6 : Hid (HeldL w [(w4.heap.size, #[.bool d.neg, S d.l, .int .i64 d.e]), (w.heap.size + 1 + 1, #[.bool u.neg, S u.l, .int .i64 u.e]), (w.heap.size + 1, #[.bool r.neg, S r.l, .int .i64 r.e]), (w.heap.size, #[.bool x2.neg, S x2.l, .int .i64 x2.e])] wC) := Lib.hid HH
  clear HH ALL1 KEEP1 HS1 H5
  have bx0 : wC.cell? ⟨w.heap.size, 0, none⟩ = some (.bool x2.neg) := (H6.out.f (List.Mem.tail _ (List.Mem.tail _ (List.Mem.tail _ (List.Mem.head _))))).cell 0
  have bx1 : wC.cell? ⟨w.heap.size, 1, none⟩ = some (S x2.l) := (H6.out.f (List.Mem.tail _ (List.Mem.tail _ (List.Mem.tail _ (List.Mem.head _))))).cell 1
  have bx2 : wC.cell? ⟨w.heap.size, 2, none⟩ = some (.int .i64 x2.e) := (H6.out.f (List.Mem.tail _ (List.Mem.tail _ (List.Mem.tail _ (List.Mem.head _))))).cell 2
  have bxl : w.heap.size < wC.heap.size := (H6.out.f (List.Mem.tail _ (List.Mem.tail _ (List.Mem.tail _ (List.Mem.head _))))).lt
  have br0 : wC.cell? ⟨w.heap.size + 1, 0, none⟩ = some (.bool r.neg) := (H6.out.f (List.Mem.tail _ (List.Mem.tail _ (List.Mem.head _)))).cell 0
  have br1 : wC.cell? ⟨w.heap.size + 1, 1, none⟩ = some (S r.l) := (H6.out.f (List.Mem.tail _ (List.Mem.tail _ (List.Mem.head _)))).cell 1
  have br2 : wC.cell? ⟨w.heap.size + 1, 2, none⟩ = some (.int .i64 r.e) := (H6.out.f (List.Mem.tail _ (List.Mem.tail _ (List.Mem.head _)))).cell 2
  have brl : w.heap.size + 1 < wC.heap.size := (H6.out.f (List.Mem.tail _ (List.Mem.tail _ (List.Mem.head _)))).lt
  have bd0 : wC.cell? ⟨w4.heap.size, 0, none⟩ = some (.bool d.neg) := (H6.out.f (List.Mem.head _)).cell 0
  have bd1 : wC.cell? ⟨w4.heap.size, 1, none⟩ = some (S d.l) := (H6.out.f (List.Mem.head _)).cell 1
  have bd2 : wC.cell? ⟨w4.heap.size, 2, none⟩ = some (.int .i64 d.e) := (H6.out.f (List.Mem.head _)).cell 2
  have bdl : w4.heap.size < wC.heap.size := (H6.out.f (List.Mem.head _)).lt
  have bu0 : wC.cell? ⟨w.heap.size + 1 + 1, 0, none⟩ = some (.bool u.neg) := (H6.out.f (List.Mem.tail _ (List.Mem.head _))).cell 0
  have bu1 : wC.cell? ⟨w.heap.size + 1 + 1, 1, none⟩ = some (S u.l) := (H6.out.f (List.Mem.tail _ (List.Mem.head _))).cell 1
  have bu2 : wC.cell? ⟨w.heap.size + 1 + 1, 2, none⟩ = some (.int .i64 u.e) := (H6.out.f (List.Mem.tail _ (List.Mem.head _))).cell 2
  have bul : w.heap.size + 1 + 1 < wC.heap.size := (H6.out.f (List.Mem.tail _ (List.Mem.head _))).lt
  go_wp2_with fail
  have ALL2 : Hid (∀ w' : World, HeldL w [(w4.heap.size, #[.bool d.neg, S d.l, .int .i64 d.e]), (w.heap.size + 1 + 1, #[.bool u.neg, S u.l, .int .i64 u.e]), (w.heap.size + 1, #[.bool r.neg, S r.l, .int .i64 r.e]), (w.heap.size, #[.bool x2.neg, S x2.l, .int .i64 x2.e])] w' → w'.cell? ⟨w.heap.size, 0, none⟩ = some (.bool x2.neg) ∧ w'.cell? ⟨w.heap.size, 1, none⟩ = some (S x2.l) ∧ w'.cell? ⟨w.heap.size, 2, none⟩ = some (.int .i64 x2.e) ∧ w'.cell? ⟨w.heap.size + 1, 0, none⟩ = some (.bool r.neg) ∧ w'.cell? ⟨w.heap.size + 1, 1, none⟩ = some (S r.l) ∧ w'.cell? ⟨w.heap.size + 1, 2, none⟩ = some (.int .i64 r.e) ∧ HeldL w [(w4.heap.size, #[.bool d.neg, S d.l, .int .i64 d.e]), (w.heap.size + 1 + 1, #[.bool u.neg, S u.l, .int .i64 u.e]), (w.heap.size + 1, #[.bool r.neg, S r.l, .int .i64 r.e]), (w.heap.size, #[.bool x2.neg, S x2.l, .int .i64 x2.e])] w') := Lib.hid (fun w' h => ⟨(h.f (List.Mem.tail _ (List.Mem.tail _ (List.Mem.tail _ (List.Mem.head _))))).cell 0, (h.f (List.Mem.tail _ (List.Mem.tail _ (List.Mem.tail _ (List.Mem.head _))))).cell 1, (h.f (List.Mem.tail _ (List.Mem.tail _ (List.Mem.tail _ (List.Mem.head _))))).cell 2, (h.f (List.Mem.tail _ (List.Mem.tail _ (List.Mem.head _)))).cell 0, (h.f (List.Mem.tail _ (List.Mem.tail _ (List.Mem.head _)))).cell 1, (h.f (List.Mem.tail _ (List.Mem.tail _ (List.Mem.head _)))).cell 2, h⟩)
  have KEEP2 : Hid (∀ w' w'' : World, (w'.cell? ⟨w.heap.size, 0, none⟩ = some (.bool x2.neg) ∧ w'.cell? ⟨w.heap.size, 1, none⟩ = some (S x2.l) ∧ w'.cell? ⟨w.heap.size, 2, none⟩ = some (.int .i64 x2.e) ∧ w'.cell? ⟨w.heap.size + 1, 0, none⟩ = some (.bool r.neg) ∧ w'.cell? ⟨w.heap.size + 1, 1, none⟩ = some (S r.l) ∧ w'.cell? ⟨w.heap.size + 1, 2, none⟩ = some (.int .i64 r.e) ∧ HeldL w [(w4.heap.size, #[.bool d.neg, S d.l, .int .i64 d.e]), (w.heap.size + 1 + 1, #[.bool u.neg, S u.l, .int .i64 u.e]), (w.heap.size + 1, #[.bool r.neg, S r.l, .int .i64 r.e]), (w.heap.size, #[.bool x2.neg, S x2.l, .int .i64 x2.e])] w') → Below w'.heap.size w' w'' → (w''.cell? ⟨w.heap.size, 0, none⟩ = some (.bool x2.neg) ∧ w''.cell? ⟨w.heap.size, 1, none⟩ = some (S x2.l) ∧ w''.cell? ⟨w.heap.size, 2, none⟩ = some (.int .i64 x2.e) ∧ w''.cell? ⟨w.heap.size + 1, 0, none⟩ = some (.bool r.neg) ∧ w''.cell? ⟨w.heap.size + 1, 1, none⟩ = some (S r.l) ∧ w''.cell? ⟨w.heap.size + 1, 2, none⟩ = some (.int .i64 r.e) ∧ HeldL w [(w4.heap.size, #[.bool d.neg, S d.l, .int .i64 d.e]), (w.heap.size + 1 + 1, #[.bool u.neg, S u.l, .int .i64 u.e]), (w.heap.size + 1, #[.bool r.neg, S r.l, .int .i64 r.e]), (w.heap.size, #[.bool x2.neg, S x2.l, .int .i64 x2.e])] w'')) := Lib.hid (fun w' w'' h hb => ALL2.out _ (HeldL.keep (h.2.2.2.2.2.2) hb))
  have HS2 : Hid (HeldL w [(w4.heap.size, #[.bool d.neg, S d.l, .int .i64 d.e]), (w.heap.size + 1 + 1, #[.bool u.neg, S u.l, .int .i64 u.e]), (w.heap.size + 1, #[.bool r.neg, S r.l, .int .i64 r.e]), (w.heap.size, #[.bool x2.neg, S x2.l, .int .i64 x2.e])] _) := Lib.hid H6.out
  go_region_held3 (fun w' => w'.cell? ⟨w.heap.size, 0, none⟩ = some (.bool x2.neg) ∧ w'.cell? ⟨w.heap.size, 1, none⟩ = some (S x2.l) ∧ w'.cell? ⟨w.heap.size, 2, none⟩ = some (.int .i64 x2.e) ∧ w'.cell? ⟨w.heap.size + 1, 0, none⟩ = some (.bool r.neg) ∧ w'.cell? ⟨w.heap.size + 1, 1, none⟩ = some (S r.l) ∧ w'.cell? ⟨w.heap.size + 1, 2, none⟩ = some (.int .i64 r.e) ∧ HeldL w [(w4.heap.size, #[.bool d.neg, S d.l, .int .i64 d.e]), (w.heap.size + 1 + 1, #[.bool u.neg, S u.l, .int .i64 u.e]), (w.heap.size + 1, #[.bool r.neg, S r.l, .int .i64 r.e]), (w.heap.size, #[.bool x2.neg, S x2.l, .int .i64 x2.e])] w')
    (first | exact ALL2.out _ (HeldL.drew HS2.out) | exact KEEP2.out _ _ (by assumption) hb | assumption)
    (first | (go_at_call 37; (with_reducible refine (abs_T r ar _ rl HAR.out).mono ?_); rintro x wD ⟨rfl, hb⟩) | (go_at_call 37; (with_reducible refine (abs_T x2 ax _ x2l HAX.out).mono ?_); rintro x wE ⟨rfl, hb⟩) | (go_at_call 32; (with_reducible refine (cmp_T ar ax co _ arl axl HCO.out).mono ?_); rintro x wF ⟨rfl, hb⟩))
  have HH : HeldL w [(w4.heap.size, #[.bool d.neg, S d.l, .int .i64 d.e]), (w.heap.size + 1 + 1, #[.bool u.neg, S u.l, .int .i64 u.e]), (w.heap.size + 1, #[.bool r.neg, S r.l, .int .i64 r.e]), (w.heap.size, #[.bool x2.neg, S x2.l, .int .i64 x2.e])] wF := (‹wF.cell? ⟨w.heap.size, 0, none⟩ = some (.bool x2.neg) ∧ wF.cell? ⟨w.heap.size, 1, none⟩ = some (S x2.l) ∧ wF.cell? ⟨w.heap.size, 2, none⟩ = some (.int .i64 x2.e) ∧ wF.cell? ⟨w.heap.size + 1, 0, none⟩ = some (.bool r.neg) ∧ wF.cell? ⟨w.heap.size + 1, 1, none⟩ = some (S r.l) ∧ wF.cell? ⟨w.heap.size + 1, 2, none⟩ = some (.int .i64 r.e) ∧ HeldL w [(w4.heap.size, #[.bool d.neg, S d.l, .int .i64 d.e]), (w.heap.size + 1 + 1, #[.bool u.neg, S u.l, .int .i64 u.e]), (w.heap.size + 1, #[.bool r.neg, S r.l, .int .i64 r.e]), (w.heap.size, #[.bool x2.neg, S x2.l, .int .i64 x2.e])] wF›).2.2.2.2.2.2
  clear bx0 bx1 bx2 bxl br0 br1 br2 brl bd0 bd1 bd2 bdl bu0 bu1 bu2 bul
  have H7 : Hid (HeldL w [(w4.heap.size, #[.bool d.neg, S d.l, .int .i64 d.e]), (w.heap.size + 1 + 1, #[.bool u.neg, S u.l, .int .i64 u.e]), (w.heap.size + 1, #[.bool r.neg, S r.l, .int .i64 r.e]), (w.heap.size, #[.bool x2.neg, S x2.l, .int .i64 x2.e])] wF) := Lib.hid HH
  clear HH ALL2 KEEP2 HS2 H6
  have bx0 : wF.cell? ⟨w.heap.size, 0, none⟩ = some (.bool x2.neg) := (H7.out.f (List.Mem.tail _ (List.Mem.tail _ (List.Mem.tail _ (List.Mem.head _))))).cell 0
  have bx1 : wF.cell? ⟨w.heap.size, 1, none⟩ = some (S x2.l) := (H7.out.f (List.Mem.tail _ (List.Mem.tail _ (List.Mem.tail _ (List.Mem.head _))))).cell 1
  have bx2 : wF.cell? ⟨w.heap.size, 2, none⟩ = some (.int .i64 x2.e) := (H7.out.f (List.Mem.tail _ (List.Mem.tail _ (List.Mem.tail _ (List.Mem.head _))))).cell 2
  have bxl : w.heap.size < wF.heap.size := (H7.out.f (List.Mem.tail _ (List.Mem.tail _ (List.Mem.tail _ (List.Mem.head _))))).lt
  have br0 : wF.cell? ⟨w.heap.size + 1, 0, none⟩ = some (.bool r.neg) := (H7.out.f (List.Mem.tail _ (List.Mem.tail _ (List.Mem.head _)))).cell 0
  have br1 : wF.cell? ⟨w.heap.size + 1, 1, none⟩ = some (S r.l) := (H7.out.f (List.Mem.tail _ (List.Mem.tail _ (List.Mem.head _)))).cell 1
  have br2 : wF.cell? ⟨w.heap.size + 1, 2, none⟩ = some (.int .i64 r.e) := (H7.out.f (List.Mem.tail _ (List.Mem.tail _ (List.Mem.head _)))).cell 2
  have brl : w.heap.size + 1 < wF.heap.size := (H7.out.f (List.Mem.tail _ (List.Mem.tail _ (List.Mem.head _)))).lt
  have bd0 : wF.cell? ⟨w4.heap.size, 0, none⟩ = some (.bool d.neg) := (H7.out.f (List.Mem.head _)).cell 0
  have bd1 : wF.cell? ⟨w4.heap.size, 1, none⟩ = some (S d.l) := (H7.out.f (List.Mem.head _)).cell 1
  have bd2 : wF.cell? ⟨w4.heap.size, 2, none⟩ = some (.int .i64 d.e) := (H7.out.f (List.Mem.head _)).cell 2
  have bdl : w4.heap.size < wF.heap.size := (H7.out.f (List.Mem.head _)).lt
  have bu0 : wF.cell? ⟨w.heap.size + 1 + 1, 0, none⟩ = some (.bool u.neg) := (H7.out.f (List.Mem.tail _ (List.Mem.head _))).cell 0
  have bu1 : wF.cell? ⟨w.heap.size + 1 + 1, 1, none⟩ = some (S u.l) := (H7.out.f (List.Mem.tail _ (List.Mem.head _))).cell 1
  have bu2 : wF.cell? ⟨w.heap.size + 1 + 1, 2, none⟩ = some (.int .i64 u.e) := (H7.out.f (List.Mem.tail _ (List.Mem.head _))).cell 2
  have bul : w.heap.size + 1 + 1 < wF.heap.size := (H7.out.f (List.Mem.tail _ (List.Mem.head _))).lt
  go_wp2_with fail
  have ALL3 : Hid (∀ w' : World, HeldL w [(w4.heap.size, #[.bool d.neg, S d.l, .int .i64 d.e]), (w.heap.size + 1 + 1, #[.bool u.neg, S u.l, .int .i64 u.e]), (w.heap.size + 1, #[.bool r.neg, S r.l, .int .i64 r.e]), (w.heap.size, #[.bool x2.neg, S x2.l, .int .i64 x2.e])] w' → w'.cell? ⟨w4.heap.size, 0, none⟩ = some (.bool d.neg) ∧ w'.cell? ⟨w4.heap.size, 1, none⟩ = some (S d.l) ∧ w'.cell? ⟨w4.heap.size, 2, none⟩ = some (.int .i64 d.e) ∧ w'.cell? ⟨w.heap.size + 1 + 1, 0, none⟩ = some (.bool u.neg) ∧ w'.cell? ⟨w.heap.size + 1 + 1, 1, none⟩ = some (S u.l) ∧ w'.cell? ⟨w.heap.size + 1 + 1, 2, none⟩ = some (.int .i64 u.e) ∧ HeldL w [(w4.heap.size, #[.bool d.neg, S d.l, .int .i64 d.e]), (w.heap.size + 1 + 1, #[.bool u.neg, S u.l, .int .i64 u.e]), (w.heap.size + 1, #[.bool r.neg, S r.l, .int .i64 r.e]), (w.heap.size, #[.bool x2.neg, S x2.l, .int .i64 x2.e])] w') := Lib.hid (fun w' h => ⟨(h.f (List.Mem.head _)).cell 0, (h.f (List.Mem.head _)).cell 1, (h.f (List.Mem.head _)).cell 2, (h.f (List.Mem.tail _ (List.Mem.head _))).cell 0, (h.f (List.Mem.tail _ (List.Mem.head _))).cell 1, (h.f (List.Mem.tail _ (List.Mem.head _))).cell 2, h⟩)
  have KEEP3 : Hid (∀ w' w'' : World, (w'.cell? ⟨w4.heap.size, 0, none⟩ = some (.bool d.neg) ∧ w'.cell? ⟨w4.heap.size, 1, none⟩ = some (S d.l) ∧ w'.cell? ⟨w4.heap.size, 2, none⟩ = some (.int .i64 d.e) ∧ w'.cell? ⟨w.heap.size + 1 + 1, 0, none⟩ = some (.bool u.neg) ∧ w'.cell? ⟨w.heap.size + 1 + 1, 1, none⟩ = some (S u.l) ∧ w'.cell? ⟨w.heap.size + 1 + 1, 2, none⟩ = some (.int .i64 u.e) ∧ HeldL w [(w4.heap.size, #[.bool d.neg, S d.l, .int .i64 d.e]), (w.heap.size + 1 + 1, #[.bool u.neg, S u.l, .int .i64 u.e]), (w.heap.size + 1, #[.bool r.neg, S r.l, .int .i64 r.e]), (w.heap.size, #[.bool x2.neg, S x2.l, .int .i64 x2.e])] w') → Below w'.heap.size w' w'' → (w''.cell? ⟨w4.heap.size, 0, none⟩ = some (.bool d.neg) ∧ w''.cell? ⟨w4.heap.size, 1, none⟩ = some (S d.l) ∧ w''.cell? ⟨w4.heap.size, 2, none⟩ = some (.int .i64 d.e) ∧ w''.cell? ⟨w.heap.size + 1 + 1, 0, none⟩ = some (.bool u.neg) ∧ w''.cell? ⟨w.heap.size + 1 + 1, 1, none⟩ = some (S u.l) ∧ w''.cell? ⟨w.heap.size + 1 + 1, 2, none⟩ = some (.int .i64 u.e) ∧ HeldL w [(w4.heap.size, #[.bool d.neg, S d.l, .int .i64 d.e]), (w.heap.size + 1 + 1, #[.bool u.neg, S u.l, .int .i64 u.e]), (w.heap.size + 1, #[.bool r.neg, S r.l, .int .i64 r.e]), (w.heap.size, #[.bool x2.neg, S x2.l, .int .i64 x2.e])] w'')) := Lib.hid (fun w' w'' h hb => ALL3.out _ (HeldL.keep (h.2.2.2.2.2.2) hb))
  have HS3 : Hid (HeldL w [(w4.heap.size, #[.bool d.neg, S d.l, .int .i64 d.e]), (w.heap.size + 1 + 1, #[.bool u.neg, S u.l, .int .i64 u.e]), (w.heap.size + 1, #[.bool r.neg, S r.l, .int .i64 r.e]), (w.heap.size, #[.bool x2.neg, S x2.l, .int .i64 x2.e])] _) := Lib.hid H7.out
  go_region_held3 (fun w' => w'.cell? ⟨w4.heap.size, 0, none⟩ = some (.bool d.neg) ∧ w'.cell? ⟨w4.heap.size, 1, none⟩ = some (S d.l) ∧ w'.cell? ⟨w4.heap.size, 2, none⟩ = some (.int .i64 d.e) ∧ w'.cell? ⟨w.heap.size + 1 + 1, 0, none⟩ = some (.bool u.neg) ∧ w'.cell? ⟨w.heap.size + 1 + 1, 1, none⟩ = some (S u.l) ∧ w'.cell? ⟨w.heap.size + 1 + 1, 2, none⟩ = some (.int .i64 u.e) ∧ HeldL w [(w4.heap.size, #[.bool d.neg, S d.l, .int .i64 d.e]), (w.heap.size + 1 + 1, #[.bool u.neg, S u.l, .int .i64 u.e]), (w.heap.size + 1, #[.bool r.neg, S r.l, .int .i64 r.e]), (w.heap.size, #[.bool x2.neg, S x2.l, .int .i64 x2.e])] w')
    (first | exact ALL3.out _ (HeldL.drew HS3.out) | exact KEEP3.out _ _ (by assumption) hb | assumption)
    (first | (go_at_call 37; (with_reducible refine (abs_T d ad _ dl HAD.out).mono ?_); rintro x wG ⟨rfl, hb⟩) | (go_at_call 38; (with_reducible refine (twice_as ad tw _ adl HTW.out).mono ?_); rintro x wH ⟨rfl, hb⟩) | (go_at_call 32; (with_reducible refine (cmp_T tw u c _ twl ul HC.out).mono ?_); rintro x wI ⟨rfl, hb⟩))
  have HH : HeldL w [(w4.heap.size, #[.bool d.neg, S d.l, .int .i64 d.e]), (w.heap.size + 1 + 1, #[.bool u.neg, S u.l, .int .i64 u.e]), (w.heap.size + 1, #[.bool r.neg, S r.l, .int .i64 r.e]), (w.heap.size, #[.bool x2.neg, S x2.l, .int .i64 x2.e])] wI := (‹wI.cell? ⟨w4.heap.size, 0, none⟩ = some (.bool d.neg) ∧ wI.cell? ⟨w4.heap.size, 1, none⟩ = some (S d.l) ∧ wI.cell? ⟨w4.heap.size, 2, none⟩ = some (.int .i64 d.e) ∧ wI.cell? ⟨w.heap.size + 1 + 1, 0, none⟩ = some (.bool u.neg) ∧ wI.cell? ⟨w.heap.size + 1 + 1, 1, none⟩ = some (S u.l) ∧ wI.cell? ⟨w.heap.size + 1 + 1, 2, none⟩ = some (.int .i64 u.e) ∧ HeldL w [(w4.heap.size, #[.bool d.neg, S d.l, .int .i64 d.e]), (w.heap.size + 1 + 1, #[.bool u.neg, S u.l, .int .i64 u.e]), (w.heap.size + 1, #[.bool r.neg, S r.l, .int .i64 r.e]), (w.heap.size, #[.bool x2.neg, S x2.l, .int .i64 x2.e])] wI›).2.2.2.2.2.2
  clear bx0 bx1 bx2 bxl br0 br1 br2 brl bd0 bd1 bd2 bdl bu0 bu1 bu2 bul
  have H8 : Hid (HeldL w [(w4.heap.size, #[.bool d.neg, S d.l, .int .i64 d.e]), (w.heap.size + 1 + 1, #[.bool u.neg, S u.l, .int .i64 u.e]), (w.heap.size + 1, #[.bool r.neg, S r.l, .int .i64 r.e]), (w.heap.size, #[.bool x2.neg, S x2.l, .int .i64 x2.e])] wI) := Lib.hid HH
  clear HH ALL3 KEEP3 HS3 H7
  have bx0 : wI.cell? ⟨w.heap.size, 0, none⟩ = some (.bool x2.neg) := (H8.out.f (List.Mem.tail _ (List.Mem.tail _ (List.Mem.tail _ (List.Mem.head _))))).cell 0
  have bx1 : wI.cell? ⟨w.heap.size, 1, none⟩ = some (S x2.l) := (H8.out.f (List.Mem.tail _ (List.Mem.tail _ (List.Mem.tail _ (List.Mem.head _))))).cell 1
  have bx2 : wI.cell? ⟨w.heap.size, 2, none⟩ = some (.int .i64 x2.e) := (H8.out.f (List.Mem.tail _ (List.Mem.tail _ (List.Mem.tail _ (List.Mem.head _))))).cell 2
  have bxl : w.heap.size < wI.heap.size := (H8.out.f (List.Mem.tail _ (List.Mem.tail _ (List.Mem.tail _ (List.Mem.head _))))).lt
  have br0 : wI.cell? ⟨w.heap.size + 1, 0, none⟩ = some (.bool r.neg) := (H8.out.f (List.Mem.tail _ (List.Mem.tail _ (List.Mem.head _)))).cell 0
  have br1 : wI.cell? ⟨w.heap.size + 1, 1, none⟩ = some (S r.l) := (H8.out.f (List.Mem.tail _ (List.Mem.tail _ (List.Mem.head _)))).cell 1
  have br2 : wI.cell? ⟨w.heap.size + 1, 2, none⟩ = some (.int .i64 r.e) := (H8.out.f (List.Mem.tail _ (List.Mem.tail _ (List.Mem.head _)))).cell 2
  have brl : w.heap.size + 1 < wI.heap.size := (H8.out.f (List.Mem.tail _ (List.Mem.tail _ (List.Mem.head _)))).lt
  have bd0 : wI.cell? ⟨w4.heap.size, 0, none⟩ = some (.bool d.neg) := (H8.out.f (List.Mem.head _)).cell 0
  have bd1 : wI.cell? ⟨w4.heap.size, 1, none⟩ = some (S d.l) := (H8.out.f (List.Mem.head _)).cell 1
  have bd2 : wI.cell? ⟨w4.heap.size, 2, none⟩ = some (.int .i64 d.e) := (H8.out.f (List.Mem.head _)).cell 2
  have bdl : w4.heap.size < wI.heap.size := (H8.out.f (List.Mem.head _)).lt
  have bu0 : wI.cell? ⟨w.heap.size + 1 + 1, 0, none⟩ = some (.bool u.neg) := (H8.out.f (List.Mem.tail _ (List.Mem.head _))).cell 0
  have bu1 : wI.cell? ⟨w.heap.size + 1 + 1, 1, none⟩ = some (S u.l) := (H8.out.f (List.Mem.tail _ (List.Mem.head _))).cell 1
  have bu2 : wI.cell? ⟨w.heap.size + 1 + 1, 2, none⟩ = some (.int .i64 u.e) := (H8.out.f (List.Mem.tail _ (List.Mem.head _))).cell 2
  have bul : w.heap.size + 1 + 1 < wI.heap.size := (H8.out.f (List.Mem.tail _ (List.Mem.head _))).lt
  have HA := HANS.out
  clear HANS
  rcases HA with ⟨rfl, rfl⟩ | ⟨rfl, rfl⟩ | ⟨rfl, hn5⟩ | ⟨rfl, hn6⟩ | ⟨hm3, cn⟩ | ⟨rfl, rfl, rfl⟩ | ⟨rfl, rfl, rfl⟩ | ⟨rfl, rfl, he⟩
  · go_wp2
    go_ret
    exact ⟨rfl, H8.out.bel⟩
  · go_wp2
    go_ret
    exact ⟨rfl, H8.out.bel⟩
  · rw [hn5] at bd0
    go_wp2
    go_ret
    exact ⟨rfl, H8.out.bel⟩
  · rw [hn6] at bd0
    go_wp2
    go_ret
    exact ⟨rfl, H8.out.bel⟩
  · have cn1 : decide (c < 0) = true := by simp; omega
    rcases hm3 with rfl | rfl | rfl
    all_goals
      go_wp2
      go_ret
      exact ⟨rfl, H8.out.bel⟩
  · go_wp2
    go_ret
    exact ⟨rfl, H8.out.bel⟩
  · go_wp2
    go_ret
    exact ⟨rfl, H8.out.bel⟩
  · have HEV2 := Lib.hid (HEV.out he)
    go_wp2_with fail
    with_reducible refine (HEV2.out _).mono ?_
    rintro x w9 ⟨rfl, hb⟩
    clear bx0 bx1 bx2 bxl br0 br1 br2 brl bd0 bd1 bd2 bdl bu0 bu1 bu2 bul
    have H9 : Hid (HeldL w [(w4.heap.size, #[.bool d.neg, S d.l, .int .i64 d.e]), (w.heap.size + 1 + 1, #[.bool u.neg, S u.l, .int .i64 u.e]), (w.heap.size + 1, #[.bool r.neg, S r.l, .int .i64 r.e]), (w.heap.size, #[.bool x2.neg, S x2.l, .int .i64 x2.e])] w9) := Lib.hid (HeldL.keep H8.out hb)
    clear H8
    clear hb
    go_wp2
    go_ret
    exact ⟨rfl, H9.out.bel⟩

end Go.Proofs.YtfbfjkacaadbpaaGreatDoor

namespace Go.Proofs.YtfbfjkacaadbpaaGreatDoor
open Go.RowKit Florin
set_option linter.unusedVariables false

theorem fitN {k M : Nat} {z : Int} (hk : k ≤ 5000) (hM : M ≤ 20000) (h : z.natAbs < 10 ^ M) : Fit k z := Fit.of (m := M) (by omega) h (by omega)
theorem nf_e_le {k M : Nat} {z : Int} (hk : k ≤ 5000) (hM : M ≤ 20000) (h : z.natAbs < 10 ^ M) : -(k : Int) ≤ (nf k z).e ∧ (nf k z).e ≤ M := by
  have hf := fitN hk hM h
  refine ⟨(nf_dv hf).lo, ?_⟩
  by_cases h0 : z = 0
  · subst h0; rw [nf_zero]; simp only [zero]; omega
  · obtain ⟨t, h1, h2, h3, h4⟩ := nf_pos hf h0
    have := tz_lt (n := z.natAbs) (by omega) h2 h
    rw [h1]; simp only; omega
theorem nf_nrm {k : Nat} {z : Int} (hf : Fit k z) (h : z ≠ 0) : Nrm (nf k z) := by
  unfold nf
  rcases made_nrm (decide (z < 0)) (dig z.natAbs) (-(k : Int)) with h1 | h1
  · exact absurd ((nf_l_nil hf).1 (by unfold nf; rw [h1]; rfl)) h
  · exact h1
theorem lmul_nf {k M : Nat} (hk : k ≤ 5000) (hM : M ≤ 10000) {R U : Int} (hR : R.natAbs < 10 ^ M) (hU : U.natAbs < 10 ^ M) (hU0 : 0 < U) (hn : val (nf k U).l ≤ 1000000000) (b : Bool) (hb : decide (R % U = 0) = b) : LMul (nf k R) (nf k U) b := by
  have fR := fitN (k := k) hk (by omega) hR
  have fU := fitN (k := k) hk (by omega) hU
  have eU := nf_e_le (k := k) hk (by omega) hU
  have eR := nf_e_le (k := k) hk (by omega) hR
  have n1 := (nf_split fU (by omega)).2
  by_cases h0 : R = 0
  · subst h0
    rw [nf_zero]
    refine ⟨val (nf k U).l, zero, [], [], nf_isDig _ _, rfl, by omega, hn, by simp only [zero]; omega, by simp only [zero]; omega, ?_, by decide, rfl, by decide, ?_⟩
    · exact made_zero _ _ (by decide)
    · rw [← hb]; simp [val_nil]
  · have nr := nf_nrm fR h0
    have hm := mult_nf fR fU h0
    have hl := nf_length (k := k) hR
    obtain ⟨d, hd⟩ : ∃ d, nf k R = d := ⟨_, rfl⟩
    rw [hd] at nr hm eR hl ⊢
    have nr2 : Nrm ⟨false, d.l, d.e - (nf k U).e⟩ := ⟨nr.dg, nr.ne, nr.hd, nr.lst, by simp only; omega, by simp only; omega⟩
    have hpt : partsT ⟨false, d.l, d.e - (nf k U).e⟩ = ((partsT ⟨false, d.l, d.e - (nf k U).e⟩).1, (partsT ⟨false, d.l, d.e - (nf k U).e⟩).2) := rfl
    refine ⟨val (nf k U).l, ⟨false, d.l, d.e - (nf k U).e⟩, _, _, nf_isDig _ _, rfl, by omega, hn, by omega, by omega, nr2.made, hpt, ?_, ?_, ?_⟩
    · unfold partsT
      simp only
      split
      · rw [isDig_append, nr.dg, isDig_zs]; rfl
      · split
        · rfl
        · have hs : d.l = d.l.take ((d.l.length : Int) + (d.e - (nf k U).e)).toNat ++ d.l.drop ((d.l.length : Int) + (d.e - (nf k U).e)).toNat := (List.take_append_drop _ _).symm
          have h2 := nr.dg
          rw [hs, isDig_append] at h2
          simp only [Bool.and_eq_true] at h2
          exact h2.1
    · have := (partsT_len ⟨false, d.l, d.e - (nf k U).e⟩ (by simp only; omega) (by simp only; omega) (by simp only; omega)).1
      unfold partsT at this ⊢
      simp only at this ⊢
      split
      · rw [List.length_append, zs_length]; omega
      · split
        · simp
        · rw [List.length_take]; omega
    · rw [← hb]
      unfold partsT
      simp only
      split
      · rename_i he
        simp only [List.isEmpty_nil, Bool.true_and]
        rw [val_app_zs]
        by_cases hz : R % U = 0
        · have := (hm.2 hz).2
          rw [this, decide_eq_true hz]; simp
        · have : ¬ val d.l * 10 ^ (d.e - (nf k U).e).toNat % val (nf k U).l = 0 := fun h => hz (hm.1 ⟨by omega, h⟩)
          rw [decide_eq_false this, decide_eq_false hz]
      · rename_i he
        have hz : ¬ R % U = 0 := fun h => by have := (hm.2 h).1; omega
        rw [decide_eq_false hz]
        split
        · have : (zs (-((d.l.length : Int) + (d.e - (nf k U).e))).toNat ++ d.l).isEmpty = false := by
            have := nr.ne; cases hdl : d.l with
            | nil => exact absurd hdl this
            | cons a t => simp
          rw [this]; rfl
        · have : (d.l.drop ((d.l.length : Int) + (d.e - (nf k U).e)).toNat).isEmpty = false := by
            cases hdr : d.l.drop ((d.l.length : Int) + (d.e - (nf k U).e)).toNat with
            | nil =>
              have h5 := congrArg List.length hdr
              rw [List.length_drop, List.length_nil] at h5
              omega
            | cons a t => rfl
          rw [this]; rfl
theorem nf_len' {k M : Nat} {z : Int} (h : z.natAbs < 10 ^ M) (hM : M ≤ 20000) : (nf k z).l.length ≤ 100000 := Nat.le_trans (nf_length h) (by omega)
theorem ci_pos_iff (x y : Int) : 0 < Lib.compareInt x y ↔ y < x := by rcases ci_cases x y with ⟨a, b⟩ | ⟨a, b⟩ | ⟨a, b⟩ <;> rw [b] <;> omega
/-- A decimal at k places and what it is rounded to. -/
theorem rounded_nf (k N : Nat) (hk : k ≤ 5000) (hN : N ≤ 5000) (X U m : Int) (x : Tri) (w : World) (xl : x.l.length ≤ 100000) (hx : made x.neg x.l x.e = nf k X) (hX : X.natAbs < 10 ^ N) (hU0 : 0 < U) (hU : U.natAbs ≤ 10 ^ N) (hn : val (nf k U).l ≤ 1000000000) (m0 : 0 ≤ m) (m6 : m ≤ 6) :
    Calls Tryz.prog 12 #[V x, V (nf k (rz m U X)), V (nf k U), .int .i64 m] w fun z w' => z = .returned (.bool true) ∧ Below w.heap.size w w' := by
  have p1 : 10 ^ (N + 5) = 100000 * 10 ^ N := by rw [Nat.pow_add, Nat.mul_comm]
  have pp := pow_pos' N
  have hR := rz_abs m U X hU0
  have near := rz_near m U X hU0
  have hdv := rz_dvd m U X hU0
  have hrd := rz_rd m U X hU0
  have hself := @rz_self m U X
  have hR1 : (rz m U X).natAbs < 10 ^ (N + 5) := by omega
  generalize rz m U X = R at *
  have hX5 : X.natAbs < 10 ^ (N + 5) := by omega
  have hU5 : U.natAbs < 10 ^ (N + 5) := by omega
  have fX := fitN (k := k) hk (by omega) hX5
  have fU := fitN (k := k) hk (by omega) hU5
  have fR := fitN (k := k) hk (by omega) hR1
  have eX := nf_e_le (k := k) hk (by omega) hX5
  have eR := nf_e_le (k := k) hk (by omega) hR1
  have hD5 : (X - R).natAbs < 10 ^ (N + 5) := by omega
  have fD := fitN (k := k) hk (by omega) hD5
  have lX := nf_len' (k := k) hX5 (by omega)
  have lU := nf_len' (k := k) hU5 (by omega)
  have lR := nf_len' (k := k) hR1 (by omega)
  have lD := nf_len' (k := k) hD5 (by omega)
  have hm1 : LMul (nf k R) (nf k U) true := lmul_nf (M := N + 5) hk (by omega) hR1 hU5 hU0 hn true (by simpa using hdv)
  have hsub : SubIs (nf k X) (nf k R) (nf k (X - R)) := ⟨k, X, R, fX, fR, fD, nf_made fX, nf_dv fR, rfl⟩
  by_cases hz : X % U = 0
  · have hRX : R = X := hself hz
    subst hRX
    refine rounded_eq x (nf k R) (nf k U) (nf k R) m w xl lR lU lR (by omega) (by omega) hx hm1 (nf k (R - R)) lD hsub ?_ rfl
    rw [nf_made fD, Int.sub_self, nf_zero]; rfl
  · have hne : X ≠ R := by
      rintro rfl; exact hz hdv
    have rd := hrd hz
    have fDa := fit_abs fD
    have hDa : ((X - R).natAbs : Int).natAbs < 10 ^ (N + 5) := by rw [Int.natAbs_natCast]; exact hD5
    have hD2 : (((X - R).natAbs : Int) + ((X - R).natAbs : Int)).natAbs < 10 ^ (N + 5) := by omega
    have fD2 := fitN (k := k) hk (by omega) hD2
    have lDa := nf_len' (k := k) hDa (by omega)
    have lD2 := nf_len' (k := k) hD2 (by omega)
    have hRa : (R.natAbs : Int).natAbs < 10 ^ (N + 5) := by rw [Int.natAbs_natCast]; exact hR1
    have hXa : (X.natAbs : Int).natAbs < 10 ^ (N + 5) := by rw [Int.natAbs_natCast]; exact hX5
    have hm2 : LMul (nf k X) (nf k U) false := lmul_nf (M := N + 5) hk (by omega) hX5 hU5 hU0 hn false (by simpa using hz)
    have hdneg : (nf k (X - R)).neg = decide (X - R < 0) := nf_neg fD
    refine rounded_ne x (nf k R) (nf k U) (nf k X) m w xl lR lU lX (by omega) (by omega) hx hm1 (nf k (X - R)) (nf k ((X - R).natAbs : Int)) (nf k (R.natAbs : Int)) (nf k (X.natAbs : Int)) (nf k (((X - R).natAbs : Int) + ((X - R).natAbs : Int))) lD lDa (nf_len' hRa (by omega)) (nf_len' hXa (by omega)) lD2 (by omega) (by omega) hsub ?_ hm2
      (nf_abs (nf_dv fD) fD) (nf_abs (nf_dv fR) fR) (nf_abs (nf_dv fX) fX) (Lib.compareInt ((X - R).natAbs : Int) U) (Lib.compareInt (R.natAbs : Int) (X.natAbs : Int)) (Lib.compareInt (((X - R).natAbs : Int) + ((X - R).natAbs : Int)) U)
      ⟨k, _, _, fDa, fU, nf_made fDa, nf_made fU, rfl⟩ ?_ ⟨k, _, _, fit_abs fR, fit_abs fX, nf_made (fit_abs fR), nf_made (fit_abs fX), rfl⟩ ⟨k, _, _, fDa, fDa, fD2, nf_made fDa, nf_made fDa, rfl⟩ ⟨k, _, _, fD2, fU, nf_made fD2, nf_made fU, rfl⟩ _ rfl (∃ g : Int, R = 2 * (g * U)) ?_ ?_
    · rw [nf_made fD]
      cases hl : (nf k (X - R)).l with
      | nil => exact absurd ((nf_l_nil fD).1 hl) (by omega)
      | cons a t => rfl
    · rw [ci_lt (by omega)]; decide
    · -- the even multiple
      rintro ⟨g, hg⟩ w'
      obtain ⟨G, hG⟩ : ∃ G : Int, g * U = G := ⟨_, rfl⟩
      rw [hG] at hg
      have hf : ∀ i : Nat, i ≤ 4 → (((i : Int) + 1) * R).natAbs < 10 ^ (N + 6) := by
        intro i hi
        rw [Int.natAbs_mul]
        have h1 : ((i : Int) + 1).natAbs ≤ 5 := by omega
        have h2 : ((i : Int) + 1).natAbs * R.natAbs ≤ 5 * R.natAbs := Nat.mul_le_mul_right _ h1
        have h3 : 10 ^ (N + 6) = 10 * 10 ^ (N + 5) := by rw [Nat.pow_succ, Nat.mul_comm]
        omega
      have ff : ∀ i : Nat, i ≤ 4 → Fit k (((i : Int) + 1) * R) := fun i hi => fitN hk (by omega) (hf i hi)
      have hG5 : G.natAbs < 10 ^ (N + 5) := by omega
      have fG := fitN (k := k) hk (by omega) hG5
      have eG := nf_e_le (k := k) hk (by omega) hG5
      have h54 : ((4 : Nat) : Int) + 1 = 5 := by decide
      have h10 : (((4 : Nat) : Int) + 1) * R = 10 * G := by rw [h54, hg]; omega
      refine even_T (nf k R) (nf k U) w' lR lU (fun i => nf k (((i : Int) + 1) * R)) ?_ ?_ ?_ (nf k G) (nf_len' hG5 (by omega)) (by omega) (by omega) ?_ ?_
      · show nf k ((((0 : Nat) : Int) + 1) * R) = nf k R
        rw [show (((0 : Nat) : Int) + 1) * R = R by rw [show ((0 : Nat) : Int) + 1 = 1 from rfl, Int.one_mul]]
      · intro i hi
        refine ⟨k, ((i : Int) + 1) * R, R, ff i (by omega), fR, ?_, nf_made (ff i (by omega)), nf_made fR, ?_⟩
        · have := ff (i + 1) (by omega)
          rw [show ((i : Int) + 1) * R + R = (((i + 1 : Nat) : Int) + 1) * R by rw [Int.add_mul (((i + 1 : Nat) : Int)), Int.one_mul]; rfl]
          exact this
        · show _ = nf k ((((i + 1 : Nat) : Int) + 1) * R)
          rw [show ((i : Int) + 1) * R + R = (((i + 1 : Nat) : Int) + 1) * R by rw [Int.add_mul (((i + 1 : Nat) : Int)), Int.one_mul]; rfl]
      · intro i hi; exact nf_len' (hf i hi) (by omega)
      · show made (made (nf k ((((4 : Nat) : Int) + 1) * R)).neg (nf k ((((4 : Nat) : Int) + 1) * R)).l (nf k ((((4 : Nat) : Int) + 1) * R)).e).neg _ _ = _
        rw [h10, nf_made (by rw [← h10]; exact ff 4 (by decide))]
        exact nf_tenth (by rw [← h10]; exact ff 4 (by decide)) fG
      · refine lmul_nf (M := N + 5) hk (by omega) hG5 hU5 hU0 hn true ?_
        rw [← hG, Int.mul_emod_left]; rfl
    · have o1 : decide (0 < Lib.compareInt (R.natAbs : Int) (X.natAbs : Int)) = decide (X.natAbs < R.natAbs) := by
        by_cases h : X.natAbs < R.natAbs
        · rw [decide_eq_true h, decide_eq_true ((ci_pos_iff _ _).2 (by omega))]
        · rw [decide_eq_false h, decide_eq_false (fun h' => h (by have := (ci_pos_iff _ _).1 h'; omega))]
      rw [o1, hdneg]
      have hm : m = 0 ∨ m = 1 ∨ m = 2 ∨ m = 3 ∨ m = 4 ∨ m = 5 ∨ m = 6 := by omega
      have cl : 2 * ((X - R).natAbs : Int) < U → Lib.compareInt (((X - R).natAbs : Int) + ((X - R).natAbs : Int)) U < 0 := fun h => by rw [ci_lt (by omega)]; decide
      have ce : 2 * ((X - R).natAbs : Int) = U → Lib.compareInt (((X - R).natAbs : Int) + ((X - R).natAbs : Int)) U = 0 := fun h => ci_eq (by omega)
      rcases hm with h | h | h | h | h | h | h
      · rcases rd.h0 h with q | ⟨q, g⟩
        · exact .inr (.inr (.inr (.inr (.inl ⟨.inl h, cl q⟩))))
        · exact .inr (.inr (.inr (.inr (.inr (.inr (.inr ⟨h, ce q, g⟩))))))
      · rcases rd.h1 h with q | ⟨q, g⟩
        · exact .inr (.inr (.inr (.inr (.inl ⟨.inr (.inl h), cl q⟩))))
        · exact .inr (.inr (.inr (.inr (.inr (.inl ⟨h, ce q, by simpa using g⟩)))))
      · rcases rd.h2 h with q | ⟨q, g⟩
        · exact .inr (.inr (.inr (.inr (.inl ⟨.inr (.inr h), cl q⟩))))
        · exact .inr (.inr (.inr (.inr (.inr (.inr (.inl ⟨h, ce q, by simp; omega⟩))))))
      · exact .inl ⟨h, by simpa using rd.up3 h⟩
      · exact .inr (.inl ⟨h, by have := rd.dn4 h; simp; omega⟩)
      · exact .inr (.inr (.inl ⟨h, by have := rd.up5 h; simp; omega⟩))
      · exact .inr (.inr (.inr (.inl ⟨h, by have := rd.dn6 h; simp; omega⟩)))
end Go.Proofs.YtfbfjkacaadbpaaGreatDoor

namespace Go.Proofs.YtfbfjkacaadbpaaGreatDoor
open Go.RowKit Florin
set_option linter.unusedVariables false
set_option linter.unusedSimpArgs false
attribute [local go_sem ↓] Go.wp_at_zero Go.wp_at_succ eq_V ne_V

set_option maxRecDepth 100000 in
set_option maxHeartbeats 6400000 in
theorem rounds_z (n : Bool) (a : Option Addr) (len cap : Nat) (L : List UInt8) (e : Int) (k0 k1 k2 k3 k4 k5 k6 : Int) (w : World) (hin : InB w a len cap L) (htab : Tab w) (h1 : len ≤ 30) (h2 : -30 ≤ e) (h3 : e ≤ 30) (p : Prc) (pl : p.inc.l.length ≤ 100000) (hpr : (∀ w : World, Tab w → Calls Tryz.prog 22 #[.agg #[.int .i64 k0, .int .i64 k1, .int .i64 k2, .int .i64 k3, .int .i64 k4, .int .i64 k5, .int .i64 k6]] w fun z w' => z = .returned (PV p) ∧ Below w.heap.size w w')) (hv : validP p = true) (d : Tri) (dl : d.l.length ≤ 100000) (hd : made n (dgs L) e = d) (v : Vs) (hap : (∀ w : World, Tab w → Calls Tryz.prog 24 #[PV p, V d] w fun z w' => z = .returned (.tuple #[VV v, .int .i64 0]) ∧ Below w.heap.size w w')) (hval : (∀ w : World, Tab w → Calls Tryz.prog 26 #[VV v] w fun z w' => z = .returned (V zero) ∧ Below w.heap.size w w')) (hrp : (∀ w : World, Tab w → Calls Tryz.prog 27 #[PV p, V d] w fun z w' => z = .returned (V zero) ∧ Below w.heap.size w w')) (hz : (made d.neg d.l d.e).l.isEmpty = true) :
    Calls Tryz.prog 6 #[RV n a len cap e, .agg #[.int .i64 k0, .int .i64 k1, .int .i64 k2, .int .i64 k3, .int .i64 k4, .int .i64 k5, .int .i64 k6]] w fun x w' => x = .returned (.bool true) ∧ Below w.heap.size w w' := by
  have hcA := hin.2.1
  have hmA := hin.2.2.1
  have LL : (dgs L).length ≤ 100000 := by rw [dgs_length, hin.1]; omega
  have HT := Lib.hid htab
  have HIN := Lib.hid hin
  have HPR := Lib.hid hpr
  have HV := Lib.hid hv
  have HD := Lib.hid hd
  have HAP := Lib.hid hap
  have HVL := Lib.hid hval
  have HRP := Lib.hid hrp
  have HZ := Lib.hid hz
  clear htab hin hpr hv hd hap hval hrp hz
  go_enter Tryz.func6, Tryz.ntmps6
  go_wp2_with fail
  with_reducible refine (head4 _ (HT.out.below (HeldL.alloc (HeldL.alloc (HeldL.refl w) (w.heap.size) #[.bool n, .slice a len cap, .int .i64 e] 24 (by simp)) (w.heap.size + 1) #[.int .i64 k0, .int .i64 k1, .int .i64 k2, .int .i64 k3, .int .i64 k4, .int .i64 k5, .int .i64 k6] 43 (by simp)).bel)).mono ?_
  rintro x w1 ⟨rfl, hb⟩
  have H1 : Hid (HeldL w [(w.heap.size + 1, #[.int .i64 k0, .int .i64 k1, .int .i64 k2, .int .i64 k3, .int .i64 k4, .int .i64 k5, .int .i64 k6]), (w.heap.size, #[.bool n, .slice a len cap, .int .i64 e])] w1) := Lib.hid (HeldL.keep (HeldL.alloc (HeldL.alloc (HeldL.refl w) (w.heap.size) #[.bool n, .slice a len cap, .int .i64 e] 24 (by simp)) (w.heap.size + 1) #[.int .i64 k0, .int .i64 k1, .int .i64 k2, .int .i64 k3, .int .i64 k4, .int .i64 k5, .int .i64 k6] 43 (by simp)) hb)
  clear hb
  have q0 : w1.cell? ⟨w.heap.size, 0, none⟩ = some (.bool n) := (H1.out.f (List.Mem.tail _ (List.Mem.head _))).cell 0
  have q1 : w1.cell? ⟨w.heap.size, 1, none⟩ = some (.slice a len cap) := (H1.out.f (List.Mem.tail _ (List.Mem.head _))).cell 1
  have q2 : w1.cell? ⟨w.heap.size, 2, none⟩ = some (.int .i64 e) := (H1.out.f (List.Mem.tail _ (List.Mem.head _))).cell 2
  have ql : w.heap.size < w1.heap.size := (H1.out.f (List.Mem.tail _ (List.Mem.head _))).lt
  have k0 : w1.cell? ⟨w.heap.size + 1, 0, none⟩ = some (.int .i64 k0) := (H1.out.f (List.Mem.head _)).cell 0
  have k1 : w1.cell? ⟨w.heap.size + 1, 1, none⟩ = some (.int .i64 k1) := (H1.out.f (List.Mem.head _)).cell 1
  have k2 : w1.cell? ⟨w.heap.size + 1, 2, none⟩ = some (.int .i64 k2) := (H1.out.f (List.Mem.head _)).cell 2
  have k3 : w1.cell? ⟨w.heap.size + 1, 3, none⟩ = some (.int .i64 k3) := (H1.out.f (List.Mem.head _)).cell 3
  have k4 : w1.cell? ⟨w.heap.size + 1, 4, none⟩ = some (.int .i64 k4) := (H1.out.f (List.Mem.head _)).cell 4
  have k5 : w1.cell? ⟨w.heap.size + 1, 5, none⟩ = some (.int .i64 k5) := (H1.out.f (List.Mem.head _)).cell 5
  have k6 : w1.cell? ⟨w.heap.size + 1, 6, none⟩ = some (.int .i64 k6) := (H1.out.f (List.Mem.head _)).cell 6
  have kl : w.heap.size + 1 < w1.heap.size := (H1.out.f (List.Mem.head _)).lt
  go_wp2_with fail
  with_reducible refine (few_yes n a len cap e 30 _ hcA hmA (by decide) (by decide) (by omega) h2 h3).mono ?_
  rintro x w2 ⟨rfl, hb⟩
  clear q0 q1 q2 ql k0 k1 k2 k3 k4 k5 k6 kl
  have H2 : Hid (HeldL w [(w.heap.size + 1, #[.int .i64 k0, .int .i64 k1, .int .i64 k2, .int .i64 k3, .int .i64 k4, .int .i64 k5, .int .i64 k6]), (w.heap.size, #[.bool n, .slice a len cap, .int .i64 e])] w2) := Lib.hid (HeldL.keep H1.out hb)
  clear H1
  clear hb
  have q0 : w2.cell? ⟨w.heap.size, 0, none⟩ = some (.bool n) := (H2.out.f (List.Mem.tail _ (List.Mem.head _))).cell 0
  have q1 : w2.cell? ⟨w.heap.size, 1, none⟩ = some (.slice a len cap) := (H2.out.f (List.Mem.tail _ (List.Mem.head _))).cell 1
  have q2 : w2.cell? ⟨w.heap.size, 2, none⟩ = some (.int .i64 e) := (H2.out.f (List.Mem.tail _ (List.Mem.head _))).cell 2
  have ql : w.heap.size < w2.heap.size := (H2.out.f (List.Mem.tail _ (List.Mem.head _))).lt
  have k0 : w2.cell? ⟨w.heap.size + 1, 0, none⟩ = some (.int .i64 k0) := (H2.out.f (List.Mem.head _)).cell 0
  have k1 : w2.cell? ⟨w.heap.size + 1, 1, none⟩ = some (.int .i64 k1) := (H2.out.f (List.Mem.head _)).cell 1
  have k2 : w2.cell? ⟨w.heap.size + 1, 2, none⟩ = some (.int .i64 k2) := (H2.out.f (List.Mem.head _)).cell 2
  have k3 : w2.cell? ⟨w.heap.size + 1, 3, none⟩ = some (.int .i64 k3) := (H2.out.f (List.Mem.head _)).cell 3
  have k4 : w2.cell? ⟨w.heap.size + 1, 4, none⟩ = some (.int .i64 k4) := (H2.out.f (List.Mem.head _)).cell 4
  have k5 : w2.cell? ⟨w.heap.size + 1, 5, none⟩ = some (.int .i64 k5) := (H2.out.f (List.Mem.head _)).cell 5
  have k6 : w2.cell? ⟨w.heap.size + 1, 6, none⟩ = some (.int .i64 k6) := (H2.out.f (List.Mem.head _)).cell 6
  have kl : w.heap.size + 1 < w2.heap.size := (H2.out.f (List.Mem.head _)).lt
  go_wp2_with fail
  with_reducible refine (HPR.out _ (HT.out.below H2.out.bel)).mono ?_
  rintro x w3 ⟨rfl, hb⟩
  clear q0 q1 q2 ql k0 k1 k2 k3 k4 k5 k6 kl
  have H3 : Hid (HeldL w [(w.heap.size + 1, #[.int .i64 k0, .int .i64 k1, .int .i64 k2, .int .i64 k3, .int .i64 k4, .int .i64 k5, .int .i64 k6]), (w.heap.size, #[.bool n, .slice a len cap, .int .i64 e])] w3) := Lib.hid (HeldL.keep H2.out hb)
  clear H2
  clear hb
  have q0 : w3.cell? ⟨w.heap.size, 0, none⟩ = some (.bool n) := (H3.out.f (List.Mem.tail _ (List.Mem.head _))).cell 0
  have q1 : w3.cell? ⟨w.heap.size, 1, none⟩ = some (.slice a len cap) := (H3.out.f (List.Mem.tail _ (List.Mem.head _))).cell 1
  have q2 : w3.cell? ⟨w.heap.size, 2, none⟩ = some (.int .i64 e) := (H3.out.f (List.Mem.tail _ (List.Mem.head _))).cell 2
  have ql : w.heap.size < w3.heap.size := (H3.out.f (List.Mem.tail _ (List.Mem.head _))).lt
  go_wp2_with fail
  with_reducible refine (make_as n a len cap L e _ (HIN.out.below (HeldL.alloc H3.out (w3.heap.size) #[.int .i64 p.kind, .int .i64 p.mn, .int .i64 p.mx, .bool p.inc.neg, S p.inc.l, .int .i64 p.inc.e, .int .i64 p.mode, .int .i64 p.mi] 46 (by simp)).bel) (by omega)).mono ?_
  rintro x w4 ⟨rfl, hb⟩
  clear q0 q1 q2 ql
  have H4 : Hid (HeldL w [(w3.heap.size, #[.int .i64 p.kind, .int .i64 p.mn, .int .i64 p.mx, .bool p.inc.neg, S p.inc.l, .int .i64 p.inc.e, .int .i64 p.mode, .int .i64 p.mi]), (w.heap.size + 1, #[.int .i64 k0, .int .i64 k1, .int .i64 k2, .int .i64 k3, .int .i64 k4, .int .i64 k5, .int .i64 k6]), (w.heap.size, #[.bool n, .slice a len cap, .int .i64 e])] w4) := Lib.hid (HeldL.keep (HeldL.alloc H3.out (w3.heap.size) #[.int .i64 p.kind, .int .i64 p.mn, .int .i64 p.mx, .bool p.inc.neg, S p.inc.l, .int .i64 p.inc.e, .int .i64 p.mode, .int .i64 p.mi] 46 (by simp)) hb)
  clear H3
  clear hb
  go_wp2_with fail
  with_reducible refine (norm_T ⟨n, dgs L, e⟩ d _ LL HD.out).mono ?_
  rintro x w5 ⟨rfl, hb⟩
  have H5 : Hid (HeldL w [(w3.heap.size, #[.int .i64 p.kind, .int .i64 p.mn, .int .i64 p.mx, .bool p.inc.neg, S p.inc.l, .int .i64 p.inc.e, .int .i64 p.mode, .int .i64 p.mi]), (w.heap.size + 1, #[.int .i64 k0, .int .i64 k1, .int .i64 k2, .int .i64 k3, .int .i64 k4, .int .i64 k5, .int .i64 k6]), (w.heap.size, #[.bool n, .slice a len cap, .int .i64 e])] w5) := Lib.hid (HeldL.keep H4.out hb)
  clear H4
  clear hb
  have bp0 : w5.cell? ⟨w3.heap.size, 0, none⟩ = some (.int .i64 p.kind) := (H5.out.f (List.Mem.head _)).cell 0
  have bp1 : w5.cell? ⟨w3.heap.size, 1, none⟩ = some (.int .i64 p.mn) := (H5.out.f (List.Mem.head _)).cell 1
  have bp2 : w5.cell? ⟨w3.heap.size, 2, none⟩ = some (.int .i64 p.mx) := (H5.out.f (List.Mem.head _)).cell 2
  have bp3 : w5.cell? ⟨w3.heap.size, 3, none⟩ = some (.bool p.inc.neg) := (H5.out.f (List.Mem.head _)).cell 3
  have bp4 : w5.cell? ⟨w3.heap.size, 4, none⟩ = some (S p.inc.l) := (H5.out.f (List.Mem.head _)).cell 4
  have bp5 : w5.cell? ⟨w3.heap.size, 5, none⟩ = some (.int .i64 p.inc.e) := (H5.out.f (List.Mem.head _)).cell 5
  have bp6 : w5.cell? ⟨w3.heap.size, 6, none⟩ = some (.int .i64 p.mode) := (H5.out.f (List.Mem.head _)).cell 6
  have bp7 : w5.cell? ⟨w3.heap.size, 7, none⟩ = some (.int .i64 p.mi) := (H5.out.f (List.Mem.head _)).cell 7
  have bpl : w3.heap.size < w5.heap.size := (H5.out.f (List.Mem.head _)).lt
  go_wp2_with fail
  with_reducible refine (HAP.out _ (HT.out.below (HeldL.alloc H5.out (w5.heap.size) #[.bool d.neg, S d.l, .int .i64 d.e] 31 (by simp)).bel)).mono ?_
  rintro x w6 ⟨rfl, hb⟩
  clear bp0 bp1 bp2 bp3 bp4 bp5 bp6 bp7 bpl
  have H6 : Hid (HeldL w [(w5.heap.size, #[.bool d.neg, S d.l, .int .i64 d.e]), (w3.heap.size, #[.int .i64 p.kind, .int .i64 p.mn, .int .i64 p.mx, .bool p.inc.neg, S p.inc.l, .int .i64 p.inc.e, .int .i64 p.mode, .int .i64 p.mi]), (w.heap.size + 1, #[.int .i64 k0, .int .i64 k1, .int .i64 k2, .int .i64 k3, .int .i64 k4, .int .i64 k5, .int .i64 k6]), (w.heap.size, #[.bool n, .slice a len cap, .int .i64 e])] w6) := Lib.hid (HeldL.keep (HeldL.alloc H5.out (w5.heap.size) #[.bool d.neg, S d.l, .int .i64 d.e] 31 (by simp)) hb)
  clear H5
  clear hb
  have bp0 : w6.cell? ⟨w3.heap.size, 0, none⟩ = some (.int .i64 p.kind) := (H6.out.f (List.Mem.tail _ (List.Mem.head _))).cell 0
  have bp1 : w6.cell? ⟨w3.heap.size, 1, none⟩ = some (.int .i64 p.mn) := (H6.out.f (List.Mem.tail _ (List.Mem.head _))).cell 1
  have bp2 : w6.cell? ⟨w3.heap.size, 2, none⟩ = some (.int .i64 p.mx) := (H6.out.f (List.Mem.tail _ (List.Mem.head _))).cell 2
  have bp3 : w6.cell? ⟨w3.heap.size, 3, none⟩ = some (.bool p.inc.neg) := (H6.out.f (List.Mem.tail _ (List.Mem.head _))).cell 3
  have bp4 : w6.cell? ⟨w3.heap.size, 4, none⟩ = some (S p.inc.l) := (H6.out.f (List.Mem.tail _ (List.Mem.head _))).cell 4
  have bp5 : w6.cell? ⟨w3.heap.size, 5, none⟩ = some (.int .i64 p.inc.e) := (H6.out.f (List.Mem.tail _ (List.Mem.head _))).cell 5
  have bp6 : w6.cell? ⟨w3.heap.size, 6, none⟩ = some (.int .i64 p.mode) := (H6.out.f (List.Mem.tail _ (List.Mem.head _))).cell 6
  have bp7 : w6.cell? ⟨w3.heap.size, 7, none⟩ = some (.int .i64 p.mi) := (H6.out.f (List.Mem.tail _ (List.Mem.head _))).cell 7
  have bpl : w3.heap.size < w6.heap.size := (H6.out.f (List.Mem.tail _ (List.Mem.head _))).lt
  have bd0 : w6.cell? ⟨w5.heap.size, 0, none⟩ = some (.bool d.neg) := (H6.out.f (List.Mem.head _)).cell 0
  have bd1 : w6.cell? ⟨w5.heap.size, 1, none⟩ = some (S d.l) := (H6.out.f (List.Mem.head _)).cell 1
  have bd2 : w6.cell? ⟨w5.heap.size, 2, none⟩ = some (.int .i64 d.e) := (H6.out.f (List.Mem.head _)).cell 2
  have bdl : w5.heap.size < w6.heap.size := (H6.out.f (List.Mem.head _)).lt
  go_wp2_with fail
  have ALL1 : Hid (∀ w' : World, HeldL w [(w6.heap.size, #[.bool v.neg, S v.i, S v.f]), (w5.heap.size, #[.bool d.neg, S d.l, .int .i64 d.e]), (w3.heap.size, #[.int .i64 p.kind, .int .i64 p.mn, .int .i64 p.mx, .bool p.inc.neg, S p.inc.l, .int .i64 p.inc.e, .int .i64 p.mode, .int .i64 p.mi]), (w.heap.size + 1, #[.int .i64 k0, .int .i64 k1, .int .i64 k2, .int .i64 k3, .int .i64 k4, .int .i64 k5, .int .i64 k6]), (w.heap.size, #[.bool n, .slice a len cap, .int .i64 e])] w' → w'.cell? ⟨w3.heap.size, 0, none⟩ = some (.int .i64 p.kind) ∧ w'.cell? ⟨w3.heap.size, 1, none⟩ = some (.int .i64 p.mn) ∧ w'.cell? ⟨w3.heap.size, 2, none⟩ = some (.int .i64 p.mx) ∧ w'.cell? ⟨w3.heap.size, 3, none⟩ = some (.bool p.inc.neg) ∧ w'.cell? ⟨w3.heap.size, 4, none⟩ = some (S p.inc.l) ∧ w'.cell? ⟨w3.heap.size, 5, none⟩ = some (.int .i64 p.inc.e) ∧ w'.cell? ⟨w3.heap.size, 6, none⟩ = some (.int .i64 p.mode) ∧ w'.cell? ⟨w3.heap.size, 7, none⟩ = some (.int .i64 p.mi) ∧ w'.cell? ⟨w5.heap.size, 0, none⟩ = some (.bool d.neg) ∧ w'.cell? ⟨w5.heap.size, 1, none⟩ = some (S d.l) ∧ w'.cell? ⟨w5.heap.size, 2, none⟩ = some (.int .i64 d.e) ∧ w'.cell? ⟨w6.heap.size, 0, none⟩ = some (.bool v.neg) ∧ w'.cell? ⟨w6.heap.size, 1, none⟩ = some (S v.i) ∧ w'.cell? ⟨w6.heap.size, 2, none⟩ = some (S v.f) ∧ HeldL w [(w6.heap.size, #[.bool v.neg, S v.i, S v.f]), (w5.heap.size, #[.bool d.neg, S d.l, .int .i64 d.e]), (w3.heap.size, #[.int .i64 p.kind, .int .i64 p.mn, .int .i64 p.mx, .bool p.inc.neg, S p.inc.l, .int .i64 p.inc.e, .int .i64 p.mode, .int .i64 p.mi]), (w.heap.size + 1, #[.int .i64 k0, .int .i64 k1, .int .i64 k2, .int .i64 k3, .int .i64 k4, .int .i64 k5, .int .i64 k6]), (w.heap.size, #[.bool n, .slice a len cap, .int .i64 e])] w') := Lib.hid (fun w' h => ⟨(h.f (List.Mem.tail _ (List.Mem.tail _ (List.Mem.head _)))).cell 0, (h.f (List.Mem.tail _ (List.Mem.tail _ (List.Mem.head _)))).cell 1, (h.f (List.Mem.tail _ (List.Mem.tail _ (List.Mem.head _)))).cell 2, (h.f (List.Mem.tail _ (List.Mem.tail _ (List.Mem.head _)))).cell 3, (h.f (List.Mem.tail _ (List.Mem.tail _ (List.Mem.head _)))).cell 4, (h.f (List.Mem.tail _ (List.Mem.tail _ (List.Mem.head _)))).cell 5, (h.f (List.Mem.tail _ (List.Mem.tail _ (List.Mem.head _)))).cell 6, (h.f (List.Mem.tail _ (List.Mem.tail _ (List.Mem.head _)))).cell 7, (h.f (List.Mem.tail _ (List.Mem.head _))).cell 0, (h.f (List.Mem.tail _ (List.Mem.head _))).cell 1, (h.f (List.Mem.tail _ (List.Mem.head _))).cell 2, (h.f (List.Mem.head _)).cell 0, (h.f (List.Mem.head _)).cell 1, (h.f (List.Mem.head _)).cell 2, h⟩)
  have KEEP1 : Hid (∀ w' w'' : World, (w'.cell? ⟨w3.heap.size, 0, none⟩ = some (.int .i64 p.kind) ∧ w'.cell? ⟨w3.heap.size, 1, none⟩ = some (.int .i64 p.mn) ∧ w'.cell? ⟨w3.heap.size, 2, none⟩ = some (.int .i64 p.mx) ∧ w'.cell? ⟨w3.heap.size, 3, none⟩ = some (.bool p.inc.neg) ∧ w'.cell? ⟨w3.heap.size, 4, none⟩ = some (S p.inc.l) ∧ w'.cell? ⟨w3.heap.size, 5, none⟩ = some (.int .i64 p.inc.e) ∧ w'.cell? ⟨w3.heap.size, 6, none⟩ = some (.int .i64 p.mode) ∧ w'.cell? ⟨w3.heap.size, 7, none⟩ = some (.int .i64 p.mi) ∧ w'.cell? ⟨w5.heap.size, 0, none⟩ = some (.bool d.neg) ∧ w'.cell? ⟨w5.heap.size, 1, none⟩ = some (S d.l) ∧ w'.cell? ⟨w5.heap.size, 2, none⟩ = some (.int .i64 d.e) ∧ w'.cell? ⟨w6.heap.size, 0, none⟩ = some (.bool v.neg) ∧ w'.cell? ⟨w6.heap.size, 1, none⟩ = some (S v.i) ∧ w'.cell? ⟨w6.heap.size, 2, none⟩ = some (S v.f) ∧ HeldL w [(w6.heap.size, #[.bool v.neg, S v.i, S v.f]), (w5.heap.size, #[.bool d.neg, S d.l, .int .i64 d.e]), (w3.heap.size, #[.int .i64 p.kind, .int .i64 p.mn, .int .i64 p.mx, .bool p.inc.neg, S p.inc.l, .int .i64 p.inc.e, .int .i64 p.mode, .int .i64 p.mi]), (w.heap.size + 1, #[.int .i64 k0, .int .i64 k1, .int .i64 k2, .int .i64 k3, .int .i64 k4, .int .i64 k5, .int .i64 k6]), (w.heap.size, #[.bool n, .slice a len cap, .int .i64 e])] w') → Below w'.heap.size w' w'' → (w''.cell? ⟨w3.heap.size, 0, none⟩ = some (.int .i64 p.kind) ∧ w''.cell? ⟨w3.heap.size, 1, none⟩ = some (.int .i64 p.mn) ∧ w''.cell? ⟨w3.heap.size, 2, none⟩ = some (.int .i64 p.mx) ∧ w''.cell? ⟨w3.heap.size, 3, none⟩ = some (.bool p.inc.neg) ∧ w''.cell? ⟨w3.heap.size, 4, none⟩ = some (S p.inc.l) ∧ w''.cell? ⟨w3.heap.size, 5, none⟩ = some (.int .i64 p.inc.e) ∧ w''.cell? ⟨w3.heap.size, 6, none⟩ = some (.int .i64 p.mode) ∧ w''.cell? ⟨w3.heap.size, 7, none⟩ = some (.int .i64 p.mi) ∧ w''.cell? ⟨w5.heap.size, 0, none⟩ = some (.bool d.neg) ∧ w''.cell? ⟨w5.heap.size, 1, none⟩ = some (S d.l) ∧ w''.cell? ⟨w5.heap.size, 2, none⟩ = some (.int .i64 d.e) ∧ w''.cell? ⟨w6.heap.size, 0, none⟩ = some (.bool v.neg) ∧ w''.cell? ⟨w6.heap.size, 1, none⟩ = some (S v.i) ∧ w''.cell? ⟨w6.heap.size, 2, none⟩ = some (S v.f) ∧ HeldL w [(w6.heap.size, #[.bool v.neg, S v.i, S v.f]), (w5.heap.size, #[.bool d.neg, S d.l, .int .i64 d.e]), (w3.heap.size, #[.int .i64 p.kind, .int .i64 p.mn, .int .i64 p.mx, .bool p.inc.neg, S p.inc.l, .int .i64 p.inc.e, .int .i64 p.mode, .int .i64 p.mi]), (w.heap.size + 1, #[.int .i64 k0, .int .i64 k1, .int .i64 k2, .int .i64 k3, .int .i64 k4, .int .i64 k5, .int .i64 k6]), (w.heap.size, #[.bool n, .slice a len cap, .int .i64 e])] w'')) := Lib.hid (fun w' w'' h hb => ALL1.out _ (HeldL.keep (h.2.2.2.2.2.2.2.2.2.2.2.2.2.2) hb))
  have HS1 : Hid (HeldL w [(w6.heap.size, #[.bool v.neg, S v.i, S v.f]), (w5.heap.size, #[.bool d.neg, S d.l, .int .i64 d.e]), (w3.heap.size, #[.int .i64 p.kind, .int .i64 p.mn, .int .i64 p.mx, .bool p.inc.neg, S p.inc.l, .int .i64 p.inc.e, .int .i64 p.mode, .int .i64 p.mi]), (w.heap.size + 1, #[.int .i64 k0, .int .i64 k1, .int .i64 k2, .int .i64 k3, .int .i64 k4, .int .i64 k5, .int .i64 k6]), (w.heap.size, #[.bool n, .slice a len cap, .int .i64 e])] _) := Lib.hid (HeldL.alloc H6.out (w6.heap.size) #[.bool v.neg, S v.i, S v.f] 49 (by simp))
  have TAB1 : Hid (∀ w' : World, (w'.cell? ⟨w3.heap.size, 0, none⟩ = some (.int .i64 p.kind) ∧ w'.cell? ⟨w3.heap.size, 1, none⟩ = some (.int .i64 p.mn) ∧ w'.cell? ⟨w3.heap.size, 2, none⟩ = some (.int .i64 p.mx) ∧ w'.cell? ⟨w3.heap.size, 3, none⟩ = some (.bool p.inc.neg) ∧ w'.cell? ⟨w3.heap.size, 4, none⟩ = some (S p.inc.l) ∧ w'.cell? ⟨w3.heap.size, 5, none⟩ = some (.int .i64 p.inc.e) ∧ w'.cell? ⟨w3.heap.size, 6, none⟩ = some (.int .i64 p.mode) ∧ w'.cell? ⟨w3.heap.size, 7, none⟩ = some (.int .i64 p.mi) ∧ w'.cell? ⟨w5.heap.size, 0, none⟩ = some (.bool d.neg) ∧ w'.cell? ⟨w5.heap.size, 1, none⟩ = some (S d.l) ∧ w'.cell? ⟨w5.heap.size, 2, none⟩ = some (.int .i64 d.e) ∧ w'.cell? ⟨w6.heap.size, 0, none⟩ = some (.bool v.neg) ∧ w'.cell? ⟨w6.heap.size, 1, none⟩ = some (S v.i) ∧ w'.cell? ⟨w6.heap.size, 2, none⟩ = some (S v.f) ∧ HeldL w [(w6.heap.size, #[.bool v.neg, S v.i, S v.f]), (w5.heap.size, #[.bool d.neg, S d.l, .int .i64 d.e]), (w3.heap.size, #[.int .i64 p.kind, .int .i64 p.mn, .int .i64 p.mx, .bool p.inc.neg, S p.inc.l, .int .i64 p.inc.e, .int .i64 p.mode, .int .i64 p.mi]), (w.heap.size + 1, #[.int .i64 k0, .int .i64 k1, .int .i64 k2, .int .i64 k3, .int .i64 k4, .int .i64 k5, .int .i64 k6]), (w.heap.size, #[.bool n, .slice a len cap, .int .i64 e])] w') → Tab w') := Lib.hid (fun w' h => HT.out.below (h.2.2.2.2.2.2.2.2.2.2.2.2.2.2).bel)
  go_region_held3 (fun w' => w'.cell? ⟨w3.heap.size, 0, none⟩ = some (.int .i64 p.kind) ∧ w'.cell? ⟨w3.heap.size, 1, none⟩ = some (.int .i64 p.mn) ∧ w'.cell? ⟨w3.heap.size, 2, none⟩ = some (.int .i64 p.mx) ∧ w'.cell? ⟨w3.heap.size, 3, none⟩ = some (.bool p.inc.neg) ∧ w'.cell? ⟨w3.heap.size, 4, none⟩ = some (S p.inc.l) ∧ w'.cell? ⟨w3.heap.size, 5, none⟩ = some (.int .i64 p.inc.e) ∧ w'.cell? ⟨w3.heap.size, 6, none⟩ = some (.int .i64 p.mode) ∧ w'.cell? ⟨w3.heap.size, 7, none⟩ = some (.int .i64 p.mi) ∧ w'.cell? ⟨w5.heap.size, 0, none⟩ = some (.bool d.neg) ∧ w'.cell? ⟨w5.heap.size, 1, none⟩ = some (S d.l) ∧ w'.cell? ⟨w5.heap.size, 2, none⟩ = some (.int .i64 d.e) ∧ w'.cell? ⟨w6.heap.size, 0, none⟩ = some (.bool v.neg) ∧ w'.cell? ⟨w6.heap.size, 1, none⟩ = some (S v.i) ∧ w'.cell? ⟨w6.heap.size, 2, none⟩ = some (S v.f) ∧ HeldL w [(w6.heap.size, #[.bool v.neg, S v.i, S v.f]), (w5.heap.size, #[.bool d.neg, S d.l, .int .i64 d.e]), (w3.heap.size, #[.int .i64 p.kind, .int .i64 p.mn, .int .i64 p.mx, .bool p.inc.neg, S p.inc.l, .int .i64 p.inc.e, .int .i64 p.mode, .int .i64 p.mi]), (w.heap.size + 1, #[.int .i64 k0, .int .i64 k1, .int .i64 k2, .int .i64 k3, .int .i64 k4, .int .i64 k5, .int .i64 k6]), (w.heap.size, #[.bool n, .slice a len cap, .int .i64 e])] w')
    (first | exact ALL1.out _ (HeldL.drew HS1.out) | exact KEEP1.out _ _ (by assumption) hb | assumption)
    (first | (go_at_call 25; (with_reducible refine (valid_as p _ pl true HV.out).mono ?_); rintro x wA ⟨rfl, hb⟩) | (go_at_call 26; (with_reducible refine (HVL.out _ (by first | exact HT.out.below HS1.out.bel.drew | exact TAB1.out _ (by assumption))).mono ?_); rintro x wB ⟨rfl, hb⟩) | (go_at_call 27; (with_reducible refine (HRP.out _ (by first | exact HT.out.below HS1.out.bel.drew | exact TAB1.out _ (by assumption))).mono ?_); rintro x wC ⟨rfl, hb⟩))
  have HH : HeldL w [(w6.heap.size, #[.bool v.neg, S v.i, S v.f]), (w5.heap.size, #[.bool d.neg, S d.l, .int .i64 d.e]), (w3.heap.size, #[.int .i64 p.kind, .int .i64 p.mn, .int .i64 p.mx, .bool p.inc.neg, S p.inc.l, .int .i64 p.inc.e, .int .i64 p.mode, .int .i64 p.mi]), (w.heap.size + 1, #[.int .i64 k0, .int .i64 k1, .int .i64 k2, .int .i64 k3, .int .i64 k4, .int .i64 k5, .int .i64 k6]), (w.heap.size, #[.bool n, .slice a len cap, .int .i64 e])] wC := (‹wC.cell? ⟨w3.heap.size, 0, none⟩ = some (.int .i64 p.kind) ∧ wC.cell? ⟨w3.heap.size, 1, none⟩ = some (.int .i64 p.mn) ∧ wC.cell? ⟨w3.heap.size, 2, none⟩ = some (.int .i64 p.mx) ∧ wC.cell? ⟨w3.heap.size, 3, none⟩ = some (.bool p.inc.neg) ∧ wC.cell? ⟨w3.heap.size, 4, none⟩ = some (S p.inc.l) ∧ wC.cell? ⟨w3.heap.size, 5, none⟩ = some (.int .i64 p.inc.e) ∧ wC.cell? ⟨w3.heap.size, 6, none⟩ = some (.int .i64 p.mode) ∧ wC.cell? ⟨w3.heap.size, 7, none⟩ = some (.int .i64 p.mi) ∧ wC.cell? ⟨w5.heap.size, 0, none⟩ = some (.bool d.neg) ∧ wC.cell? ⟨w5.heap.size, 1, none⟩ = some (S d.l) ∧ wC.cell? ⟨w5.heap.size, 2, none⟩ = some (.int .i64 d.e) ∧ wC.cell? ⟨w6.heap.size, 0, none⟩ = some (.bool v.neg) ∧ wC.cell? ⟨w6.heap.size, 1, none⟩ = some (S v.i) ∧ wC.cell? ⟨w6.heap.size, 2, none⟩ = some (S v.f) ∧ HeldL w [(w6.heap.size, #[.bool v.neg, S v.i, S v.f]), (w5.heap.size, #[.bool d.neg, S d.l, .int .i64 d.e]), (w3.heap.size, #[.int .i64 p.kind, .int .i64 p.mn, .int .i64 p.mx, .bool p.inc.neg, S p.inc.l, .int .i64 p.inc.e, .int .i64 p.mode, .int .i64 p.mi]), (w.heap.size + 1, #[.int .i64 k0, .int .i64 k1, .int .i64 k2, .int .i64 k3, .int .i64 k4, .int .i64 k5, .int .i64 k6]), (w.heap.size, #[.bool n, .slice a len cap, .int .i64 e])] wC›).2.2.2.2.2.2.2.2.2.2.2.2.2.2
  clear bp0 bp1 bp2 bp3 bp4 bp5 bp6 bp7 bpl bd0 bd1 bd2 bdl
  have H7 : Hid (HeldL w [(w6.heap.size, #[.bool v.neg, S v.i, S v.f]), (w5.heap.size, #[.bool d.neg, S d.l, .int .i64 d.e]), (w3.heap.size, #[.int .i64 p.kind, .int .i64 p.mn, .int .i64 p.mx, .bool p.inc.neg, S p.inc.l, .int .i64 p.inc.e, .int .i64 p.mode, .int .i64 p.mi]), (w.heap.size + 1, #[.int .i64 k0, .int .i64 k1, .int .i64 k2, .int .i64 k3, .int .i64 k4, .int .i64 k5, .int .i64 k6]), (w.heap.size, #[.bool n, .slice a len cap, .int .i64 e])] wC) := Lib.hid HH
  clear HH ALL1 KEEP1 HS1 TAB1 H6
  have bp0 : wC.cell? ⟨w3.heap.size, 0, none⟩ = some (.int .i64 p.kind) := (H7.out.f (List.Mem.tail _ (List.Mem.tail _ (List.Mem.head _)))).cell 0
  have bp1 : wC.cell? ⟨w3.heap.size, 1, none⟩ = some (.int .i64 p.mn) := (H7.out.f (List.Mem.tail _ (List.Mem.tail _ (List.Mem.head _)))).cell 1
  have bp2 : wC.cell? ⟨w3.heap.size, 2, none⟩ = some (.int .i64 p.mx) := (H7.out.f (List.Mem.tail _ (List.Mem.tail _ (List.Mem.head _)))).cell 2
  have bp3 : wC.cell? ⟨w3.heap.size, 3, none⟩ = some (.bool p.inc.neg) := (H7.out.f (List.Mem.tail _ (List.Mem.tail _ (List.Mem.head _)))).cell 3
  have bp4 : wC.cell? ⟨w3.heap.size, 4, none⟩ = some (S p.inc.l) := (H7.out.f (List.Mem.tail _ (List.Mem.tail _ (List.Mem.head _)))).cell 4
  have bp5 : wC.cell? ⟨w3.heap.size, 5, none⟩ = some (.int .i64 p.inc.e) := (H7.out.f (List.Mem.tail _ (List.Mem.tail _ (List.Mem.head _)))).cell 5
  have bp6 : wC.cell? ⟨w3.heap.size, 6, none⟩ = some (.int .i64 p.mode) := (H7.out.f (List.Mem.tail _ (List.Mem.tail _ (List.Mem.head _)))).cell 6
  have bp7 : wC.cell? ⟨w3.heap.size, 7, none⟩ = some (.int .i64 p.mi) := (H7.out.f (List.Mem.tail _ (List.Mem.tail _ (List.Mem.head _)))).cell 7
  have bpl : w3.heap.size < wC.heap.size := (H7.out.f (List.Mem.tail _ (List.Mem.tail _ (List.Mem.head _)))).lt
  have bd0 : wC.cell? ⟨w5.heap.size, 0, none⟩ = some (.bool d.neg) := (H7.out.f (List.Mem.tail _ (List.Mem.head _))).cell 0
  have bd1 : wC.cell? ⟨w5.heap.size, 1, none⟩ = some (S d.l) := (H7.out.f (List.Mem.tail _ (List.Mem.head _))).cell 1
  have bd2 : wC.cell? ⟨w5.heap.size, 2, none⟩ = some (.int .i64 d.e) := (H7.out.f (List.Mem.tail _ (List.Mem.head _))).cell 2
  have bdl : w5.heap.size < wC.heap.size := (H7.out.f (List.Mem.tail _ (List.Mem.head _))).lt
  have bv0 : wC.cell? ⟨w6.heap.size, 0, none⟩ = some (.bool v.neg) := (H7.out.f (List.Mem.head _)).cell 0
  have bv1 : wC.cell? ⟨w6.heap.size, 1, none⟩ = some (S v.i) := (H7.out.f (List.Mem.head _)).cell 1
  have bv2 : wC.cell? ⟨w6.heap.size, 2, none⟩ = some (S v.f) := (H7.out.f (List.Mem.head _)).cell 2
  have bvl : w6.heap.size < wC.heap.size := (H7.out.f (List.Mem.head _)).lt
  go_wp2_with fail
  with_reducible refine (zero_T d true _ dl HZ.out).mono ?_
  rintro x w8 ⟨rfl, hb⟩
  clear bp0 bp1 bp2 bp3 bp4 bp5 bp6 bp7 bpl bd0 bd1 bd2 bdl bv0 bv1 bv2 bvl
  have H8 : Hid (HeldL w [(w6.heap.size, #[.bool v.neg, S v.i, S v.f]), (w5.heap.size, #[.bool d.neg, S d.l, .int .i64 d.e]), (w3.heap.size, #[.int .i64 p.kind, .int .i64 p.mn, .int .i64 p.mx, .bool p.inc.neg, S p.inc.l, .int .i64 p.inc.e, .int .i64 p.mode, .int .i64 p.mi]), (w.heap.size + 1, #[.int .i64 k0, .int .i64 k1, .int .i64 k2, .int .i64 k3, .int .i64 k4, .int .i64 k5, .int .i64 k6]), (w.heap.size, #[.bool n, .slice a len cap, .int .i64 e])] w8) := Lib.hid (HeldL.keep H7.out hb)
  clear H7
  clear hb
  have bp0 : w8.cell? ⟨w3.heap.size, 0, none⟩ = some (.int .i64 p.kind) := (H8.out.f (List.Mem.tail _ (List.Mem.tail _ (List.Mem.head _)))).cell 0
  have bp1 : w8.cell? ⟨w3.heap.size, 1, none⟩ = some (.int .i64 p.mn) := (H8.out.f (List.Mem.tail _ (List.Mem.tail _ (List.Mem.head _)))).cell 1
  have bp2 : w8.cell? ⟨w3.heap.size, 2, none⟩ = some (.int .i64 p.mx) := (H8.out.f (List.Mem.tail _ (List.Mem.tail _ (List.Mem.head _)))).cell 2
  have bp3 : w8.cell? ⟨w3.heap.size, 3, none⟩ = some (.bool p.inc.neg) := (H8.out.f (List.Mem.tail _ (List.Mem.tail _ (List.Mem.head _)))).cell 3
  have bp4 : w8.cell? ⟨w3.heap.size, 4, none⟩ = some (S p.inc.l) := (H8.out.f (List.Mem.tail _ (List.Mem.tail _ (List.Mem.head _)))).cell 4
  have bp5 : w8.cell? ⟨w3.heap.size, 5, none⟩ = some (.int .i64 p.inc.e) := (H8.out.f (List.Mem.tail _ (List.Mem.tail _ (List.Mem.head _)))).cell 5
  have bp6 : w8.cell? ⟨w3.heap.size, 6, none⟩ = some (.int .i64 p.mode) := (H8.out.f (List.Mem.tail _ (List.Mem.tail _ (List.Mem.head _)))).cell 6
  have bp7 : w8.cell? ⟨w3.heap.size, 7, none⟩ = some (.int .i64 p.mi) := (H8.out.f (List.Mem.tail _ (List.Mem.tail _ (List.Mem.head _)))).cell 7
  have bpl : w3.heap.size < w8.heap.size := (H8.out.f (List.Mem.tail _ (List.Mem.tail _ (List.Mem.head _)))).lt
  have bd0 : w8.cell? ⟨w5.heap.size, 0, none⟩ = some (.bool d.neg) := (H8.out.f (List.Mem.tail _ (List.Mem.head _))).cell 0
  have bd1 : w8.cell? ⟨w5.heap.size, 1, none⟩ = some (S d.l) := (H8.out.f (List.Mem.tail _ (List.Mem.head _))).cell 1
  have bd2 : w8.cell? ⟨w5.heap.size, 2, none⟩ = some (.int .i64 d.e) := (H8.out.f (List.Mem.tail _ (List.Mem.head _))).cell 2
  have bdl : w5.heap.size < w8.heap.size := (H8.out.f (List.Mem.tail _ (List.Mem.head _))).lt
  have bv0 : w8.cell? ⟨w6.heap.size, 0, none⟩ = some (.bool v.neg) := (H8.out.f (List.Mem.head _)).cell 0
  have bv1 : w8.cell? ⟨w6.heap.size, 1, none⟩ = some (S v.i) := (H8.out.f (List.Mem.head _)).cell 1
  have bv2 : w8.cell? ⟨w6.heap.size, 2, none⟩ = some (S v.f) := (H8.out.f (List.Mem.head _)).cell 2
  have bvl : w6.heap.size < w8.heap.size := (H8.out.f (List.Mem.head _)).lt
  go_wp2_with fail
  with_reducible refine (HVL.out _ (HT.out.below H8.out.bel)).mono ?_
  rintro x w9 ⟨rfl, hb⟩
  clear bp0 bp1 bp2 bp3 bp4 bp5 bp6 bp7 bpl bd0 bd1 bd2 bdl bv0 bv1 bv2 bvl
  have H9 : Hid (HeldL w [(w6.heap.size, #[.bool v.neg, S v.i, S v.f]), (w5.heap.size, #[.bool d.neg, S d.l, .int .i64 d.e]), (w3.heap.size, #[.int .i64 p.kind, .int .i64 p.mn, .int .i64 p.mx, .bool p.inc.neg, S p.inc.l, .int .i64 p.inc.e, .int .i64 p.mode, .int .i64 p.mi]), (w.heap.size + 1, #[.int .i64 k0, .int .i64 k1, .int .i64 k2, .int .i64 k3, .int .i64 k4, .int .i64 k5, .int .i64 k6]), (w.heap.size, #[.bool n, .slice a len cap, .int .i64 e])] w9) := Lib.hid (HeldL.keep H8.out hb)
  clear H8
  clear hb
  go_wp2
  go_ret
  exact ⟨rfl, H9.out.bel⟩

set_option maxRecDepth 100000 in
set_option maxHeartbeats 6400000 in
theorem rounds_n (n : Bool) (a : Option Addr) (len cap : Nat) (L : List UInt8) (e : Int) (k0 k1 k2 k3 k4 k5 k6 : Int) (w : World) (hin : InB w a len cap L) (htab : Tab w) (h1 : len ≤ 30) (h2 : -30 ≤ e) (h3 : e ≤ 30) (p : Prc) (pl : p.inc.l.length ≤ 100000) (hpr : (∀ w : World, Tab w → Calls Tryz.prog 22 #[.agg #[.int .i64 k0, .int .i64 k1, .int .i64 k2, .int .i64 k3, .int .i64 k4, .int .i64 k5, .int .i64 k6]] w fun z w' => z = .returned (PV p) ∧ Below w.heap.size w w')) (hv : validP p = true) (d : Tri) (dl : d.l.length ≤ 100000) (hd : made n (dgs L) e = d) (g : Tri) (v : Vs) (hap : (∀ w : World, Tab w → Calls Tryz.prog 24 #[PV p, V d] w fun z w' => z = .returned (.tuple #[VV v, .int .i64 0]) ∧ Below w.heap.size w w')) (hval : (∀ w : World, Tab w → Calls Tryz.prog 26 #[VV v] w fun z w' => z = .returned (V g) ∧ Below w.heap.size w w')) (hrp : (∀ w : World, Tab w → Calls Tryz.prog 27 #[PV p, V d] w fun z w' => z = .returned (V g) ∧ Below w.heap.size w w')) (hz : (made d.neg d.l d.e).l.isEmpty = false) (u : Tri) (hun : (∀ w : World, Tab w → Calls Tryz.prog 29 #[PV p, V d] w fun z w' => z = .returned (V u) ∧ Below w.heap.size w w')) (hrd : (∀ w : World, Tab w → Calls Tryz.prog 12 #[V d, V g, V u, .int .i64 p.mode] w fun z w' => z = .returned (.bool true) ∧ Below w.heap.size w w')) :
    Calls Tryz.prog 6 #[RV n a len cap e, .agg #[.int .i64 k0, .int .i64 k1, .int .i64 k2, .int .i64 k3, .int .i64 k4, .int .i64 k5, .int .i64 k6]] w fun x w' => x = .returned (.bool true) ∧ Below w.heap.size w w' := by
  have hcA := hin.2.1
  have hmA := hin.2.2.1
  have LL : (dgs L).length ≤ 100000 := by rw [dgs_length, hin.1]; omega
  have HT := Lib.hid htab
  have HIN := Lib.hid hin
  have HPR := Lib.hid hpr
  have HV := Lib.hid hv
  have HD := Lib.hid hd
  have HAP := Lib.hid hap
  have HVL := Lib.hid hval
  have HRP := Lib.hid hrp
  have HZ := Lib.hid hz
  have HUN := Lib.hid hun
  have HRD := Lib.hid hrd
  clear htab hin hpr hv hd hap hval hrp hz hun hrd
  go_enter Tryz.func6, Tryz.ntmps6
  go_wp2_with fail
  with_reducible refine (head4 _ (HT.out.below (HeldL.alloc (HeldL.alloc (HeldL.refl w) (w.heap.size) #[.bool n, .slice a len cap, .int .i64 e] 24 (by simp)) (w.heap.size + 1) #[.int .i64 k0, .int .i64 k1, .int .i64 k2, .int .i64 k3, .int .i64 k4, .int .i64 k5, .int .i64 k6] 43 (by simp)).bel)).mono ?_
  rintro x w1 ⟨rfl, hb⟩
  have H1 : Hid (HeldL w [(w.heap.size + 1, #[.int .i64 k0, .int .i64 k1, .int .i64 k2, .int .i64 k3, .int .i64 k4, .int .i64 k5, .int .i64 k6]), (w.heap.size, #[.bool n, .slice a len cap, .int .i64 e])] w1) := Lib.hid (HeldL.keep (HeldL.alloc (HeldL.alloc (HeldL.refl w) (w.heap.size) #[.bool n, .slice a len cap, .int .i64 e] 24 (by simp)) (w.heap.size + 1) #[.int .i64 k0, .int .i64 k1, .int .i64 k2, .int .i64 k3, .int .i64 k4, .int .i64 k5, .int .i64 k6] 43 (by simp)) hb)
  clear hb
  have q0 : w1.cell? ⟨w.heap.size, 0, none⟩ = some (.bool n) := (H1.out.f (List.Mem.tail _ (List.Mem.head _))).cell 0
  have q1 : w1.cell? ⟨w.heap.size, 1, none⟩ = some (.slice a len cap) := (H1.out.f (List.Mem.tail _ (List.Mem.head _))).cell 1
  have q2 : w1.cell? ⟨w.heap.size, 2, none⟩ = some (.int .i64 e) := (H1.out.f (List.Mem.tail _ (List.Mem.head _))).cell 2
  have ql : w.heap.size < w1.heap.size := (H1.out.f (List.Mem.tail _ (List.Mem.head _))).lt
  have k0 : w1.cell? ⟨w.heap.size + 1, 0, none⟩ = some (.int .i64 k0) := (H1.out.f (List.Mem.head _)).cell 0
  have k1 : w1.cell? ⟨w.heap.size + 1, 1, none⟩ = some (.int .i64 k1) := (H1.out.f (List.Mem.head _)).cell 1
  have k2 : w1.cell? ⟨w.heap.size + 1, 2, none⟩ = some (.int .i64 k2) := (H1.out.f (List.Mem.head _)).cell 2
  have k3 : w1.cell? ⟨w.heap.size + 1, 3, none⟩ = some (.int .i64 k3) := (H1.out.f (List.Mem.head _)).cell 3
  have k4 : w1.cell? ⟨w.heap.size + 1, 4, none⟩ = some (.int .i64 k4) := (H1.out.f (List.Mem.head _)).cell 4
  have k5 : w1.cell? ⟨w.heap.size + 1, 5, none⟩ = some (.int .i64 k5) := (H1.out.f (List.Mem.head _)).cell 5
  have k6 : w1.cell? ⟨w.heap.size + 1, 6, none⟩ = some (.int .i64 k6) := (H1.out.f (List.Mem.head _)).cell 6
  have kl : w.heap.size + 1 < w1.heap.size := (H1.out.f (List.Mem.head _)).lt
  go_wp2_with fail
  with_reducible refine (few_yes n a len cap e 30 _ hcA hmA (by decide) (by decide) (by omega) h2 h3).mono ?_
  rintro x w2 ⟨rfl, hb⟩
  clear q0 q1 q2 ql k0 k1 k2 k3 k4 k5 k6 kl
  have H2 : Hid (HeldL w [(w.heap.size + 1, #[.int .i64 k0, .int .i64 k1, .int .i64 k2, .int .i64 k3, .int .i64 k4, .int .i64 k5, .int .i64 k6]), (w.heap.size, #[.bool n, .slice a len cap, .int .i64 e])] w2) := Lib.hid (HeldL.keep H1.out hb)
  clear H1
  clear hb
  have q0 : w2.cell? ⟨w.heap.size, 0, none⟩ = some (.bool n) := (H2.out.f (List.Mem.tail _ (List.Mem.head _))).cell 0
  have q1 : w2.cell? ⟨w.heap.size, 1, none⟩ = some (.slice a len cap) := (H2.out.f (List.Mem.tail _ (List.Mem.head _))).cell 1
  have q2 : w2.cell? ⟨w.heap.size, 2, none⟩ = some (.int .i64 e) := (H2.out.f (List.Mem.tail _ (List.Mem.head _))).cell 2
  have ql : w.heap.size < w2.heap.size := (H2.out.f (List.Mem.tail _ (List.Mem.head _))).lt
  have k0 : w2.cell? ⟨w.heap.size + 1, 0, none⟩ = some (.int .i64 k0) := (H2.out.f (List.Mem.head _)).cell 0
  have k1 : w2.cell? ⟨w.heap.size + 1, 1, none⟩ = some (.int .i64 k1) := (H2.out.f (List.Mem.head _)).cell 1
  have k2 : w2.cell? ⟨w.heap.size + 1, 2, none⟩ = some (.int .i64 k2) := (H2.out.f (List.Mem.head _)).cell 2
  have k3 : w2.cell? ⟨w.heap.size + 1, 3, none⟩ = some (.int .i64 k3) := (H2.out.f (List.Mem.head _)).cell 3
  have k4 : w2.cell? ⟨w.heap.size + 1, 4, none⟩ = some (.int .i64 k4) := (H2.out.f (List.Mem.head _)).cell 4
  have k5 : w2.cell? ⟨w.heap.size + 1, 5, none⟩ = some (.int .i64 k5) := (H2.out.f (List.Mem.head _)).cell 5
  have k6 : w2.cell? ⟨w.heap.size + 1, 6, none⟩ = some (.int .i64 k6) := (H2.out.f (List.Mem.head _)).cell 6
  have kl : w.heap.size + 1 < w2.heap.size := (H2.out.f (List.Mem.head _)).lt
  go_wp2_with fail
  with_reducible refine (HPR.out _ (HT.out.below H2.out.bel)).mono ?_
  rintro x w3 ⟨rfl, hb⟩
  clear q0 q1 q2 ql k0 k1 k2 k3 k4 k5 k6 kl
  have H3 : Hid (HeldL w [(w.heap.size + 1, #[.int .i64 k0, .int .i64 k1, .int .i64 k2, .int .i64 k3, .int .i64 k4, .int .i64 k5, .int .i64 k6]), (w.heap.size, #[.bool n, .slice a len cap, .int .i64 e])] w3) := Lib.hid (HeldL.keep H2.out hb)
  clear H2
  clear hb
  have q0 : w3.cell? ⟨w.heap.size, 0, none⟩ = some (.bool n) := (H3.out.f (List.Mem.tail _ (List.Mem.head _))).cell 0
  have q1 : w3.cell? ⟨w.heap.size, 1, none⟩ = some (.slice a len cap) := (H3.out.f (List.Mem.tail _ (List.Mem.head _))).cell 1
  have q2 : w3.cell? ⟨w.heap.size, 2, none⟩ = some (.int .i64 e) := (H3.out.f (List.Mem.tail _ (List.Mem.head _))).cell 2
  have ql : w.heap.size < w3.heap.size := (H3.out.f (List.Mem.tail _ (List.Mem.head _))).lt
  go_wp2_with fail
  with_reducible refine (make_as n a len cap L e _ (HIN.out.below (HeldL.alloc H3.out (w3.heap.size) #[.int .i64 p.kind, .int .i64 p.mn, .int .i64 p.mx, .bool p.inc.neg, S p.inc.l, .int .i64 p.inc.e, .int .i64 p.mode, .int .i64 p.mi] 46 (by simp)).bel) (by omega)).mono ?_
  rintro x w4 ⟨rfl, hb⟩
  clear q0 q1 q2 ql
  have H4 : Hid (HeldL w [(w3.heap.size, #[.int .i64 p.kind, .int .i64 p.mn, .int .i64 p.mx, .bool p.inc.neg, S p.inc.l, .int .i64 p.inc.e, .int .i64 p.mode, .int .i64 p.mi]), (w.heap.size + 1, #[.int .i64 k0, .int .i64 k1, .int .i64 k2, .int .i64 k3, .int .i64 k4, .int .i64 k5, .int .i64 k6]), (w.heap.size, #[.bool n, .slice a len cap, .int .i64 e])] w4) := Lib.hid (HeldL.keep (HeldL.alloc H3.out (w3.heap.size) #[.int .i64 p.kind, .int .i64 p.mn, .int .i64 p.mx, .bool p.inc.neg, S p.inc.l, .int .i64 p.inc.e, .int .i64 p.mode, .int .i64 p.mi] 46 (by simp)) hb)
  clear H3
  clear hb
  go_wp2_with fail
  with_reducible refine (norm_T ⟨n, dgs L, e⟩ d _ LL HD.out).mono ?_
  rintro x w5 ⟨rfl, hb⟩
  have H5 : Hid (HeldL w [(w3.heap.size, #[.int .i64 p.kind, .int .i64 p.mn, .int .i64 p.mx, .bool p.inc.neg, S p.inc.l, .int .i64 p.inc.e, .int .i64 p.mode, .int .i64 p.mi]), (w.heap.size + 1, #[.int .i64 k0, .int .i64 k1, .int .i64 k2, .int .i64 k3, .int .i64 k4, .int .i64 k5, .int .i64 k6]), (w.heap.size, #[.bool n, .slice a len cap, .int .i64 e])] w5) := Lib.hid (HeldL.keep H4.out hb)
  clear H4
  clear hb
  have bp0 : w5.cell? ⟨w3.heap.size, 0, none⟩ = some (.int .i64 p.kind) := (H5.out.f (List.Mem.head _)).cell 0
  have bp1 : w5.cell? ⟨w3.heap.size, 1, none⟩ = some (.int .i64 p.mn) := (H5.out.f (List.Mem.head _)).cell 1
  have bp2 : w5.cell? ⟨w3.heap.size, 2, none⟩ = some (.int .i64 p.mx) := (H5.out.f (List.Mem.head _)).cell 2
  have bp3 : w5.cell? ⟨w3.heap.size, 3, none⟩ = some (.bool p.inc.neg) := (H5.out.f (List.Mem.head _)).cell 3
  have bp4 : w5.cell? ⟨w3.heap.size, 4, none⟩ = some (S p.inc.l) := (H5.out.f (List.Mem.head _)).cell 4
  have bp5 : w5.cell? ⟨w3.heap.size, 5, none⟩ = some (.int .i64 p.inc.e) := (H5.out.f (List.Mem.head _)).cell 5
  have bp6 : w5.cell? ⟨w3.heap.size, 6, none⟩ = some (.int .i64 p.mode) := (H5.out.f (List.Mem.head _)).cell 6
  have bp7 : w5.cell? ⟨w3.heap.size, 7, none⟩ = some (.int .i64 p.mi) := (H5.out.f (List.Mem.head _)).cell 7
  have bpl : w3.heap.size < w5.heap.size := (H5.out.f (List.Mem.head _)).lt
  go_wp2_with fail
  with_reducible refine (HAP.out _ (HT.out.below (HeldL.alloc H5.out (w5.heap.size) #[.bool d.neg, S d.l, .int .i64 d.e] 31 (by simp)).bel)).mono ?_
  rintro x w6 ⟨rfl, hb⟩
  clear bp0 bp1 bp2 bp3 bp4 bp5 bp6 bp7 bpl
  have H6 : Hid (HeldL w [(w5.heap.size, #[.bool d.neg, S d.l, .int .i64 d.e]), (w3.heap.size, #[.int .i64 p.kind, .int .i64 p.mn, .int .i64 p.mx, .bool p.inc.neg, S p.inc.l, .int .i64 p.inc.e, .int .i64 p.mode, .int .i64 p.mi]), (w.heap.size + 1, #[.int .i64 k0, .int .i64 k1, .int .i64 k2, .int .i64 k3, .int .i64 k4, .int .i64 k5, .int .i64 k6]), (w.heap.size, #[.bool n, .slice a len cap, .int .i64 e])] w6) := Lib.hid (HeldL.keep (HeldL.alloc H5.out (w5.heap.size) #[.bool d.neg, S d.l, .int .i64 d.e] 31 (by simp)) hb)
  clear H5
  clear hb
  have bp0 : w6.cell? ⟨w3.heap.size, 0, none⟩ = some (.int .i64 p.kind) := (H6.out.f (List.Mem.tail _ (List.Mem.head _))).cell 0
  have bp1 : w6.cell? ⟨w3.heap.size, 1, none⟩ = some (.int .i64 p.mn) := (H6.out.f (List.Mem.tail _ (List.Mem.head _))).cell 1
  have bp2 : w6.cell? ⟨w3.heap.size, 2, none⟩ = some (.int .i64 p.mx) := (H6.out.f (List.Mem.tail _ (List.Mem.head _))).cell 2
  have bp3 : w6.cell? ⟨w3.heap.size, 3, none⟩ = some (.bool p.inc.neg) := (H6.out.f (List.Mem.tail _ (List.Mem.head _))).cell 3
  have bp4 : w6.cell? ⟨w3.heap.size, 4, none⟩ = some (S p.inc.l) := (H6.out.f (List.Mem.tail _ (List.Mem.head _))).cell 4
  have bp5 : w6.cell? ⟨w3.heap.size, 5, none⟩ = some (.int .i64 p.inc.e) := (H6.out.f (List.Mem.tail _ (List.Mem.head _))).cell 5
  have bp6 : w6.cell? ⟨w3.heap.size, 6, none⟩ = some (.int .i64 p.mode) := (H6.out.f (List.Mem.tail _ (List.Mem.head _))).cell 6
  have bp7 : w6.cell? ⟨w3.heap.size, 7, none⟩ = some (.int .i64 p.mi) := (H6.out.f (List.Mem.tail _ (List.Mem.head _))).cell 7
  have bpl : w3.heap.size < w6.heap.size := (H6.out.f (List.Mem.tail _ (List.Mem.head _))).lt
  have bd0 : w6.cell? ⟨w5.heap.size, 0, none⟩ = some (.bool d.neg) := (H6.out.f (List.Mem.head _)).cell 0
  have bd1 : w6.cell? ⟨w5.heap.size, 1, none⟩ = some (S d.l) := (H6.out.f (List.Mem.head _)).cell 1
  have bd2 : w6.cell? ⟨w5.heap.size, 2, none⟩ = some (.int .i64 d.e) := (H6.out.f (List.Mem.head _)).cell 2
  have bdl : w5.heap.size < w6.heap.size := (H6.out.f (List.Mem.head _)).lt
  go_wp2_with fail
  have ALL1 : Hid (∀ w' : World, HeldL w [(w6.heap.size, #[.bool v.neg, S v.i, S v.f]), (w5.heap.size, #[.bool d.neg, S d.l, .int .i64 d.e]), (w3.heap.size, #[.int .i64 p.kind, .int .i64 p.mn, .int .i64 p.mx, .bool p.inc.neg, S p.inc.l, .int .i64 p.inc.e, .int .i64 p.mode, .int .i64 p.mi]), (w.heap.size + 1, #[.int .i64 k0, .int .i64 k1, .int .i64 k2, .int .i64 k3, .int .i64 k4, .int .i64 k5, .int .i64 k6]), (w.heap.size, #[.bool n, .slice a len cap, .int .i64 e])] w' → w'.cell? ⟨w3.heap.size, 0, none⟩ = some (.int .i64 p.kind) ∧ w'.cell? ⟨w3.heap.size, 1, none⟩ = some (.int .i64 p.mn) ∧ w'.cell? ⟨w3.heap.size, 2, none⟩ = some (.int .i64 p.mx) ∧ w'.cell? ⟨w3.heap.size, 3, none⟩ = some (.bool p.inc.neg) ∧ w'.cell? ⟨w3.heap.size, 4, none⟩ = some (S p.inc.l) ∧ w'.cell? ⟨w3.heap.size, 5, none⟩ = some (.int .i64 p.inc.e) ∧ w'.cell? ⟨w3.heap.size, 6, none⟩ = some (.int .i64 p.mode) ∧ w'.cell? ⟨w3.heap.size, 7, none⟩ = some (.int .i64 p.mi) ∧ w'.cell? ⟨w5.heap.size, 0, none⟩ = some (.bool d.neg) ∧ w'.cell? ⟨w5.heap.size, 1, none⟩ = some (S d.l) ∧ w'.cell? ⟨w5.heap.size, 2, none⟩ = some (.int .i64 d.e) ∧ w'.cell? ⟨w6.heap.size, 0, none⟩ = some (.bool v.neg) ∧ w'.cell? ⟨w6.heap.size, 1, none⟩ = some (S v.i) ∧ w'.cell? ⟨w6.heap.size, 2, none⟩ = some (S v.f) ∧ HeldL w [(w6.heap.size, #[.bool v.neg, S v.i, S v.f]), (w5.heap.size, #[.bool d.neg, S d.l, .int .i64 d.e]), (w3.heap.size, #[.int .i64 p.kind, .int .i64 p.mn, .int .i64 p.mx, .bool p.inc.neg, S p.inc.l, .int .i64 p.inc.e, .int .i64 p.mode, .int .i64 p.mi]), (w.heap.size + 1, #[.int .i64 k0, .int .i64 k1, .int .i64 k2, .int .i64 k3, .int .i64 k4, .int .i64 k5, .int .i64 k6]), (w.heap.size, #[.bool n, .slice a len cap, .int .i64 e])] w') := Lib.hid (fun w' h => ⟨(h.f (List.Mem.tail _ (List.Mem.tail _ (List.Mem.head _)))).cell 0, (h.f (List.Mem.tail _ (List.Mem.tail _ (List.Mem.head _)))).cell 1, (h.f (List.Mem.tail _ (List.Mem.tail _ (List.Mem.head _)))).cell 2, (h.f (List.Mem.tail _ (List.Mem.tail _ (List.Mem.head _)))).cell 3, (h.f (List.Mem.tail _ (List.Mem.tail _ (List.Mem.head _)))).cell 4, (h.f (List.Mem.tail _ (List.Mem.tail _ (List.Mem.head _)))).cell 5, (h.f (List.Mem.tail _ (List.Mem.tail _ (List.Mem.head _)))).cell 6, (h.f (List.Mem.tail _ (List.Mem.tail _ (List.Mem.head _)))).cell 7, (h.f (List.Mem.tail _ (List.Mem.head _))).cell 0, (h.f (List.Mem.tail _ (List.Mem.head _))).cell 1, (h.f (List.Mem.tail _ (List.Mem.head _))).cell 2, (h.f (List.Mem.head _)).cell 0, (h.f (List.Mem.head _)).cell 1, (h.f (List.Mem.head _)).cell 2, h⟩)
  have KEEP1 : Hid (∀ w' w'' : World, (w'.cell? ⟨w3.heap.size, 0, none⟩ = some (.int .i64 p.kind) ∧ w'.cell? ⟨w3.heap.size, 1, none⟩ = some (.int .i64 p.mn) ∧ w'.cell? ⟨w3.heap.size, 2, none⟩ = some (.int .i64 p.mx) ∧ w'.cell? ⟨w3.heap.size, 3, none⟩ = some (.bool p.inc.neg) ∧ w'.cell? ⟨w3.heap.size, 4, none⟩ = some (S p.inc.l) ∧ w'.cell? ⟨w3.heap.size, 5, none⟩ = some (.int .i64 p.inc.e) ∧ w'.cell? ⟨w3.heap.size, 6, none⟩ = some (.int .i64 p.mode) ∧ w'.cell? ⟨w3.heap.size, 7, none⟩ = some (.int .i64 p.mi) ∧ w'.cell? ⟨w5.heap.size, 0, none⟩ = some (.bool d.neg) ∧ w'.cell? ⟨w5.heap.size, 1, none⟩ = some (S d.l) ∧ w'.cell? ⟨w5.heap.size, 2, none⟩ = some (.int .i64 d.e) ∧ w'.cell? ⟨w6.heap.size, 0, none⟩ = some (.bool v.neg) ∧ w'.cell? ⟨w6.heap.size, 1, none⟩ = some (S v.i) ∧ w'.cell? ⟨w6.heap.size, 2, none⟩ = some (S v.f) ∧ HeldL w [(w6.heap.size, #[.bool v.neg, S v.i, S v.f]), (w5.heap.size, #[.bool d.neg, S d.l, .int .i64 d.e]), (w3.heap.size, #[.int .i64 p.kind, .int .i64 p.mn, .int .i64 p.mx, .bool p.inc.neg, S p.inc.l, .int .i64 p.inc.e, .int .i64 p.mode, .int .i64 p.mi]), (w.heap.size + 1, #[.int .i64 k0, .int .i64 k1, .int .i64 k2, .int .i64 k3, .int .i64 k4, .int .i64 k5, .int .i64 k6]), (w.heap.size, #[.bool n, .slice a len cap, .int .i64 e])] w') → Below w'.heap.size w' w'' → (w''.cell? ⟨w3.heap.size, 0, none⟩ = some (.int .i64 p.kind) ∧ w''.cell? ⟨w3.heap.size, 1, none⟩ = some (.int .i64 p.mn) ∧ w''.cell? ⟨w3.heap.size, 2, none⟩ = some (.int .i64 p.mx) ∧ w''.cell? ⟨w3.heap.size, 3, none⟩ = some (.bool p.inc.neg) ∧ w''.cell? ⟨w3.heap.size, 4, none⟩ = some (S p.inc.l) ∧ w''.cell? ⟨w3.heap.size, 5, none⟩ = some (.int .i64 p.inc.e) ∧ w''.cell? ⟨w3.heap.size, 6, none⟩ = some (.int .i64 p.mode) ∧ w''.cell? ⟨w3.heap.size, 7, none⟩ = some (.int .i64 p.mi) ∧ w''.cell? ⟨w5.heap.size, 0, none⟩ = some (.bool d.neg) ∧ w''.cell? ⟨w5.heap.size, 1, none⟩ = some (S d.l) ∧ w''.cell? ⟨w5.heap.size, 2, none⟩ = some (.int .i64 d.e) ∧ w''.cell? ⟨w6.heap.size, 0, none⟩ = some (.bool v.neg) ∧ w''.cell? ⟨w6.heap.size, 1, none⟩ = some (S v.i) ∧ w''.cell? ⟨w6.heap.size, 2, none⟩ = some (S v.f) ∧ HeldL w [(w6.heap.size, #[.bool v.neg, S v.i, S v.f]), (w5.heap.size, #[.bool d.neg, S d.l, .int .i64 d.e]), (w3.heap.size, #[.int .i64 p.kind, .int .i64 p.mn, .int .i64 p.mx, .bool p.inc.neg, S p.inc.l, .int .i64 p.inc.e, .int .i64 p.mode, .int .i64 p.mi]), (w.heap.size + 1, #[.int .i64 k0, .int .i64 k1, .int .i64 k2, .int .i64 k3, .int .i64 k4, .int .i64 k5, .int .i64 k6]), (w.heap.size, #[.bool n, .slice a len cap, .int .i64 e])] w'')) := Lib.hid (fun w' w'' h hb => ALL1.out _ (HeldL.keep (h.2.2.2.2.2.2.2.2.2.2.2.2.2.2) hb))
  have HS1 : Hid (HeldL w [(w6.heap.size, #[.bool v.neg, S v.i, S v.f]), (w5.heap.size, #[.bool d.neg, S d.l, .int .i64 d.e]), (w3.heap.size, #[.int .i64 p.kind, .int .i64 p.mn, .int .i64 p.mx, .bool p.inc.neg, S p.inc.l, .int .i64 p.inc.e, .int .i64 p.mode, .int .i64 p.mi]), (w.heap.size + 1, #[.int .i64 k0, .int .i64 k1, .int .i64 k2, .int .i64 k3, .int .i64 k4, .int .i64 k5, .int .i64 k6]), (w.heap.size, #[.bool n, .slice a len cap, .int .i64 e])] _) := Lib.hid (HeldL.alloc H6.out (w6.heap.size) #[.bool v.neg, S v.i, S v.f] 49 (by simp))
  have TAB1 : Hid (∀ w' : World, (w'.cell? ⟨w3.heap.size, 0, none⟩ = some (.int .i64 p.kind) ∧ w'.cell? ⟨w3.heap.size, 1, none⟩ = some (.int .i64 p.mn) ∧ w'.cell? ⟨w3.heap.size, 2, none⟩ = some (.int .i64 p.mx) ∧ w'.cell? ⟨w3.heap.size, 3, none⟩ = some (.bool p.inc.neg) ∧ w'.cell? ⟨w3.heap.size, 4, none⟩ = some (S p.inc.l) ∧ w'.cell? ⟨w3.heap.size, 5, none⟩ = some (.int .i64 p.inc.e) ∧ w'.cell? ⟨w3.heap.size, 6, none⟩ = some (.int .i64 p.mode) ∧ w'.cell? ⟨w3.heap.size, 7, none⟩ = some (.int .i64 p.mi) ∧ w'.cell? ⟨w5.heap.size, 0, none⟩ = some (.bool d.neg) ∧ w'.cell? ⟨w5.heap.size, 1, none⟩ = some (S d.l) ∧ w'.cell? ⟨w5.heap.size, 2, none⟩ = some (.int .i64 d.e) ∧ w'.cell? ⟨w6.heap.size, 0, none⟩ = some (.bool v.neg) ∧ w'.cell? ⟨w6.heap.size, 1, none⟩ = some (S v.i) ∧ w'.cell? ⟨w6.heap.size, 2, none⟩ = some (S v.f) ∧ HeldL w [(w6.heap.size, #[.bool v.neg, S v.i, S v.f]), (w5.heap.size, #[.bool d.neg, S d.l, .int .i64 d.e]), (w3.heap.size, #[.int .i64 p.kind, .int .i64 p.mn, .int .i64 p.mx, .bool p.inc.neg, S p.inc.l, .int .i64 p.inc.e, .int .i64 p.mode, .int .i64 p.mi]), (w.heap.size + 1, #[.int .i64 k0, .int .i64 k1, .int .i64 k2, .int .i64 k3, .int .i64 k4, .int .i64 k5, .int .i64 k6]), (w.heap.size, #[.bool n, .slice a len cap, .int .i64 e])] w') → Tab w') := Lib.hid (fun w' h => HT.out.below (h.2.2.2.2.2.2.2.2.2.2.2.2.2.2).bel)
  go_region_held3 (fun w' => w'.cell? ⟨w3.heap.size, 0, none⟩ = some (.int .i64 p.kind) ∧ w'.cell? ⟨w3.heap.size, 1, none⟩ = some (.int .i64 p.mn) ∧ w'.cell? ⟨w3.heap.size, 2, none⟩ = some (.int .i64 p.mx) ∧ w'.cell? ⟨w3.heap.size, 3, none⟩ = some (.bool p.inc.neg) ∧ w'.cell? ⟨w3.heap.size, 4, none⟩ = some (S p.inc.l) ∧ w'.cell? ⟨w3.heap.size, 5, none⟩ = some (.int .i64 p.inc.e) ∧ w'.cell? ⟨w3.heap.size, 6, none⟩ = some (.int .i64 p.mode) ∧ w'.cell? ⟨w3.heap.size, 7, none⟩ = some (.int .i64 p.mi) ∧ w'.cell? ⟨w5.heap.size, 0, none⟩ = some (.bool d.neg) ∧ w'.cell? ⟨w5.heap.size, 1, none⟩ = some (S d.l) ∧ w'.cell? ⟨w5.heap.size, 2, none⟩ = some (.int .i64 d.e) ∧ w'.cell? ⟨w6.heap.size, 0, none⟩ = some (.bool v.neg) ∧ w'.cell? ⟨w6.heap.size, 1, none⟩ = some (S v.i) ∧ w'.cell? ⟨w6.heap.size, 2, none⟩ = some (S v.f) ∧ HeldL w [(w6.heap.size, #[.bool v.neg, S v.i, S v.f]), (w5.heap.size, #[.bool d.neg, S d.l, .int .i64 d.e]), (w3.heap.size, #[.int .i64 p.kind, .int .i64 p.mn, .int .i64 p.mx, .bool p.inc.neg, S p.inc.l, .int .i64 p.inc.e, .int .i64 p.mode, .int .i64 p.mi]), (w.heap.size + 1, #[.int .i64 k0, .int .i64 k1, .int .i64 k2, .int .i64 k3, .int .i64 k4, .int .i64 k5, .int .i64 k6]), (w.heap.size, #[.bool n, .slice a len cap, .int .i64 e])] w')
    (first | exact ALL1.out _ (HeldL.drew HS1.out) | exact KEEP1.out _ _ (by assumption) hb | assumption)
    (first | (go_at_call 25; (with_reducible refine (valid_as p _ pl true HV.out).mono ?_); rintro x wA ⟨rfl, hb⟩) | (go_at_call 26; (with_reducible refine (HVL.out _ (by first | exact HT.out.below HS1.out.bel.drew | exact TAB1.out _ (by assumption))).mono ?_); rintro x wB ⟨rfl, hb⟩) | (go_at_call 27; (with_reducible refine (HRP.out _ (by first | exact HT.out.below HS1.out.bel.drew | exact TAB1.out _ (by assumption))).mono ?_); rintro x wC ⟨rfl, hb⟩))
  have HH : HeldL w [(w6.heap.size, #[.bool v.neg, S v.i, S v.f]), (w5.heap.size, #[.bool d.neg, S d.l, .int .i64 d.e]), (w3.heap.size, #[.int .i64 p.kind, .int .i64 p.mn, .int .i64 p.mx, .bool p.inc.neg, S p.inc.l, .int .i64 p.inc.e, .int .i64 p.mode, .int .i64 p.mi]), (w.heap.size + 1, #[.int .i64 k0, .int .i64 k1, .int .i64 k2, .int .i64 k3, .int .i64 k4, .int .i64 k5, .int .i64 k6]), (w.heap.size, #[.bool n, .slice a len cap, .int .i64 e])] wC := (‹wC.cell? ⟨w3.heap.size, 0, none⟩ = some (.int .i64 p.kind) ∧ wC.cell? ⟨w3.heap.size, 1, none⟩ = some (.int .i64 p.mn) ∧ wC.cell? ⟨w3.heap.size, 2, none⟩ = some (.int .i64 p.mx) ∧ wC.cell? ⟨w3.heap.size, 3, none⟩ = some (.bool p.inc.neg) ∧ wC.cell? ⟨w3.heap.size, 4, none⟩ = some (S p.inc.l) ∧ wC.cell? ⟨w3.heap.size, 5, none⟩ = some (.int .i64 p.inc.e) ∧ wC.cell? ⟨w3.heap.size, 6, none⟩ = some (.int .i64 p.mode) ∧ wC.cell? ⟨w3.heap.size, 7, none⟩ = some (.int .i64 p.mi) ∧ wC.cell? ⟨w5.heap.size, 0, none⟩ = some (.bool d.neg) ∧ wC.cell? ⟨w5.heap.size, 1, none⟩ = some (S d.l) ∧ wC.cell? ⟨w5.heap.size, 2, none⟩ = some (.int .i64 d.e) ∧ wC.cell? ⟨w6.heap.size, 0, none⟩ = some (.bool v.neg) ∧ wC.cell? ⟨w6.heap.size, 1, none⟩ = some (S v.i) ∧ wC.cell? ⟨w6.heap.size, 2, none⟩ = some (S v.f) ∧ HeldL w [(w6.heap.size, #[.bool v.neg, S v.i, S v.f]), (w5.heap.size, #[.bool d.neg, S d.l, .int .i64 d.e]), (w3.heap.size, #[.int .i64 p.kind, .int .i64 p.mn, .int .i64 p.mx, .bool p.inc.neg, S p.inc.l, .int .i64 p.inc.e, .int .i64 p.mode, .int .i64 p.mi]), (w.heap.size + 1, #[.int .i64 k0, .int .i64 k1, .int .i64 k2, .int .i64 k3, .int .i64 k4, .int .i64 k5, .int .i64 k6]), (w.heap.size, #[.bool n, .slice a len cap, .int .i64 e])] wC›).2.2.2.2.2.2.2.2.2.2.2.2.2.2
  clear bp0 bp1 bp2 bp3 bp4 bp5 bp6 bp7 bpl bd0 bd1 bd2 bdl
  have H7 : Hid (HeldL w [(w6.heap.size, #[.bool v.neg, S v.i, S v.f]), (w5.heap.size, #[.bool d.neg, S d.l, .int .i64 d.e]), (w3.heap.size, #[.int .i64 p.kind, .int .i64 p.mn, .int .i64 p.mx, .bool p.inc.neg, S p.inc.l, .int .i64 p.inc.e, .int .i64 p.mode, .int .i64 p.mi]), (w.heap.size + 1, #[.int .i64 k0, .int .i64 k1, .int .i64 k2, .int .i64 k3, .int .i64 k4, .int .i64 k5, .int .i64 k6]), (w.heap.size, #[.bool n, .slice a len cap, .int .i64 e])] wC) := Lib.hid HH
  clear HH ALL1 KEEP1 HS1 TAB1 H6
  have bp0 : wC.cell? ⟨w3.heap.size, 0, none⟩ = some (.int .i64 p.kind) := (H7.out.f (List.Mem.tail _ (List.Mem.tail _ (List.Mem.head _)))).cell 0
  have bp1 : wC.cell? ⟨w3.heap.size, 1, none⟩ = some (.int .i64 p.mn) := (H7.out.f (List.Mem.tail _ (List.Mem.tail _ (List.Mem.head _)))).cell 1
  have bp2 : wC.cell? ⟨w3.heap.size, 2, none⟩ = some (.int .i64 p.mx) := (H7.out.f (List.Mem.tail _ (List.Mem.tail _ (List.Mem.head _)))).cell 2
  have bp3 : wC.cell? ⟨w3.heap.size, 3, none⟩ = some (.bool p.inc.neg) := (H7.out.f (List.Mem.tail _ (List.Mem.tail _ (List.Mem.head _)))).cell 3
  have bp4 : wC.cell? ⟨w3.heap.size, 4, none⟩ = some (S p.inc.l) := (H7.out.f (List.Mem.tail _ (List.Mem.tail _ (List.Mem.head _)))).cell 4
  have bp5 : wC.cell? ⟨w3.heap.size, 5, none⟩ = some (.int .i64 p.inc.e) := (H7.out.f (List.Mem.tail _ (List.Mem.tail _ (List.Mem.head _)))).cell 5
  have bp6 : wC.cell? ⟨w3.heap.size, 6, none⟩ = some (.int .i64 p.mode) := (H7.out.f (List.Mem.tail _ (List.Mem.tail _ (List.Mem.head _)))).cell 6
  have bp7 : wC.cell? ⟨w3.heap.size, 7, none⟩ = some (.int .i64 p.mi) := (H7.out.f (List.Mem.tail _ (List.Mem.tail _ (List.Mem.head _)))).cell 7
  have bpl : w3.heap.size < wC.heap.size := (H7.out.f (List.Mem.tail _ (List.Mem.tail _ (List.Mem.head _)))).lt
  have bd0 : wC.cell? ⟨w5.heap.size, 0, none⟩ = some (.bool d.neg) := (H7.out.f (List.Mem.tail _ (List.Mem.head _))).cell 0
  have bd1 : wC.cell? ⟨w5.heap.size, 1, none⟩ = some (S d.l) := (H7.out.f (List.Mem.tail _ (List.Mem.head _))).cell 1
  have bd2 : wC.cell? ⟨w5.heap.size, 2, none⟩ = some (.int .i64 d.e) := (H7.out.f (List.Mem.tail _ (List.Mem.head _))).cell 2
  have bdl : w5.heap.size < wC.heap.size := (H7.out.f (List.Mem.tail _ (List.Mem.head _))).lt
  have bv0 : wC.cell? ⟨w6.heap.size, 0, none⟩ = some (.bool v.neg) := (H7.out.f (List.Mem.head _)).cell 0
  have bv1 : wC.cell? ⟨w6.heap.size, 1, none⟩ = some (S v.i) := (H7.out.f (List.Mem.head _)).cell 1
  have bv2 : wC.cell? ⟨w6.heap.size, 2, none⟩ = some (S v.f) := (H7.out.f (List.Mem.head _)).cell 2
  have bvl : w6.heap.size < wC.heap.size := (H7.out.f (List.Mem.head _)).lt
  go_wp2_with fail
  with_reducible refine (zero_T d false _ dl HZ.out).mono ?_
  rintro x w8 ⟨rfl, hb⟩
  clear bp0 bp1 bp2 bp3 bp4 bp5 bp6 bp7 bpl bd0 bd1 bd2 bdl bv0 bv1 bv2 bvl
  have H8 : Hid (HeldL w [(w6.heap.size, #[.bool v.neg, S v.i, S v.f]), (w5.heap.size, #[.bool d.neg, S d.l, .int .i64 d.e]), (w3.heap.size, #[.int .i64 p.kind, .int .i64 p.mn, .int .i64 p.mx, .bool p.inc.neg, S p.inc.l, .int .i64 p.inc.e, .int .i64 p.mode, .int .i64 p.mi]), (w.heap.size + 1, #[.int .i64 k0, .int .i64 k1, .int .i64 k2, .int .i64 k3, .int .i64 k4, .int .i64 k5, .int .i64 k6]), (w.heap.size, #[.bool n, .slice a len cap, .int .i64 e])] w8) := Lib.hid (HeldL.keep H7.out hb)
  clear H7
  clear hb
  have bp0 : w8.cell? ⟨w3.heap.size, 0, none⟩ = some (.int .i64 p.kind) := (H8.out.f (List.Mem.tail _ (List.Mem.tail _ (List.Mem.head _)))).cell 0
  have bp1 : w8.cell? ⟨w3.heap.size, 1, none⟩ = some (.int .i64 p.mn) := (H8.out.f (List.Mem.tail _ (List.Mem.tail _ (List.Mem.head _)))).cell 1
  have bp2 : w8.cell? ⟨w3.heap.size, 2, none⟩ = some (.int .i64 p.mx) := (H8.out.f (List.Mem.tail _ (List.Mem.tail _ (List.Mem.head _)))).cell 2
  have bp3 : w8.cell? ⟨w3.heap.size, 3, none⟩ = some (.bool p.inc.neg) := (H8.out.f (List.Mem.tail _ (List.Mem.tail _ (List.Mem.head _)))).cell 3
  have bp4 : w8.cell? ⟨w3.heap.size, 4, none⟩ = some (S p.inc.l) := (H8.out.f (List.Mem.tail _ (List.Mem.tail _ (List.Mem.head _)))).cell 4
  have bp5 : w8.cell? ⟨w3.heap.size, 5, none⟩ = some (.int .i64 p.inc.e) := (H8.out.f (List.Mem.tail _ (List.Mem.tail _ (List.Mem.head _)))).cell 5
  have bp6 : w8.cell? ⟨w3.heap.size, 6, none⟩ = some (.int .i64 p.mode) := (H8.out.f (List.Mem.tail _ (List.Mem.tail _ (List.Mem.head _)))).cell 6
  have bp7 : w8.cell? ⟨w3.heap.size, 7, none⟩ = some (.int .i64 p.mi) := (H8.out.f (List.Mem.tail _ (List.Mem.tail _ (List.Mem.head _)))).cell 7
  have bpl : w3.heap.size < w8.heap.size := (H8.out.f (List.Mem.tail _ (List.Mem.tail _ (List.Mem.head _)))).lt
  have bd0 : w8.cell? ⟨w5.heap.size, 0, none⟩ = some (.bool d.neg) := (H8.out.f (List.Mem.tail _ (List.Mem.head _))).cell 0
  have bd1 : w8.cell? ⟨w5.heap.size, 1, none⟩ = some (S d.l) := (H8.out.f (List.Mem.tail _ (List.Mem.head _))).cell 1
  have bd2 : w8.cell? ⟨w5.heap.size, 2, none⟩ = some (.int .i64 d.e) := (H8.out.f (List.Mem.tail _ (List.Mem.head _))).cell 2
  have bdl : w5.heap.size < w8.heap.size := (H8.out.f (List.Mem.tail _ (List.Mem.head _))).lt
  have bv0 : w8.cell? ⟨w6.heap.size, 0, none⟩ = some (.bool v.neg) := (H8.out.f (List.Mem.head _)).cell 0
  have bv1 : w8.cell? ⟨w6.heap.size, 1, none⟩ = some (S v.i) := (H8.out.f (List.Mem.head _)).cell 1
  have bv2 : w8.cell? ⟨w6.heap.size, 2, none⟩ = some (S v.f) := (H8.out.f (List.Mem.head _)).cell 2
  have bvl : w6.heap.size < w8.heap.size := (H8.out.f (List.Mem.head _)).lt
  go_wp2_with fail
  have ALL2 : Hid (∀ w' : World, HeldL w [(w6.heap.size, #[.bool v.neg, S v.i, S v.f]), (w5.heap.size, #[.bool d.neg, S d.l, .int .i64 d.e]), (w3.heap.size, #[.int .i64 p.kind, .int .i64 p.mn, .int .i64 p.mx, .bool p.inc.neg, S p.inc.l, .int .i64 p.inc.e, .int .i64 p.mode, .int .i64 p.mi]), (w.heap.size + 1, #[.int .i64 k0, .int .i64 k1, .int .i64 k2, .int .i64 k3, .int .i64 k4, .int .i64 k5, .int .i64 k6]), (w.heap.size, #[.bool n, .slice a len cap, .int .i64 e])] w' → w'.cell? ⟨w3.heap.size, 0, none⟩ = some (.int .i64 p.kind) ∧ w'.cell? ⟨w3.heap.size, 1, none⟩ = some (.int .i64 p.mn) ∧ w'.cell? ⟨w3.heap.size, 2, none⟩ = some (.int .i64 p.mx) ∧ w'.cell? ⟨w3.heap.size, 3, none⟩ = some (.bool p.inc.neg) ∧ w'.cell? ⟨w3.heap.size, 4, none⟩ = some (S p.inc.l) ∧ w'.cell? ⟨w3.heap.size, 5, none⟩ = some (.int .i64 p.inc.e) ∧ w'.cell? ⟨w3.heap.size, 6, none⟩ = some (.int .i64 p.mode) ∧ w'.cell? ⟨w3.heap.size, 7, none⟩ = some (.int .i64 p.mi) ∧ w'.cell? ⟨w5.heap.size, 0, none⟩ = some (.bool d.neg) ∧ w'.cell? ⟨w5.heap.size, 1, none⟩ = some (S d.l) ∧ w'.cell? ⟨w5.heap.size, 2, none⟩ = some (.int .i64 d.e) ∧ w'.cell? ⟨w6.heap.size, 0, none⟩ = some (.bool v.neg) ∧ w'.cell? ⟨w6.heap.size, 1, none⟩ = some (S v.i) ∧ w'.cell? ⟨w6.heap.size, 2, none⟩ = some (S v.f) ∧ HeldL w [(w6.heap.size, #[.bool v.neg, S v.i, S v.f]), (w5.heap.size, #[.bool d.neg, S d.l, .int .i64 d.e]), (w3.heap.size, #[.int .i64 p.kind, .int .i64 p.mn, .int .i64 p.mx, .bool p.inc.neg, S p.inc.l, .int .i64 p.inc.e, .int .i64 p.mode, .int .i64 p.mi]), (w.heap.size + 1, #[.int .i64 k0, .int .i64 k1, .int .i64 k2, .int .i64 k3, .int .i64 k4, .int .i64 k5, .int .i64 k6]), (w.heap.size, #[.bool n, .slice a len cap, .int .i64 e])] w') := Lib.hid (fun w' h => ⟨(h.f (List.Mem.tail _ (List.Mem.tail _ (List.Mem.head _)))).cell 0, (h.f (List.Mem.tail _ (List.Mem.tail _ (List.Mem.head _)))).cell 1, (h.f (List.Mem.tail _ (List.Mem.tail _ (List.Mem.head _)))).cell 2, (h.f (List.Mem.tail _ (List.Mem.tail _ (List.Mem.head _)))).cell 3, (h.f (List.Mem.tail _ (List.Mem.tail _ (List.Mem.head _)))).cell 4, (h.f (List.Mem.tail _ (List.Mem.tail _ (List.Mem.head _)))).cell 5, (h.f (List.Mem.tail _ (List.Mem.tail _ (List.Mem.head _)))).cell 6, (h.f (List.Mem.tail _ (List.Mem.tail _ (List.Mem.head _)))).cell 7, (h.f (List.Mem.tail _ (List.Mem.head _))).cell 0, (h.f (List.Mem.tail _ (List.Mem.head _))).cell 1, (h.f (List.Mem.tail _ (List.Mem.head _))).cell 2, (h.f (List.Mem.head _)).cell 0, (h.f (List.Mem.head _)).cell 1, (h.f (List.Mem.head _)).cell 2, h⟩)
  have KEEP2 : Hid (∀ w' w'' : World, (w'.cell? ⟨w3.heap.size, 0, none⟩ = some (.int .i64 p.kind) ∧ w'.cell? ⟨w3.heap.size, 1, none⟩ = some (.int .i64 p.mn) ∧ w'.cell? ⟨w3.heap.size, 2, none⟩ = some (.int .i64 p.mx) ∧ w'.cell? ⟨w3.heap.size, 3, none⟩ = some (.bool p.inc.neg) ∧ w'.cell? ⟨w3.heap.size, 4, none⟩ = some (S p.inc.l) ∧ w'.cell? ⟨w3.heap.size, 5, none⟩ = some (.int .i64 p.inc.e) ∧ w'.cell? ⟨w3.heap.size, 6, none⟩ = some (.int .i64 p.mode) ∧ w'.cell? ⟨w3.heap.size, 7, none⟩ = some (.int .i64 p.mi) ∧ w'.cell? ⟨w5.heap.size, 0, none⟩ = some (.bool d.neg) ∧ w'.cell? ⟨w5.heap.size, 1, none⟩ = some (S d.l) ∧ w'.cell? ⟨w5.heap.size, 2, none⟩ = some (.int .i64 d.e) ∧ w'.cell? ⟨w6.heap.size, 0, none⟩ = some (.bool v.neg) ∧ w'.cell? ⟨w6.heap.size, 1, none⟩ = some (S v.i) ∧ w'.cell? ⟨w6.heap.size, 2, none⟩ = some (S v.f) ∧ HeldL w [(w6.heap.size, #[.bool v.neg, S v.i, S v.f]), (w5.heap.size, #[.bool d.neg, S d.l, .int .i64 d.e]), (w3.heap.size, #[.int .i64 p.kind, .int .i64 p.mn, .int .i64 p.mx, .bool p.inc.neg, S p.inc.l, .int .i64 p.inc.e, .int .i64 p.mode, .int .i64 p.mi]), (w.heap.size + 1, #[.int .i64 k0, .int .i64 k1, .int .i64 k2, .int .i64 k3, .int .i64 k4, .int .i64 k5, .int .i64 k6]), (w.heap.size, #[.bool n, .slice a len cap, .int .i64 e])] w') → Below w'.heap.size w' w'' → (w''.cell? ⟨w3.heap.size, 0, none⟩ = some (.int .i64 p.kind) ∧ w''.cell? ⟨w3.heap.size, 1, none⟩ = some (.int .i64 p.mn) ∧ w''.cell? ⟨w3.heap.size, 2, none⟩ = some (.int .i64 p.mx) ∧ w''.cell? ⟨w3.heap.size, 3, none⟩ = some (.bool p.inc.neg) ∧ w''.cell? ⟨w3.heap.size, 4, none⟩ = some (S p.inc.l) ∧ w''.cell? ⟨w3.heap.size, 5, none⟩ = some (.int .i64 p.inc.e) ∧ w''.cell? ⟨w3.heap.size, 6, none⟩ = some (.int .i64 p.mode) ∧ w''.cell? ⟨w3.heap.size, 7, none⟩ = some (.int .i64 p.mi) ∧ w''.cell? ⟨w5.heap.size, 0, none⟩ = some (.bool d.neg) ∧ w''.cell? ⟨w5.heap.size, 1, none⟩ = some (S d.l) ∧ w''.cell? ⟨w5.heap.size, 2, none⟩ = some (.int .i64 d.e) ∧ w''.cell? ⟨w6.heap.size, 0, none⟩ = some (.bool v.neg) ∧ w''.cell? ⟨w6.heap.size, 1, none⟩ = some (S v.i) ∧ w''.cell? ⟨w6.heap.size, 2, none⟩ = some (S v.f) ∧ HeldL w [(w6.heap.size, #[.bool v.neg, S v.i, S v.f]), (w5.heap.size, #[.bool d.neg, S d.l, .int .i64 d.e]), (w3.heap.size, #[.int .i64 p.kind, .int .i64 p.mn, .int .i64 p.mx, .bool p.inc.neg, S p.inc.l, .int .i64 p.inc.e, .int .i64 p.mode, .int .i64 p.mi]), (w.heap.size + 1, #[.int .i64 k0, .int .i64 k1, .int .i64 k2, .int .i64 k3, .int .i64 k4, .int .i64 k5, .int .i64 k6]), (w.heap.size, #[.bool n, .slice a len cap, .int .i64 e])] w'')) := Lib.hid (fun w' w'' h hb => ALL2.out _ (HeldL.keep (h.2.2.2.2.2.2.2.2.2.2.2.2.2.2) hb))
  have HS2 : Hid (HeldL w [(w6.heap.size, #[.bool v.neg, S v.i, S v.f]), (w5.heap.size, #[.bool d.neg, S d.l, .int .i64 d.e]), (w3.heap.size, #[.int .i64 p.kind, .int .i64 p.mn, .int .i64 p.mx, .bool p.inc.neg, S p.inc.l, .int .i64 p.inc.e, .int .i64 p.mode, .int .i64 p.mi]), (w.heap.size + 1, #[.int .i64 k0, .int .i64 k1, .int .i64 k2, .int .i64 k3, .int .i64 k4, .int .i64 k5, .int .i64 k6]), (w.heap.size, #[.bool n, .slice a len cap, .int .i64 e])] _) := Lib.hid H8.out
  have TAB2 : Hid (∀ w' : World, (w'.cell? ⟨w3.heap.size, 0, none⟩ = some (.int .i64 p.kind) ∧ w'.cell? ⟨w3.heap.size, 1, none⟩ = some (.int .i64 p.mn) ∧ w'.cell? ⟨w3.heap.size, 2, none⟩ = some (.int .i64 p.mx) ∧ w'.cell? ⟨w3.heap.size, 3, none⟩ = some (.bool p.inc.neg) ∧ w'.cell? ⟨w3.heap.size, 4, none⟩ = some (S p.inc.l) ∧ w'.cell? ⟨w3.heap.size, 5, none⟩ = some (.int .i64 p.inc.e) ∧ w'.cell? ⟨w3.heap.size, 6, none⟩ = some (.int .i64 p.mode) ∧ w'.cell? ⟨w3.heap.size, 7, none⟩ = some (.int .i64 p.mi) ∧ w'.cell? ⟨w5.heap.size, 0, none⟩ = some (.bool d.neg) ∧ w'.cell? ⟨w5.heap.size, 1, none⟩ = some (S d.l) ∧ w'.cell? ⟨w5.heap.size, 2, none⟩ = some (.int .i64 d.e) ∧ w'.cell? ⟨w6.heap.size, 0, none⟩ = some (.bool v.neg) ∧ w'.cell? ⟨w6.heap.size, 1, none⟩ = some (S v.i) ∧ w'.cell? ⟨w6.heap.size, 2, none⟩ = some (S v.f) ∧ HeldL w [(w6.heap.size, #[.bool v.neg, S v.i, S v.f]), (w5.heap.size, #[.bool d.neg, S d.l, .int .i64 d.e]), (w3.heap.size, #[.int .i64 p.kind, .int .i64 p.mn, .int .i64 p.mx, .bool p.inc.neg, S p.inc.l, .int .i64 p.inc.e, .int .i64 p.mode, .int .i64 p.mi]), (w.heap.size + 1, #[.int .i64 k0, .int .i64 k1, .int .i64 k2, .int .i64 k3, .int .i64 k4, .int .i64 k5, .int .i64 k6]), (w.heap.size, #[.bool n, .slice a len cap, .int .i64 e])] w') → Tab w') := Lib.hid (fun w' h => HT.out.below (h.2.2.2.2.2.2.2.2.2.2.2.2.2.2).bel)
  go_region_held3 (fun w' => w'.cell? ⟨w3.heap.size, 0, none⟩ = some (.int .i64 p.kind) ∧ w'.cell? ⟨w3.heap.size, 1, none⟩ = some (.int .i64 p.mn) ∧ w'.cell? ⟨w3.heap.size, 2, none⟩ = some (.int .i64 p.mx) ∧ w'.cell? ⟨w3.heap.size, 3, none⟩ = some (.bool p.inc.neg) ∧ w'.cell? ⟨w3.heap.size, 4, none⟩ = some (S p.inc.l) ∧ w'.cell? ⟨w3.heap.size, 5, none⟩ = some (.int .i64 p.inc.e) ∧ w'.cell? ⟨w3.heap.size, 6, none⟩ = some (.int .i64 p.mode) ∧ w'.cell? ⟨w3.heap.size, 7, none⟩ = some (.int .i64 p.mi) ∧ w'.cell? ⟨w5.heap.size, 0, none⟩ = some (.bool d.neg) ∧ w'.cell? ⟨w5.heap.size, 1, none⟩ = some (S d.l) ∧ w'.cell? ⟨w5.heap.size, 2, none⟩ = some (.int .i64 d.e) ∧ w'.cell? ⟨w6.heap.size, 0, none⟩ = some (.bool v.neg) ∧ w'.cell? ⟨w6.heap.size, 1, none⟩ = some (S v.i) ∧ w'.cell? ⟨w6.heap.size, 2, none⟩ = some (S v.f) ∧ HeldL w [(w6.heap.size, #[.bool v.neg, S v.i, S v.f]), (w5.heap.size, #[.bool d.neg, S d.l, .int .i64 d.e]), (w3.heap.size, #[.int .i64 p.kind, .int .i64 p.mn, .int .i64 p.mx, .bool p.inc.neg, S p.inc.l, .int .i64 p.inc.e, .int .i64 p.mode, .int .i64 p.mi]), (w.heap.size + 1, #[.int .i64 k0, .int .i64 k1, .int .i64 k2, .int .i64 k3, .int .i64 k4, .int .i64 k5, .int .i64 k6]), (w.heap.size, #[.bool n, .slice a len cap, .int .i64 e])] w')
    (first | exact ALL2.out _ (HeldL.drew HS2.out) | exact KEEP2.out _ _ (by assumption) hb | assumption)
    (first | (go_at_call 26; (with_reducible refine (HVL.out _ (by first | exact HT.out.below HS2.out.bel.drew | exact TAB2.out _ (by assumption))).mono ?_); rintro x wD ⟨rfl, hb⟩) | (go_at_call 29; (with_reducible refine (HUN.out _ (by first | exact HT.out.below HS2.out.bel.drew | exact TAB2.out _ (by assumption))).mono ?_); rintro x wE ⟨rfl, hb⟩) | (go_at_call 12; (with_reducible refine (HRD.out _ (by first | exact HT.out.below HS2.out.bel.drew | exact TAB2.out _ (by assumption))).mono ?_); rintro x wF ⟨rfl, hb⟩))
  have HH : HeldL w [(w6.heap.size, #[.bool v.neg, S v.i, S v.f]), (w5.heap.size, #[.bool d.neg, S d.l, .int .i64 d.e]), (w3.heap.size, #[.int .i64 p.kind, .int .i64 p.mn, .int .i64 p.mx, .bool p.inc.neg, S p.inc.l, .int .i64 p.inc.e, .int .i64 p.mode, .int .i64 p.mi]), (w.heap.size + 1, #[.int .i64 k0, .int .i64 k1, .int .i64 k2, .int .i64 k3, .int .i64 k4, .int .i64 k5, .int .i64 k6]), (w.heap.size, #[.bool n, .slice a len cap, .int .i64 e])] wF := (‹wF.cell? ⟨w3.heap.size, 0, none⟩ = some (.int .i64 p.kind) ∧ wF.cell? ⟨w3.heap.size, 1, none⟩ = some (.int .i64 p.mn) ∧ wF.cell? ⟨w3.heap.size, 2, none⟩ = some (.int .i64 p.mx) ∧ wF.cell? ⟨w3.heap.size, 3, none⟩ = some (.bool p.inc.neg) ∧ wF.cell? ⟨w3.heap.size, 4, none⟩ = some (S p.inc.l) ∧ wF.cell? ⟨w3.heap.size, 5, none⟩ = some (.int .i64 p.inc.e) ∧ wF.cell? ⟨w3.heap.size, 6, none⟩ = some (.int .i64 p.mode) ∧ wF.cell? ⟨w3.heap.size, 7, none⟩ = some (.int .i64 p.mi) ∧ wF.cell? ⟨w5.heap.size, 0, none⟩ = some (.bool d.neg) ∧ wF.cell? ⟨w5.heap.size, 1, none⟩ = some (S d.l) ∧ wF.cell? ⟨w5.heap.size, 2, none⟩ = some (.int .i64 d.e) ∧ wF.cell? ⟨w6.heap.size, 0, none⟩ = some (.bool v.neg) ∧ wF.cell? ⟨w6.heap.size, 1, none⟩ = some (S v.i) ∧ wF.cell? ⟨w6.heap.size, 2, none⟩ = some (S v.f) ∧ HeldL w [(w6.heap.size, #[.bool v.neg, S v.i, S v.f]), (w5.heap.size, #[.bool d.neg, S d.l, .int .i64 d.e]), (w3.heap.size, #[.int .i64 p.kind, .int .i64 p.mn, .int .i64 p.mx, .bool p.inc.neg, S p.inc.l, .int .i64 p.inc.e, .int .i64 p.mode, .int .i64 p.mi]), (w.heap.size + 1, #[.int .i64 k0, .int .i64 k1, .int .i64 k2, .int .i64 k3, .int .i64 k4, .int .i64 k5, .int .i64 k6]), (w.heap.size, #[.bool n, .slice a len cap, .int .i64 e])] wF›).2.2.2.2.2.2.2.2.2.2.2.2.2.2
  clear bp0 bp1 bp2 bp3 bp4 bp5 bp6 bp7 bpl bd0 bd1 bd2 bdl bv0 bv1 bv2 bvl
  have H9 : Hid (HeldL w [(w6.heap.size, #[.bool v.neg, S v.i, S v.f]), (w5.heap.size, #[.bool d.neg, S d.l, .int .i64 d.e]), (w3.heap.size, #[.int .i64 p.kind, .int .i64 p.mn, .int .i64 p.mx, .bool p.inc.neg, S p.inc.l, .int .i64 p.inc.e, .int .i64 p.mode, .int .i64 p.mi]), (w.heap.size + 1, #[.int .i64 k0, .int .i64 k1, .int .i64 k2, .int .i64 k3, .int .i64 k4, .int .i64 k5, .int .i64 k6]), (w.heap.size, #[.bool n, .slice a len cap, .int .i64 e])] wF) := Lib.hid HH
  clear HH ALL2 KEEP2 HS2 TAB2 H8
  go_wp2
  go_ret
  exact ⟨rfl, H9.out.bel⟩

set_option maxRecDepth 100000 in
set_option maxHeartbeats 1600000 in
theorem rounds_no (n0 : Bool) (a0 : Option Addr) (len0 cap0 : Nat) (e0 : Int) (k0 k1 k2 k3 k4 k5 k6 : Int) (w : World) (hc0 : len0 ≤ cap0) (hm0 : cap0 ≤ maxLen) (htab : Tab w) (h : ¬ ((len0 : Int) ≤ 30 ∧ -30 ≤ e0 ∧ e0 ≤ 30)) :
    Calls Tryz.prog 6 #[RV n0 a0 len0 cap0 e0, .agg #[.int .i64 k0, .int .i64 k1, .int .i64 k2, .int .i64 k3, .int .i64 k4, .int .i64 k5, .int .i64 k6]] w fun x w' => x = .returned (.bool true) ∧ Below w.heap.size w w' := by
  have HT := Lib.hid htab
  have H := Lib.hid h
  clear htab h
  go_enter Tryz.func6, Tryz.ntmps6
  go_wp2_with fail
  with_reducible refine (head4 _ (HT.out.below (HeldL.alloc (HeldL.alloc (HeldL.refl w) (w.heap.size) #[.bool n0, .slice a0 len0 cap0, .int .i64 e0] 24 (by simp)) (w.heap.size + 1) #[.int .i64 k0, .int .i64 k1, .int .i64 k2, .int .i64 k3, .int .i64 k4, .int .i64 k5, .int .i64 k6] 43 (by simp)).bel)).mono ?_
  rintro x w1 ⟨rfl, hb⟩
  have H1 : Hid (HeldL w [(w.heap.size + 1, #[.int .i64 k0, .int .i64 k1, .int .i64 k2, .int .i64 k3, .int .i64 k4, .int .i64 k5, .int .i64 k6]), (w.heap.size, #[.bool n0, .slice a0 len0 cap0, .int .i64 e0])] w1) := Lib.hid (HeldL.keep (HeldL.alloc (HeldL.alloc (HeldL.refl w) (w.heap.size) #[.bool n0, .slice a0 len0 cap0, .int .i64 e0] 24 (by simp)) (w.heap.size + 1) #[.int .i64 k0, .int .i64 k1, .int .i64 k2, .int .i64 k3, .int .i64 k4, .int .i64 k5, .int .i64 k6] 43 (by simp)) hb)
  clear hb
  have r0 : w1.cell? ⟨w.heap.size, 0, none⟩ = some (.bool n0) := (H1.out.f (List.Mem.tail _ (List.Mem.head _))).cell 0
  have r1 : w1.cell? ⟨w.heap.size, 1, none⟩ = some (.slice a0 len0 cap0) := (H1.out.f (List.Mem.tail _ (List.Mem.head _))).cell 1
  have r2 : w1.cell? ⟨w.heap.size, 2, none⟩ = some (.int .i64 e0) := (H1.out.f (List.Mem.tail _ (List.Mem.head _))).cell 2
  have rl : w.heap.size < w1.heap.size := (H1.out.f (List.Mem.tail _ (List.Mem.head _))).lt
  go_wp2_with fail
  with_reducible refine (few_no n0 a0 len0 cap0 e0 30 _ hc0 hm0 (by decide) (by decide) H.out).mono ?_
  rintro x w2 ⟨rfl, hb⟩
  clear r0 r1 r2 rl
  have H2 : Hid (HeldL w [(w.heap.size + 1, #[.int .i64 k0, .int .i64 k1, .int .i64 k2, .int .i64 k3, .int .i64 k4, .int .i64 k5, .int .i64 k6]), (w.heap.size, #[.bool n0, .slice a0 len0 cap0, .int .i64 e0])] w2) := Lib.hid (HeldL.keep H1.out hb)
  clear H1
  clear hb
  go_wp2
  go_ret
  exact ⟨rfl, H2.out.bel⟩

set_option maxRecDepth 100000 in
set_option maxHeartbeats 1600000 in
theorem unit4_0 (p : Prc) (d : Tri) (w : World) (dl : d.l.length ≤ 100000) (x1 : 0 ≤ p.mx) (x2 : p.mx ≤ 100) (kb : (p.kind == 0) = true) (u : Tri) (hu : made false [49] (-p.mx) = u) :
    Calls Tryz.prog 29 #[PV p, V d] w fun z w' => z = .returned (V u) ∧ Below w.heap.size w w' := by
  have HU := Lib.hid hu
  clear hu
  go_enter Tryz.func29, Tryz.ntmps29
  go_wp2_with fail
  with_reducible refine (made_as false ⟨#[49]⟩ (-p.mx) _ (by decide) u HU.out).mono ?_
  rintro x w1 ⟨rfl, hb⟩
  have H1 : Hid (HeldL w [(w.heap.size + 1 + 1, #[.bool false, .string ⟨#[]⟩, .int .i64 0]), (w.heap.size + 1, #[.bool d.neg, S d.l, .int .i64 d.e]), (w.heap.size, #[.int .i64 p.kind, .int .i64 p.mn, .int .i64 p.mx, .bool p.inc.neg, S p.inc.l, .int .i64 p.inc.e, .int .i64 p.mode, .int .i64 p.mi])] w1) := Lib.hid (HeldL.keep (HeldL.alloc (HeldL.alloc (HeldL.alloc (HeldL.refl w) (w.heap.size) #[.int .i64 p.kind, .int .i64 p.mn, .int .i64 p.mx, .bool p.inc.neg, S p.inc.l, .int .i64 p.inc.e, .int .i64 p.mode, .int .i64 p.mi] 46 (by simp)) (w.heap.size + 1) #[.bool d.neg, S d.l, .int .i64 d.e] 31 (by simp)) (w.heap.size + 1 + 1) #[.bool false, .string ⟨#[]⟩, .int .i64 0] 31 (by simp)) hb)
  clear hb
  have r0 : w1.cell? ⟨w.heap.size + 1 + 1, 0, none⟩ = some (.bool false) := (H1.out.f (List.Mem.head _)).cell 0
  have rz0 : w1.frozen? ⟨w.heap.size + 1 + 1, 0, none⟩ = false := (H1.out.f (List.Mem.head _)).frozen 0
  have r1 : w1.cell? ⟨w.heap.size + 1 + 1, 1, none⟩ = some (.string ⟨#[]⟩) := (H1.out.f (List.Mem.head _)).cell 1
  have rz1 : w1.frozen? ⟨w.heap.size + 1 + 1, 1, none⟩ = false := (H1.out.f (List.Mem.head _)).frozen 1
  have r2 : w1.cell? ⟨w.heap.size + 1 + 1, 2, none⟩ = some (.int .i64 0) := (H1.out.f (List.Mem.head _)).cell 2
  have rz2 : w1.frozen? ⟨w.heap.size + 1 + 1, 2, none⟩ = false := (H1.out.f (List.Mem.head _)).frozen 2
  have rl : w.heap.size + 1 + 1 < w1.heap.size := (H1.out.f (List.Mem.head _)).lt
  go_wp2
  exact bodyPost_ret (v := V u) (by simp [results, Tryz.results29, go_sem, r0, r1, r2]) rfl ⟨rfl, (HeldL.store3 [] [(w.heap.size + 1, #[.bool d.neg, S d.l, .int .i64 d.e]), (w.heap.size, #[.int .i64 p.kind, .int .i64 p.mn, .int .i64 p.mx, .bool p.inc.neg, S p.inc.l, .int .i64 p.inc.e, .int .i64 p.mode, .int .i64 p.mi])] H1.out (.bool u.neg) (S u.l) (.int .i64 u.e)).bel⟩

set_option maxRecDepth 100000 in
set_option maxHeartbeats 1600000 in
theorem unit4_1 (p : Prc) (d : Tri) (w : World) (dl : d.l.length ≤ 100000) (x1 : 0 ≤ p.mx) (x2 : p.mx ≤ 100) (kb : (p.kind == 0) = false) (kb1 : (p.kind == 1) = true) (hd : made d.neg d.l d.e = d) (hne : d.l ≠ []) (G : Int) (hmg : d.e + (d.l.length : Int) - 1 = G) (g1 : -1000 ≤ G) (g2 : G ≤ 1000) (u : Tri) (hu : made false [49] (G - p.mx + 1) = u) :
    Calls Tryz.prog 29 #[PV p, V d] w fun z w' => z = .returned (V u) ∧ Below w.heap.size w w' := by
  have HU := Lib.hid hu
  clear hu
  have HD := Lib.hid hd
  have HNE := Lib.hid hne
  have HMG := Lib.hid hmg
  clear hd hne hmg
  go_enter Tryz.func29, Tryz.ntmps29
  go_wp2_with fail
  with_reducible refine (mag_some d.neg ⟨d.l.toArray⟩ d.e _ (by rw [arr_size]; omega) d (by rw [arr_list]; exact HD.out) HNE.out HD.out).mono ?_
  rintro x w1 ⟨rfl, hb⟩
  have H1 : Hid (HeldL w [(w.heap.size + 1 + 1, #[.bool false, .string ⟨#[]⟩, .int .i64 0]), (w.heap.size + 1, #[.bool d.neg, S d.l, .int .i64 d.e]), (w.heap.size, #[.int .i64 p.kind, .int .i64 p.mn, .int .i64 p.mx, .bool p.inc.neg, S p.inc.l, .int .i64 p.inc.e, .int .i64 p.mode, .int .i64 p.mi])] w1) := Lib.hid (HeldL.keep (HeldL.alloc (HeldL.alloc (HeldL.alloc (HeldL.refl w) (w.heap.size) #[.int .i64 p.kind, .int .i64 p.mn, .int .i64 p.mx, .bool p.inc.neg, S p.inc.l, .int .i64 p.inc.e, .int .i64 p.mode, .int .i64 p.mi] 46 (by simp)) (w.heap.size + 1) #[.bool d.neg, S d.l, .int .i64 d.e] 31 (by simp)) (w.heap.size + 1 + 1) #[.bool false, .string ⟨#[]⟩, .int .i64 0] 31 (by simp)) hb)
  clear hb
  have bp0 : w1.cell? ⟨w.heap.size, 0, none⟩ = some (.int .i64 p.kind) := (H1.out.f (List.Mem.tail _ (List.Mem.tail _ (List.Mem.head _)))).cell 0
  have bp1 : w1.cell? ⟨w.heap.size, 1, none⟩ = some (.int .i64 p.mn) := (H1.out.f (List.Mem.tail _ (List.Mem.tail _ (List.Mem.head _)))).cell 1
  have bp2 : w1.cell? ⟨w.heap.size, 2, none⟩ = some (.int .i64 p.mx) := (H1.out.f (List.Mem.tail _ (List.Mem.tail _ (List.Mem.head _)))).cell 2
  have bp3 : w1.cell? ⟨w.heap.size, 3, none⟩ = some (.bool p.inc.neg) := (H1.out.f (List.Mem.tail _ (List.Mem.tail _ (List.Mem.head _)))).cell 3
  have bp4 : w1.cell? ⟨w.heap.size, 4, none⟩ = some (S p.inc.l) := (H1.out.f (List.Mem.tail _ (List.Mem.tail _ (List.Mem.head _)))).cell 4
  have bp5 : w1.cell? ⟨w.heap.size, 5, none⟩ = some (.int .i64 p.inc.e) := (H1.out.f (List.Mem.tail _ (List.Mem.tail _ (List.Mem.head _)))).cell 5
  have bp6 : w1.cell? ⟨w.heap.size, 6, none⟩ = some (.int .i64 p.mode) := (H1.out.f (List.Mem.tail _ (List.Mem.tail _ (List.Mem.head _)))).cell 6
  have bp7 : w1.cell? ⟨w.heap.size, 7, none⟩ = some (.int .i64 p.mi) := (H1.out.f (List.Mem.tail _ (List.Mem.tail _ (List.Mem.head _)))).cell 7
  have bpl : w.heap.size < w1.heap.size := (H1.out.f (List.Mem.tail _ (List.Mem.tail _ (List.Mem.head _)))).lt
  have r0 : w1.cell? ⟨w.heap.size + 1 + 1, 0, none⟩ = some (.bool false) := (H1.out.f (List.Mem.head _)).cell 0
  have rz0 : w1.frozen? ⟨w.heap.size + 1 + 1, 0, none⟩ = false := (H1.out.f (List.Mem.head _)).frozen 0
  have r1 : w1.cell? ⟨w.heap.size + 1 + 1, 1, none⟩ = some (.string ⟨#[]⟩) := (H1.out.f (List.Mem.head _)).cell 1
  have rz1 : w1.frozen? ⟨w.heap.size + 1 + 1, 1, none⟩ = false := (H1.out.f (List.Mem.head _)).frozen 1
  have r2 : w1.cell? ⟨w.heap.size + 1 + 1, 2, none⟩ = some (.int .i64 0) := (H1.out.f (List.Mem.head _)).cell 2
  have rz2 : w1.frozen? ⟨w.heap.size + 1 + 1, 2, none⟩ = false := (H1.out.f (List.Mem.head _)).frozen 2
  have rl : w.heap.size + 1 + 1 < w1.heap.size := (H1.out.f (List.Mem.head _)).lt
  rw [HMG.out]
  go_wp2_with fail
  with_reducible refine (made_as false ⟨#[49]⟩ (G - p.mx + 1) _ (by decide) u HU.out).mono ?_
  rintro x w2 ⟨rfl, hb⟩
  clear bp0 bp1 bp2 bp3 bp4 bp5 bp6 bp7 bpl r0 rz0 r1 rz1 r2 rz2 rl
  have H2 : Hid (HeldL w [(w.heap.size + 1 + 1, #[.bool false, .string ⟨#[]⟩, .int .i64 0]), (w.heap.size + 1, #[.bool d.neg, S d.l, .int .i64 d.e]), (w.heap.size, #[.int .i64 p.kind, .int .i64 p.mn, .int .i64 p.mx, .bool p.inc.neg, S p.inc.l, .int .i64 p.inc.e, .int .i64 p.mode, .int .i64 p.mi])] w2) := Lib.hid (HeldL.keep H1.out hb)
  clear H1
  clear hb
  have r0 : w2.cell? ⟨w.heap.size + 1 + 1, 0, none⟩ = some (.bool false) := (H2.out.f (List.Mem.head _)).cell 0
  have rz0 : w2.frozen? ⟨w.heap.size + 1 + 1, 0, none⟩ = false := (H2.out.f (List.Mem.head _)).frozen 0
  have r1 : w2.cell? ⟨w.heap.size + 1 + 1, 1, none⟩ = some (.string ⟨#[]⟩) := (H2.out.f (List.Mem.head _)).cell 1
  have rz1 : w2.frozen? ⟨w.heap.size + 1 + 1, 1, none⟩ = false := (H2.out.f (List.Mem.head _)).frozen 1
  have r2 : w2.cell? ⟨w.heap.size + 1 + 1, 2, none⟩ = some (.int .i64 0) := (H2.out.f (List.Mem.head _)).cell 2
  have rz2 : w2.frozen? ⟨w.heap.size + 1 + 1, 2, none⟩ = false := (H2.out.f (List.Mem.head _)).frozen 2
  have rl : w.heap.size + 1 + 1 < w2.heap.size := (H2.out.f (List.Mem.head _)).lt
  go_wp2
  exact bodyPost_ret (v := V u) (by simp [results, Tryz.results29, go_sem, r0, r1, r2]) rfl ⟨rfl, (HeldL.store3 [] [(w.heap.size + 1, #[.bool d.neg, S d.l, .int .i64 d.e]), (w.heap.size, #[.int .i64 p.kind, .int .i64 p.mn, .int .i64 p.mx, .bool p.inc.neg, S p.inc.l, .int .i64 p.inc.e, .int .i64 p.mode, .int .i64 p.mi])] H2.out (.bool u.neg) (S u.l) (.int .i64 u.e)).bel⟩

set_option maxRecDepth 100000 in
set_option maxHeartbeats 1600000 in
theorem unit4_2 (p : Prc) (d : Tri) (w : World) (dl : d.l.length ≤ 100000) (x1 : 0 ≤ p.mx) (x2 : p.mx ≤ 100) (kb : (p.kind == 0) = false) (kb1 : (p.kind == 1) = false) :
    Calls Tryz.prog 29 #[PV p, V d] w fun z w' => z = .returned (V p.inc) ∧ Below w.heap.size w w' := by
  go_enter Tryz.func29, Tryz.ntmps29
  go_wp2
  exact bodyPost_ret (v := V p.inc) (by simp [results, Tryz.results29, go_sem]) rfl ⟨rfl, below_alloc3 w _ _ _⟩

end Go.Proofs.YtfbfjkacaadbpaaGreatDoor

namespace Go.Proofs.YtfbfjkacaadbpaaGreatDoor
open Go.RowKit Florin
set_option linter.unusedVariables false

theorem wrap_same (t : Int) : IntKind.i64.wrap t = wrap64 t := by rw [IntKind.wrap_i64]; unfold wrap64; omega
/-- What the laws ask, of small numbers. -/
structure Asked (p : Prc) : Prop where
  ok : validP p = true
  mn8 : p.mn ≤ 8
  mx15 : p.mx ≤ 15
  mx0 : 0 ≤ p.mx
  mi7 : p.mi ≤ 7
  il : p.inc.l.length ≤ 100
  inn : p.kind = 2 → made p.inc.neg p.inc.l p.inc.e = p.inc ∧ p.inc.neg = false ∧ -6 ≤ p.inc.e ∧ p.inc.e ≤ 6 ∧ 1 ≤ val p.inc.l ∧ val p.inc.l ≤ 1000000000
theorem prec_any (k0 k1 k2 k3 k4 k5 k6 : Int) : ∃ p : Prc, Asked p ∧ ∀ w : World, Tab w → Calls Tryz.prog 22 #[.agg #[.int .i64 k0, .int .i64 k1, .int .i64 k2, .int .i64 k3, .int .i64 k4, .int .i64 k5, .int .i64 k6]] w fun z w' => z = .returned (PV p) ∧ Below w.heap.size w w' := by
  have hk := u64_mod k0 3 (by decide) (by decide)
  rw [← wrap_same] at hk
  obtain ⟨j1, l1, hj1⟩ := and_mask k1 7 (by decide)
  obtain ⟨j2, l2, hj2⟩ := and_mask k2 7 (by decide)
  obtain ⟨j4, l4, hj4⟩ := and_mask k4 7 (by decide)
  obtain ⟨j5, l5, hj5⟩ := and_mask k5 65535 (by decide)
  obtain ⟨M, m0, m6, hM⟩ := mode_as k3
  have hk3 : IntKind.i64.wrap ((IntKind.u64.wrap k0).tmod 3) = 0 ∨ IntKind.i64.wrap ((IntKind.u64.wrap k0).tmod 3) = 1 ∨ IntKind.i64.wrap ((IntKind.u64.wrap k0).tmod 3) = 2 := by omega
  rcases hk3 with h | h | h
  · refine ⟨⟨0, j1, j1 + j2, zero, M, j4⟩, ⟨?_, by simp only; omega, by simp only; omega, by simp only; omega, by simp only; omega, by show ([] : List UInt8).length ≤ 100; decide, fun h => by simp at h⟩, fun w ht => prec_0 k0 k1 k2 k3 k4 k5 k6 w h j1 j2 j4 hj1 hj2 hj4 l1 l2 l4 M hM ht⟩
    unfold validP vm wi
    simp only [if_true, Bool.and_eq_true, decide_eq_true_eq]
    omega
  · refine ⟨⟨1, j1 + 1, j1 + 1 + j2, zero, M, j4⟩, ⟨?_, by simp only; omega, by simp only; omega, by simp only; omega, by simp only; omega, by show ([] : List UInt8).length ≤ 100; decide, fun h => by simp at h⟩, fun w ht => prec_1 k0 k1 k2 k3 k4 k5 k6 w h j1 j2 j4 hj1 hj2 hj4 l1 l2 l4 M hM ht⟩
    unfold validP vm wi
    simp only [Int.reduceEq, if_false, if_true, Bool.and_eq_true, decide_eq_true_eq]
    omega
  · have t1 := Int.tmod_lt_of_pos k6 (show (0 : Int) < 4 by decide)
    have t2 := Int.lt_tmod_of_pos k6 (show (0 : Int) < 4 by decide)
    have dl : (dig (j5 + 1)).length ≤ 6 := (dig_length_le _ _).2 (Nat.lt_of_le_of_lt (show j5 + 1 ≤ 65536 by omega) (by decide))
    have he := made_e_le false (dig (j5 + 1)) (k6.tmod 4 - 3) (by omega) (by omega) (by omega)
    have hl := made_length false (dig (j5 + 1)) (k6.tmod 4 - 3)
    have hid := made_idem false (dig (j5 + 1)) (k6.tmod 4 - 3)
    have hdg := made_isDig false (dig (j5 + 1)) (k6.tmod 4 - 3)
    have hpos : bare (dig (j5 + 1)) ≠ [] := by rw [bare_of_dig, Ne, dig_eq_nil]; omega
    have hneg : (made false (dig (j5 + 1)) (k6.tmod 4 - 3)).neg = false := by rw [made_pos _ _ hpos]
    have hne : (made false (dig (j5 + 1)) (k6.tmod 4 - 3)).l ≠ [] := by
      rw [made_pos _ _ hpos]; simp only; rw [bare_of_dig]; exact rt_ne_nil (by rw [val_dig]; omega)
    obtain ⟨g, hg⟩ : ∃ g, made false (dig (j5 + 1)) (k6.tmod 4 - 3) = g := ⟨_, rfl⟩
    rw [hg] at he hl hid hdg hneg hne
    have hvi : vinc g = true := by
      unfold vinc wi
      rw [hneg, ne_empty hne]
      simp only [Bool.not_false, Bool.true_and, Bool.and_eq_true, decide_eq_true_eq]
      omega
    have hvi2 : vinc (made g.neg g.l g.e) = true := by rw [hid]; exact hvi
    obtain ⟨v1, v2, v3, v4, v5⟩ := vinc_val hvi2
    rw [hid] at v1 v2
    refine ⟨⟨2, j1, j1 + j2, g, M, j4⟩, ⟨?_, by simp only; omega, by simp only; omega, by simp only; omega, by simp only; omega, by simp only; omega, fun _ => ⟨hid, hneg, by simp only; omega, by simp only; omega, v1, v2⟩⟩, fun w ht => prec_2 k0 k1 k2 k3 k4 k5 k6 w h j1 j2 j4 hj1 hj2 hj4 l1 l2 l4 M hM ht j5 hj5 l5 (by omega) (by omega) g hg⟩
    unfold validP vm wi
    simp only [Int.reduceEq, if_false, if_true, Bool.and_eq_true, decide_eq_true_eq]
    exact ⟨⟨m0, m6⟩, ⟨by omega, by omega⟩, ⟨by omega, by omega⟩, hvi2⟩

theorem zs_add (m k : Nat) (l : List UInt8) : zs m ++ (zs k ++ l) = zs (m + k) ++ l := by
  unfold zs; rw [← List.append_assoc, List.replicate_append_replicate]
theorem nrm_of {b : Bool} {l : List UInt8} {e : Int} (h : Nrm ⟨b, l, e⟩) (t z : Nat) (h1 : -30000 ≤ e - t) (h2 : e - t ≤ 30000) : made b (zs z ++ l ++ zs t) (e - t) = ⟨b, l, e⟩ := by
  have hd : isDig (zs z ++ l ++ zs t) = true := by rw [isDig_append, isDig_append, isDig_zs, isDig_zs, h.dg]; rfl
  have hz : ∀ z, trim (zs z ++ l ++ zs t) = l ++ zs t := by
    intro z
    induction z with
    | zero =>
      cases hl : l with
      | nil => exact absurd hl h.ne
      | cons c r => exact trim_cons _ (h.hd c r hl)
    | succ z ih => rw [show zs (z + 1) ++ l ++ zs t = 48 :: (zs z ++ l ++ zs t) by simp [zs, List.replicate_succ], trim_cons_zero, ih]
  have hb : bare (zs z ++ l ++ zs t) = l ++ zs t := by unfold bare; rw [if_pos hd, hz]
  have hr : rt (l ++ zs t) = l := by rw [rt_app_zs]; exact rt_last h.lst
  have lo := h.lo
  have hi := h.hi
  simp only at lo hi
  rw [made_pos _ _ (by rw [hb]; simp [h.ne]), hb, hr, hld_of (e := e - t) (by omega) (by omega)]
  rw [hld_of (by rw [List.length_append, zs_length]; omega) (by rw [List.length_append, zs_length]; omega)]
  congr 1
  rw [List.length_append, zs_length]; omega
theorem rt_tail {a l : List UInt8} (h : ∀ t c, l = t ++ [c] → c ≠ 48) (hne : l ≠ []) : rt (a ++ l) = a ++ l := by
  rcases List.eq_nil_or_concat l with h0 | ⟨t, c, h0⟩
  · exact absurd h0 hne
  · rw [List.concat_eq_append] at h0
    rw [h0, ← List.append_assoc]; exact rt_snoc _ (h t c h0)
/-- The value of what is shown is what was rounded. -/
theorem value_vis (p : Prc) (g : Tri) (h : g = zero ∨ Nrm g) : made (visP p g).neg ((visP p g).i ++ rt (visP p g).f) (-((rt (visP p g).f).length : Int)) = g := by
  unfold visP
  simp only
  rcases h with rfl | h
  · have hp : partsT zero = ([], []) := by decide
    rw [hp]
    simp only [List.append_nil, List.nil_append]
    have hr : ∀ n, rt (zs n) = [] := fun n => by have := rt_app_zs [] n; simpa [rt_nil] using this
    rw [hr]
    simp only [List.append_nil]
    refine made_zero _ _ ?_
    split
    · decide
    · unfold bare
      rw [if_pos (isDig_zs _)]
      have : ∀ n, trim (zs n) = [] := by
        intro n; induction n with
        | zero => rfl
        | succ n ih => rw [show zs (n + 1) = 48 :: zs n from rfl, trim_cons_zero, ih]
      exact this _
  · obtain ⟨b, l, e⟩ := g
    have lo := h.lo
    have hi := h.hi
    simp only at lo hi
    have hne : l ≠ [] := h.ne
    unfold partsT
    simp only
    by_cases h0 : 0 ≤ e
    · rw [if_pos h0]
      simp only [List.nil_append]
      rw [show rt (zs (mfrac p ⟨b, l, e⟩ - (([] : List UInt8).length : Int)).toNat) = [] by have := rt_app_zs [] (mfrac p ⟨b, l, e⟩ - (([] : List UInt8).length : Int)).toNat; simpa [rt_nil] using this]
      rw [if_neg (fun hh => hne (by have := (List.append_eq_nil_iff.1 hh.1).2; exact (List.append_eq_nil_iff.1 this).1))]
      have := nrm_of h e.toNat (p.mi - ((l ++ zs e.toNat).length : Int)).toNat (by omega) (by omega)
      rw [show e - (e.toNat : Int) = 0 by omega] at this
      simp only [List.append_nil, List.length_nil]
      rw [← List.append_assoc]
      exact this
    · rw [if_neg h0]
      by_cases hp : (l.length : Int) + e ≤ 0
      · rw [if_pos hp]
        simp only [List.append_nil]
        rw [if_neg (fun hh => hne (by have := (List.append_eq_nil_iff.1 hh.2).1; exact (List.append_eq_nil_iff.1 this).2)), rt_app_zs, rt_tail h.lst hne]
        have := nrm_of h 0 ((p.mi - (([] : List UInt8).length : Int)).toNat + (-((l.length : Int) + e)).toNat) (by omega) (by omega)
        simp only [zs_zero, List.append_nil] at this
        rw [zs_add, List.length_append, zs_length]
        rw [show -((((-((l.length : Int) + e)).toNat + l.length : Nat) : Int)) = e - ((0 : Nat) : Int) by omega]
        exact this
      · rw [if_neg hp]
        simp only
        have hlen : 0 < l.length := List.length_pos_iff.2 hne
        obtain ⟨q, hq⟩ : ∃ q : Nat, ((l.length : Int) + e).toNat = q := ⟨_, rfl⟩
        rw [hq]
        have hqb : q < l.length ∧ 0 < q := by omega
        have hdne : l.drop q ≠ [] := by intro hh; have := congrArg List.length hh; rw [List.length_drop, List.length_nil] at this; omega
        have htl : ∀ t c, l.drop q = t ++ [c] → c ≠ 48 := by
          intro t c hh
          refine h.lst (l.take q ++ t) c ?_
          show l = _
          rw [List.append_assoc, ← hh, List.take_append_drop]
        rw [if_neg (fun hh => hdne (List.append_eq_nil_iff.1 hh.2).1), rt_app_zs]
        have hrd : rt (l.drop q) = l.drop q := rt_last htl
        rw [hrd, List.append_assoc, List.take_append_drop, List.length_drop]
        have := nrm_of h 0 (p.mi - ((l.take q).length : Int)).toNat (by omega) (by omega)
        simp only [zs_zero, List.append_nil] at this
        rw [show -(((l.length - q : Nat) : Int)) = e - ((0 : Nat) : Int) by omega]
        exact this
theorem vis_len (p : Prc) (hp : Asked p) (g : Tri) (hl : g.l.length ≤ 1000) (h1 : -500 ≤ g.e) (h2 : g.e ≤ 1000) : (visP p g).i.length ≤ 2500 ∧ (visP p g).f.length ≤ 2000 := by
  obtain ⟨_, hi, hn, _⟩ := validP_parts hp.ok
  have m8 := hp.mn8
  have m7 := hp.mi7
  have hF : mfrac p g ≤ 600 := by
    unfold mfrac
    split
    · split
      · omega
      · rename_i hne
        have := List.length_pos_iff.2 hne
        omega
    · omega
  have ha : (partsT g).1.length ≤ 2000 ∧ (partsT g).2.length ≤ 500 := by
    unfold partsT
    split
    · simp only [List.length_append, zs_length, List.length_nil]; omega
    · split
      · simp only [List.length_append, zs_length, List.length_nil]; omega
      · simp only [List.length_take, List.length_drop]; omega
  unfold visP
  simp only
  constructor
  · split
    · decide
    · rw [List.length_append, zs_length]; omega
  · rw [List.length_append, zs_length]; omega
end Go.Proofs.YtfbfjkacaadbpaaGreatDoor

namespace Go.Proofs.YtfbfjkacaadbpaaGreatDoor
open Go.RowKit Florin
set_option linter.unusedVariables false

theorem one_nf {P : Int} (h1 : -200 ≤ P) (h2 : P ≤ 140) (N : Nat) (hN : N = 400) : ∃ U : Nat, U = 1 * 10 ^ (P + ((200 : Nat) : Int)).toNat ∧ 0 < U ∧ U < 10 ^ N ∧ made false [49] P = nf 200 (U : Int) ∧ val (nf 200 (U : Int)).l ≤ 1000000000 := by
  refine ⟨_, rfl, Nat.mul_pos (by decide) (pow_pos' _), ?_, ?_⟩
  · rw [Nat.one_mul]; exact (Nat.pow_lt_pow_iff_right (by decide)).2 (by omega)
  · have hb : 1 * 10 ^ (P + ((200 : Nat) : Int)).toNat < 10 ^ N := by rw [Nat.one_mul]; exact (Nat.pow_lt_pow_iff_right (by decide)).2 (by omega)
    generalize hU : 1 * 10 ^ (P + ((200 : Nat) : Int)).toNat = U at *
    have fU : Fit 200 (U : Int) := fitN (M := N) (by decide) (by omega) (by rw [Int.natAbs_natCast]; exact hb)
    have hdu : Dv 200 (U : Int) ⟨false, [49], P⟩ := ⟨rfl, by simp only; omega, by
      simp only
      rw [show val [49] = 1 from rfl, ← hU]; rfl⟩
    have hu : made false [49] P = nf 200 (U : Int) := hdu.made fU
    refine ⟨hu, ?_⟩
    rw [← hu, made_pos _ _ (by decide)]
    show val (rt (bare [49])) ≤ 1000000000
    decide
theorem roundP_200 (p : Prc) (hp : Asked p) (N : Nat) (hN : N = 400) (X : Int) (hX : X.natAbs < 10 ^ N) (hG : X ≠ 0 → -100 ≤ (nf 200 X).e + ((nf 200 X).l.length : Int) - 1 ∧ (nf 200 X).e + ((nf 200 X).l.length : Int) - 1 ≤ 140) :
    ∃ U : Nat, 0 < U ∧ U < 10 ^ N ∧ roundP p (nf 200 X) = nf 200 (rz p.mode U X) ∧ val (nf 200 (U : Int)).l ≤ 1000000000 ∧ (X ≠ 0 → ∀ w : World, Calls Tryz.prog 29 #[PV p, V (nf 200 X)] w fun z w' => z = .returned (V (nf 200 (U : Int))) ∧ Below w.heap.size w w') := by
  obtain ⟨⟨m0, m6⟩, _, _, hk⟩ := validP_parts hp.ok
  have fX : Fit 200 X := fitN (M := N) (by decide) (by omega) hX
  have x0 := hp.mx0
  have x15 := hp.mx15
  have dl : (nf 200 X).l.length ≤ 100000 := nf_len' hX (by omega)
  have fit : ∀ U : Nat, 0 < U → U < 10 ^ N → Fit 200 (rz p.mode U X) := fun U h0 h => fitN (M := N + 1) (by decide) (by omega) (rz_lt (U := (U : Int)) (by omega) hX (by rw [Int.natAbs_natCast]; exact Nat.le_of_lt h))
  rcases hk with ⟨k, b1, b2⟩ | ⟨k, b0, b1, b2⟩ | ⟨k, b⟩
  · obtain ⟨U, hU, u0, u1, u2, u3⟩ := one_nf (P := -p.mx) (by omega) (by omega) N hN
    refine ⟨U, u0, u1, ?_, u3, fun _ w => unit4_0 p (nf 200 X) w dl x0 b2 (by simp [k]) _ u2⟩
    unfold roundP
    rw [if_pos k, hld_of (by omega) (by omega)]
    exact mulT_nf fX 1 (by decide) (-p.mx) p.mode (by omega) m0 m6 U hU (fit U u0 u1)
  · by_cases hz : X = 0
    · subst hz
      obtain ⟨U, hU, u0, u1, u2, u3⟩ := one_nf (P := 0) (by omega) (by omega) N hN
      refine ⟨U, u0, u1, ?_, u3, fun h => absurd rfl h⟩
      rw [rz_zero, nf_zero]
      unfold roundP
      rw [if_neg (by omega), if_pos k]; rfl
    · have hg := hG hz
      obtain ⟨U, hU, u0, u1, u2, u3⟩ := one_nf (P := (nf 200 X).e + ((nf 200 X).l.length : Int) - 1 - p.mx + 1) (by omega) (by omega) N hN
      have nr := nf_nrm fX hz
      refine ⟨U, u0, u1, ?_, u3, fun _ w => unit4_1 p (nf 200 X) w dl x0 b2 (by simp [k]) (by simp [k]) (nf_made fX) nr.ne _ rfl (by omega) (by omega) _ u2⟩
      unfold roundP sigT
      rw [if_neg (by omega), if_pos k, if_neg nr.ne, show min (max p.mx 1) 30000 = p.mx by omega, hld_of (by omega) (by omega)]
      exact mulT_nf fX 1 (by decide) _ p.mode (by omega) m0 m6 U hU (fit U u0 u1)
  · obtain ⟨i1, i2, i3, i4, i5, i6⟩ := hp.inn k
    have hdg : isDig p.inc.l = true := by rw [← i1]; exact made_isDig _ _ _
    obtain ⟨U, hU⟩ : ∃ U : Nat, U = val p.inc.l * 10 ^ (p.inc.e + ((200 : Nat) : Int)).toNat := ⟨_, rfl⟩
    have u0 : 0 < U := by rw [hU]; exact Nat.mul_pos (by omega) (pow_pos' _)
    have u1 : U < 10 ^ N := by
      rw [hU]
      have a1 : val p.inc.l < 10 ^ 10 := Nat.lt_of_le_of_lt i6 (by decide)
      have a2 : val p.inc.l * 10 ^ (p.inc.e + ((200 : Nat) : Int)).toNat < 10 ^ 10 * 10 ^ (p.inc.e + ((200 : Nat) : Int)).toNat := Nat.mul_lt_mul_of_pos_right a1 (pow_pos' _)
      rw [← Nat.pow_add] at a2
      exact Nat.lt_of_lt_of_le a2 (Nat.pow_le_pow_right (by decide) (by omega))
    have fU : Fit 200 (U : Int) := fitN (M := N) (by decide) (by omega) (by rw [Int.natAbs_natCast]; exact u1)
    have hdu : Dv 200 (U : Int) p.inc := ⟨hdg, by omega, by rw [i2, hU]; rfl⟩
    have hu : nf 200 (U : Int) = p.inc := by rw [← hdu.made fU, i1]
    refine ⟨U, u0, u1, ?_, by rw [hu]; exact i6, fun _ w => by rw [hu]; exact unit4_2 p (nf 200 X) w dl x0 (by omega) (by simp [k]) (by simp [k])⟩
    unfold roundP
    rw [if_neg (by omega), if_neg (by omega), i1]
    exact mulT_nf fX _ (by omega) _ p.mode (by omega) m0 m6 U hU (fit U u0 u1)
theorem raw2 (n : Bool) (L : List UInt8) (e : Int) (h1 : L.length ≤ 40) (h2 : -40 ≤ e) (h3 : e ≤ 40) (N : Nat) (hN : 280 ≤ N) : ∃ X : Int, Dv 200 X ⟨n, dgs L, e⟩ ∧ X.natAbs < 10 ^ N := by
  refine ⟨_, raw_dv n (isDig_dgs L) (by omega), ?_⟩
  rw [sg_natAbs]
  have h4 := val_lt _ (isDig_dgs L)
  rw [dgs_length] at h4
  have h7 : val (dgs L) * 10 ^ (e + ((200 : Nat) : Int)).toNat < 10 ^ L.length * 10 ^ (e + ((200 : Nat) : Int)).toNat := Nat.mul_lt_mul_of_pos_right h4 (pow_pos' _)
  rw [← Nat.pow_add] at h7
  exact Nat.lt_of_lt_of_le h7 (Nat.pow_le_pow_right (by decide) (by omega))
theorem nf_or {k : Nat} {z : Int} (hf : Fit k z) : nf k z = zero ∨ Nrm (nf k z) := by
  by_cases h : z = 0
  · subst h; exact .inl (nf_zero k)
  · exact .inr (nf_nrm hf h)
/-- A raw decimal of the laws, and what is shown of it. -/
theorem shown (p : Prc) (hp : Asked p) (n : Bool) (L : List UInt8) (e : Int) (h1 : L.length ≤ 30) (h2 : -30 ≤ e) (h3 : e ≤ 30) (N : Nat) (hN : N = 400) : ∃ (X : Int) (U : Nat), made n (dgs L) e = nf 200 X ∧ X.natAbs < 10 ^ N ∧ Fit 200 X ∧ 0 < U ∧ U < 10 ^ N ∧ roundP p (nf 200 X) = nf 200 (rz p.mode U X) ∧ val (nf 200 (U : Int)).l ≤ 1000000000 ∧
    (X ≠ 0 → ∀ w : World, Calls Tryz.prog 29 #[PV p, V (nf 200 X)] w fun z w' => z = .returned (V (nf 200 (U : Int))) ∧ Below w.heap.size w w') ∧
    Fit 200 (rz p.mode U X) ∧ (nf 200 (rz p.mode U X)).l.length ≤ 1000 ∧ -200 ≤ (nf 200 (rz p.mode U X)).e ∧ (nf 200 (rz p.mode U X)).e ≤ 1000 ∧ (nf 200 X).l.length ≤ 1000 ∧ -200 ≤ (nf 200 X).e ∧ (nf 200 X).e ≤ 1000 := by
  obtain ⟨X, x1, x2⟩ := raw2 n L e (by omega) (by omega) (by omega) N (by omega)
  have hfx : Fit 200 X := fitN (M := N) (by decide) (by omega) x2
  have hd : made n (dgs L) e = nf 200 X := x1.made hfx
  have hb := made_e_le n (dgs L) e (by omega) (by omega) (by rw [dgs_length]; omega)
  have hlen := made_length n (dgs L) e
  rw [hd] at hb hlen
  rw [dgs_length] at hlen hb
  obtain ⟨U, u0, u1, u2, u3, u4⟩ := roundP_200 p hp N hN X x2 (fun hz => by
    have hpos := List.length_pos_iff.2 (nf_nrm hfx hz).ne
    omega)
  have hR := rz_lt (m := p.mode) (U := (U : Int)) (X := X) (N := N) (by omega) x2 (by rw [Int.natAbs_natCast]; exact Nat.le_of_lt u1)
  have fR : Fit 200 (rz p.mode U X) := fitN (M := N + 1) (by decide) (by omega) hR
  have eR := nf_e_le (k := 200) (M := N + 1) (by decide) (by omega) hR
  exact ⟨X, U, hd, x2, hfx, u0, u1, u2, u3, u4, fR, Nat.le_trans (nf_length hR) (by omega), by have := eR.1; omega, by omega, by omega, by omega, by omega⟩
theorem showRounds_walk (n : Bool) (a : Option Addr) (len cap : Nat) (e : Int) (L : List UInt8) (k0 k1 k2 k3 k4 k5 k6 : Int) (w : World) (hin : InB w a len cap L) (htab : Tab w) :
    Calls Tryz.prog 6 #[RV n a len cap e, .agg #[.int .i64 k0, .int .i64 k1, .int .i64 k2, .int .i64 k3, .int .i64 k4, .int .i64 k5, .int .i64 k6]] w fun x w' => x = .returned (.bool true) ∧ Below w.heap.size w w' := by
  by_cases hf : (len : Int) ≤ 30 ∧ -30 ≤ e ∧ e ≤ 30
  · obtain ⟨h1, h2, h3⟩ := hf
    have hLl : L.length ≤ 30 := by rw [hin.1]; omega
    obtain ⟨p, hp, hpr⟩ := prec_any k0 k1 k2 k3 k4 k5 k6
    obtain ⟨N, hN⟩ : ∃ N : Nat, N = 400 := ⟨_, rfl⟩
    obtain ⟨X, U, hd, hX, fX, u0, u1, hr, uv, hun, fR, rl, re1, re2, dl, de1, de2⟩ := shown p hp n L e hLl h2 h3 N hN
    obtain ⟨⟨m0, m6⟩, _, _, _⟩ := validP_parts hp.ok
    have pl : p.inc.l.length ≤ 100000 := by have := hp.il; omega
    have hid := nf_made fX
    have hrd : made (nf 200 X).neg (nf 200 X).l (nf 200 X).e = nf 200 X := hid
    have hg : roundP p (made (nf 200 X).neg (nf 200 X).l (nf 200 X).e) = nf 200 (rz p.mode U X) := by rw [hid]; exact hr
    have hvl := vis_len p hp (nf 200 (rz p.mode U X)) rl (by omega) re2
    have hval := value_vis p (nf 200 (rz p.mode U X)) (nf_or fR)
    have hap : ∀ w : World, Tab w → Calls Tryz.prog 24 #[PV p, V (nf 200 X)] w fun z w' => z = .returned (.tuple #[VV (visP p (nf 200 (rz p.mode U X))), .int .i64 0]) ∧ Below w.heap.size w w' :=
      fun w ht => apply_as p (nf 200 X) w pl (by omega) hp.ok ht _ hg (by omega) (nf_made fR) _ rfl
    have hv2 : ∀ w : World, Tab w → Calls Tryz.prog 26 #[VV (visP p (nf 200 (rz p.mode U X)))] w fun z w' => z = .returned (V (nf 200 (rz p.mode U X))) ∧ Below w.heap.size w w' :=
      fun w ht => value_as _ _ w (by omega) hvl.2 hval
    have hrp : ∀ w : World, Tab w → Calls Tryz.prog 27 #[PV p, V (nf 200 X)] w fun z w' => z = .returned (V (nf 200 (rz p.mode U X))) ∧ Below w.heap.size w w' :=
      fun w ht => roundP_as p (nf 200 X) w pl (by omega) hp.ok ht _ hg
    by_cases hz : X = 0
    · subst hz
      rw [rz_zero, nf_zero] at hap hv2 hrp
      rw [nf_zero] at hd
      exact rounds_z n a len cap L e k0 k1 k2 k3 k4 k5 k6 w hin htab (by omega) h2 h3 p pl hpr hp.ok zero (by decide) hd _ hap hv2 hrp (by decide)
    · refine rounds_n n a len cap L e k0 k1 k2 k3 k4 k5 k6 w hin htab (by omega) h2 h3 p pl hpr hp.ok (nf 200 X) (by omega) hd _ _ hap hv2 hrp ?_ (nf 200 (U : Int)) (fun w ht => hun hz w) (fun w ht => ?_)
      · rw [hid]; exact ne_empty (nf_nrm fX hz).ne
      · exact rounded_nf 200 N (by decide) (by omega) X U p.mode (nf 200 X) w (by omega) hid hX (by omega) (by rw [Int.natAbs_natCast]; exact Nat.le_of_lt u1) uv m0 m6
  · exact rounds_no n a len cap e k0 k1 k2 k3 k4 k5 k6 w hin.2.1 hin.2.2.1 htab hf
end Go.Proofs.YtfbfjkacaadbpaaGreatDoor
