/- ShwV, ShwP, LawT1v, ShnL, ParR, LawT2, LawT2w, in one text. -/
import Derived.Test.YtfbfjkacaadbpaaGreatDoorMShw
import Derived.Test.YtfbfjkacaadbpaaGreatDoorRndP
import Derived.Deep.Cut
namespace Go.Proofs.YtfbfjkacaadbpaaGreatDoor
open Go.RowKit Florin
set_option linter.unusedVariables false
set_option linter.unusedSimpArgs false
attribute [local go_sem ↓] Go.wp_at_zero Go.wp_at_succ

set_option maxRecDepth 100000 in
set_option maxHeartbeats 3200000 in
theorem value_as (v : Vs) (g : Tri) (w : World) (il : v.i.length ≤ 900000) (fl : v.f.length ≤ 2000) (hg : made v.neg (v.i ++ rt v.f) (-((rt v.f).length : Int)) = g) :
    Calls Tryz.prog 26 #[VV v] w fun z w' => z = .returned (V g) ∧ Below w.heap.size w w' := by
  have tm : (⟨v.f.toArray⟩ : ByteArray).size ≤ maxLen := by rw [arr_size]; unfold maxLen; omega
  obtain ⟨u, hu⟩ := bytes_of (rt v.f)
  have HU : Hid (u.data.toList = rt (⟨v.f.toArray⟩ : ByteArray).data.toList) := Lib.hid (by rw [arr_list]; exact hu)
  have ul : u.size ≤ 2000 := by rw [← size_list, hu]; exact Nat.le_trans (rt_length_le _) fl
  have us : (u.size : Int) = ((rt v.f).length : Int) := by rw [← hu, size_list]
  have SC : Hid ((⟨v.i.toArray⟩ : ByteArray) ++ u = ⟨(v.i ++ rt v.f).toArray⟩) := Lib.hid (by rw [← arr_append, ← hu, back_data])
  have HG : Hid (made v.neg (v.i ++ rt v.f) (-(u.size : Int)) = g) := Lib.hid (by rw [us]; exact hg)
  have hcat : ¬ 9223372036854775807 < v.i.length + u.size := by omega
  have lsum : (v.i ++ rt v.f).length ≤ 1000000 := by rw [List.length_append]; have := rt_length_le v.f; omega
  clear hu us hg
  go_enter Tryz.func26, Tryz.ntmps26
  go_wp2_with fail
  with_reducible refine (trimRight_some ⟨v.f.toArray⟩ _ tm u HU.out).mono ?_
  rintro x wz ⟨rfl, rfl⟩
  go_wp2_with fail
  rw [SC.out]
  with_reducible refine (made_as v.neg ⟨(v.i ++ rt v.f).toArray⟩ (-(u.size : Int)) _ (by rw [arr_size]; exact lsum) g (by rw [arr_list]; exact HG.out)).mono ?_
  rintro x w1 ⟨rfl, hb⟩
  have H1 : Hid (HeldL w [(w.heap.size + 1, #[.bool false, .string ⟨#[]⟩, .int .i64 0]), (w.heap.size, #[.bool v.neg, S v.i, S v.f])] w1) := Lib.hid (HeldL.keep (HeldL.alloc (HeldL.alloc (HeldL.refl w) (w.heap.size) #[.bool v.neg, S v.i, S v.f] 49 (by simp)) (w.heap.size + 1) #[.bool false, .string ⟨#[]⟩, .int .i64 0] 31 (by simp)) hb)
  clear hb
  have r0 : w1.cell? ⟨w.heap.size + 1, 0, none⟩ = some (.bool false) := (H1.out.f (List.Mem.head _)).cell 0
  have rz0 : w1.frozen? ⟨w.heap.size + 1, 0, none⟩ = false := (H1.out.f (List.Mem.head _)).frozen 0
  have r1 : w1.cell? ⟨w.heap.size + 1, 1, none⟩ = some (.string ⟨#[]⟩) := (H1.out.f (List.Mem.head _)).cell 1
  have rz1 : w1.frozen? ⟨w.heap.size + 1, 1, none⟩ = false := (H1.out.f (List.Mem.head _)).frozen 1
  have r2 : w1.cell? ⟨w.heap.size + 1, 2, none⟩ = some (.int .i64 0) := (H1.out.f (List.Mem.head _)).cell 2
  have rz2 : w1.frozen? ⟨w.heap.size + 1, 2, none⟩ = false := (H1.out.f (List.Mem.head _)).frozen 2
  have rl : w.heap.size + 1 < w1.heap.size := (H1.out.f (List.Mem.head _)).lt
  go_wp2
  exact bodyPost_ret (v := V g) (by simp [results, Tryz.results26, go_sem, r0, r1, r2]) rfl ⟨rfl, (HeldL.store3 [] [(w.heap.size, #[.bool v.neg, S v.i, S v.f])] H1.out (.bool g.neg) (S g.l) (.int .i64 g.e)).bel⟩

end Go.Proofs.YtfbfjkacaadbpaaGreatDoor

namespace Go.Proofs.YtfbfjkacaadbpaaGreatDoor
open Go.RowKit Florin
set_option linter.unusedVariables false
set_option linter.unusedSimpArgs false
attribute [local go_sem ↓] Go.wp_at_zero Go.wp_at_succ

set_option maxRecDepth 100000 in
set_option maxHeartbeats 6400000 in
theorem prec_0 (k0 k1 k2 k3 k4 k5 k6 : Int) (w : World) (hk : IntKind.i64.wrap ((IntKind.u64.wrap k0).tmod 3) = 0) (j1 j2 j4 : Nat) (hj1 : bits .and .i64 k1 7 = (j1 : Int)) (hj2 : bits .and .i64 k2 7 = (j2 : Int)) (hj4 : bits .and .i64 k4 7 = (j4 : Int)) (l1 : j1 ≤ 7) (l2 : j2 ≤ 7) (l4 : j4 ≤ 7) (M : Int) (hM : ∀ w : World, Calls Tryz.prog 11 #[.int .i64 k3] w fun x w' => x = .returned (.int .i64 M) ∧ w = w') (htab : Tab w) :
    Calls Tryz.prog 22 #[.agg #[.int .i64 k0, .int .i64 k1, .int .i64 k2, .int .i64 k3, .int .i64 k4, .int .i64 k5, .int .i64 k6]] w fun z w' => z = .returned (PV ⟨0, j1, j1 + j2, zero, M, j4⟩) ∧ Below w.heap.size w w' := by
  have HM := Lib.hid hM
  have HT := Lib.hid htab
  clear hM htab
  go_enter Tryz.func22, Tryz.ntmps22
  go_wp2_with fail
  have ALL1 : Hid (∀ w' : World, HeldL w [(w.heap.size + 1, #[.int .i64 0, .int .i64 0, .int .i64 0, .bool false, .string ⟨#[]⟩, .int .i64 0, .int .i64 0, .int .i64 0]), (w.heap.size, #[.int .i64 k0, .int .i64 k1, .int .i64 k2, .int .i64 k3, .int .i64 k4, .int .i64 k5, .int .i64 k6])] w' → w'.cell? ⟨w.heap.size, 0, none⟩ = some (.int .i64 k0) ∧ w'.cell? ⟨w.heap.size, 1, none⟩ = some (.int .i64 k1) ∧ w'.cell? ⟨w.heap.size, 2, none⟩ = some (.int .i64 k2) ∧ w'.cell? ⟨w.heap.size, 3, none⟩ = some (.int .i64 k3) ∧ w'.cell? ⟨w.heap.size, 4, none⟩ = some (.int .i64 k4) ∧ w'.cell? ⟨w.heap.size, 5, none⟩ = some (.int .i64 k5) ∧ w'.cell? ⟨w.heap.size, 6, none⟩ = some (.int .i64 k6) ∧ HeldL w [(w.heap.size + 1, #[.int .i64 0, .int .i64 0, .int .i64 0, .bool false, .string ⟨#[]⟩, .int .i64 0, .int .i64 0, .int .i64 0]), (w.heap.size, #[.int .i64 k0, .int .i64 k1, .int .i64 k2, .int .i64 k3, .int .i64 k4, .int .i64 k5, .int .i64 k6])] w') := Lib.hid (fun w' h => ⟨(h.f (List.Mem.tail _ (List.Mem.head _))).cell 0, (h.f (List.Mem.tail _ (List.Mem.head _))).cell 1, (h.f (List.Mem.tail _ (List.Mem.head _))).cell 2, (h.f (List.Mem.tail _ (List.Mem.head _))).cell 3, (h.f (List.Mem.tail _ (List.Mem.head _))).cell 4, (h.f (List.Mem.tail _ (List.Mem.head _))).cell 5, (h.f (List.Mem.tail _ (List.Mem.head _))).cell 6, h⟩)
  have HS1 : Hid (HeldL w [(w.heap.size + 1, #[.int .i64 0, .int .i64 0, .int .i64 0, .bool false, .string ⟨#[]⟩, .int .i64 0, .int .i64 0, .int .i64 0]), (w.heap.size, #[.int .i64 k0, .int .i64 k1, .int .i64 k2, .int .i64 k3, .int .i64 k4, .int .i64 k5, .int .i64 k6])] _) := Lib.hid (HeldL.alloc (HeldL.alloc (HeldL.refl w) (w.heap.size) #[.int .i64 k0, .int .i64 k1, .int .i64 k2, .int .i64 k3, .int .i64 k4, .int .i64 k5, .int .i64 k6] 43 (by simp)) (w.heap.size + 1) #[.int .i64 0, .int .i64 0, .int .i64 0, .bool false, .string ⟨#[]⟩, .int .i64 0, .int .i64 0, .int .i64 0] 46 (by simp))
  refine wp_region_held_drew (S := fun w' => w'.cell? ⟨w.heap.size, 0, none⟩ = some (.int .i64 k0) ∧ w'.cell? ⟨w.heap.size, 1, none⟩ = some (.int .i64 k1) ∧ w'.cell? ⟨w.heap.size, 2, none⟩ = some (.int .i64 k2) ∧ w'.cell? ⟨w.heap.size, 3, none⟩ = some (.int .i64 k3) ∧ w'.cell? ⟨w.heap.size, 4, none⟩ = some (.int .i64 k4) ∧ w'.cell? ⟨w.heap.size, 5, none⟩ = some (.int .i64 k5) ∧ w'.cell? ⟨w.heap.size, 6, none⟩ = some (.int .i64 k6) ∧ HeldL w [(w.heap.size + 1, #[.int .i64 0, .int .i64 0, .int .i64 0, .bool false, .string ⟨#[]⟩, .int .i64 0, .int .i64 0, .int .i64 0]), (w.heap.size, #[.int .i64 k0, .int .i64 k1, .int .i64 k2, .int .i64 k3, .int .i64 k4, .int .i64 k5, .int .i64 k6])] w') (by kernel_rfl) (ALL1.out _ (HeldL.drew HS1.out)) (fun hHeld => ?_)
  refine wpAnyH_take (i := 0) (oi := { dst := some 4, op := Go.Op.fieldAddr 43 (Go.Operand.tmp 1) 0, type := 0, pos := "law.go:30", after := #[], guard := none }) (v := ?_) rfl (by kernel_rfl) (by kernel_rfl) (by kernel_rfl) (fun _ _ _ h => h) (Or.inl ⟨by rfl, ?_⟩) hHeld ?_
  case refine_2 => (intro w hSw; (try dsimp only at hSw); go_simp <;> with_reducible rfl)
  try simp only [Act.put, List.setIfInBounds_toArray, List.set_cons_zero, List.set_cons_succ]
  refine wpAnyH_take (i := 1) (oi := { dst := some 5, op := Go.Op.load 3 (Go.Operand.tmp 4), type := 3, pos := "law.go:30", after := #[{ on := 0, ground := Go.Ground.data }], guard := none }) (v := ?_) rfl (by kernel_rfl) (by kernel_rfl) (by kernel_rfl) (fun _ _ _ h => h) (Or.inl ⟨by rfl, ?_⟩) hHeld ?_
  case refine_2 => (intro w hSw; (try dsimp only at hSw); go_simp <;> with_reducible rfl)
  try simp only [Act.put, List.setIfInBounds_toArray, List.set_cons_zero, List.set_cons_succ]
  refine wpAnyH_take (i := 2) (oi := { dst := some 6, op := Go.Op.convert 3 62 (Go.Operand.tmp 5), type := 62, pos := "law.go:30", after := #[{ on := 1, ground := Go.Ground.data }], guard := none }) (v := ?_) rfl (by kernel_rfl) (by kernel_rfl) (by kernel_rfl) (fun _ _ _ h => h) (Or.inl ⟨by rfl, ?_⟩) hHeld ?_
  case refine_2 => (intro w hSw; (try dsimp only at hSw); go_simp <;> with_reducible rfl)
  try simp only [Act.put, List.setIfInBounds_toArray, List.set_cons_zero, List.set_cons_succ]
  refine wpAnyH_take (i := 3) (oi := { dst := some 7, op := Go.Op.binOp Go.BinOp.rem 62 (Go.Operand.tmp 6) (Go.Operand.const (Go.Value.int Go.IntKind.u64 3)) 62, type := 62, pos := "law.go:30", after := #[{ on := 2, ground := Go.Ground.data }], guard := none }) (v := ?_) rfl (by kernel_rfl) (by kernel_rfl) (by kernel_rfl) (fun _ _ _ h => h) (Or.inl ⟨by rfl, ?_⟩) hHeld ?_
  case refine_2 => (intro w hSw; (try dsimp only at hSw); go_simp <;> with_reducible rfl)
  try simp only [Act.put, List.setIfInBounds_toArray, List.set_cons_zero, List.set_cons_succ]
  refine wpAnyH_take (i := 4) (oi := { dst := some 8, op := Go.Op.convert 62 3 (Go.Operand.tmp 7), type := 3, pos := "law.go:30", after := #[{ on := 3, ground := Go.Ground.data }], guard := none }) (v := ?_) rfl (by kernel_rfl) (by kernel_rfl) (by kernel_rfl) (fun _ _ _ h => h) (Or.inl ⟨by rfl, ?_⟩) hHeld ?_
  case refine_2 => (intro w hSw; (try dsimp only at hSw); go_simp <;> with_reducible rfl)
  try simp only [Act.put, List.setIfInBounds_toArray, List.set_cons_zero, List.set_cons_succ]
  refine wpAnyH_take (i := 5) (oi := { dst := some 9, op := Go.Op.fieldAddr 43 (Go.Operand.tmp 1) 1, type := 0, pos := "law.go:30", after := #[], guard := none }) (v := ?_) rfl (by kernel_rfl) (by kernel_rfl) (by kernel_rfl) (fun _ _ _ h => h) (Or.inl ⟨by rfl, ?_⟩) hHeld ?_
  case refine_2 => (intro w hSw; (try dsimp only at hSw); go_simp <;> with_reducible rfl)
  try simp only [Act.put, List.setIfInBounds_toArray, List.set_cons_zero, List.set_cons_succ]
  refine wpAnyH_take (i := 6) (oi := { dst := some 10, op := Go.Op.load 3 (Go.Operand.tmp 9), type := 3, pos := "law.go:30", after := #[{ on := 5, ground := Go.Ground.data }], guard := none }) (v := ?_) rfl (by kernel_rfl) (by kernel_rfl) (by kernel_rfl) (fun _ _ _ h => h) (Or.inl ⟨by rfl, ?_⟩) hHeld ?_
  case refine_2 => (intro w hSw; (try dsimp only at hSw); go_simp <;> with_reducible rfl)
  try simp only [Act.put, List.setIfInBounds_toArray, List.set_cons_zero, List.set_cons_succ]
  refine wpAnyH_take (i := 7) (oi := { dst := some 11, op := Go.Op.binOp Go.BinOp.and 3 (Go.Operand.tmp 10) (Go.Operand.const (Go.Value.int Go.IntKind.i64 7)) 3, type := 3, pos := "law.go:30", after := #[{ on := 6, ground := Go.Ground.data }], guard := none }) (v := ?_) rfl (by kernel_rfl) (by kernel_rfl) (by kernel_rfl) (fun _ _ _ h => h) (Or.inl ⟨by rfl, ?_⟩) hHeld ?_
  case refine_2 => (intro w hSw; (try dsimp only at hSw); go_simp <;> with_reducible rfl)
  try simp only [Act.put, List.setIfInBounds_toArray, List.set_cons_zero, List.set_cons_succ]
  refine wpAnyH_take (i := 8) (oi := { dst := some 12, op := Go.Op.fieldAddr 43 (Go.Operand.tmp 1) 3, type := 0, pos := "law.go:30", after := #[], guard := none }) (v := ?_) rfl (by kernel_rfl) (by kernel_rfl) (by kernel_rfl) (fun _ _ _ h => h) (Or.inl ⟨by rfl, ?_⟩) hHeld ?_
  case refine_2 => (intro w hSw; (try dsimp only at hSw); go_simp <;> with_reducible rfl)
  try simp only [Act.put, List.setIfInBounds_toArray, List.set_cons_zero, List.set_cons_succ]
  refine wpAnyH_take (i := 9) (oi := { dst := some 13, op := Go.Op.load 3 (Go.Operand.tmp 12), type := 3, pos := "law.go:30", after := #[{ on := 8, ground := Go.Ground.data }], guard := none }) (v := ?_) rfl (by kernel_rfl) (by kernel_rfl) (by kernel_rfl) (fun _ _ _ h => h) (Or.inl ⟨by rfl, ?_⟩) hHeld ?_
  case refine_2 => (intro w hSw; (try dsimp only at hSw); go_simp <;> with_reducible rfl)
  try simp only [Act.put, List.setIfInBounds_toArray, List.set_cons_zero, List.set_cons_succ]
  refine wpAnyH_take (i := 11) (oi := { dst := some 15, op := Go.Op.fieldAddr 43 (Go.Operand.tmp 1) 4, type := 0, pos := "law.go:30", after := #[], guard := none }) (v := ?_) rfl (by kernel_rfl) (by kernel_rfl) (by kernel_rfl) (fun _ _ _ h => h) (Or.inl ⟨by rfl, ?_⟩) hHeld ?_
  case refine_2 => (intro w hSw; (try dsimp only at hSw); go_simp <;> with_reducible rfl)
  try simp only [Act.put, List.setIfInBounds_toArray, List.set_cons_zero, List.set_cons_succ]
  refine wpAnyH_take (i := 12) (oi := { dst := some 16, op := Go.Op.load 3 (Go.Operand.tmp 15), type := 3, pos := "law.go:30", after := #[{ on := 11, ground := Go.Ground.data }], guard := none }) (v := ?_) rfl (by kernel_rfl) (by kernel_rfl) (by kernel_rfl) (fun _ _ _ h => h) (Or.inl ⟨by rfl, ?_⟩) hHeld ?_
  case refine_2 => (intro w hSw; (try dsimp only at hSw); go_simp <;> with_reducible rfl)
  try simp only [Act.put, List.setIfInBounds_toArray, List.set_cons_zero, List.set_cons_succ]
  refine wpAnyH_take (i := 13) (oi := { dst := some 17, op := Go.Op.binOp Go.BinOp.and 3 (Go.Operand.tmp 16) (Go.Operand.const (Go.Value.int Go.IntKind.i64 7)) 3, type := 3, pos := "law.go:30", after := #[{ on := 12, ground := Go.Ground.data }], guard := none }) (v := ?_) rfl (by kernel_rfl) (by kernel_rfl) (by kernel_rfl) (fun _ _ _ h => h) (Or.inl ⟨by rfl, ?_⟩) hHeld ?_
  case refine_2 => (intro w hSw; (try dsimp only at hSw); go_simp <;> with_reducible rfl)
  try simp only [Act.put, List.setIfInBounds_toArray, List.set_cons_zero, List.set_cons_succ]
  have hH0 := hHeld
  refine wpAnyH_ready (rs := [10, 15]) (by kernel_rfl) (by simp) ?_
  refine AllReadyH.cons (o := { dst := some 14, op := Go.Op.call { callee := Go.Callee.value (Go.Operand.func 11), args := #[Go.Operand.tmp 13], argTypes := #[3] }, type := 27, pos := "law.go:30", after := #[{ on := 9, ground := Go.Ground.data }], guard := none }) rfl (fun KK hK => ?_) (AllReadyH.cons (o := { dst := some 3, op := Go.Op.alloc 46, type := 0, pos := "law.go:30", after := #[], guard := none }) rfl (fun KK hK => ?_) AllReadyH.nil)
  ·
    go_simp
    with_reducible refine (HM.out _).mono ?_
    rintro x wz ⟨rfl, rfl⟩
    go_wp2_with fail
    refine hK.out _ _ hHeld (fun _ => ?_)
    clear hK
    try simp only [Act.put, List.setIfInBounds_toArray, List.set_cons_zero, List.set_cons_succ]
    refine wpAnyH_take (i := 14) (oi := { dst := some 18, op := Go.Op.build 46 #[(0, Go.Operand.tmp 8), (1, Go.Operand.tmp 11), (4, Go.Operand.tmp 14), (5, Go.Operand.tmp 17)], type := 46, pos := "law.go:30", after := #[{ on := 4, ground := Go.Ground.data }, { on := 7, ground := Go.Ground.data }, { on := 10, ground := Go.Ground.data }, { on := 13, ground := Go.Ground.data }], guard := none }) (v := ?_) rfl (by kernel_rfl) (by kernel_rfl) (by kernel_rfl) (fun _ _ _ h => h) (Or.inl ⟨by rfl, ?_⟩) hHeld ?_
    case refine_2 => (intro w hSw; (try dsimp only at hSw); go_simp <;> with_reducible rfl)
    try simp only [Act.put, List.setIfInBounds_toArray, List.set_cons_zero, List.set_cons_succ]
    refine wpAnyH_ready (rs := [15]) (by kernel_rfl) (by simp) ?_
    refine AllReadyH.cons (o := { dst := some 3, op := Go.Op.alloc 46, type := 0, pos := "law.go:30", after := #[], guard := none }) rfl (fun KK hK => ?_) AllReadyH.nil
    go_simp
    refine hK.out _ _ (ALL1.out _ (HeldL.skip (hH0.2.2.2.2.2.2.2) _)) (fun hHeld2 => ?_)
    clear hK hHeld
    have hHeld := hHeld2
    clear hHeld2
    try simp only [Act.put, List.setIfInBounds_toArray, List.set_cons_zero, List.set_cons_succ]
    refine wpAnyH_ready (rs := [16]) (by kernel_rfl) (by simp) ?_
    refine AllReadyH.cons (o := { dst := none, op := Go.Op.store 46 (Go.Operand.tmp 3) (Go.Operand.tmp 18), type := 0, pos := "law.go:30", after := #[{ on := 15, ground := Go.Ground.data }, { on := 14, ground := Go.Ground.data }, { on := 10, ground := Go.Ground.chain }, { on := 0, ground := Go.Ground.phase }, { on := 1, ground := Go.Ground.phase }, { on := 2, ground := Go.Ground.phase }, { on := 3, ground := Go.Ground.phase }, { on := 4, ground := Go.Ground.phase }, { on := 5, ground := Go.Ground.phase }, { on := 6, ground := Go.Ground.phase }, { on := 7, ground := Go.Ground.phase }, { on := 8, ground := Go.Ground.phase }, { on := 9, ground := Go.Ground.phase }, { on := 10, ground := Go.Ground.phase }, { on := 11, ground := Go.Ground.phase }, { on := 12, ground := Go.Ground.phase }, { on := 13, ground := Go.Ground.phase }, { on := 14, ground := Go.Ground.phase }, { on := 15, ground := Go.Ground.phase }], guard := none }) rfl (fun KK hK => ?_) AllReadyH.nil
    go_simp
    refine hK.out _ _ (ALL1.out _ (HeldL.skip (hH0.2.2.2.2.2.2.2) _)) (fun hHeld2 => ?_)
    clear hK hHeld2
    try simp only [Act.put, List.setIfInBounds_toArray, List.set_cons_zero, List.set_cons_succ]
    refine wpAnyH_done (by kernel_rfl) ?_ _
    clear hHeld hH0 ALL1 HS1
    go_wp2
    exact bodyPost_ret (v := .agg #[.int .i64 0, .int .i64 j1, .int .i64 ((j1 : Int) + j2), .bool false, .string ⟨#[]⟩, .int .i64 0, .int .i64 M, .int .i64 j4]) (by simp [results, Tryz.results22, go_sem]) rfl ⟨rfl, (below_alloc3 w _ _ _).drew⟩
  ·
    go_simp
    refine hK.out _ _ (ALL1.out _ (HeldL.skip (hH0.2.2.2.2.2.2.2) _)) (fun hHeld2 => ?_)
    clear hK hHeld
    have hHeld := hHeld2
    clear hHeld2
    try simp only [Act.put, List.setIfInBounds_toArray, List.set_cons_zero, List.set_cons_succ]
    refine wpAnyH_ready (rs := [10]) (by kernel_rfl) (by simp) ?_
    refine AllReadyH.cons (o := { dst := some 14, op := Go.Op.call { callee := Go.Callee.value (Go.Operand.func 11), args := #[Go.Operand.tmp 13], argTypes := #[3] }, type := 27, pos := "law.go:30", after := #[{ on := 9, ground := Go.Ground.data }], guard := none }) rfl (fun KK hK => ?_) AllReadyH.nil
    go_simp
    with_reducible refine (HM.out _).mono ?_
    rintro x wz ⟨rfl, rfl⟩
    go_wp2_with fail
    refine hK.out _ _ hHeld (fun _ => ?_)
    clear hK
    try simp only [Act.put, List.setIfInBounds_toArray, List.set_cons_zero, List.set_cons_succ]
    refine wpAnyH_take (i := 14) (oi := { dst := some 18, op := Go.Op.build 46 #[(0, Go.Operand.tmp 8), (1, Go.Operand.tmp 11), (4, Go.Operand.tmp 14), (5, Go.Operand.tmp 17)], type := 46, pos := "law.go:30", after := #[{ on := 4, ground := Go.Ground.data }, { on := 7, ground := Go.Ground.data }, { on := 10, ground := Go.Ground.data }, { on := 13, ground := Go.Ground.data }], guard := none }) (v := ?_) rfl (by kernel_rfl) (by kernel_rfl) (by kernel_rfl) (fun _ _ _ h => h) (Or.inl ⟨by rfl, ?_⟩) hHeld ?_
    case refine_2 => (intro w hSw; (try dsimp only at hSw); go_simp <;> with_reducible rfl)
    try simp only [Act.put, List.setIfInBounds_toArray, List.set_cons_zero, List.set_cons_succ]
    refine wpAnyH_ready (rs := [16]) (by kernel_rfl) (by simp) ?_
    refine AllReadyH.cons (o := { dst := none, op := Go.Op.store 46 (Go.Operand.tmp 3) (Go.Operand.tmp 18), type := 0, pos := "law.go:30", after := #[{ on := 15, ground := Go.Ground.data }, { on := 14, ground := Go.Ground.data }, { on := 10, ground := Go.Ground.chain }, { on := 0, ground := Go.Ground.phase }, { on := 1, ground := Go.Ground.phase }, { on := 2, ground := Go.Ground.phase }, { on := 3, ground := Go.Ground.phase }, { on := 4, ground := Go.Ground.phase }, { on := 5, ground := Go.Ground.phase }, { on := 6, ground := Go.Ground.phase }, { on := 7, ground := Go.Ground.phase }, { on := 8, ground := Go.Ground.phase }, { on := 9, ground := Go.Ground.phase }, { on := 10, ground := Go.Ground.phase }, { on := 11, ground := Go.Ground.phase }, { on := 12, ground := Go.Ground.phase }, { on := 13, ground := Go.Ground.phase }, { on := 14, ground := Go.Ground.phase }, { on := 15, ground := Go.Ground.phase }], guard := none }) rfl (fun KK hK => ?_) AllReadyH.nil
    go_simp
    refine hK.out _ _ (ALL1.out _ (HeldL.skip (hH0.2.2.2.2.2.2.2) _)) (fun hHeld2 => ?_)
    clear hK hHeld2
    try simp only [Act.put, List.setIfInBounds_toArray, List.set_cons_zero, List.set_cons_succ]
    refine wpAnyH_done (by kernel_rfl) ?_ _
    clear hHeld hH0 ALL1 HS1
    go_wp2
    exact bodyPost_ret (v := .agg #[.int .i64 0, .int .i64 j1, .int .i64 ((j1 : Int) + j2), .bool false, .string ⟨#[]⟩, .int .i64 0, .int .i64 M, .int .i64 j4]) (by simp [results, Tryz.results22, go_sem]) rfl ⟨rfl, (below_alloc3 w _ _ _).drew⟩

set_option maxRecDepth 100000 in
set_option maxHeartbeats 6400000 in
theorem prec_1 (k0 k1 k2 k3 k4 k5 k6 : Int) (w : World) (hk : IntKind.i64.wrap ((IntKind.u64.wrap k0).tmod 3) = 1) (j1 j2 j4 : Nat) (hj1 : bits .and .i64 k1 7 = (j1 : Int)) (hj2 : bits .and .i64 k2 7 = (j2 : Int)) (hj4 : bits .and .i64 k4 7 = (j4 : Int)) (l1 : j1 ≤ 7) (l2 : j2 ≤ 7) (l4 : j4 ≤ 7) (M : Int) (hM : ∀ w : World, Calls Tryz.prog 11 #[.int .i64 k3] w fun x w' => x = .returned (.int .i64 M) ∧ w = w') (htab : Tab w) :
    Calls Tryz.prog 22 #[.agg #[.int .i64 k0, .int .i64 k1, .int .i64 k2, .int .i64 k3, .int .i64 k4, .int .i64 k5, .int .i64 k6]] w fun z w' => z = .returned (PV ⟨1, j1 + 1, j1 + 1 + j2, zero, M, j4⟩) ∧ Below w.heap.size w w' := by
  have HM := Lib.hid hM
  have HT := Lib.hid htab
  clear hM htab
  go_enter Tryz.func22, Tryz.ntmps22
  go_wp2_with fail
  have ALL1 : Hid (∀ w' : World, HeldL w [(w.heap.size + 1, #[.int .i64 0, .int .i64 0, .int .i64 0, .bool false, .string ⟨#[]⟩, .int .i64 0, .int .i64 0, .int .i64 0]), (w.heap.size, #[.int .i64 k0, .int .i64 k1, .int .i64 k2, .int .i64 k3, .int .i64 k4, .int .i64 k5, .int .i64 k6])] w' → w'.cell? ⟨w.heap.size, 0, none⟩ = some (.int .i64 k0) ∧ w'.cell? ⟨w.heap.size, 1, none⟩ = some (.int .i64 k1) ∧ w'.cell? ⟨w.heap.size, 2, none⟩ = some (.int .i64 k2) ∧ w'.cell? ⟨w.heap.size, 3, none⟩ = some (.int .i64 k3) ∧ w'.cell? ⟨w.heap.size, 4, none⟩ = some (.int .i64 k4) ∧ w'.cell? ⟨w.heap.size, 5, none⟩ = some (.int .i64 k5) ∧ w'.cell? ⟨w.heap.size, 6, none⟩ = some (.int .i64 k6) ∧ HeldL w [(w.heap.size + 1, #[.int .i64 0, .int .i64 0, .int .i64 0, .bool false, .string ⟨#[]⟩, .int .i64 0, .int .i64 0, .int .i64 0]), (w.heap.size, #[.int .i64 k0, .int .i64 k1, .int .i64 k2, .int .i64 k3, .int .i64 k4, .int .i64 k5, .int .i64 k6])] w') := Lib.hid (fun w' h => ⟨(h.f (List.Mem.tail _ (List.Mem.head _))).cell 0, (h.f (List.Mem.tail _ (List.Mem.head _))).cell 1, (h.f (List.Mem.tail _ (List.Mem.head _))).cell 2, (h.f (List.Mem.tail _ (List.Mem.head _))).cell 3, (h.f (List.Mem.tail _ (List.Mem.head _))).cell 4, (h.f (List.Mem.tail _ (List.Mem.head _))).cell 5, (h.f (List.Mem.tail _ (List.Mem.head _))).cell 6, h⟩)
  have HS1 : Hid (HeldL w [(w.heap.size + 1, #[.int .i64 0, .int .i64 0, .int .i64 0, .bool false, .string ⟨#[]⟩, .int .i64 0, .int .i64 0, .int .i64 0]), (w.heap.size, #[.int .i64 k0, .int .i64 k1, .int .i64 k2, .int .i64 k3, .int .i64 k4, .int .i64 k5, .int .i64 k6])] _) := Lib.hid (HeldL.alloc (HeldL.alloc (HeldL.refl w) (w.heap.size) #[.int .i64 k0, .int .i64 k1, .int .i64 k2, .int .i64 k3, .int .i64 k4, .int .i64 k5, .int .i64 k6] 43 (by simp)) (w.heap.size + 1) #[.int .i64 0, .int .i64 0, .int .i64 0, .bool false, .string ⟨#[]⟩, .int .i64 0, .int .i64 0, .int .i64 0] 46 (by simp))
  refine wp_region_held_drew (S := fun w' => w'.cell? ⟨w.heap.size, 0, none⟩ = some (.int .i64 k0) ∧ w'.cell? ⟨w.heap.size, 1, none⟩ = some (.int .i64 k1) ∧ w'.cell? ⟨w.heap.size, 2, none⟩ = some (.int .i64 k2) ∧ w'.cell? ⟨w.heap.size, 3, none⟩ = some (.int .i64 k3) ∧ w'.cell? ⟨w.heap.size, 4, none⟩ = some (.int .i64 k4) ∧ w'.cell? ⟨w.heap.size, 5, none⟩ = some (.int .i64 k5) ∧ w'.cell? ⟨w.heap.size, 6, none⟩ = some (.int .i64 k6) ∧ HeldL w [(w.heap.size + 1, #[.int .i64 0, .int .i64 0, .int .i64 0, .bool false, .string ⟨#[]⟩, .int .i64 0, .int .i64 0, .int .i64 0]), (w.heap.size, #[.int .i64 k0, .int .i64 k1, .int .i64 k2, .int .i64 k3, .int .i64 k4, .int .i64 k5, .int .i64 k6])] w') (by kernel_rfl) (ALL1.out _ (HeldL.drew HS1.out)) (fun hHeld => ?_)
  refine wpAnyH_take (i := 0) (oi := { dst := some 4, op := Go.Op.fieldAddr 43 (Go.Operand.tmp 1) 0, type := 0, pos := "law.go:30", after := #[], guard := none }) (v := ?_) rfl (by kernel_rfl) (by kernel_rfl) (by kernel_rfl) (fun _ _ _ h => h) (Or.inl ⟨by rfl, ?_⟩) hHeld ?_
  case refine_2 => (intro w hSw; (try dsimp only at hSw); go_simp <;> with_reducible rfl)
  try simp only [Act.put, List.setIfInBounds_toArray, List.set_cons_zero, List.set_cons_succ]
  refine wpAnyH_take (i := 1) (oi := { dst := some 5, op := Go.Op.load 3 (Go.Operand.tmp 4), type := 3, pos := "law.go:30", after := #[{ on := 0, ground := Go.Ground.data }], guard := none }) (v := ?_) rfl (by kernel_rfl) (by kernel_rfl) (by kernel_rfl) (fun _ _ _ h => h) (Or.inl ⟨by rfl, ?_⟩) hHeld ?_
  case refine_2 => (intro w hSw; (try dsimp only at hSw); go_simp <;> with_reducible rfl)
  try simp only [Act.put, List.setIfInBounds_toArray, List.set_cons_zero, List.set_cons_succ]
  refine wpAnyH_take (i := 2) (oi := { dst := some 6, op := Go.Op.convert 3 62 (Go.Operand.tmp 5), type := 62, pos := "law.go:30", after := #[{ on := 1, ground := Go.Ground.data }], guard := none }) (v := ?_) rfl (by kernel_rfl) (by kernel_rfl) (by kernel_rfl) (fun _ _ _ h => h) (Or.inl ⟨by rfl, ?_⟩) hHeld ?_
  case refine_2 => (intro w hSw; (try dsimp only at hSw); go_simp <;> with_reducible rfl)
  try simp only [Act.put, List.setIfInBounds_toArray, List.set_cons_zero, List.set_cons_succ]
  refine wpAnyH_take (i := 3) (oi := { dst := some 7, op := Go.Op.binOp Go.BinOp.rem 62 (Go.Operand.tmp 6) (Go.Operand.const (Go.Value.int Go.IntKind.u64 3)) 62, type := 62, pos := "law.go:30", after := #[{ on := 2, ground := Go.Ground.data }], guard := none }) (v := ?_) rfl (by kernel_rfl) (by kernel_rfl) (by kernel_rfl) (fun _ _ _ h => h) (Or.inl ⟨by rfl, ?_⟩) hHeld ?_
  case refine_2 => (intro w hSw; (try dsimp only at hSw); go_simp <;> with_reducible rfl)
  try simp only [Act.put, List.setIfInBounds_toArray, List.set_cons_zero, List.set_cons_succ]
  refine wpAnyH_take (i := 4) (oi := { dst := some 8, op := Go.Op.convert 62 3 (Go.Operand.tmp 7), type := 3, pos := "law.go:30", after := #[{ on := 3, ground := Go.Ground.data }], guard := none }) (v := ?_) rfl (by kernel_rfl) (by kernel_rfl) (by kernel_rfl) (fun _ _ _ h => h) (Or.inl ⟨by rfl, ?_⟩) hHeld ?_
  case refine_2 => (intro w hSw; (try dsimp only at hSw); go_simp <;> with_reducible rfl)
  try simp only [Act.put, List.setIfInBounds_toArray, List.set_cons_zero, List.set_cons_succ]
  refine wpAnyH_take (i := 5) (oi := { dst := some 9, op := Go.Op.fieldAddr 43 (Go.Operand.tmp 1) 1, type := 0, pos := "law.go:30", after := #[], guard := none }) (v := ?_) rfl (by kernel_rfl) (by kernel_rfl) (by kernel_rfl) (fun _ _ _ h => h) (Or.inl ⟨by rfl, ?_⟩) hHeld ?_
  case refine_2 => (intro w hSw; (try dsimp only at hSw); go_simp <;> with_reducible rfl)
  try simp only [Act.put, List.setIfInBounds_toArray, List.set_cons_zero, List.set_cons_succ]
  refine wpAnyH_take (i := 6) (oi := { dst := some 10, op := Go.Op.load 3 (Go.Operand.tmp 9), type := 3, pos := "law.go:30", after := #[{ on := 5, ground := Go.Ground.data }], guard := none }) (v := ?_) rfl (by kernel_rfl) (by kernel_rfl) (by kernel_rfl) (fun _ _ _ h => h) (Or.inl ⟨by rfl, ?_⟩) hHeld ?_
  case refine_2 => (intro w hSw; (try dsimp only at hSw); go_simp <;> with_reducible rfl)
  try simp only [Act.put, List.setIfInBounds_toArray, List.set_cons_zero, List.set_cons_succ]
  refine wpAnyH_take (i := 7) (oi := { dst := some 11, op := Go.Op.binOp Go.BinOp.and 3 (Go.Operand.tmp 10) (Go.Operand.const (Go.Value.int Go.IntKind.i64 7)) 3, type := 3, pos := "law.go:30", after := #[{ on := 6, ground := Go.Ground.data }], guard := none }) (v := ?_) rfl (by kernel_rfl) (by kernel_rfl) (by kernel_rfl) (fun _ _ _ h => h) (Or.inl ⟨by rfl, ?_⟩) hHeld ?_
  case refine_2 => (intro w hSw; (try dsimp only at hSw); go_simp <;> with_reducible rfl)
  try simp only [Act.put, List.setIfInBounds_toArray, List.set_cons_zero, List.set_cons_succ]
  refine wpAnyH_take (i := 8) (oi := { dst := some 12, op := Go.Op.fieldAddr 43 (Go.Operand.tmp 1) 3, type := 0, pos := "law.go:30", after := #[], guard := none }) (v := ?_) rfl (by kernel_rfl) (by kernel_rfl) (by kernel_rfl) (fun _ _ _ h => h) (Or.inl ⟨by rfl, ?_⟩) hHeld ?_
  case refine_2 => (intro w hSw; (try dsimp only at hSw); go_simp <;> with_reducible rfl)
  try simp only [Act.put, List.setIfInBounds_toArray, List.set_cons_zero, List.set_cons_succ]
  refine wpAnyH_take (i := 9) (oi := { dst := some 13, op := Go.Op.load 3 (Go.Operand.tmp 12), type := 3, pos := "law.go:30", after := #[{ on := 8, ground := Go.Ground.data }], guard := none }) (v := ?_) rfl (by kernel_rfl) (by kernel_rfl) (by kernel_rfl) (fun _ _ _ h => h) (Or.inl ⟨by rfl, ?_⟩) hHeld ?_
  case refine_2 => (intro w hSw; (try dsimp only at hSw); go_simp <;> with_reducible rfl)
  try simp only [Act.put, List.setIfInBounds_toArray, List.set_cons_zero, List.set_cons_succ]
  refine wpAnyH_take (i := 11) (oi := { dst := some 15, op := Go.Op.fieldAddr 43 (Go.Operand.tmp 1) 4, type := 0, pos := "law.go:30", after := #[], guard := none }) (v := ?_) rfl (by kernel_rfl) (by kernel_rfl) (by kernel_rfl) (fun _ _ _ h => h) (Or.inl ⟨by rfl, ?_⟩) hHeld ?_
  case refine_2 => (intro w hSw; (try dsimp only at hSw); go_simp <;> with_reducible rfl)
  try simp only [Act.put, List.setIfInBounds_toArray, List.set_cons_zero, List.set_cons_succ]
  refine wpAnyH_take (i := 12) (oi := { dst := some 16, op := Go.Op.load 3 (Go.Operand.tmp 15), type := 3, pos := "law.go:30", after := #[{ on := 11, ground := Go.Ground.data }], guard := none }) (v := ?_) rfl (by kernel_rfl) (by kernel_rfl) (by kernel_rfl) (fun _ _ _ h => h) (Or.inl ⟨by rfl, ?_⟩) hHeld ?_
  case refine_2 => (intro w hSw; (try dsimp only at hSw); go_simp <;> with_reducible rfl)
  try simp only [Act.put, List.setIfInBounds_toArray, List.set_cons_zero, List.set_cons_succ]
  refine wpAnyH_take (i := 13) (oi := { dst := some 17, op := Go.Op.binOp Go.BinOp.and 3 (Go.Operand.tmp 16) (Go.Operand.const (Go.Value.int Go.IntKind.i64 7)) 3, type := 3, pos := "law.go:30", after := #[{ on := 12, ground := Go.Ground.data }], guard := none }) (v := ?_) rfl (by kernel_rfl) (by kernel_rfl) (by kernel_rfl) (fun _ _ _ h => h) (Or.inl ⟨by rfl, ?_⟩) hHeld ?_
  case refine_2 => (intro w hSw; (try dsimp only at hSw); go_simp <;> with_reducible rfl)
  try simp only [Act.put, List.setIfInBounds_toArray, List.set_cons_zero, List.set_cons_succ]
  have hH0 := hHeld
  refine wpAnyH_ready (rs := [10, 15]) (by kernel_rfl) (by simp) ?_
  refine AllReadyH.cons (o := { dst := some 14, op := Go.Op.call { callee := Go.Callee.value (Go.Operand.func 11), args := #[Go.Operand.tmp 13], argTypes := #[3] }, type := 27, pos := "law.go:30", after := #[{ on := 9, ground := Go.Ground.data }], guard := none }) rfl (fun KK hK => ?_) (AllReadyH.cons (o := { dst := some 3, op := Go.Op.alloc 46, type := 0, pos := "law.go:30", after := #[], guard := none }) rfl (fun KK hK => ?_) AllReadyH.nil)
  ·
    go_simp
    with_reducible refine (HM.out _).mono ?_
    rintro x wz ⟨rfl, rfl⟩
    go_wp2_with fail
    refine hK.out _ _ hHeld (fun _ => ?_)
    clear hK
    try simp only [Act.put, List.setIfInBounds_toArray, List.set_cons_zero, List.set_cons_succ]
    refine wpAnyH_take (i := 14) (oi := { dst := some 18, op := Go.Op.build 46 #[(0, Go.Operand.tmp 8), (1, Go.Operand.tmp 11), (4, Go.Operand.tmp 14), (5, Go.Operand.tmp 17)], type := 46, pos := "law.go:30", after := #[{ on := 4, ground := Go.Ground.data }, { on := 7, ground := Go.Ground.data }, { on := 10, ground := Go.Ground.data }, { on := 13, ground := Go.Ground.data }], guard := none }) (v := ?_) rfl (by kernel_rfl) (by kernel_rfl) (by kernel_rfl) (fun _ _ _ h => h) (Or.inl ⟨by rfl, ?_⟩) hHeld ?_
    case refine_2 => (intro w hSw; (try dsimp only at hSw); go_simp <;> with_reducible rfl)
    try simp only [Act.put, List.setIfInBounds_toArray, List.set_cons_zero, List.set_cons_succ]
    refine wpAnyH_ready (rs := [15]) (by kernel_rfl) (by simp) ?_
    refine AllReadyH.cons (o := { dst := some 3, op := Go.Op.alloc 46, type := 0, pos := "law.go:30", after := #[], guard := none }) rfl (fun KK hK => ?_) AllReadyH.nil
    go_simp
    refine hK.out _ _ (ALL1.out _ (HeldL.skip (hH0.2.2.2.2.2.2.2) _)) (fun hHeld2 => ?_)
    clear hK hHeld
    have hHeld := hHeld2
    clear hHeld2
    try simp only [Act.put, List.setIfInBounds_toArray, List.set_cons_zero, List.set_cons_succ]
    refine wpAnyH_ready (rs := [16]) (by kernel_rfl) (by simp) ?_
    refine AllReadyH.cons (o := { dst := none, op := Go.Op.store 46 (Go.Operand.tmp 3) (Go.Operand.tmp 18), type := 0, pos := "law.go:30", after := #[{ on := 15, ground := Go.Ground.data }, { on := 14, ground := Go.Ground.data }, { on := 10, ground := Go.Ground.chain }, { on := 0, ground := Go.Ground.phase }, { on := 1, ground := Go.Ground.phase }, { on := 2, ground := Go.Ground.phase }, { on := 3, ground := Go.Ground.phase }, { on := 4, ground := Go.Ground.phase }, { on := 5, ground := Go.Ground.phase }, { on := 6, ground := Go.Ground.phase }, { on := 7, ground := Go.Ground.phase }, { on := 8, ground := Go.Ground.phase }, { on := 9, ground := Go.Ground.phase }, { on := 10, ground := Go.Ground.phase }, { on := 11, ground := Go.Ground.phase }, { on := 12, ground := Go.Ground.phase }, { on := 13, ground := Go.Ground.phase }, { on := 14, ground := Go.Ground.phase }, { on := 15, ground := Go.Ground.phase }], guard := none }) rfl (fun KK hK => ?_) AllReadyH.nil
    go_simp
    refine hK.out _ _ (ALL1.out _ (HeldL.skip (hH0.2.2.2.2.2.2.2) _)) (fun hHeld2 => ?_)
    clear hK hHeld2
    try simp only [Act.put, List.setIfInBounds_toArray, List.set_cons_zero, List.set_cons_succ]
    refine wpAnyH_done (by kernel_rfl) ?_ _
    clear hHeld hH0 ALL1 HS1
    go_wp2
    exact bodyPost_ret (v := .agg #[.int .i64 1, .int .i64 ((j1 : Int) + 1), .int .i64 ((j1 : Int) + 1 + j2), .bool false, .string ⟨#[]⟩, .int .i64 0, .int .i64 M, .int .i64 j4]) (by simp [results, Tryz.results22, go_sem]) rfl ⟨rfl, (below_alloc3 w _ _ _).drew⟩
  ·
    go_simp
    refine hK.out _ _ (ALL1.out _ (HeldL.skip (hH0.2.2.2.2.2.2.2) _)) (fun hHeld2 => ?_)
    clear hK hHeld
    have hHeld := hHeld2
    clear hHeld2
    try simp only [Act.put, List.setIfInBounds_toArray, List.set_cons_zero, List.set_cons_succ]
    refine wpAnyH_ready (rs := [10]) (by kernel_rfl) (by simp) ?_
    refine AllReadyH.cons (o := { dst := some 14, op := Go.Op.call { callee := Go.Callee.value (Go.Operand.func 11), args := #[Go.Operand.tmp 13], argTypes := #[3] }, type := 27, pos := "law.go:30", after := #[{ on := 9, ground := Go.Ground.data }], guard := none }) rfl (fun KK hK => ?_) AllReadyH.nil
    go_simp
    with_reducible refine (HM.out _).mono ?_
    rintro x wz ⟨rfl, rfl⟩
    go_wp2_with fail
    refine hK.out _ _ hHeld (fun _ => ?_)
    clear hK
    try simp only [Act.put, List.setIfInBounds_toArray, List.set_cons_zero, List.set_cons_succ]
    refine wpAnyH_take (i := 14) (oi := { dst := some 18, op := Go.Op.build 46 #[(0, Go.Operand.tmp 8), (1, Go.Operand.tmp 11), (4, Go.Operand.tmp 14), (5, Go.Operand.tmp 17)], type := 46, pos := "law.go:30", after := #[{ on := 4, ground := Go.Ground.data }, { on := 7, ground := Go.Ground.data }, { on := 10, ground := Go.Ground.data }, { on := 13, ground := Go.Ground.data }], guard := none }) (v := ?_) rfl (by kernel_rfl) (by kernel_rfl) (by kernel_rfl) (fun _ _ _ h => h) (Or.inl ⟨by rfl, ?_⟩) hHeld ?_
    case refine_2 => (intro w hSw; (try dsimp only at hSw); go_simp <;> with_reducible rfl)
    try simp only [Act.put, List.setIfInBounds_toArray, List.set_cons_zero, List.set_cons_succ]
    refine wpAnyH_ready (rs := [16]) (by kernel_rfl) (by simp) ?_
    refine AllReadyH.cons (o := { dst := none, op := Go.Op.store 46 (Go.Operand.tmp 3) (Go.Operand.tmp 18), type := 0, pos := "law.go:30", after := #[{ on := 15, ground := Go.Ground.data }, { on := 14, ground := Go.Ground.data }, { on := 10, ground := Go.Ground.chain }, { on := 0, ground := Go.Ground.phase }, { on := 1, ground := Go.Ground.phase }, { on := 2, ground := Go.Ground.phase }, { on := 3, ground := Go.Ground.phase }, { on := 4, ground := Go.Ground.phase }, { on := 5, ground := Go.Ground.phase }, { on := 6, ground := Go.Ground.phase }, { on := 7, ground := Go.Ground.phase }, { on := 8, ground := Go.Ground.phase }, { on := 9, ground := Go.Ground.phase }, { on := 10, ground := Go.Ground.phase }, { on := 11, ground := Go.Ground.phase }, { on := 12, ground := Go.Ground.phase }, { on := 13, ground := Go.Ground.phase }, { on := 14, ground := Go.Ground.phase }, { on := 15, ground := Go.Ground.phase }], guard := none }) rfl (fun KK hK => ?_) AllReadyH.nil
    go_simp
    refine hK.out _ _ (ALL1.out _ (HeldL.skip (hH0.2.2.2.2.2.2.2) _)) (fun hHeld2 => ?_)
    clear hK hHeld2
    try simp only [Act.put, List.setIfInBounds_toArray, List.set_cons_zero, List.set_cons_succ]
    refine wpAnyH_done (by kernel_rfl) ?_ _
    clear hHeld hH0 ALL1 HS1
    go_wp2
    exact bodyPost_ret (v := .agg #[.int .i64 1, .int .i64 ((j1 : Int) + 1), .int .i64 ((j1 : Int) + 1 + j2), .bool false, .string ⟨#[]⟩, .int .i64 0, .int .i64 M, .int .i64 j4]) (by simp [results, Tryz.results22, go_sem]) rfl ⟨rfl, (below_alloc3 w _ _ _).drew⟩

set_option maxRecDepth 100000 in
set_option maxHeartbeats 6400000 in
theorem prec_2 (k0 k1 k2 k3 k4 k5 k6 : Int) (w : World) (hk : IntKind.i64.wrap ((IntKind.u64.wrap k0).tmod 3) = 2) (j1 j2 j4 : Nat) (hj1 : bits .and .i64 k1 7 = (j1 : Int)) (hj2 : bits .and .i64 k2 7 = (j2 : Int)) (hj4 : bits .and .i64 k4 7 = (j4 : Int)) (l1 : j1 ≤ 7) (l2 : j2 ≤ 7) (l4 : j4 ≤ 7) (M : Int) (hM : ∀ w : World, Calls Tryz.prog 11 #[.int .i64 k3] w fun x w' => x = .returned (.int .i64 M) ∧ w = w') (htab : Tab w) (j5 : Nat) (hj5 : bits .and .i64 k5 65535 = (j5 : Int)) (l5 : j5 ≤ 65535) (t1 : -3 ≤ k6.tmod 4) (t2 : k6.tmod 4 ≤ 3) (g : Tri) (hg : made false (dig (j5 + 1)) (k6.tmod 4 - 3) = g) :
    Calls Tryz.prog 22 #[.agg #[.int .i64 k0, .int .i64 k1, .int .i64 k2, .int .i64 k3, .int .i64 k4, .int .i64 k5, .int .i64 k6]] w fun z w' => z = .returned (PV ⟨2, j1, j1 + j2, g, M, j4⟩) ∧ Below w.heap.size w w' := by
  have HM := Lib.hid hM
  have HT := Lib.hid htab
  have HG := Lib.hid hg
  clear hM htab hg
  have dl : (dig (j5 + 1)).length ≤ 1000000 := by have := (dig_length_le (j5 + 1) 6).2 (Nat.lt_of_le_of_lt (show j5 + 1 ≤ 65536 by omega) (by decide)); omega
  have hw5 : IntKind.i64.wrap (1 + (j5 : Int)) = ((j5 + 1 : Nat) : Int) := by rw [IntKind.wrap_i64]; omega
  have hw6 : IntKind.i64.wrap (k6.tmod 4 - 3) = k6.tmod 4 - 3 := by rw [IntKind.wrap_i64]; omega
  have HW5 := Lib.hid hw5
  go_enter Tryz.func22, Tryz.ntmps22
  go_wp2_with fail
  have ALL1 : Hid (∀ w' : World, HeldL w [(w.heap.size + 1, #[.int .i64 0, .int .i64 0, .int .i64 0, .bool false, .string ⟨#[]⟩, .int .i64 0, .int .i64 0, .int .i64 0]), (w.heap.size, #[.int .i64 k0, .int .i64 k1, .int .i64 k2, .int .i64 k3, .int .i64 k4, .int .i64 k5, .int .i64 k6])] w' → w'.cell? ⟨w.heap.size, 0, none⟩ = some (.int .i64 k0) ∧ w'.cell? ⟨w.heap.size, 1, none⟩ = some (.int .i64 k1) ∧ w'.cell? ⟨w.heap.size, 2, none⟩ = some (.int .i64 k2) ∧ w'.cell? ⟨w.heap.size, 3, none⟩ = some (.int .i64 k3) ∧ w'.cell? ⟨w.heap.size, 4, none⟩ = some (.int .i64 k4) ∧ w'.cell? ⟨w.heap.size, 5, none⟩ = some (.int .i64 k5) ∧ w'.cell? ⟨w.heap.size, 6, none⟩ = some (.int .i64 k6) ∧ HeldL w [(w.heap.size + 1, #[.int .i64 0, .int .i64 0, .int .i64 0, .bool false, .string ⟨#[]⟩, .int .i64 0, .int .i64 0, .int .i64 0]), (w.heap.size, #[.int .i64 k0, .int .i64 k1, .int .i64 k2, .int .i64 k3, .int .i64 k4, .int .i64 k5, .int .i64 k6])] w') := Lib.hid (fun w' h => ⟨(h.f (List.Mem.tail _ (List.Mem.head _))).cell 0, (h.f (List.Mem.tail _ (List.Mem.head _))).cell 1, (h.f (List.Mem.tail _ (List.Mem.head _))).cell 2, (h.f (List.Mem.tail _ (List.Mem.head _))).cell 3, (h.f (List.Mem.tail _ (List.Mem.head _))).cell 4, (h.f (List.Mem.tail _ (List.Mem.head _))).cell 5, (h.f (List.Mem.tail _ (List.Mem.head _))).cell 6, h⟩)
  have HS1 : Hid (HeldL w [(w.heap.size + 1, #[.int .i64 0, .int .i64 0, .int .i64 0, .bool false, .string ⟨#[]⟩, .int .i64 0, .int .i64 0, .int .i64 0]), (w.heap.size, #[.int .i64 k0, .int .i64 k1, .int .i64 k2, .int .i64 k3, .int .i64 k4, .int .i64 k5, .int .i64 k6])] _) := Lib.hid (HeldL.alloc (HeldL.alloc (HeldL.refl w) (w.heap.size) #[.int .i64 k0, .int .i64 k1, .int .i64 k2, .int .i64 k3, .int .i64 k4, .int .i64 k5, .int .i64 k6] 43 (by simp)) (w.heap.size + 1) #[.int .i64 0, .int .i64 0, .int .i64 0, .bool false, .string ⟨#[]⟩, .int .i64 0, .int .i64 0, .int .i64 0] 46 (by simp))
  refine wp_region_held_drew (S := fun w' => w'.cell? ⟨w.heap.size, 0, none⟩ = some (.int .i64 k0) ∧ w'.cell? ⟨w.heap.size, 1, none⟩ = some (.int .i64 k1) ∧ w'.cell? ⟨w.heap.size, 2, none⟩ = some (.int .i64 k2) ∧ w'.cell? ⟨w.heap.size, 3, none⟩ = some (.int .i64 k3) ∧ w'.cell? ⟨w.heap.size, 4, none⟩ = some (.int .i64 k4) ∧ w'.cell? ⟨w.heap.size, 5, none⟩ = some (.int .i64 k5) ∧ w'.cell? ⟨w.heap.size, 6, none⟩ = some (.int .i64 k6) ∧ HeldL w [(w.heap.size + 1, #[.int .i64 0, .int .i64 0, .int .i64 0, .bool false, .string ⟨#[]⟩, .int .i64 0, .int .i64 0, .int .i64 0]), (w.heap.size, #[.int .i64 k0, .int .i64 k1, .int .i64 k2, .int .i64 k3, .int .i64 k4, .int .i64 k5, .int .i64 k6])] w') (by kernel_rfl) (ALL1.out _ (HeldL.drew HS1.out)) (fun hHeld => ?_)
  refine wpAnyH_take (i := 0) (oi := { dst := some 4, op := Go.Op.fieldAddr 43 (Go.Operand.tmp 1) 0, type := 0, pos := "law.go:30", after := #[], guard := none }) (v := ?_) rfl (by kernel_rfl) (by kernel_rfl) (by kernel_rfl) (fun _ _ _ h => h) (Or.inl ⟨by rfl, ?_⟩) hHeld ?_
  case refine_2 => (intro w hSw; (try dsimp only at hSw); go_simp <;> with_reducible rfl)
  try simp only [Act.put, List.setIfInBounds_toArray, List.set_cons_zero, List.set_cons_succ]
  refine wpAnyH_take (i := 1) (oi := { dst := some 5, op := Go.Op.load 3 (Go.Operand.tmp 4), type := 3, pos := "law.go:30", after := #[{ on := 0, ground := Go.Ground.data }], guard := none }) (v := ?_) rfl (by kernel_rfl) (by kernel_rfl) (by kernel_rfl) (fun _ _ _ h => h) (Or.inl ⟨by rfl, ?_⟩) hHeld ?_
  case refine_2 => (intro w hSw; (try dsimp only at hSw); go_simp <;> with_reducible rfl)
  try simp only [Act.put, List.setIfInBounds_toArray, List.set_cons_zero, List.set_cons_succ]
  refine wpAnyH_take (i := 2) (oi := { dst := some 6, op := Go.Op.convert 3 62 (Go.Operand.tmp 5), type := 62, pos := "law.go:30", after := #[{ on := 1, ground := Go.Ground.data }], guard := none }) (v := ?_) rfl (by kernel_rfl) (by kernel_rfl) (by kernel_rfl) (fun _ _ _ h => h) (Or.inl ⟨by rfl, ?_⟩) hHeld ?_
  case refine_2 => (intro w hSw; (try dsimp only at hSw); go_simp <;> with_reducible rfl)
  try simp only [Act.put, List.setIfInBounds_toArray, List.set_cons_zero, List.set_cons_succ]
  refine wpAnyH_take (i := 3) (oi := { dst := some 7, op := Go.Op.binOp Go.BinOp.rem 62 (Go.Operand.tmp 6) (Go.Operand.const (Go.Value.int Go.IntKind.u64 3)) 62, type := 62, pos := "law.go:30", after := #[{ on := 2, ground := Go.Ground.data }], guard := none }) (v := ?_) rfl (by kernel_rfl) (by kernel_rfl) (by kernel_rfl) (fun _ _ _ h => h) (Or.inl ⟨by rfl, ?_⟩) hHeld ?_
  case refine_2 => (intro w hSw; (try dsimp only at hSw); go_simp <;> with_reducible rfl)
  try simp only [Act.put, List.setIfInBounds_toArray, List.set_cons_zero, List.set_cons_succ]
  refine wpAnyH_take (i := 4) (oi := { dst := some 8, op := Go.Op.convert 62 3 (Go.Operand.tmp 7), type := 3, pos := "law.go:30", after := #[{ on := 3, ground := Go.Ground.data }], guard := none }) (v := ?_) rfl (by kernel_rfl) (by kernel_rfl) (by kernel_rfl) (fun _ _ _ h => h) (Or.inl ⟨by rfl, ?_⟩) hHeld ?_
  case refine_2 => (intro w hSw; (try dsimp only at hSw); go_simp <;> with_reducible rfl)
  try simp only [Act.put, List.setIfInBounds_toArray, List.set_cons_zero, List.set_cons_succ]
  refine wpAnyH_take (i := 5) (oi := { dst := some 9, op := Go.Op.fieldAddr 43 (Go.Operand.tmp 1) 1, type := 0, pos := "law.go:30", after := #[], guard := none }) (v := ?_) rfl (by kernel_rfl) (by kernel_rfl) (by kernel_rfl) (fun _ _ _ h => h) (Or.inl ⟨by rfl, ?_⟩) hHeld ?_
  case refine_2 => (intro w hSw; (try dsimp only at hSw); go_simp <;> with_reducible rfl)
  try simp only [Act.put, List.setIfInBounds_toArray, List.set_cons_zero, List.set_cons_succ]
  refine wpAnyH_take (i := 6) (oi := { dst := some 10, op := Go.Op.load 3 (Go.Operand.tmp 9), type := 3, pos := "law.go:30", after := #[{ on := 5, ground := Go.Ground.data }], guard := none }) (v := ?_) rfl (by kernel_rfl) (by kernel_rfl) (by kernel_rfl) (fun _ _ _ h => h) (Or.inl ⟨by rfl, ?_⟩) hHeld ?_
  case refine_2 => (intro w hSw; (try dsimp only at hSw); go_simp <;> with_reducible rfl)
  try simp only [Act.put, List.setIfInBounds_toArray, List.set_cons_zero, List.set_cons_succ]
  refine wpAnyH_take (i := 7) (oi := { dst := some 11, op := Go.Op.binOp Go.BinOp.and 3 (Go.Operand.tmp 10) (Go.Operand.const (Go.Value.int Go.IntKind.i64 7)) 3, type := 3, pos := "law.go:30", after := #[{ on := 6, ground := Go.Ground.data }], guard := none }) (v := ?_) rfl (by kernel_rfl) (by kernel_rfl) (by kernel_rfl) (fun _ _ _ h => h) (Or.inl ⟨by rfl, ?_⟩) hHeld ?_
  case refine_2 => (intro w hSw; (try dsimp only at hSw); go_simp <;> with_reducible rfl)
  try simp only [Act.put, List.setIfInBounds_toArray, List.set_cons_zero, List.set_cons_succ]
  refine wpAnyH_take (i := 8) (oi := { dst := some 12, op := Go.Op.fieldAddr 43 (Go.Operand.tmp 1) 3, type := 0, pos := "law.go:30", after := #[], guard := none }) (v := ?_) rfl (by kernel_rfl) (by kernel_rfl) (by kernel_rfl) (fun _ _ _ h => h) (Or.inl ⟨by rfl, ?_⟩) hHeld ?_
  case refine_2 => (intro w hSw; (try dsimp only at hSw); go_simp <;> with_reducible rfl)
  try simp only [Act.put, List.setIfInBounds_toArray, List.set_cons_zero, List.set_cons_succ]
  refine wpAnyH_take (i := 9) (oi := { dst := some 13, op := Go.Op.load 3 (Go.Operand.tmp 12), type := 3, pos := "law.go:30", after := #[{ on := 8, ground := Go.Ground.data }], guard := none }) (v := ?_) rfl (by kernel_rfl) (by kernel_rfl) (by kernel_rfl) (fun _ _ _ h => h) (Or.inl ⟨by rfl, ?_⟩) hHeld ?_
  case refine_2 => (intro w hSw; (try dsimp only at hSw); go_simp <;> with_reducible rfl)
  try simp only [Act.put, List.setIfInBounds_toArray, List.set_cons_zero, List.set_cons_succ]
  refine wpAnyH_take (i := 11) (oi := { dst := some 15, op := Go.Op.fieldAddr 43 (Go.Operand.tmp 1) 4, type := 0, pos := "law.go:30", after := #[], guard := none }) (v := ?_) rfl (by kernel_rfl) (by kernel_rfl) (by kernel_rfl) (fun _ _ _ h => h) (Or.inl ⟨by rfl, ?_⟩) hHeld ?_
  case refine_2 => (intro w hSw; (try dsimp only at hSw); go_simp <;> with_reducible rfl)
  try simp only [Act.put, List.setIfInBounds_toArray, List.set_cons_zero, List.set_cons_succ]
  refine wpAnyH_take (i := 12) (oi := { dst := some 16, op := Go.Op.load 3 (Go.Operand.tmp 15), type := 3, pos := "law.go:30", after := #[{ on := 11, ground := Go.Ground.data }], guard := none }) (v := ?_) rfl (by kernel_rfl) (by kernel_rfl) (by kernel_rfl) (fun _ _ _ h => h) (Or.inl ⟨by rfl, ?_⟩) hHeld ?_
  case refine_2 => (intro w hSw; (try dsimp only at hSw); go_simp <;> with_reducible rfl)
  try simp only [Act.put, List.setIfInBounds_toArray, List.set_cons_zero, List.set_cons_succ]
  refine wpAnyH_take (i := 13) (oi := { dst := some 17, op := Go.Op.binOp Go.BinOp.and 3 (Go.Operand.tmp 16) (Go.Operand.const (Go.Value.int Go.IntKind.i64 7)) 3, type := 3, pos := "law.go:30", after := #[{ on := 12, ground := Go.Ground.data }], guard := none }) (v := ?_) rfl (by kernel_rfl) (by kernel_rfl) (by kernel_rfl) (fun _ _ _ h => h) (Or.inl ⟨by rfl, ?_⟩) hHeld ?_
  case refine_2 => (intro w hSw; (try dsimp only at hSw); go_simp <;> with_reducible rfl)
  try simp only [Act.put, List.setIfInBounds_toArray, List.set_cons_zero, List.set_cons_succ]
  have hH0 := hHeld
  refine wpAnyH_ready (rs := [10, 15]) (by kernel_rfl) (by simp) ?_
  refine AllReadyH.cons (o := { dst := some 14, op := Go.Op.call { callee := Go.Callee.value (Go.Operand.func 11), args := #[Go.Operand.tmp 13], argTypes := #[3] }, type := 27, pos := "law.go:30", after := #[{ on := 9, ground := Go.Ground.data }], guard := none }) rfl (fun KK hK => ?_) (AllReadyH.cons (o := { dst := some 3, op := Go.Op.alloc 46, type := 0, pos := "law.go:30", after := #[], guard := none }) rfl (fun KK hK => ?_) AllReadyH.nil)
  ·
    go_simp
    with_reducible refine (HM.out _).mono ?_
    rintro x wz ⟨rfl, rfl⟩
    go_wp2_with fail
    refine hK.out _ _ hHeld (fun _ => ?_)
    clear hK
    try simp only [Act.put, List.setIfInBounds_toArray, List.set_cons_zero, List.set_cons_succ]
    refine wpAnyH_take (i := 14) (oi := { dst := some 18, op := Go.Op.build 46 #[(0, Go.Operand.tmp 8), (1, Go.Operand.tmp 11), (4, Go.Operand.tmp 14), (5, Go.Operand.tmp 17)], type := 46, pos := "law.go:30", after := #[{ on := 4, ground := Go.Ground.data }, { on := 7, ground := Go.Ground.data }, { on := 10, ground := Go.Ground.data }, { on := 13, ground := Go.Ground.data }], guard := none }) (v := ?_) rfl (by kernel_rfl) (by kernel_rfl) (by kernel_rfl) (fun _ _ _ h => h) (Or.inl ⟨by rfl, ?_⟩) hHeld ?_
    case refine_2 => (intro w hSw; (try dsimp only at hSw); go_simp <;> with_reducible rfl)
    try simp only [Act.put, List.setIfInBounds_toArray, List.set_cons_zero, List.set_cons_succ]
    refine wpAnyH_ready (rs := [15]) (by kernel_rfl) (by simp) ?_
    refine AllReadyH.cons (o := { dst := some 3, op := Go.Op.alloc 46, type := 0, pos := "law.go:30", after := #[], guard := none }) rfl (fun KK hK => ?_) AllReadyH.nil
    go_simp
    refine hK.out _ _ (ALL1.out _ (HeldL.skip (hH0.2.2.2.2.2.2.2) _)) (fun hHeld2 => ?_)
    clear hK hHeld
    have hHeld := hHeld2
    clear hHeld2
    try simp only [Act.put, List.setIfInBounds_toArray, List.set_cons_zero, List.set_cons_succ]
    refine wpAnyH_ready (rs := [16]) (by kernel_rfl) (by simp) ?_
    refine AllReadyH.cons (o := { dst := none, op := Go.Op.store 46 (Go.Operand.tmp 3) (Go.Operand.tmp 18), type := 0, pos := "law.go:30", after := #[{ on := 15, ground := Go.Ground.data }, { on := 14, ground := Go.Ground.data }, { on := 10, ground := Go.Ground.chain }, { on := 0, ground := Go.Ground.phase }, { on := 1, ground := Go.Ground.phase }, { on := 2, ground := Go.Ground.phase }, { on := 3, ground := Go.Ground.phase }, { on := 4, ground := Go.Ground.phase }, { on := 5, ground := Go.Ground.phase }, { on := 6, ground := Go.Ground.phase }, { on := 7, ground := Go.Ground.phase }, { on := 8, ground := Go.Ground.phase }, { on := 9, ground := Go.Ground.phase }, { on := 10, ground := Go.Ground.phase }, { on := 11, ground := Go.Ground.phase }, { on := 12, ground := Go.Ground.phase }, { on := 13, ground := Go.Ground.phase }, { on := 14, ground := Go.Ground.phase }, { on := 15, ground := Go.Ground.phase }], guard := none }) rfl (fun KK hK => ?_) AllReadyH.nil
    go_simp
    refine hK.out _ _ (ALL1.out _ (HeldL.skip (hH0.2.2.2.2.2.2.2) _)) (fun hHeld2 => ?_)
    clear hK hHeld2
    try simp only [Act.put, List.setIfInBounds_toArray, List.set_cons_zero, List.set_cons_succ]
    refine wpAnyH_done (by kernel_rfl) ?_ _
    clear hHeld hH0 ALL1 HS1
    go_wp2_with fail
    have H2 : Hid (HeldL w [(w.heap.size + 1 + 1, #[.int .i64 2, .int .i64 j1, .int .i64 ((j1 : Int) + j2), .bool false, .string ⟨#[]⟩, .int .i64 0, .int .i64 M, .int .i64 j4]), (w.heap.size + 1, #[.int .i64 0, .int .i64 0, .int .i64 0, .bool false, .string ⟨#[]⟩, .int .i64 0, .int .i64 0, .int .i64 0]), (w.heap.size, #[.int .i64 k0, .int .i64 k1, .int .i64 k2, .int .i64 k3, .int .i64 k4, .int .i64 k5, .int .i64 k6])] ((((w.alloc (.cells #[.int .i64 k0, .int .i64 k1, .int .i64 k2, .int .i64 k3, .int .i64 k4, .int .i64 k5, .int .i64 k6] 43)).alloc (.cells #[.int .i64 0, .int .i64 0, .int .i64 0, .bool false, .string ⟨#[]⟩, .int .i64 0, .int .i64 0, .int .i64 0] 46)).alloc (.cells #[.int .i64 2, .int .i64 j1, .int .i64 ((j1 : Int) + j2), .bool false, .string ⟨#[]⟩, .int .i64 0, .int .i64 M, .int .i64 j4] 46)).drew)) := Lib.hid (HeldL.drew (HeldL.alloc (HeldL.alloc (HeldL.alloc (HeldL.refl w) _ _ _ rfl) _ _ _ (by simp)) _ _ _ (by simp)))
    generalize (((w.alloc (.cells #[.int .i64 k0, .int .i64 k1, .int .i64 k2, .int .i64 k3, .int .i64 k4, .int .i64 k5, .int .i64 k6] 43)).alloc (.cells #[.int .i64 0, .int .i64 0, .int .i64 0, .bool false, .string ⟨#[]⟩, .int .i64 0, .int .i64 0, .int .i64 0] 46)).alloc (.cells #[.int .i64 2, .int .i64 j1, .int .i64 ((j1 : Int) + j2), .bool false, .string ⟨#[]⟩, .int .i64 0, .int .i64 M, .int .i64 j4] 46)).drew = w2 at *
    have q0 : w2.cell? ⟨w.heap.size, 0, none⟩ = some (.int .i64 k0) := (H2.out.f (List.Mem.tail _ (List.Mem.tail _ (List.Mem.head _)))).cell 0
    have q1 : w2.cell? ⟨w.heap.size, 1, none⟩ = some (.int .i64 k1) := (H2.out.f (List.Mem.tail _ (List.Mem.tail _ (List.Mem.head _)))).cell 1
    have q2 : w2.cell? ⟨w.heap.size, 2, none⟩ = some (.int .i64 k2) := (H2.out.f (List.Mem.tail _ (List.Mem.tail _ (List.Mem.head _)))).cell 2
    have q3 : w2.cell? ⟨w.heap.size, 3, none⟩ = some (.int .i64 k3) := (H2.out.f (List.Mem.tail _ (List.Mem.tail _ (List.Mem.head _)))).cell 3
    have q4 : w2.cell? ⟨w.heap.size, 4, none⟩ = some (.int .i64 k4) := (H2.out.f (List.Mem.tail _ (List.Mem.tail _ (List.Mem.head _)))).cell 4
    have q5 : w2.cell? ⟨w.heap.size, 5, none⟩ = some (.int .i64 k5) := (H2.out.f (List.Mem.tail _ (List.Mem.tail _ (List.Mem.head _)))).cell 5
    have q6 : w2.cell? ⟨w.heap.size, 6, none⟩ = some (.int .i64 k6) := (H2.out.f (List.Mem.tail _ (List.Mem.tail _ (List.Mem.head _)))).cell 6
    have ql : w.heap.size < w2.heap.size := (H2.out.f (List.Mem.tail _ (List.Mem.tail _ (List.Mem.head _)))).lt
    have p0 : w2.cell? ⟨w.heap.size + 1 + 1, 0, none⟩ = some (.int .i64 2) := (H2.out.f (List.Mem.head _)).cell 0
    have pz0 : w2.frozen? ⟨w.heap.size + 1 + 1, 0, none⟩ = false := (H2.out.f (List.Mem.head _)).frozen 0
    have p1 : w2.cell? ⟨w.heap.size + 1 + 1, 1, none⟩ = some (.int .i64 j1) := (H2.out.f (List.Mem.head _)).cell 1
    have pz1 : w2.frozen? ⟨w.heap.size + 1 + 1, 1, none⟩ = false := (H2.out.f (List.Mem.head _)).frozen 1
    have p2 : w2.cell? ⟨w.heap.size + 1 + 1, 2, none⟩ = some (.int .i64 ((j1 : Int) + j2)) := (H2.out.f (List.Mem.head _)).cell 2
    have pz2 : w2.frozen? ⟨w.heap.size + 1 + 1, 2, none⟩ = false := (H2.out.f (List.Mem.head _)).frozen 2
    have p3 : w2.cell? ⟨w.heap.size + 1 + 1, 3, none⟩ = some (.bool false) := (H2.out.f (List.Mem.head _)).cell 3
    have pz3 : w2.frozen? ⟨w.heap.size + 1 + 1, 3, none⟩ = false := (H2.out.f (List.Mem.head _)).frozen 3
    have p4 : w2.cell? ⟨w.heap.size + 1 + 1, 4, none⟩ = some (.string ⟨#[]⟩) := (H2.out.f (List.Mem.head _)).cell 4
    have pz4 : w2.frozen? ⟨w.heap.size + 1 + 1, 4, none⟩ = false := (H2.out.f (List.Mem.head _)).frozen 4
    have p5 : w2.cell? ⟨w.heap.size + 1 + 1, 5, none⟩ = some (.int .i64 0) := (H2.out.f (List.Mem.head _)).cell 5
    have pz5 : w2.frozen? ⟨w.heap.size + 1 + 1, 5, none⟩ = false := (H2.out.f (List.Mem.head _)).frozen 5
    have p6 : w2.cell? ⟨w.heap.size + 1 + 1, 6, none⟩ = some (.int .i64 M) := (H2.out.f (List.Mem.head _)).cell 6
    have pz6 : w2.frozen? ⟨w.heap.size + 1 + 1, 6, none⟩ = false := (H2.out.f (List.Mem.head _)).frozen 6
    have p7 : w2.cell? ⟨w.heap.size + 1 + 1, 7, none⟩ = some (.int .i64 j4) := (H2.out.f (List.Mem.head _)).cell 7
    have pz7 : w2.frozen? ⟨w.heap.size + 1 + 1, 7, none⟩ = false := (H2.out.f (List.Mem.head _)).frozen 7
    have pl : w.heap.size + 1 + 1 < w2.heap.size := (H2.out.f (List.Mem.head _)).lt
    have r0 : w2.cell? ⟨w.heap.size + 1, 0, none⟩ = some (.int .i64 0) := (H2.out.f (List.Mem.tail _ (List.Mem.head _))).cell 0
    have rz0 : w2.frozen? ⟨w.heap.size + 1, 0, none⟩ = false := (H2.out.f (List.Mem.tail _ (List.Mem.head _))).frozen 0
    have r1 : w2.cell? ⟨w.heap.size + 1, 1, none⟩ = some (.int .i64 0) := (H2.out.f (List.Mem.tail _ (List.Mem.head _))).cell 1
    have rz1 : w2.frozen? ⟨w.heap.size + 1, 1, none⟩ = false := (H2.out.f (List.Mem.tail _ (List.Mem.head _))).frozen 1
    have r2 : w2.cell? ⟨w.heap.size + 1, 2, none⟩ = some (.int .i64 0) := (H2.out.f (List.Mem.tail _ (List.Mem.head _))).cell 2
    have rz2 : w2.frozen? ⟨w.heap.size + 1, 2, none⟩ = false := (H2.out.f (List.Mem.tail _ (List.Mem.head _))).frozen 2
    have r3 : w2.cell? ⟨w.heap.size + 1, 3, none⟩ = some (.bool false) := (H2.out.f (List.Mem.tail _ (List.Mem.head _))).cell 3
    have rz3 : w2.frozen? ⟨w.heap.size + 1, 3, none⟩ = false := (H2.out.f (List.Mem.tail _ (List.Mem.head _))).frozen 3
    have r4 : w2.cell? ⟨w.heap.size + 1, 4, none⟩ = some (.string ⟨#[]⟩) := (H2.out.f (List.Mem.tail _ (List.Mem.head _))).cell 4
    have rz4 : w2.frozen? ⟨w.heap.size + 1, 4, none⟩ = false := (H2.out.f (List.Mem.tail _ (List.Mem.head _))).frozen 4
    have r5 : w2.cell? ⟨w.heap.size + 1, 5, none⟩ = some (.int .i64 0) := (H2.out.f (List.Mem.tail _ (List.Mem.head _))).cell 5
    have rz5 : w2.frozen? ⟨w.heap.size + 1, 5, none⟩ = false := (H2.out.f (List.Mem.tail _ (List.Mem.head _))).frozen 5
    have r6 : w2.cell? ⟨w.heap.size + 1, 6, none⟩ = some (.int .i64 0) := (H2.out.f (List.Mem.tail _ (List.Mem.head _))).cell 6
    have rz6 : w2.frozen? ⟨w.heap.size + 1, 6, none⟩ = false := (H2.out.f (List.Mem.tail _ (List.Mem.head _))).frozen 6
    have r7 : w2.cell? ⟨w.heap.size + 1, 7, none⟩ = some (.int .i64 0) := (H2.out.f (List.Mem.tail _ (List.Mem.head _))).cell 7
    have rz7 : w2.frozen? ⟨w.heap.size + 1, 7, none⟩ = false := (H2.out.f (List.Mem.tail _ (List.Mem.head _))).frozen 7
    have rl : w.heap.size + 1 < w2.heap.size := (H2.out.f (List.Mem.tail _ (List.Mem.head _))).lt
    have HS1 : Hid (HeldL w [(w.heap.size + 1 + 1, #[.int .i64 2, .int .i64 j1, .int .i64 ((j1 : Int) + j2), .bool false, .string ⟨#[]⟩, .int .i64 0, .int .i64 M, .int .i64 j4]), (w.heap.size + 1, #[.int .i64 0, .int .i64 0, .int .i64 0, .bool false, .string ⟨#[]⟩, .int .i64 0, .int .i64 0, .int .i64 0]), (w.heap.size, #[.int .i64 k0, .int .i64 k1, .int .i64 k2, .int .i64 k3, .int .i64 k4, .int .i64 k5, .int .i64 k6])] _) := Lib.hid H2.out
    go_region_with (first | (go_at_call 19; (rw [show ((j5 : Int) + 1) = ((j5 + 1 : Nat) : Int) from rfl]); (with_reducible refine (ofN (j5 + 1) _ (by omega) (HT.out.below ((HeldL.drew HS1.out)).bel)).mono ?_); rintro x wA ⟨rfl, hb⟩; have HKwA : Hid (HeldL w [(w.heap.size + 1 + 1, #[.int .i64 2, .int .i64 j1, .int .i64 ((j1 : Int) + j2), .bool false, .string ⟨#[]⟩, .int .i64 0, .int .i64 M, .int .i64 j4]), (w.heap.size + 1, #[.int .i64 0, .int .i64 0, .int .i64 0, .bool false, .string ⟨#[]⟩, .int .i64 0, .int .i64 0, .int .i64 0]), (w.heap.size, #[.int .i64 k0, .int .i64 k1, .int .i64 k2, .int .i64 k3, .int .i64 k4, .int .i64 k5, .int .i64 k6])] wA) := Lib.hid (HeldL.keep (HeldL.drew HS1.out) hb); clear hb; have qwA0 : wA.cell? ⟨w.heap.size, 0, none⟩ = some (.int .i64 k0) := (HKwA.out.f (List.Mem.tail _ (List.Mem.tail _ (List.Mem.head _)))).cell 0; have qwA1 : wA.cell? ⟨w.heap.size, 1, none⟩ = some (.int .i64 k1) := (HKwA.out.f (List.Mem.tail _ (List.Mem.tail _ (List.Mem.head _)))).cell 1; have qwA2 : wA.cell? ⟨w.heap.size, 2, none⟩ = some (.int .i64 k2) := (HKwA.out.f (List.Mem.tail _ (List.Mem.tail _ (List.Mem.head _)))).cell 2; have qwA3 : wA.cell? ⟨w.heap.size, 3, none⟩ = some (.int .i64 k3) := (HKwA.out.f (List.Mem.tail _ (List.Mem.tail _ (List.Mem.head _)))).cell 3; have qwA4 : wA.cell? ⟨w.heap.size, 4, none⟩ = some (.int .i64 k4) := (HKwA.out.f (List.Mem.tail _ (List.Mem.tail _ (List.Mem.head _)))).cell 4; have qwA5 : wA.cell? ⟨w.heap.size, 5, none⟩ = some (.int .i64 k5) := (HKwA.out.f (List.Mem.tail _ (List.Mem.tail _ (List.Mem.head _)))).cell 5; have qwA6 : wA.cell? ⟨w.heap.size, 6, none⟩ = some (.int .i64 k6) := (HKwA.out.f (List.Mem.tail _ (List.Mem.tail _ (List.Mem.head _)))).cell 6; have qwAl : w.heap.size < wA.heap.size := (HKwA.out.f (List.Mem.tail _ (List.Mem.tail _ (List.Mem.head _)))).lt; have pwA0 : wA.cell? ⟨w.heap.size + 1 + 1, 0, none⟩ = some (.int .i64 2) := (HKwA.out.f (List.Mem.head _)).cell 0; have pzwA0 : wA.frozen? ⟨w.heap.size + 1 + 1, 0, none⟩ = false := (HKwA.out.f (List.Mem.head _)).frozen 0; have pwA1 : wA.cell? ⟨w.heap.size + 1 + 1, 1, none⟩ = some (.int .i64 j1) := (HKwA.out.f (List.Mem.head _)).cell 1; have pzwA1 : wA.frozen? ⟨w.heap.size + 1 + 1, 1, none⟩ = false := (HKwA.out.f (List.Mem.head _)).frozen 1; have pwA2 : wA.cell? ⟨w.heap.size + 1 + 1, 2, none⟩ = some (.int .i64 ((j1 : Int) + j2)) := (HKwA.out.f (List.Mem.head _)).cell 2; have pzwA2 : wA.frozen? ⟨w.heap.size + 1 + 1, 2, none⟩ = false := (HKwA.out.f (List.Mem.head _)).frozen 2; have pwA3 : wA.cell? ⟨w.heap.size + 1 + 1, 3, none⟩ = some (.bool false) := (HKwA.out.f (List.Mem.head _)).cell 3; have pzwA3 : wA.frozen? ⟨w.heap.size + 1 + 1, 3, none⟩ = false := (HKwA.out.f (List.Mem.head _)).frozen 3; have pwA4 : wA.cell? ⟨w.heap.size + 1 + 1, 4, none⟩ = some (.string ⟨#[]⟩) := (HKwA.out.f (List.Mem.head _)).cell 4; have pzwA4 : wA.frozen? ⟨w.heap.size + 1 + 1, 4, none⟩ = false := (HKwA.out.f (List.Mem.head _)).frozen 4; have pwA5 : wA.cell? ⟨w.heap.size + 1 + 1, 5, none⟩ = some (.int .i64 0) := (HKwA.out.f (List.Mem.head _)).cell 5; have pzwA5 : wA.frozen? ⟨w.heap.size + 1 + 1, 5, none⟩ = false := (HKwA.out.f (List.Mem.head _)).frozen 5; have pwA6 : wA.cell? ⟨w.heap.size + 1 + 1, 6, none⟩ = some (.int .i64 M) := (HKwA.out.f (List.Mem.head _)).cell 6; have pzwA6 : wA.frozen? ⟨w.heap.size + 1 + 1, 6, none⟩ = false := (HKwA.out.f (List.Mem.head _)).frozen 6; have pwA7 : wA.cell? ⟨w.heap.size + 1 + 1, 7, none⟩ = some (.int .i64 j4) := (HKwA.out.f (List.Mem.head _)).cell 7; have pzwA7 : wA.frozen? ⟨w.heap.size + 1 + 1, 7, none⟩ = false := (HKwA.out.f (List.Mem.head _)).frozen 7; have pwAl : w.heap.size + 1 + 1 < wA.heap.size := (HKwA.out.f (List.Mem.head _)).lt; have rwA0 : wA.cell? ⟨w.heap.size + 1, 0, none⟩ = some (.int .i64 0) := (HKwA.out.f (List.Mem.tail _ (List.Mem.head _))).cell 0; have rzwA0 : wA.frozen? ⟨w.heap.size + 1, 0, none⟩ = false := (HKwA.out.f (List.Mem.tail _ (List.Mem.head _))).frozen 0; have rwA1 : wA.cell? ⟨w.heap.size + 1, 1, none⟩ = some (.int .i64 0) := (HKwA.out.f (List.Mem.tail _ (List.Mem.head _))).cell 1; have rzwA1 : wA.frozen? ⟨w.heap.size + 1, 1, none⟩ = false := (HKwA.out.f (List.Mem.tail _ (List.Mem.head _))).frozen 1; have rwA2 : wA.cell? ⟨w.heap.size + 1, 2, none⟩ = some (.int .i64 0) := (HKwA.out.f (List.Mem.tail _ (List.Mem.head _))).cell 2; have rzwA2 : wA.frozen? ⟨w.heap.size + 1, 2, none⟩ = false := (HKwA.out.f (List.Mem.tail _ (List.Mem.head _))).frozen 2; have rwA3 : wA.cell? ⟨w.heap.size + 1, 3, none⟩ = some (.bool false) := (HKwA.out.f (List.Mem.tail _ (List.Mem.head _))).cell 3; have rzwA3 : wA.frozen? ⟨w.heap.size + 1, 3, none⟩ = false := (HKwA.out.f (List.Mem.tail _ (List.Mem.head _))).frozen 3; have rwA4 : wA.cell? ⟨w.heap.size + 1, 4, none⟩ = some (.string ⟨#[]⟩) := (HKwA.out.f (List.Mem.tail _ (List.Mem.head _))).cell 4; have rzwA4 : wA.frozen? ⟨w.heap.size + 1, 4, none⟩ = false := (HKwA.out.f (List.Mem.tail _ (List.Mem.head _))).frozen 4; have rwA5 : wA.cell? ⟨w.heap.size + 1, 5, none⟩ = some (.int .i64 0) := (HKwA.out.f (List.Mem.tail _ (List.Mem.head _))).cell 5; have rzwA5 : wA.frozen? ⟨w.heap.size + 1, 5, none⟩ = false := (HKwA.out.f (List.Mem.tail _ (List.Mem.head _))).frozen 5; have rwA6 : wA.cell? ⟨w.heap.size + 1, 6, none⟩ = some (.int .i64 0) := (HKwA.out.f (List.Mem.tail _ (List.Mem.head _))).cell 6; have rzwA6 : wA.frozen? ⟨w.heap.size + 1, 6, none⟩ = false := (HKwA.out.f (List.Mem.tail _ (List.Mem.head _))).frozen 6; have rwA7 : wA.cell? ⟨w.heap.size + 1, 7, none⟩ = some (.int .i64 0) := (HKwA.out.f (List.Mem.tail _ (List.Mem.head _))).cell 7; have rzwA7 : wA.frozen? ⟨w.heap.size + 1, 7, none⟩ = false := (HKwA.out.f (List.Mem.tail _ (List.Mem.head _))).frozen 7; have rwAl : w.heap.size + 1 < wA.heap.size := (HKwA.out.f (List.Mem.tail _ (List.Mem.head _))).lt) | (go_at_call 18; (with_reducible refine (made_as false ⟨(dig (j5 + 1)).toArray⟩ (k6.tmod 4 - 3) _ (by rw [arr_size]; exact dl) g (by rw [arr_list]; exact HG.out)).mono ?_); rintro x wB ⟨rfl, hb⟩; have HKwB : Hid (HeldL w [(w.heap.size + 1 + 1, #[.int .i64 2, .int .i64 j1, .int .i64 ((j1 : Int) + j2), .bool false, .string ⟨#[]⟩, .int .i64 0, .int .i64 M, .int .i64 j4]), (w.heap.size + 1, #[.int .i64 0, .int .i64 0, .int .i64 0, .bool false, .string ⟨#[]⟩, .int .i64 0, .int .i64 0, .int .i64 0]), (w.heap.size, #[.int .i64 k0, .int .i64 k1, .int .i64 k2, .int .i64 k3, .int .i64 k4, .int .i64 k5, .int .i64 k6])] wB) := Lib.hid (HeldL.keep HKwA.out hb); clear hb; have p0 : wB.cell? ⟨w.heap.size + 1 + 1, 0, none⟩ = some (.int .i64 2) := (HKwB.out.f (List.Mem.head _)).cell 0; have pz0 : wB.frozen? ⟨w.heap.size + 1 + 1, 0, none⟩ = false := (HKwB.out.f (List.Mem.head _)).frozen 0; have p1 : wB.cell? ⟨w.heap.size + 1 + 1, 1, none⟩ = some (.int .i64 j1) := (HKwB.out.f (List.Mem.head _)).cell 1; have pz1 : wB.frozen? ⟨w.heap.size + 1 + 1, 1, none⟩ = false := (HKwB.out.f (List.Mem.head _)).frozen 1; have p2 : wB.cell? ⟨w.heap.size + 1 + 1, 2, none⟩ = some (.int .i64 ((j1 : Int) + j2)) := (HKwB.out.f (List.Mem.head _)).cell 2; have pz2 : wB.frozen? ⟨w.heap.size + 1 + 1, 2, none⟩ = false := (HKwB.out.f (List.Mem.head _)).frozen 2; have p3 : wB.cell? ⟨w.heap.size + 1 + 1, 3, none⟩ = some (.bool false) := (HKwB.out.f (List.Mem.head _)).cell 3; have pz3 : wB.frozen? ⟨w.heap.size + 1 + 1, 3, none⟩ = false := (HKwB.out.f (List.Mem.head _)).frozen 3; have p4 : wB.cell? ⟨w.heap.size + 1 + 1, 4, none⟩ = some (.string ⟨#[]⟩) := (HKwB.out.f (List.Mem.head _)).cell 4; have pz4 : wB.frozen? ⟨w.heap.size + 1 + 1, 4, none⟩ = false := (HKwB.out.f (List.Mem.head _)).frozen 4; have p5 : wB.cell? ⟨w.heap.size + 1 + 1, 5, none⟩ = some (.int .i64 0) := (HKwB.out.f (List.Mem.head _)).cell 5; have pz5 : wB.frozen? ⟨w.heap.size + 1 + 1, 5, none⟩ = false := (HKwB.out.f (List.Mem.head _)).frozen 5; have p6 : wB.cell? ⟨w.heap.size + 1 + 1, 6, none⟩ = some (.int .i64 M) := (HKwB.out.f (List.Mem.head _)).cell 6; have pz6 : wB.frozen? ⟨w.heap.size + 1 + 1, 6, none⟩ = false := (HKwB.out.f (List.Mem.head _)).frozen 6; have p7 : wB.cell? ⟨w.heap.size + 1 + 1, 7, none⟩ = some (.int .i64 j4) := (HKwB.out.f (List.Mem.head _)).cell 7; have pz7 : wB.frozen? ⟨w.heap.size + 1 + 1, 7, none⟩ = false := (HKwB.out.f (List.Mem.head _)).frozen 7; have pl : w.heap.size + 1 + 1 < wB.heap.size := (HKwB.out.f (List.Mem.head _)).lt; have r0 : wB.cell? ⟨w.heap.size + 1, 0, none⟩ = some (.int .i64 0) := (HKwB.out.f (List.Mem.tail _ (List.Mem.head _))).cell 0; have rz0 : wB.frozen? ⟨w.heap.size + 1, 0, none⟩ = false := (HKwB.out.f (List.Mem.tail _ (List.Mem.head _))).frozen 0; have r1 : wB.cell? ⟨w.heap.size + 1, 1, none⟩ = some (.int .i64 0) := (HKwB.out.f (List.Mem.tail _ (List.Mem.head _))).cell 1; have rz1 : wB.frozen? ⟨w.heap.size + 1, 1, none⟩ = false := (HKwB.out.f (List.Mem.tail _ (List.Mem.head _))).frozen 1; have r2 : wB.cell? ⟨w.heap.size + 1, 2, none⟩ = some (.int .i64 0) := (HKwB.out.f (List.Mem.tail _ (List.Mem.head _))).cell 2; have rz2 : wB.frozen? ⟨w.heap.size + 1, 2, none⟩ = false := (HKwB.out.f (List.Mem.tail _ (List.Mem.head _))).frozen 2; have r3 : wB.cell? ⟨w.heap.size + 1, 3, none⟩ = some (.bool false) := (HKwB.out.f (List.Mem.tail _ (List.Mem.head _))).cell 3; have rz3 : wB.frozen? ⟨w.heap.size + 1, 3, none⟩ = false := (HKwB.out.f (List.Mem.tail _ (List.Mem.head _))).frozen 3; have r4 : wB.cell? ⟨w.heap.size + 1, 4, none⟩ = some (.string ⟨#[]⟩) := (HKwB.out.f (List.Mem.tail _ (List.Mem.head _))).cell 4; have rz4 : wB.frozen? ⟨w.heap.size + 1, 4, none⟩ = false := (HKwB.out.f (List.Mem.tail _ (List.Mem.head _))).frozen 4; have r5 : wB.cell? ⟨w.heap.size + 1, 5, none⟩ = some (.int .i64 0) := (HKwB.out.f (List.Mem.tail _ (List.Mem.head _))).cell 5; have rz5 : wB.frozen? ⟨w.heap.size + 1, 5, none⟩ = false := (HKwB.out.f (List.Mem.tail _ (List.Mem.head _))).frozen 5; have r6 : wB.cell? ⟨w.heap.size + 1, 6, none⟩ = some (.int .i64 0) := (HKwB.out.f (List.Mem.tail _ (List.Mem.head _))).cell 6; have rz6 : wB.frozen? ⟨w.heap.size + 1, 6, none⟩ = false := (HKwB.out.f (List.Mem.tail _ (List.Mem.head _))).frozen 6; have r7 : wB.cell? ⟨w.heap.size + 1, 7, none⟩ = some (.int .i64 0) := (HKwB.out.f (List.Mem.tail _ (List.Mem.head _))).cell 7; have rz7 : wB.frozen? ⟨w.heap.size + 1, 7, none⟩ = false := (HKwB.out.f (List.Mem.tail _ (List.Mem.head _))).frozen 7; have rl : w.heap.size + 1 < wB.heap.size := (HKwB.out.f (List.Mem.tail _ (List.Mem.head _))).lt))
    all_goals
      have H3 : Hid (HeldL w [(w.heap.size + 1 + 1, #[.int .i64 2, .int .i64 j1, .int .i64 ((j1 : Int) + j2), .bool false, .string ⟨#[]⟩, .int .i64 0, .int .i64 M, .int .i64 j4]), (w.heap.size + 1, #[.int .i64 0, .int .i64 0, .int .i64 0, .bool false, .string ⟨#[]⟩, .int .i64 0, .int .i64 0, .int .i64 0]), (w.heap.size, #[.int .i64 k0, .int .i64 k1, .int .i64 k2, .int .i64 k3, .int .i64 k4, .int .i64 k5, .int .i64 k6])] wB) := HKwB
      clear HS1 HKwA HKwB H2
      go_wp2
      exact bodyPost_ret (v := .agg #[.int .i64 2, .int .i64 j1, .int .i64 ((j1 : Int) + j2), .bool g.neg, S g.l, .int .i64 g.e, .int .i64 M, .int .i64 j4]) (by simp [results, Tryz.results22, go_sem, r0, r1, r2, r3, r4, r5, r6, r7]) rfl ⟨rfl, (HeldL.store8 [_] [_] (HeldL.set1 (L1 := []) (L2 := [_, _]) (HeldL.set1 (L1 := []) (L2 := [_, _]) (HeldL.set1 (L1 := []) (L2 := [_, _]) H3.out 3 (.bool g.neg)) 4 (S g.l)) 5 (.int .i64 g.e)) (.int .i64 2) (.int .i64 j1) (.int .i64 ((j1 : Int) + j2)) (.bool g.neg) (S g.l) (.int .i64 g.e) (.int .i64 M) (.int .i64 j4)).bel⟩
  ·
    go_simp
    refine hK.out _ _ (ALL1.out _ (HeldL.skip (hH0.2.2.2.2.2.2.2) _)) (fun hHeld2 => ?_)
    clear hK hHeld
    have hHeld := hHeld2
    clear hHeld2
    try simp only [Act.put, List.setIfInBounds_toArray, List.set_cons_zero, List.set_cons_succ]
    refine wpAnyH_ready (rs := [10]) (by kernel_rfl) (by simp) ?_
    refine AllReadyH.cons (o := { dst := some 14, op := Go.Op.call { callee := Go.Callee.value (Go.Operand.func 11), args := #[Go.Operand.tmp 13], argTypes := #[3] }, type := 27, pos := "law.go:30", after := #[{ on := 9, ground := Go.Ground.data }], guard := none }) rfl (fun KK hK => ?_) AllReadyH.nil
    go_simp
    with_reducible refine (HM.out _).mono ?_
    rintro x wz ⟨rfl, rfl⟩
    go_wp2_with fail
    refine hK.out _ _ hHeld (fun _ => ?_)
    clear hK
    try simp only [Act.put, List.setIfInBounds_toArray, List.set_cons_zero, List.set_cons_succ]
    refine wpAnyH_take (i := 14) (oi := { dst := some 18, op := Go.Op.build 46 #[(0, Go.Operand.tmp 8), (1, Go.Operand.tmp 11), (4, Go.Operand.tmp 14), (5, Go.Operand.tmp 17)], type := 46, pos := "law.go:30", after := #[{ on := 4, ground := Go.Ground.data }, { on := 7, ground := Go.Ground.data }, { on := 10, ground := Go.Ground.data }, { on := 13, ground := Go.Ground.data }], guard := none }) (v := ?_) rfl (by kernel_rfl) (by kernel_rfl) (by kernel_rfl) (fun _ _ _ h => h) (Or.inl ⟨by rfl, ?_⟩) hHeld ?_
    case refine_2 => (intro w hSw; (try dsimp only at hSw); go_simp <;> with_reducible rfl)
    try simp only [Act.put, List.setIfInBounds_toArray, List.set_cons_zero, List.set_cons_succ]
    refine wpAnyH_ready (rs := [16]) (by kernel_rfl) (by simp) ?_
    refine AllReadyH.cons (o := { dst := none, op := Go.Op.store 46 (Go.Operand.tmp 3) (Go.Operand.tmp 18), type := 0, pos := "law.go:30", after := #[{ on := 15, ground := Go.Ground.data }, { on := 14, ground := Go.Ground.data }, { on := 10, ground := Go.Ground.chain }, { on := 0, ground := Go.Ground.phase }, { on := 1, ground := Go.Ground.phase }, { on := 2, ground := Go.Ground.phase }, { on := 3, ground := Go.Ground.phase }, { on := 4, ground := Go.Ground.phase }, { on := 5, ground := Go.Ground.phase }, { on := 6, ground := Go.Ground.phase }, { on := 7, ground := Go.Ground.phase }, { on := 8, ground := Go.Ground.phase }, { on := 9, ground := Go.Ground.phase }, { on := 10, ground := Go.Ground.phase }, { on := 11, ground := Go.Ground.phase }, { on := 12, ground := Go.Ground.phase }, { on := 13, ground := Go.Ground.phase }, { on := 14, ground := Go.Ground.phase }, { on := 15, ground := Go.Ground.phase }], guard := none }) rfl (fun KK hK => ?_) AllReadyH.nil
    go_simp
    refine hK.out _ _ (ALL1.out _ (HeldL.skip (hH0.2.2.2.2.2.2.2) _)) (fun hHeld2 => ?_)
    clear hK hHeld2
    try simp only [Act.put, List.setIfInBounds_toArray, List.set_cons_zero, List.set_cons_succ]
    refine wpAnyH_done (by kernel_rfl) ?_ _
    clear hHeld hH0 ALL1 HS1
    go_wp2_with fail
    have H2 : Hid (HeldL w [(w.heap.size + 1 + 1, #[.int .i64 2, .int .i64 j1, .int .i64 ((j1 : Int) + j2), .bool false, .string ⟨#[]⟩, .int .i64 0, .int .i64 M, .int .i64 j4]), (w.heap.size + 1, #[.int .i64 0, .int .i64 0, .int .i64 0, .bool false, .string ⟨#[]⟩, .int .i64 0, .int .i64 0, .int .i64 0]), (w.heap.size, #[.int .i64 k0, .int .i64 k1, .int .i64 k2, .int .i64 k3, .int .i64 k4, .int .i64 k5, .int .i64 k6])] ((((w.alloc (.cells #[.int .i64 k0, .int .i64 k1, .int .i64 k2, .int .i64 k3, .int .i64 k4, .int .i64 k5, .int .i64 k6] 43)).alloc (.cells #[.int .i64 0, .int .i64 0, .int .i64 0, .bool false, .string ⟨#[]⟩, .int .i64 0, .int .i64 0, .int .i64 0] 46)).alloc (.cells #[.int .i64 2, .int .i64 j1, .int .i64 ((j1 : Int) + j2), .bool false, .string ⟨#[]⟩, .int .i64 0, .int .i64 M, .int .i64 j4] 46)).drew)) := Lib.hid (HeldL.drew (HeldL.alloc (HeldL.alloc (HeldL.alloc (HeldL.refl w) _ _ _ rfl) _ _ _ (by simp)) _ _ _ (by simp)))
    generalize (((w.alloc (.cells #[.int .i64 k0, .int .i64 k1, .int .i64 k2, .int .i64 k3, .int .i64 k4, .int .i64 k5, .int .i64 k6] 43)).alloc (.cells #[.int .i64 0, .int .i64 0, .int .i64 0, .bool false, .string ⟨#[]⟩, .int .i64 0, .int .i64 0, .int .i64 0] 46)).alloc (.cells #[.int .i64 2, .int .i64 j1, .int .i64 ((j1 : Int) + j2), .bool false, .string ⟨#[]⟩, .int .i64 0, .int .i64 M, .int .i64 j4] 46)).drew = w2 at *
    have q0 : w2.cell? ⟨w.heap.size, 0, none⟩ = some (.int .i64 k0) := (H2.out.f (List.Mem.tail _ (List.Mem.tail _ (List.Mem.head _)))).cell 0
    have q1 : w2.cell? ⟨w.heap.size, 1, none⟩ = some (.int .i64 k1) := (H2.out.f (List.Mem.tail _ (List.Mem.tail _ (List.Mem.head _)))).cell 1
    have q2 : w2.cell? ⟨w.heap.size, 2, none⟩ = some (.int .i64 k2) := (H2.out.f (List.Mem.tail _ (List.Mem.tail _ (List.Mem.head _)))).cell 2
    have q3 : w2.cell? ⟨w.heap.size, 3, none⟩ = some (.int .i64 k3) := (H2.out.f (List.Mem.tail _ (List.Mem.tail _ (List.Mem.head _)))).cell 3
    have q4 : w2.cell? ⟨w.heap.size, 4, none⟩ = some (.int .i64 k4) := (H2.out.f (List.Mem.tail _ (List.Mem.tail _ (List.Mem.head _)))).cell 4
    have q5 : w2.cell? ⟨w.heap.size, 5, none⟩ = some (.int .i64 k5) := (H2.out.f (List.Mem.tail _ (List.Mem.tail _ (List.Mem.head _)))).cell 5
    have q6 : w2.cell? ⟨w.heap.size, 6, none⟩ = some (.int .i64 k6) := (H2.out.f (List.Mem.tail _ (List.Mem.tail _ (List.Mem.head _)))).cell 6
    have ql : w.heap.size < w2.heap.size := (H2.out.f (List.Mem.tail _ (List.Mem.tail _ (List.Mem.head _)))).lt
    have p0 : w2.cell? ⟨w.heap.size + 1 + 1, 0, none⟩ = some (.int .i64 2) := (H2.out.f (List.Mem.head _)).cell 0
    have pz0 : w2.frozen? ⟨w.heap.size + 1 + 1, 0, none⟩ = false := (H2.out.f (List.Mem.head _)).frozen 0
    have p1 : w2.cell? ⟨w.heap.size + 1 + 1, 1, none⟩ = some (.int .i64 j1) := (H2.out.f (List.Mem.head _)).cell 1
    have pz1 : w2.frozen? ⟨w.heap.size + 1 + 1, 1, none⟩ = false := (H2.out.f (List.Mem.head _)).frozen 1
    have p2 : w2.cell? ⟨w.heap.size + 1 + 1, 2, none⟩ = some (.int .i64 ((j1 : Int) + j2)) := (H2.out.f (List.Mem.head _)).cell 2
    have pz2 : w2.frozen? ⟨w.heap.size + 1 + 1, 2, none⟩ = false := (H2.out.f (List.Mem.head _)).frozen 2
    have p3 : w2.cell? ⟨w.heap.size + 1 + 1, 3, none⟩ = some (.bool false) := (H2.out.f (List.Mem.head _)).cell 3
    have pz3 : w2.frozen? ⟨w.heap.size + 1 + 1, 3, none⟩ = false := (H2.out.f (List.Mem.head _)).frozen 3
    have p4 : w2.cell? ⟨w.heap.size + 1 + 1, 4, none⟩ = some (.string ⟨#[]⟩) := (H2.out.f (List.Mem.head _)).cell 4
    have pz4 : w2.frozen? ⟨w.heap.size + 1 + 1, 4, none⟩ = false := (H2.out.f (List.Mem.head _)).frozen 4
    have p5 : w2.cell? ⟨w.heap.size + 1 + 1, 5, none⟩ = some (.int .i64 0) := (H2.out.f (List.Mem.head _)).cell 5
    have pz5 : w2.frozen? ⟨w.heap.size + 1 + 1, 5, none⟩ = false := (H2.out.f (List.Mem.head _)).frozen 5
    have p6 : w2.cell? ⟨w.heap.size + 1 + 1, 6, none⟩ = some (.int .i64 M) := (H2.out.f (List.Mem.head _)).cell 6
    have pz6 : w2.frozen? ⟨w.heap.size + 1 + 1, 6, none⟩ = false := (H2.out.f (List.Mem.head _)).frozen 6
    have p7 : w2.cell? ⟨w.heap.size + 1 + 1, 7, none⟩ = some (.int .i64 j4) := (H2.out.f (List.Mem.head _)).cell 7
    have pz7 : w2.frozen? ⟨w.heap.size + 1 + 1, 7, none⟩ = false := (H2.out.f (List.Mem.head _)).frozen 7
    have pl : w.heap.size + 1 + 1 < w2.heap.size := (H2.out.f (List.Mem.head _)).lt
    have r0 : w2.cell? ⟨w.heap.size + 1, 0, none⟩ = some (.int .i64 0) := (H2.out.f (List.Mem.tail _ (List.Mem.head _))).cell 0
    have rz0 : w2.frozen? ⟨w.heap.size + 1, 0, none⟩ = false := (H2.out.f (List.Mem.tail _ (List.Mem.head _))).frozen 0
    have r1 : w2.cell? ⟨w.heap.size + 1, 1, none⟩ = some (.int .i64 0) := (H2.out.f (List.Mem.tail _ (List.Mem.head _))).cell 1
    have rz1 : w2.frozen? ⟨w.heap.size + 1, 1, none⟩ = false := (H2.out.f (List.Mem.tail _ (List.Mem.head _))).frozen 1
    have r2 : w2.cell? ⟨w.heap.size + 1, 2, none⟩ = some (.int .i64 0) := (H2.out.f (List.Mem.tail _ (List.Mem.head _))).cell 2
    have rz2 : w2.frozen? ⟨w.heap.size + 1, 2, none⟩ = false := (H2.out.f (List.Mem.tail _ (List.Mem.head _))).frozen 2
    have r3 : w2.cell? ⟨w.heap.size + 1, 3, none⟩ = some (.bool false) := (H2.out.f (List.Mem.tail _ (List.Mem.head _))).cell 3
    have rz3 : w2.frozen? ⟨w.heap.size + 1, 3, none⟩ = false := (H2.out.f (List.Mem.tail _ (List.Mem.head _))).frozen 3
    have r4 : w2.cell? ⟨w.heap.size + 1, 4, none⟩ = some (.string ⟨#[]⟩) := (H2.out.f (List.Mem.tail _ (List.Mem.head _))).cell 4
    have rz4 : w2.frozen? ⟨w.heap.size + 1, 4, none⟩ = false := (H2.out.f (List.Mem.tail _ (List.Mem.head _))).frozen 4
    have r5 : w2.cell? ⟨w.heap.size + 1, 5, none⟩ = some (.int .i64 0) := (H2.out.f (List.Mem.tail _ (List.Mem.head _))).cell 5
    have rz5 : w2.frozen? ⟨w.heap.size + 1, 5, none⟩ = false := (H2.out.f (List.Mem.tail _ (List.Mem.head _))).frozen 5
    have r6 : w2.cell? ⟨w.heap.size + 1, 6, none⟩ = some (.int .i64 0) := (H2.out.f (List.Mem.tail _ (List.Mem.head _))).cell 6
    have rz6 : w2.frozen? ⟨w.heap.size + 1, 6, none⟩ = false := (H2.out.f (List.Mem.tail _ (List.Mem.head _))).frozen 6
    have r7 : w2.cell? ⟨w.heap.size + 1, 7, none⟩ = some (.int .i64 0) := (H2.out.f (List.Mem.tail _ (List.Mem.head _))).cell 7
    have rz7 : w2.frozen? ⟨w.heap.size + 1, 7, none⟩ = false := (H2.out.f (List.Mem.tail _ (List.Mem.head _))).frozen 7
    have rl : w.heap.size + 1 < w2.heap.size := (H2.out.f (List.Mem.tail _ (List.Mem.head _))).lt
    have HS2 : Hid (HeldL w [(w.heap.size + 1 + 1, #[.int .i64 2, .int .i64 j1, .int .i64 ((j1 : Int) + j2), .bool false, .string ⟨#[]⟩, .int .i64 0, .int .i64 M, .int .i64 j4]), (w.heap.size + 1, #[.int .i64 0, .int .i64 0, .int .i64 0, .bool false, .string ⟨#[]⟩, .int .i64 0, .int .i64 0, .int .i64 0]), (w.heap.size, #[.int .i64 k0, .int .i64 k1, .int .i64 k2, .int .i64 k3, .int .i64 k4, .int .i64 k5, .int .i64 k6])] _) := Lib.hid H2.out
    go_region_with (first | (go_at_call 19; (rw [show ((j5 : Int) + 1) = ((j5 + 1 : Nat) : Int) from rfl]); (with_reducible refine (ofN (j5 + 1) _ (by omega) (HT.out.below ((HeldL.drew HS2.out)).bel)).mono ?_); rintro x wA ⟨rfl, hb⟩; have HKwA : Hid (HeldL w [(w.heap.size + 1 + 1, #[.int .i64 2, .int .i64 j1, .int .i64 ((j1 : Int) + j2), .bool false, .string ⟨#[]⟩, .int .i64 0, .int .i64 M, .int .i64 j4]), (w.heap.size + 1, #[.int .i64 0, .int .i64 0, .int .i64 0, .bool false, .string ⟨#[]⟩, .int .i64 0, .int .i64 0, .int .i64 0]), (w.heap.size, #[.int .i64 k0, .int .i64 k1, .int .i64 k2, .int .i64 k3, .int .i64 k4, .int .i64 k5, .int .i64 k6])] wA) := Lib.hid (HeldL.keep (HeldL.drew HS2.out) hb); clear hb; have qwA0 : wA.cell? ⟨w.heap.size, 0, none⟩ = some (.int .i64 k0) := (HKwA.out.f (List.Mem.tail _ (List.Mem.tail _ (List.Mem.head _)))).cell 0; have qwA1 : wA.cell? ⟨w.heap.size, 1, none⟩ = some (.int .i64 k1) := (HKwA.out.f (List.Mem.tail _ (List.Mem.tail _ (List.Mem.head _)))).cell 1; have qwA2 : wA.cell? ⟨w.heap.size, 2, none⟩ = some (.int .i64 k2) := (HKwA.out.f (List.Mem.tail _ (List.Mem.tail _ (List.Mem.head _)))).cell 2; have qwA3 : wA.cell? ⟨w.heap.size, 3, none⟩ = some (.int .i64 k3) := (HKwA.out.f (List.Mem.tail _ (List.Mem.tail _ (List.Mem.head _)))).cell 3; have qwA4 : wA.cell? ⟨w.heap.size, 4, none⟩ = some (.int .i64 k4) := (HKwA.out.f (List.Mem.tail _ (List.Mem.tail _ (List.Mem.head _)))).cell 4; have qwA5 : wA.cell? ⟨w.heap.size, 5, none⟩ = some (.int .i64 k5) := (HKwA.out.f (List.Mem.tail _ (List.Mem.tail _ (List.Mem.head _)))).cell 5; have qwA6 : wA.cell? ⟨w.heap.size, 6, none⟩ = some (.int .i64 k6) := (HKwA.out.f (List.Mem.tail _ (List.Mem.tail _ (List.Mem.head _)))).cell 6; have qwAl : w.heap.size < wA.heap.size := (HKwA.out.f (List.Mem.tail _ (List.Mem.tail _ (List.Mem.head _)))).lt; have pwA0 : wA.cell? ⟨w.heap.size + 1 + 1, 0, none⟩ = some (.int .i64 2) := (HKwA.out.f (List.Mem.head _)).cell 0; have pzwA0 : wA.frozen? ⟨w.heap.size + 1 + 1, 0, none⟩ = false := (HKwA.out.f (List.Mem.head _)).frozen 0; have pwA1 : wA.cell? ⟨w.heap.size + 1 + 1, 1, none⟩ = some (.int .i64 j1) := (HKwA.out.f (List.Mem.head _)).cell 1; have pzwA1 : wA.frozen? ⟨w.heap.size + 1 + 1, 1, none⟩ = false := (HKwA.out.f (List.Mem.head _)).frozen 1; have pwA2 : wA.cell? ⟨w.heap.size + 1 + 1, 2, none⟩ = some (.int .i64 ((j1 : Int) + j2)) := (HKwA.out.f (List.Mem.head _)).cell 2; have pzwA2 : wA.frozen? ⟨w.heap.size + 1 + 1, 2, none⟩ = false := (HKwA.out.f (List.Mem.head _)).frozen 2; have pwA3 : wA.cell? ⟨w.heap.size + 1 + 1, 3, none⟩ = some (.bool false) := (HKwA.out.f (List.Mem.head _)).cell 3; have pzwA3 : wA.frozen? ⟨w.heap.size + 1 + 1, 3, none⟩ = false := (HKwA.out.f (List.Mem.head _)).frozen 3; have pwA4 : wA.cell? ⟨w.heap.size + 1 + 1, 4, none⟩ = some (.string ⟨#[]⟩) := (HKwA.out.f (List.Mem.head _)).cell 4; have pzwA4 : wA.frozen? ⟨w.heap.size + 1 + 1, 4, none⟩ = false := (HKwA.out.f (List.Mem.head _)).frozen 4; have pwA5 : wA.cell? ⟨w.heap.size + 1 + 1, 5, none⟩ = some (.int .i64 0) := (HKwA.out.f (List.Mem.head _)).cell 5; have pzwA5 : wA.frozen? ⟨w.heap.size + 1 + 1, 5, none⟩ = false := (HKwA.out.f (List.Mem.head _)).frozen 5; have pwA6 : wA.cell? ⟨w.heap.size + 1 + 1, 6, none⟩ = some (.int .i64 M) := (HKwA.out.f (List.Mem.head _)).cell 6; have pzwA6 : wA.frozen? ⟨w.heap.size + 1 + 1, 6, none⟩ = false := (HKwA.out.f (List.Mem.head _)).frozen 6; have pwA7 : wA.cell? ⟨w.heap.size + 1 + 1, 7, none⟩ = some (.int .i64 j4) := (HKwA.out.f (List.Mem.head _)).cell 7; have pzwA7 : wA.frozen? ⟨w.heap.size + 1 + 1, 7, none⟩ = false := (HKwA.out.f (List.Mem.head _)).frozen 7; have pwAl : w.heap.size + 1 + 1 < wA.heap.size := (HKwA.out.f (List.Mem.head _)).lt; have rwA0 : wA.cell? ⟨w.heap.size + 1, 0, none⟩ = some (.int .i64 0) := (HKwA.out.f (List.Mem.tail _ (List.Mem.head _))).cell 0; have rzwA0 : wA.frozen? ⟨w.heap.size + 1, 0, none⟩ = false := (HKwA.out.f (List.Mem.tail _ (List.Mem.head _))).frozen 0; have rwA1 : wA.cell? ⟨w.heap.size + 1, 1, none⟩ = some (.int .i64 0) := (HKwA.out.f (List.Mem.tail _ (List.Mem.head _))).cell 1; have rzwA1 : wA.frozen? ⟨w.heap.size + 1, 1, none⟩ = false := (HKwA.out.f (List.Mem.tail _ (List.Mem.head _))).frozen 1; have rwA2 : wA.cell? ⟨w.heap.size + 1, 2, none⟩ = some (.int .i64 0) := (HKwA.out.f (List.Mem.tail _ (List.Mem.head _))).cell 2; have rzwA2 : wA.frozen? ⟨w.heap.size + 1, 2, none⟩ = false := (HKwA.out.f (List.Mem.tail _ (List.Mem.head _))).frozen 2; have rwA3 : wA.cell? ⟨w.heap.size + 1, 3, none⟩ = some (.bool false) := (HKwA.out.f (List.Mem.tail _ (List.Mem.head _))).cell 3; have rzwA3 : wA.frozen? ⟨w.heap.size + 1, 3, none⟩ = false := (HKwA.out.f (List.Mem.tail _ (List.Mem.head _))).frozen 3; have rwA4 : wA.cell? ⟨w.heap.size + 1, 4, none⟩ = some (.string ⟨#[]⟩) := (HKwA.out.f (List.Mem.tail _ (List.Mem.head _))).cell 4; have rzwA4 : wA.frozen? ⟨w.heap.size + 1, 4, none⟩ = false := (HKwA.out.f (List.Mem.tail _ (List.Mem.head _))).frozen 4; have rwA5 : wA.cell? ⟨w.heap.size + 1, 5, none⟩ = some (.int .i64 0) := (HKwA.out.f (List.Mem.tail _ (List.Mem.head _))).cell 5; have rzwA5 : wA.frozen? ⟨w.heap.size + 1, 5, none⟩ = false := (HKwA.out.f (List.Mem.tail _ (List.Mem.head _))).frozen 5; have rwA6 : wA.cell? ⟨w.heap.size + 1, 6, none⟩ = some (.int .i64 0) := (HKwA.out.f (List.Mem.tail _ (List.Mem.head _))).cell 6; have rzwA6 : wA.frozen? ⟨w.heap.size + 1, 6, none⟩ = false := (HKwA.out.f (List.Mem.tail _ (List.Mem.head _))).frozen 6; have rwA7 : wA.cell? ⟨w.heap.size + 1, 7, none⟩ = some (.int .i64 0) := (HKwA.out.f (List.Mem.tail _ (List.Mem.head _))).cell 7; have rzwA7 : wA.frozen? ⟨w.heap.size + 1, 7, none⟩ = false := (HKwA.out.f (List.Mem.tail _ (List.Mem.head _))).frozen 7; have rwAl : w.heap.size + 1 < wA.heap.size := (HKwA.out.f (List.Mem.tail _ (List.Mem.head _))).lt) | (go_at_call 18; (with_reducible refine (made_as false ⟨(dig (j5 + 1)).toArray⟩ (k6.tmod 4 - 3) _ (by rw [arr_size]; exact dl) g (by rw [arr_list]; exact HG.out)).mono ?_); rintro x wB ⟨rfl, hb⟩; have HKwB : Hid (HeldL w [(w.heap.size + 1 + 1, #[.int .i64 2, .int .i64 j1, .int .i64 ((j1 : Int) + j2), .bool false, .string ⟨#[]⟩, .int .i64 0, .int .i64 M, .int .i64 j4]), (w.heap.size + 1, #[.int .i64 0, .int .i64 0, .int .i64 0, .bool false, .string ⟨#[]⟩, .int .i64 0, .int .i64 0, .int .i64 0]), (w.heap.size, #[.int .i64 k0, .int .i64 k1, .int .i64 k2, .int .i64 k3, .int .i64 k4, .int .i64 k5, .int .i64 k6])] wB) := Lib.hid (HeldL.keep HKwA.out hb); clear hb; have p0 : wB.cell? ⟨w.heap.size + 1 + 1, 0, none⟩ = some (.int .i64 2) := (HKwB.out.f (List.Mem.head _)).cell 0; have pz0 : wB.frozen? ⟨w.heap.size + 1 + 1, 0, none⟩ = false := (HKwB.out.f (List.Mem.head _)).frozen 0; have p1 : wB.cell? ⟨w.heap.size + 1 + 1, 1, none⟩ = some (.int .i64 j1) := (HKwB.out.f (List.Mem.head _)).cell 1; have pz1 : wB.frozen? ⟨w.heap.size + 1 + 1, 1, none⟩ = false := (HKwB.out.f (List.Mem.head _)).frozen 1; have p2 : wB.cell? ⟨w.heap.size + 1 + 1, 2, none⟩ = some (.int .i64 ((j1 : Int) + j2)) := (HKwB.out.f (List.Mem.head _)).cell 2; have pz2 : wB.frozen? ⟨w.heap.size + 1 + 1, 2, none⟩ = false := (HKwB.out.f (List.Mem.head _)).frozen 2; have p3 : wB.cell? ⟨w.heap.size + 1 + 1, 3, none⟩ = some (.bool false) := (HKwB.out.f (List.Mem.head _)).cell 3; have pz3 : wB.frozen? ⟨w.heap.size + 1 + 1, 3, none⟩ = false := (HKwB.out.f (List.Mem.head _)).frozen 3; have p4 : wB.cell? ⟨w.heap.size + 1 + 1, 4, none⟩ = some (.string ⟨#[]⟩) := (HKwB.out.f (List.Mem.head _)).cell 4; have pz4 : wB.frozen? ⟨w.heap.size + 1 + 1, 4, none⟩ = false := (HKwB.out.f (List.Mem.head _)).frozen 4; have p5 : wB.cell? ⟨w.heap.size + 1 + 1, 5, none⟩ = some (.int .i64 0) := (HKwB.out.f (List.Mem.head _)).cell 5; have pz5 : wB.frozen? ⟨w.heap.size + 1 + 1, 5, none⟩ = false := (HKwB.out.f (List.Mem.head _)).frozen 5; have p6 : wB.cell? ⟨w.heap.size + 1 + 1, 6, none⟩ = some (.int .i64 M) := (HKwB.out.f (List.Mem.head _)).cell 6; have pz6 : wB.frozen? ⟨w.heap.size + 1 + 1, 6, none⟩ = false := (HKwB.out.f (List.Mem.head _)).frozen 6; have p7 : wB.cell? ⟨w.heap.size + 1 + 1, 7, none⟩ = some (.int .i64 j4) := (HKwB.out.f (List.Mem.head _)).cell 7; have pz7 : wB.frozen? ⟨w.heap.size + 1 + 1, 7, none⟩ = false := (HKwB.out.f (List.Mem.head _)).frozen 7; have pl : w.heap.size + 1 + 1 < wB.heap.size := (HKwB.out.f (List.Mem.head _)).lt; have r0 : wB.cell? ⟨w.heap.size + 1, 0, none⟩ = some (.int .i64 0) := (HKwB.out.f (List.Mem.tail _ (List.Mem.head _))).cell 0; have rz0 : wB.frozen? ⟨w.heap.size + 1, 0, none⟩ = false := (HKwB.out.f (List.Mem.tail _ (List.Mem.head _))).frozen 0; have r1 : wB.cell? ⟨w.heap.size + 1, 1, none⟩ = some (.int .i64 0) := (HKwB.out.f (List.Mem.tail _ (List.Mem.head _))).cell 1; have rz1 : wB.frozen? ⟨w.heap.size + 1, 1, none⟩ = false := (HKwB.out.f (List.Mem.tail _ (List.Mem.head _))).frozen 1; have r2 : wB.cell? ⟨w.heap.size + 1, 2, none⟩ = some (.int .i64 0) := (HKwB.out.f (List.Mem.tail _ (List.Mem.head _))).cell 2; have rz2 : wB.frozen? ⟨w.heap.size + 1, 2, none⟩ = false := (HKwB.out.f (List.Mem.tail _ (List.Mem.head _))).frozen 2; have r3 : wB.cell? ⟨w.heap.size + 1, 3, none⟩ = some (.bool false) := (HKwB.out.f (List.Mem.tail _ (List.Mem.head _))).cell 3; have rz3 : wB.frozen? ⟨w.heap.size + 1, 3, none⟩ = false := (HKwB.out.f (List.Mem.tail _ (List.Mem.head _))).frozen 3; have r4 : wB.cell? ⟨w.heap.size + 1, 4, none⟩ = some (.string ⟨#[]⟩) := (HKwB.out.f (List.Mem.tail _ (List.Mem.head _))).cell 4; have rz4 : wB.frozen? ⟨w.heap.size + 1, 4, none⟩ = false := (HKwB.out.f (List.Mem.tail _ (List.Mem.head _))).frozen 4; have r5 : wB.cell? ⟨w.heap.size + 1, 5, none⟩ = some (.int .i64 0) := (HKwB.out.f (List.Mem.tail _ (List.Mem.head _))).cell 5; have rz5 : wB.frozen? ⟨w.heap.size + 1, 5, none⟩ = false := (HKwB.out.f (List.Mem.tail _ (List.Mem.head _))).frozen 5; have r6 : wB.cell? ⟨w.heap.size + 1, 6, none⟩ = some (.int .i64 0) := (HKwB.out.f (List.Mem.tail _ (List.Mem.head _))).cell 6; have rz6 : wB.frozen? ⟨w.heap.size + 1, 6, none⟩ = false := (HKwB.out.f (List.Mem.tail _ (List.Mem.head _))).frozen 6; have r7 : wB.cell? ⟨w.heap.size + 1, 7, none⟩ = some (.int .i64 0) := (HKwB.out.f (List.Mem.tail _ (List.Mem.head _))).cell 7; have rz7 : wB.frozen? ⟨w.heap.size + 1, 7, none⟩ = false := (HKwB.out.f (List.Mem.tail _ (List.Mem.head _))).frozen 7; have rl : w.heap.size + 1 < wB.heap.size := (HKwB.out.f (List.Mem.tail _ (List.Mem.head _))).lt))
    all_goals
      have H3 : Hid (HeldL w [(w.heap.size + 1 + 1, #[.int .i64 2, .int .i64 j1, .int .i64 ((j1 : Int) + j2), .bool false, .string ⟨#[]⟩, .int .i64 0, .int .i64 M, .int .i64 j4]), (w.heap.size + 1, #[.int .i64 0, .int .i64 0, .int .i64 0, .bool false, .string ⟨#[]⟩, .int .i64 0, .int .i64 0, .int .i64 0]), (w.heap.size, #[.int .i64 k0, .int .i64 k1, .int .i64 k2, .int .i64 k3, .int .i64 k4, .int .i64 k5, .int .i64 k6])] wB) := HKwB
      clear HS2 HKwA HKwB H2
      go_wp2
      exact bodyPost_ret (v := .agg #[.int .i64 2, .int .i64 j1, .int .i64 ((j1 : Int) + j2), .bool g.neg, S g.l, .int .i64 g.e, .int .i64 M, .int .i64 j4]) (by simp [results, Tryz.results22, go_sem, r0, r1, r2, r3, r4, r5, r6, r7]) rfl ⟨rfl, (HeldL.store8 [_] [_] (HeldL.set1 (L1 := []) (L2 := [_, _]) (HeldL.set1 (L1 := []) (L2 := [_, _]) (HeldL.set1 (L1 := []) (L2 := [_, _]) H3.out 3 (.bool g.neg)) 4 (S g.l)) 5 (.int .i64 g.e)) (.int .i64 2) (.int .i64 j1) (.int .i64 ((j1 : Int) + j2)) (.bool g.neg) (S g.l) (.int .i64 g.e) (.int .i64 M) (.int .i64 j4)).bel⟩

end Go.Proofs.YtfbfjkacaadbpaaGreatDoor

namespace Go.Proofs.YtfbfjkacaadbpaaGreatDoor
open Go.RowKit Florin
set_option linter.unusedVariables false

theorem wrap_same (t : Int) : IntKind.i64.wrap t = wrap64 t := by rw [IntKind.wrap_i64]; unfold wrap64; omega
/-- What the laws ask, of small numbers. -/
structure Asked (p : Prc) : Prop where
  ok : validP p = true
  mn8 : p.mn ≤ 8
  mx15 : p.mx ≤ 15
  mx0 : 0 ≤ p.mx
  mi7 : p.mi ≤ 7
  il : p.inc.l.length ≤ 100
  inn : p.kind = 2 → made p.inc.neg p.inc.l p.inc.e = p.inc ∧ p.inc.neg = false ∧ -6 ≤ p.inc.e ∧ p.inc.e ≤ 6 ∧ 1 ≤ val p.inc.l ∧ val p.inc.l ≤ 1000000000
theorem prec_any (k0 k1 k2 k3 k4 k5 k6 : Int) : ∃ p : Prc, Asked p ∧ ∀ w : World, Tab w → Calls Tryz.prog 22 #[.agg #[.int .i64 k0, .int .i64 k1, .int .i64 k2, .int .i64 k3, .int .i64 k4, .int .i64 k5, .int .i64 k6]] w fun z w' => z = .returned (PV p) ∧ Below w.heap.size w w' := by
  have hk := u64_mod k0 3 (by decide) (by decide)
  rw [← wrap_same] at hk
  obtain ⟨j1, l1, hj1⟩ := and_mask k1 7 (by decide)
  obtain ⟨j2, l2, hj2⟩ := and_mask k2 7 (by decide)
  obtain ⟨j4, l4, hj4⟩ := and_mask k4 7 (by decide)
  obtain ⟨j5, l5, hj5⟩ := and_mask k5 65535 (by decide)
  obtain ⟨M, m0, m6, hM⟩ := mode_as k3
  have hk3 : IntKind.i64.wrap ((IntKind.u64.wrap k0).tmod 3) = 0 ∨ IntKind.i64.wrap ((IntKind.u64.wrap k0).tmod 3) = 1 ∨ IntKind.i64.wrap ((IntKind.u64.wrap k0).tmod 3) = 2 := by omega
  rcases hk3 with h | h | h
  · refine ⟨⟨0, j1, j1 + j2, zero, M, j4⟩, ⟨?_, by simp only; omega, by simp only; omega, by simp only; omega, by simp only; omega, by show ([] : List UInt8).length ≤ 100; decide, fun h => by simp at h⟩, fun w ht => prec_0 k0 k1 k2 k3 k4 k5 k6 w h j1 j2 j4 hj1 hj2 hj4 l1 l2 l4 M hM ht⟩
    unfold validP vm wi
    simp only [if_true, Bool.and_eq_true, decide_eq_true_eq]
    omega
  · refine ⟨⟨1, j1 + 1, j1 + 1 + j2, zero, M, j4⟩, ⟨?_, by simp only; omega, by simp only; omega, by simp only; omega, by simp only; omega, by show ([] : List UInt8).length ≤ 100; decide, fun h => by simp at h⟩, fun w ht => prec_1 k0 k1 k2 k3 k4 k5 k6 w h j1 j2 j4 hj1 hj2 hj4 l1 l2 l4 M hM ht⟩
    unfold validP vm wi
    simp only [Int.reduceEq, if_false, if_true, Bool.and_eq_true, decide_eq_true_eq]
    omega
  · have t1 := Int.tmod_lt_of_pos k6 (show (0 : Int) < 4 by decide)
    have t2 := Int.lt_tmod_of_pos k6 (show (0 : Int) < 4 by decide)
    have dl : (dig (j5 + 1)).length ≤ 6 := (dig_length_le _ _).2 (Nat.lt_of_le_of_lt (show j5 + 1 ≤ 65536 by omega) (by decide))
    have he := made_e_le false (dig (j5 + 1)) (k6.tmod 4 - 3) (by omega) (by omega) (by omega)
    have hl := made_length false (dig (j5 + 1)) (k6.tmod 4 - 3)
    have hid := made_idem false (dig (j5 + 1)) (k6.tmod 4 - 3)
    have hdg := made_isDig false (dig (j5 + 1)) (k6.tmod 4 - 3)
    have hpos : bare (dig (j5 + 1)) ≠ [] := by rw [bare_of_dig, Ne, dig_eq_nil]; omega
    have hneg : (made false (dig (j5 + 1)) (k6.tmod 4 - 3)).neg = false := by rw [made_pos _ _ hpos]
    have hne : (made false (dig (j5 + 1)) (k6.tmod 4 - 3)).l ≠ [] := by
      rw [made_pos _ _ hpos]; simp only; rw [bare_of_dig]; exact rt_ne_nil (by rw [val_dig]; omega)
    obtain ⟨g, hg⟩ : ∃ g, made false (dig (j5 + 1)) (k6.tmod 4 - 3) = g := ⟨_, rfl⟩
    rw [hg] at he hl hid hdg hneg hne
    have hvi : vinc g = true := by
      unfold vinc wi
      rw [hneg, ne_empty hne]
      simp only [Bool.not_false, Bool.true_and, Bool.and_eq_true, decide_eq_true_eq]
      omega
    have hvi2 : vinc (made g.neg g.l g.e) = true := by rw [hid]; exact hvi
    obtain ⟨v1, v2, v3, v4, v5⟩ := vinc_val hvi2
    rw [hid] at v1 v2
    refine ⟨⟨2, j1, j1 + j2, g, M, j4⟩, ⟨?_, by simp only; omega, by simp only; omega, by simp only; omega, by simp only; omega, by simp only; omega, fun _ => ⟨hid, hneg, by simp only; omega, by simp only; omega, v1, v2⟩⟩, fun w ht => prec_2 k0 k1 k2 k3 k4 k5 k6 w h j1 j2 j4 hj1 hj2 hj4 l1 l2 l4 M hM ht j5 hj5 l5 (by omega) (by omega) g hg⟩
    unfold validP vm wi
    simp only [Int.reduceEq, if_false, if_true, Bool.and_eq_true, decide_eq_true_eq]
    exact ⟨⟨m0, m6⟩, ⟨by omega, by omega⟩, ⟨by omega, by omega⟩, hvi2⟩

theorem zs_add (m k : Nat) (l : List UInt8) : zs m ++ (zs k ++ l) = zs (m + k) ++ l := by
  unfold zs; rw [← List.append_assoc, List.replicate_append_replicate]
theorem nrm_of {b : Bool} {l : List UInt8} {e : Int} (h : Nrm ⟨b, l, e⟩) (t z : Nat) (h1 : -30000 ≤ e - t) (h2 : e - t ≤ 30000) : made b (zs z ++ l ++ zs t) (e - t) = ⟨b, l, e⟩ := by
  have hd : isDig (zs z ++ l ++ zs t) = true := by rw [isDig_append, isDig_append, isDig_zs, isDig_zs, h.dg]; rfl
  have hz : ∀ z, trim (zs z ++ l ++ zs t) = l ++ zs t := by
    intro z
    induction z with
    | zero =>
      cases hl : l with
      | nil => exact absurd hl h.ne
      | cons c r => exact trim_cons _ (h.hd c r hl)
    | succ z ih => rw [show zs (z + 1) ++ l ++ zs t = 48 :: (zs z ++ l ++ zs t) by simp [zs, List.replicate_succ], trim_cons_zero, ih]
  have hb : bare (zs z ++ l ++ zs t) = l ++ zs t := by unfold bare; rw [if_pos hd, hz]
  have hr : rt (l ++ zs t) = l := by rw [rt_app_zs]; exact rt_last h.lst
  have lo := h.lo
  have hi := h.hi
  simp only at lo hi
  rw [made_pos _ _ (by rw [hb]; simp [h.ne]), hb, hr, hld_of (e := e - t) (by omega) (by omega)]
  rw [hld_of (by rw [List.length_append, zs_length]; omega) (by rw [List.length_append, zs_length]; omega)]
  congr 1
  rw [List.length_append, zs_length]; omega
theorem rt_tail {a l : List UInt8} (h : ∀ t c, l = t ++ [c] → c ≠ 48) (hne : l ≠ []) : rt (a ++ l) = a ++ l := by
  rcases List.eq_nil_or_concat l with h0 | ⟨t, c, h0⟩
  · exact absurd h0 hne
  · rw [List.concat_eq_append] at h0
    rw [h0, ← List.append_assoc]; exact rt_snoc _ (h t c h0)
/-- The value of what is shown is what was rounded. -/
theorem value_vis (p : Prc) (g : Tri) (h : g = zero ∨ Nrm g) : made (visP p g).neg ((visP p g).i ++ rt (visP p g).f) (-((rt (visP p g).f).length : Int)) = g := by
  unfold visP
  simp only
  rcases h with rfl | h
  · have hp : partsT zero = ([], []) := by decide
    rw [hp]
    simp only [List.append_nil, List.nil_append]
    have hr : ∀ n, rt (zs n) = [] := fun n => by have := rt_app_zs [] n; simpa [rt_nil] using this
    rw [hr]
    simp only [List.append_nil]
    refine made_zero _ _ ?_
    split
    · decide
    · unfold bare
      rw [if_pos (isDig_zs _)]
      have : ∀ n, trim (zs n) = [] := by
        intro n; induction n with
        | zero => rfl
        | succ n ih => rw [show zs (n + 1) = 48 :: zs n from rfl, trim_cons_zero, ih]
      exact this _
  · obtain ⟨b, l, e⟩ := g
    have lo := h.lo
    have hi := h.hi
    simp only at lo hi
    have hne : l ≠ [] := h.ne
    unfold partsT
    simp only
    by_cases h0 : 0 ≤ e
    · rw [if_pos h0]
      simp only [List.nil_append]
      rw [show rt (zs (mfrac p ⟨b, l, e⟩ - (([] : List UInt8).length : Int)).toNat) = [] by have := rt_app_zs [] (mfrac p ⟨b, l, e⟩ - (([] : List UInt8).length : Int)).toNat; simpa [rt_nil] using this]
      rw [if_neg (fun hh => hne (by have := (List.append_eq_nil_iff.1 hh.1).2; exact (List.append_eq_nil_iff.1 this).1))]
      have := nrm_of h e.toNat (p.mi - ((l ++ zs e.toNat).length : Int)).toNat (by omega) (by omega)
      rw [show e - (e.toNat : Int) = 0 by omega] at this
      simp only [List.append_nil, List.length_nil]
      rw [← List.append_assoc]
      exact this
    · rw [if_neg h0]
      by_cases hp : (l.length : Int) + e ≤ 0
      · rw [if_pos hp]
        simp only [List.append_nil]
        rw [if_neg (fun hh => hne (by have := (List.append_eq_nil_iff.1 hh.2).1; exact (List.append_eq_nil_iff.1 this).2)), rt_app_zs, rt_tail h.lst hne]
        have := nrm_of h 0 ((p.mi - (([] : List UInt8).length : Int)).toNat + (-((l.length : Int) + e)).toNat) (by omega) (by omega)
        simp only [zs_zero, List.append_nil] at this
        rw [zs_add, List.length_append, zs_length]
        rw [show -((((-((l.length : Int) + e)).toNat + l.length : Nat) : Int)) = e - ((0 : Nat) : Int) by omega]
        exact this
      · rw [if_neg hp]
        simp only
        have hlen : 0 < l.length := List.length_pos_iff.2 hne
        obtain ⟨q, hq⟩ : ∃ q : Nat, ((l.length : Int) + e).toNat = q := ⟨_, rfl⟩
        rw [hq]
        have hqb : q < l.length ∧ 0 < q := by omega
        have hdne : l.drop q ≠ [] := by intro hh; have := congrArg List.length hh; rw [List.length_drop, List.length_nil] at this; omega
        have htl : ∀ t c, l.drop q = t ++ [c] → c ≠ 48 := by
          intro t c hh
          refine h.lst (l.take q ++ t) c ?_
          show l = _
          rw [List.append_assoc, ← hh, List.take_append_drop]
        rw [if_neg (fun hh => hdne (List.append_eq_nil_iff.1 hh.2).1), rt_app_zs]
        have hrd : rt (l.drop q) = l.drop q := rt_last htl
        rw [hrd, List.append_assoc, List.take_append_drop, List.length_drop]
        have := nrm_of h 0 (p.mi - ((l.take q).length : Int)).toNat (by omega) (by omega)
        simp only [zs_zero, List.append_nil] at this
        rw [show -(((l.length - q : Nat) : Int)) = e - ((0 : Nat) : Int) by omega]
        exact this
theorem vis_len (p : Prc) (hp : Asked p) (g : Tri) (hl : g.l.length ≤ 1000) (h1 : -500 ≤ g.e) (h2 : g.e ≤ 1000) : (visP p g).i.length ≤ 2500 ∧ (visP p g).f.length ≤ 2000 := by
  obtain ⟨_, hi, hn, _⟩ := validP_parts hp.ok
  have m8 := hp.mn8
  have m7 := hp.mi7
  have hF : mfrac p g ≤ 600 := by
    unfold mfrac
    split
    · split
      · omega
      · rename_i hne
        have := List.length_pos_iff.2 hne
        omega
    · omega
  have ha : (partsT g).1.length ≤ 2000 ∧ (partsT g).2.length ≤ 500 := by
    unfold partsT
    split
    · simp only [List.length_append, zs_length, List.length_nil]; omega
    · split
      · simp only [List.length_append, zs_length, List.length_nil]; omega
      · simp only [List.length_take, List.length_drop]; omega
  unfold visP
  simp only
  constructor
  · split
    · decide
    · rw [List.length_append, zs_length]; omega
  · rw [List.length_append, zs_length]; omega
end Go.Proofs.YtfbfjkacaadbpaaGreatDoor

namespace Go.Proofs.YtfbfjkacaadbpaaGreatDoor
open Go.RowKit Florin
set_option linter.unusedVariables false

theorem fitM {M : Nat} {z : Int} (hM : M ≤ 20000) (h : z.natAbs < 10 ^ M) : Fit 200 z := Fit.of (m := M) (by decide) h (by omega)
theorem nfNrm {z : Int} (hf : Fit 200 z) (h : z ≠ 0) : Nrm (nf 200 z) := by
  unfold nf
  rcases made_nrm (decide (z < 0)) (dig z.natAbs) (-((200 : Nat) : Int)) with h1 | h1
  · exact absurd ((nf_l_nil hf).1 (by unfold nf; rw [h1]; rfl)) h
  · exact h1
theorem nfOr {z : Int} (hf : Fit 200 z) : nf 200 z = zero ∨ Nrm (nf 200 z) := by
  by_cases h : z = 0
  · subst h; exact .inl (nf_zero 200)
  · exact .inr (nfNrm hf h)
/-- Where a number's first digit stands. -/
theorem nf_first {z : Int} (hf : Fit 200 z) (h : z ≠ 0) : ∃ s : Nat, ((s : Int) = (nf 200 z).e + ((nf 200 z).l.length : Int) - 1 + 200) ∧ 10 ^ s ≤ z.natAbs ∧ z.natAbs < 10 ^ (s + 1) := by
  obtain ⟨t, h1, h2, h3, h4⟩ := nf_pos hf h
  have nr := nfNrm hf h
  have hp := List.length_pos_iff.2 nr.ne
  have hl : (nf 200 z).l.length = (rt (dig z.natAbs)).length := by rw [h1]
  have he : (nf 200 z).e = (t : Int) - 200 := by rw [h1]; rfl
  refine ⟨(dig z.natAbs).length - 1, by omega, ?_, ?_⟩
  · rcases Nat.lt_or_ge z.natAbs (10 ^ ((dig z.natAbs).length - 1)) with hlt | hge
    · have := (dig_length_le z.natAbs ((dig z.natAbs).length - 1)).2 hlt; omega
    · exact hge
  · rw [show (dig z.natAbs).length - 1 + 1 = (dig z.natAbs).length by omega]
    exact (dig_length_le _ _).1 (Nat.le_refl _)
/-- A power of ten that a unit of so many digits less divides. -/
theorem sig_between (m : Int) {X : Int} {U s : Nat} (hU : 0 < U) (hd : U ∣ 10 ^ s) (h1 : 10 ^ s ≤ X.natAbs) (h2 : X.natAbs < 10 ^ (s + 1)) :
    (0 < X → (10 ^ s : Nat) ≤ rz m U X ∧ rz m U X ≤ (10 ^ (s + 1) : Nat)) ∧ (X < 0 → rz m U X ≤ -((10 ^ s : Nat) : Int) ∧ -((10 ^ (s + 1) : Nat) : Int) ≤ rz m U X) := by
  have hd2 : U ∣ 10 ^ (s + 1) := Nat.dvd_trans hd (by rw [Nat.pow_succ]; exact Nat.dvd_mul_right _ _)
  have e1 : ((10 ^ s : Nat) : Int) % (U : Int) = 0 := Int.emod_eq_zero_of_dvd (Int.natCast_dvd_natCast.2 hd)
  have e2 : ((10 ^ (s + 1) : Nat) : Int) % (U : Int) = 0 := Int.emod_eq_zero_of_dvd (Int.natCast_dvd_natCast.2 hd2)
  have e3 : -((10 ^ s : Nat) : Int) % (U : Int) = 0 := Int.emod_eq_zero_of_dvd (Int.dvd_neg.2 (Int.natCast_dvd_natCast.2 hd))
  have e4 : -((10 ^ (s + 1) : Nat) : Int) % (U : Int) = 0 := Int.emod_eq_zero_of_dvd (Int.dvd_neg.2 (Int.natCast_dvd_natCast.2 hd2))
  have hu : (0 : Int) < U := by omega
  generalize hA : 10 ^ s = A at *
  generalize hB : 10 ^ (s + 1) = B at *
  constructor
  · intro hx
    have a := rz_mono m U (X := (A : Int)) (Y := X) hu (by omega)
    have b := rz_mono m U (X := X) (Y := (B : Int)) hu (by omega)
    rw [rz_self e1] at a
    rw [rz_self e2] at b
    exact ⟨a, b⟩
  · intro hx
    have a := rz_mono m U (X := X) (Y := -(A : Int)) hu (by omega)
    have b := rz_mono m U (X := -(B : Int)) (Y := X) hu (by omega)
    rw [rz_self e3] at a
    rw [rz_self e4] at b
    exact ⟨a, b⟩
/-- Of Frac and Step one unit serves all numbers. -/
theorem one_unit (p : Prc) (hp : Asked p) (hk : ¬ p.kind = 1) (N : Nat) (hN : N = 400) : ∃ U : Nat, 0 < U ∧ U < 10 ^ N ∧ ∀ X : Int, X.natAbs < 10 ^ (N + 2) → roundP p (nf 200 X) = nf 200 (rz p.mode U X) := by
  obtain ⟨⟨m0, m6⟩, _, _, hkk⟩ := validP_parts hp.ok
  have x0 := hp.mx0
  have x15 := hp.mx15
  have fit : ∀ (U : Nat) (X : Int), 0 < U → U < 10 ^ N → X.natAbs < 10 ^ (N + 2) → Fit 200 (rz p.mode U X) := fun U X h0 h hX => fitM (M := N + 3) (by omega) (rz_lt (U := (U : Int)) (by omega) hX (by rw [Int.natAbs_natCast]; exact Nat.le_of_lt (Nat.lt_of_lt_of_le h (Nat.pow_le_pow_right (by decide) (by omega)))))
  rcases hkk with ⟨k, b1, b2⟩ | ⟨k, _⟩ | ⟨k, b⟩
  · refine ⟨1 * 10 ^ (-p.mx + ((200 : Nat) : Int)).toNat, Nat.mul_pos (by decide) (pow_pos' _), ?_, fun X hX => ?_⟩
    · rw [Nat.one_mul]; exact (Nat.pow_lt_pow_iff_right (by decide)).2 (by omega)
    · unfold roundP
      rw [if_pos k, hld_of (by omega) (by omega)]
      refine mulT_nf (fitM (M := N + 2) (by omega) hX) 1 (by decide) (-p.mx) p.mode (by omega) m0 m6 _ rfl (fit _ X (Nat.mul_pos (by decide) (pow_pos' _)) ?_ hX)
      rw [Nat.one_mul]; exact (Nat.pow_lt_pow_iff_right (by decide)).2 (by omega)
  · exact absurd k hk
  · obtain ⟨i1, i2, i3, i4, i5, i6⟩ := hp.inn k
    have u1 : val p.inc.l * 10 ^ (p.inc.e + ((200 : Nat) : Int)).toNat < 10 ^ N := by
      have a1 : val p.inc.l < 10 ^ 10 := Nat.lt_of_le_of_lt i6 (by decide)
      have a2 : val p.inc.l * 10 ^ (p.inc.e + ((200 : Nat) : Int)).toNat < 10 ^ 10 * 10 ^ (p.inc.e + ((200 : Nat) : Int)).toNat := Nat.mul_lt_mul_of_pos_right a1 (pow_pos' _)
      rw [← Nat.pow_add] at a2
      exact Nat.lt_of_lt_of_le a2 (Nat.pow_le_pow_right (by decide) (by omega))
    refine ⟨val p.inc.l * 10 ^ (p.inc.e + ((200 : Nat) : Int)).toNat, Nat.mul_pos (by omega) (pow_pos' _), u1, fun X hX => ?_⟩
    unfold roundP
    rw [if_neg (by omega), if_neg (by omega), i1]
    exact mulT_nf (fitM (M := N + 2) (by omega) hX) _ (by omega) _ p.mode (by omega) m0 m6 _ rfl (fit _ X (Nat.mul_pos (by omega) (pow_pos' _)) u1 hX)
/-- Of Sig the unit hangs on the first digit. -/
theorem sig_unit (p : Prc) (hp : Asked p) (hk : p.kind = 1) (N : Nat) (hN : N = 400) (X : Int) (hX : X.natAbs < 10 ^ (N + 2)) (h0 : X ≠ 0) (s : Nat) (hs : (s : Int) = (nf 200 X).e + ((nf 200 X).l.length : Int) - 1 + 200) (s1 : 100 ≤ s) (s2 : s ≤ 401) : ∃ U : Nat, 0 < U ∧ U = 10 ^ (s + 1 - p.mx.toNat) ∧ U ∣ 10 ^ s ∧ roundP p (nf 200 X) = nf 200 (rz p.mode U X) := by
  obtain ⟨⟨m0, m6⟩, _, _, hkk⟩ := validP_parts hp.ok
  have x15 := hp.mx15
  have hb : 1 ≤ p.mn ∧ p.mn ≤ p.mx := by rcases hkk with ⟨k, _⟩ | ⟨k, a, b, c⟩ | ⟨k, _⟩; omega; exact ⟨a, b⟩; omega
  have fX := fitM (M := N + 2) (by omega) hX
  have nr := nfNrm fX h0
  refine ⟨10 ^ (s + 1 - p.mx.toNat), pow_pos' _, rfl, Nat.pow_dvd_pow 10 (by omega), ?_⟩
  unfold roundP sigT
  rw [if_neg (by omega), if_pos hk, if_neg nr.ne, show min (max p.mx 1) 30000 = p.mx by omega, hld_of (by omega) (by omega)]
  refine mulT_nf fX 1 (by decide) _ p.mode (by omega) m0 m6 _ ?_ ?_
  · rw [Nat.one_mul]; congr 1; omega
  · refine fitM (M := N + 3) (by omega) (rz_lt (N := N + 2) (by have := pow_pos' (s + 1 - p.mx.toNat); omega) hX ?_)
    rw [Int.natAbs_natCast]; exact Nat.pow_le_pow_right (by decide) (by omega)
/-- What is shown of a number; of it the same is shown. -/
theorem shown_again (p : Prc) (hp : Asked p) (N : Nat) (hN : N = 400) (X : Int) (hX : X.natAbs < 10 ^ N) (hG : X ≠ 0 → 10 ^ 100 ≤ X.natAbs) : ∃ R : Int, R.natAbs < 10 ^ (N + 1) ∧ roundP p (nf 200 X) = nf 200 R ∧ roundP p (nf 200 R) = nf 200 R := by
  have hX2 : X.natAbs < 10 ^ (N + 2) := Nat.lt_of_lt_of_le hX (Nat.pow_le_pow_right (by decide) (by omega))
  have up : ∀ R : Int, R.natAbs < 10 ^ (N + 1) → R.natAbs < 10 ^ (N + 2) := fun R h => Nat.lt_of_lt_of_le h (Nat.pow_le_pow_right (by decide) (by omega))
  by_cases hk : p.kind = 1
  · by_cases h0 : X = 0
    · subst h0
      have hz : roundP p (nf 200 0) = nf 200 0 := by rw [nf_zero]; unfold roundP; rw [if_neg (by omega), if_pos hk]; rfl
      exact ⟨0, by have := pow_pos' (N + 1); simpa using this, hz, hz⟩
    · obtain ⟨s, hs, l1, l2⟩ := nf_first (fitM (M := N) (by omega) hX) h0
      have s1 : 100 ≤ s := by
        have := Nat.lt_of_le_of_lt (hG h0) l2
        have := (Nat.pow_lt_pow_iff_right (by decide : 1 < 10)).1 this
        omega
      have s2 : s < N := (Nat.pow_lt_pow_iff_right (by decide : 1 < 10)).1 (Nat.lt_of_le_of_lt l1 hX)
      obtain ⟨U, u0, hU, hd, hr⟩ := sig_unit p hp hk N hN X hX2 h0 s hs s1 (by omega)
      have bt := sig_between p.mode u0 hd l1 l2
      have hRb : 10 ^ s ≤ (rz p.mode U X).natAbs ∧ (rz p.mode U X).natAbs ≤ 10 ^ (s + 1) := by
        generalize 10 ^ s = A at *
        generalize 10 ^ (s + 1) = B at *
        rcases Int.lt_or_gt_of_ne h0 with h | h
        · have := bt.2 h; omega
        · have := bt.1 h; omega
      have hR0 : rz p.mode U X ≠ 0 := by intro h; rw [h] at hRb; simp at hRb
      have hR1 : (rz p.mode U X).natAbs < 10 ^ (N + 1) := Nat.lt_of_le_of_lt hRb.2 ((Nat.pow_lt_pow_iff_right (by decide)).2 (by omega))
      refine ⟨_, hR1, hr, ?_⟩
      have hdv := rz_dvd p.mode U X (by omega)
      have hag := rz_again p.mode U X (by omega)
      generalize rz p.mode U X = R at *
      obtain ⟨s', hs', l1', l2'⟩ := nf_first (fitM (M := N + 1) (by omega) hR1) hR0
      have hge : s ≤ s' := by
        have := (Nat.pow_lt_pow_iff_right (by decide : 1 < 10)).1 (Nat.lt_of_le_of_lt hRb.1 l2'); omega
      have hle : s' ≤ s + 1 := (Nat.pow_le_pow_iff_right (by decide : 1 < 10)).1 (Nat.le_trans l1' hRb.2)
      obtain ⟨U', u0', hU', hd', hr'⟩ := sig_unit p hp hk N hN R (up R hR1) hR0 s' hs' (by omega) (by omega)
      rw [hr']
      congr 1
      by_cases he : s' = s
      · have : U' = U := by rw [hU', hU, he]
        rw [this]; exact hag
      · have hs1 : s' = s + 1 := by omega
        have hRe : R.natAbs = 10 ^ s' := by rw [hs1] at l1' ⊢; exact Nat.le_antisymm hRb.2 l1'
        refine rz_self (Int.emod_eq_zero_of_dvd ?_)
        rw [← Int.dvd_natAbs, hRe]
        exact Int.natCast_dvd_natCast.2 hd'
  · obtain ⟨U, u0, u1, hu⟩ := one_unit p hp hk N hN
    have hR := rz_lt (m := p.mode) (U := (U : Int)) (X := X) (N := N) (by omega) hX (by rw [Int.natAbs_natCast]; exact Nat.le_of_lt u1)
    refine ⟨_, hR, hu X hX2, ?_⟩
    rw [hu _ (up _ hR), rz_again _ _ _ (by omega)]
theorem rawG (n : Bool) (L : List UInt8) (e : Int) (h1 : L.length ≤ 30) (h2 : -30 ≤ e) (h3 : e ≤ 30) (N : Nat) (hN : 280 ≤ N) (hN2 : N ≤ 20000) : ∃ X : Int, made n (dgs L) e = nf 200 X ∧ X.natAbs < 10 ^ N ∧ (X ≠ 0 → 10 ^ 100 ≤ X.natAbs) := by
  have hdv := raw_dv n (k := 200) (isDig_dgs L) (e := e) (by omega)
  have hlt : (sg n (val (dgs L) * 10 ^ (e + ((200 : Nat) : Int)).toNat)).natAbs < 10 ^ N := by
    rw [sg_natAbs]
    have h4 := val_lt _ (isDig_dgs L)
    rw [dgs_length] at h4
    have h7 : val (dgs L) * 10 ^ (e + ((200 : Nat) : Int)).toNat < 10 ^ L.length * 10 ^ (e + ((200 : Nat) : Int)).toNat := Nat.mul_lt_mul_of_pos_right h4 (pow_pos' _)
    rw [← Nat.pow_add] at h7
    exact Nat.lt_of_lt_of_le h7 (Nat.pow_le_pow_right (by decide) (by omega))
  refine ⟨_, ?_, hlt, fun h0 => ?_⟩
  · exact hdv.made (fitM (M := N) (by omega) hlt)
  · rw [sg_natAbs]
    have hv : 1 ≤ val (dgs L) := by
      rcases Nat.eq_zero_or_pos (val (dgs L)) with h | h
      · exfalso; apply h0; rw [h, Nat.zero_mul, sg_zero]
      · exact h
    have h5 : 10 ^ 100 ≤ 10 ^ (e + ((200 : Nat) : Int)).toNat := Nat.pow_le_pow_right (by decide) (by omega)
    exact Nat.le_trans h5 (Nat.le_mul_of_pos_left _ hv)
theorem shownR (p : Prc) (hp : Asked p) (n : Bool) (L : List UInt8) (e : Int) (h1 : L.length ≤ 30) (h2 : -30 ≤ e) (h3 : e ≤ 30) (N : Nat) (hN : N = 400) : ∃ R : Int, R.natAbs < 10 ^ (N + 1) ∧ roundP p (made n (dgs L) e) = nf 200 R := by
  obtain ⟨X, dX, bX, gX⟩ := rawG n L e h1 h2 h3 N (by omega) (by omega)
  obtain ⟨R, rb, hr, hrr⟩ := shown_again p hp N hN X bX gX
  exact ⟨R, rb, by rw [dX]; exact hr⟩
end Go.Proofs.YtfbfjkacaadbpaaGreatDoor

namespace Go.Proofs.YtfbfjkacaadbpaaGreatDoor
open Go.RowKit Florin
set_option linter.unusedVariables false
set_option linter.unusedSimpArgs false

theorem isD_small {c : UInt8} (h : isD c = true) : c.toNat < 128 := by rw [isD_iff] at h; omega
theorem isE_small {c : UInt8} (h : isE c = true) : c.toNat < 128 := by
  unfold isE at h; simp at h
  rcases h with rfl | rfl <;> decide
theorem dig_small {l : List UInt8} (h : isDig l = true) : ∀ c ∈ l, c.toNat < 128 := fun c hc => isD_small (isDig_mem h hc)
theorem less_mem {s : List UInt8} {c : UInt8} (h : c ∈ less s) : c ∈ s := by
  unfold less at h
  split at h
  · exact List.mem_of_mem_tail h
  · exact h
theorem less_len (s : List UInt8) : (less s).length ≤ s.length := by
  unfold less
  split
  · simp
  · exact Nat.le_refl _
theorem render_small {neg : Bool} {W : List UInt8} {pt : Bool} {P : List UInt8} {ex : Bool} {c : UInt8} {sgn Q : List UInt8} (h : Wf W pt P ex c sgn Q) : ∀ d ∈ render neg W pt P ex c sgn Q, d.toNat < 128 := by
  obtain ⟨hw, hp, he⟩ := h
  intro d hd
  unfold render at hd
  rw [List.mem_append, List.mem_append, List.mem_append] at hd
  rcases hd with hd | hd | hd | hd
  · cases neg <;> simp [sgnL] at hd
    subst hd; decide
  · exact dig_small ((sdig_iff W).1 hw).2 d hd
  · cases pt with
    | false => simp at hd
    | true =>
      simp at hd hp
      rcases hd with rfl | hd
      · decide
      · exact dig_small ((sdig_iff P).1 hp).2 d hd
  · cases ex with
    | false => simp at hd
    | true =>
      simp at hd he
      obtain ⟨e1, e2, e3⟩ := he
      rcases hd with rfl | hd | hd
      · exact isE_small e1
      · rcases e2 with rfl | rfl | rfl <;> simp at hd <;> subst hd <;> decide
      · exact dig_small ((sdig_iff Q).1 e3).2 d hd
theorem render_len {neg : Bool} {W : List UInt8} {pt : Bool} {P : List UInt8} {ex : Bool} {c : UInt8} {sgn Q : List UInt8} (h : Wf W pt P ex c sgn Q) : (render neg W pt P ex c sgn Q).length ≤ W.length + P.length + Q.length + 4 := by
  obtain ⟨hw, hp, he⟩ := h
  unfold render sgnL
  rw [List.length_append, List.length_append, List.length_append]
  have h1 : (if neg = true then [45] else ([] : List UInt8)).length ≤ 1 := by cases neg <;> simp
  have h2 : (if pt = true then 46 :: P else []).length ≤ P.length + 1 := by cases pt <;> simp
  have h3 : (if ex = true then c :: (sgn ++ Q) else []).length ≤ Q.length + 2 := by
    cases ex with
    | false => simp
    | true =>
      simp at he ⊢
      obtain ⟨_, e2, _⟩ := he
      rcases e2 with rfl | rfl | rfl <;> simp <;> omega
  omega
theorem parse_ren {neg : Bool} {W : List UInt8} {pt : Bool} {P : List UInt8} {ex : Bool} {c : UInt8} {sgn Q : List UInt8} (h : Wf W pt P ex c sgn Q) (h1 : W.length ≤ 2000) (h2 : P.length ≤ 2000) (h3 : Q.length ≤ 20) (d : Tri) (e : Int)
    (hd : triF (render neg W pt P ex c sgn Q) = d) (he : errF (render neg W pt P ex c sgn Q) = e) (w : World) :
    Calls Tryz.prog 31 #[S (render neg W pt P ex c sgn Q)] w fun x w' => x = .returned (.tuple #[V d, .int .i64 e]) ∧ Below w.heap.size w w' := by
  have hl := render_len (neg := neg) h
  refine parse_as ⟨(render neg W pt P ex c sgn Q).toArray⟩ w (by rw [arr_size]; omega) ?_ d e (by rw [arr_list]; exact hd) (by rw [arr_list]; exact he)
  rw [arr_list]
  refine ix_ascii _ (by rw [arr_size]; have := less_len (render neg W pt P ex c sgn Q); omega) ?_
  rw [arr_list]
  exact fun c hc => render_small h c (less_mem hc)

end Go.Proofs.YtfbfjkacaadbpaaGreatDoor

namespace Go.Proofs.YtfbfjkacaadbpaaGreatDoor
open Go.RowKit Florin
set_option linter.unusedVariables false
set_option linter.unusedSimpArgs false
attribute [local go_sem ↓] Go.wp_at_zero Go.wp_at_succ eq_V ne_V eq_VV

theorem HeldL.tail {w : World} {x : Nat × Array Value} {L : List (Nat × Array Value)} {W : World} (h : HeldL w (x :: L) W) : HeldL w L W :=
  ⟨fun p hp => h.box p (List.Mem.tail _ hp), fun p hp => h.own p (List.Mem.tail _ hp), (List.pairwise_cons.1 h.desc).2, h.bel⟩
theorem cat46b (i f : List UInt8) : (⟨i.toArray⟩ : ByteArray) ++ (⟨#[46]⟩ : ByteArray) ++ (⟨f.toArray⟩ : ByteArray) = ⟨(i ++ 46 :: f).toArray⟩ := by
  rw [show (⟨i.toArray⟩ : ByteArray) ++ (⟨#[46]⟩ : ByteArray) = ⟨(i ++ [46]).toArray⟩ from arr_append i [46], arr_append]; simp
set_option maxRecDepth 100000 in
set_option maxHeartbeats 6400000 in
theorem texts_w (n : Bool) (a : Option Addr) (len cap : Nat) (L : List UInt8) (e : Int) (k0 k1 k2 k3 k4 k5 k6 : Int) (w : World) (hin : InB w a len cap L) (htab : Tab w) (h1 : len ≤ 30) (h2 : -30 ≤ e) (h3 : e ≤ 30) (p : Prc) (hpr : (∀ w : World, Tab w → Calls Tryz.prog 22 #[.agg #[.int .i64 k0, .int .i64 k1, .int .i64 k2, .int .i64 k3, .int .i64 k4, .int .i64 k5, .int .i64 k6]] w fun z w' => z = .returned (PV p) ∧ Below w.heap.size w w')) (vn : Bool) (vi vf t : List UInt8) (il : vi.length ≤ 2000) (fl : vf.length ≤ 2000) (g : Tri) (ha1 : (∀ w : World, Tab w → Calls Tryz.prog 24 #[PV p, V ⟨n, dgs L, e⟩] w fun z w' => z = .returned (.tuple #[VV ⟨vn, vi, vf⟩, .int .i64 0]) ∧ Below w.heap.size w w')) (htt : textV ⟨vn, vi, vf⟩ = t) (htx : (∀ w : World, Tab w → Calls Tryz.prog 30 #[VV ⟨vn, vi, vf⟩] w fun z w' => z = .returned (S t) ∧ Below w.heap.size w w')) (hor : vi ≠ [] ∨ vf ≠ []) (hpa : ¬ vi = [] → (∀ w : World, Tab w → Calls Tryz.prog 31 #[S t] w fun z w' => z = .returned (.tuple #[V g, .int .i64 0]) ∧ Below w.heap.size w w')) (hvl : (∀ w : World, Tab w → Calls Tryz.prog 26 #[VV ⟨vn, vi, vf⟩] w fun z w' => z = .returned (V g) ∧ Below w.heap.size w w')) :
    Calls Tryz.prog 7 #[RV n a len cap e, .agg #[.int .i64 k0, .int .i64 k1, .int .i64 k2, .int .i64 k3, .int .i64 k4, .int .i64 k5, .int .i64 k6]] w fun x w' => x = .returned (.bool true) ∧ Below w.heap.size w w' := by
  have hcA := hin.2.1
  have hmA := hin.2.2.1
  have HT := Lib.hid htab
  have HIN := Lib.hid hin
  have HPR := Lib.hid hpr
  have HA1 := Lib.hid ha1
  have HTX := Lib.hid htx
  have HPA := Lib.hid hpa
  have HVL := Lib.hid hvl
  have HTT := Lib.hid htt
  have HOR := Lib.hid hor
  clear htab hin hpr ha1 htx hpa hvl htt hor
  have ca1 : ¬ 9223372036854775807 < 1 + vi.length := by omega
  have ca2 : ¬ 9223372036854775807 < vi.length + 1 := by omega
  have ca3 : ¬ 9223372036854775807 < vi.length + 1 + vf.length := by omega
  have ca4 : ¬ 9223372036854775807 < 1 + vi.length + 1 := by omega
  have ca5 : ¬ 9223372036854775807 < 1 + vi.length + 1 + vf.length := by omega
  go_enter Tryz.func7, Tryz.ntmps7
  go_wp2_with fail
  with_reducible refine (head4 _ (HT.out.below (HeldL.alloc (HeldL.alloc (HeldL.refl w) (w.heap.size) #[.bool n, .slice a len cap, .int .i64 e] 24 (by simp)) (w.heap.size + 1) #[.int .i64 k0, .int .i64 k1, .int .i64 k2, .int .i64 k3, .int .i64 k4, .int .i64 k5, .int .i64 k6] 43 (by simp)).bel)).mono ?_
  rintro x w1 ⟨rfl, hb⟩
  have H1 : Hid (HeldL w [(w.heap.size + 1, #[.int .i64 k0, .int .i64 k1, .int .i64 k2, .int .i64 k3, .int .i64 k4, .int .i64 k5, .int .i64 k6]), (w.heap.size, #[.bool n, .slice a len cap, .int .i64 e])] w1) := Lib.hid (HeldL.keep (HeldL.alloc (HeldL.alloc (HeldL.refl w) (w.heap.size) #[.bool n, .slice a len cap, .int .i64 e] 24 (by simp)) (w.heap.size + 1) #[.int .i64 k0, .int .i64 k1, .int .i64 k2, .int .i64 k3, .int .i64 k4, .int .i64 k5, .int .i64 k6] 43 (by simp)) hb)
  clear hb
  have q0 : w1.cell? ⟨w.heap.size, 0, none⟩ = some (.bool n) := (H1.out.f (List.Mem.tail _ (List.Mem.head _))).cell 0
  have q1 : w1.cell? ⟨w.heap.size, 1, none⟩ = some (.slice a len cap) := (H1.out.f (List.Mem.tail _ (List.Mem.head _))).cell 1
  have q2 : w1.cell? ⟨w.heap.size, 2, none⟩ = some (.int .i64 e) := (H1.out.f (List.Mem.tail _ (List.Mem.head _))).cell 2
  have ql : w.heap.size < w1.heap.size := (H1.out.f (List.Mem.tail _ (List.Mem.head _))).lt
  have k0 : w1.cell? ⟨w.heap.size + 1, 0, none⟩ = some (.int .i64 k0) := (H1.out.f (List.Mem.head _)).cell 0
  have k1 : w1.cell? ⟨w.heap.size + 1, 1, none⟩ = some (.int .i64 k1) := (H1.out.f (List.Mem.head _)).cell 1
  have k2 : w1.cell? ⟨w.heap.size + 1, 2, none⟩ = some (.int .i64 k2) := (H1.out.f (List.Mem.head _)).cell 2
  have k3 : w1.cell? ⟨w.heap.size + 1, 3, none⟩ = some (.int .i64 k3) := (H1.out.f (List.Mem.head _)).cell 3
  have k4 : w1.cell? ⟨w.heap.size + 1, 4, none⟩ = some (.int .i64 k4) := (H1.out.f (List.Mem.head _)).cell 4
  have k5 : w1.cell? ⟨w.heap.size + 1, 5, none⟩ = some (.int .i64 k5) := (H1.out.f (List.Mem.head _)).cell 5
  have k6 : w1.cell? ⟨w.heap.size + 1, 6, none⟩ = some (.int .i64 k6) := (H1.out.f (List.Mem.head _)).cell 6
  have kl : w.heap.size + 1 < w1.heap.size := (H1.out.f (List.Mem.head _)).lt
  go_wp2_with fail
  with_reducible refine (few_yes n a len cap e 30 _ hcA hmA (by decide) (by decide) (by omega) h2 h3).mono ?_
  rintro x w2 ⟨rfl, hb⟩
  clear q0 q1 q2 ql k0 k1 k2 k3 k4 k5 k6 kl
  have H2 : Hid (HeldL w [(w.heap.size + 1, #[.int .i64 k0, .int .i64 k1, .int .i64 k2, .int .i64 k3, .int .i64 k4, .int .i64 k5, .int .i64 k6]), (w.heap.size, #[.bool n, .slice a len cap, .int .i64 e])] w2) := Lib.hid (HeldL.keep H1.out hb)
  clear H1
  clear hb
  have q0 : w2.cell? ⟨w.heap.size, 0, none⟩ = some (.bool n) := (H2.out.f (List.Mem.tail _ (List.Mem.head _))).cell 0
  have q1 : w2.cell? ⟨w.heap.size, 1, none⟩ = some (.slice a len cap) := (H2.out.f (List.Mem.tail _ (List.Mem.head _))).cell 1
  have q2 : w2.cell? ⟨w.heap.size, 2, none⟩ = some (.int .i64 e) := (H2.out.f (List.Mem.tail _ (List.Mem.head _))).cell 2
  have ql : w.heap.size < w2.heap.size := (H2.out.f (List.Mem.tail _ (List.Mem.head _))).lt
  have k0 : w2.cell? ⟨w.heap.size + 1, 0, none⟩ = some (.int .i64 k0) := (H2.out.f (List.Mem.head _)).cell 0
  have k1 : w2.cell? ⟨w.heap.size + 1, 1, none⟩ = some (.int .i64 k1) := (H2.out.f (List.Mem.head _)).cell 1
  have k2 : w2.cell? ⟨w.heap.size + 1, 2, none⟩ = some (.int .i64 k2) := (H2.out.f (List.Mem.head _)).cell 2
  have k3 : w2.cell? ⟨w.heap.size + 1, 3, none⟩ = some (.int .i64 k3) := (H2.out.f (List.Mem.head _)).cell 3
  have k4 : w2.cell? ⟨w.heap.size + 1, 4, none⟩ = some (.int .i64 k4) := (H2.out.f (List.Mem.head _)).cell 4
  have k5 : w2.cell? ⟨w.heap.size + 1, 5, none⟩ = some (.int .i64 k5) := (H2.out.f (List.Mem.head _)).cell 5
  have k6 : w2.cell? ⟨w.heap.size + 1, 6, none⟩ = some (.int .i64 k6) := (H2.out.f (List.Mem.head _)).cell 6
  have kl : w.heap.size + 1 < w2.heap.size := (H2.out.f (List.Mem.head _)).lt
  go_wp2_with fail
  with_reducible refine (HPR.out _ (HT.out.below H2.out.bel)).mono ?_
  rintro x w3 ⟨rfl, hb⟩
  clear q0 q1 q2 ql k0 k1 k2 k3 k4 k5 k6 kl
  have H3 : Hid (HeldL w [(w.heap.size + 1, #[.int .i64 k0, .int .i64 k1, .int .i64 k2, .int .i64 k3, .int .i64 k4, .int .i64 k5, .int .i64 k6]), (w.heap.size, #[.bool n, .slice a len cap, .int .i64 e])] w3) := Lib.hid (HeldL.keep H2.out hb)
  clear H2
  clear hb
  have q0 : w3.cell? ⟨w.heap.size, 0, none⟩ = some (.bool n) := (H3.out.f (List.Mem.tail _ (List.Mem.head _))).cell 0
  have q1 : w3.cell? ⟨w.heap.size, 1, none⟩ = some (.slice a len cap) := (H3.out.f (List.Mem.tail _ (List.Mem.head _))).cell 1
  have q2 : w3.cell? ⟨w.heap.size, 2, none⟩ = some (.int .i64 e) := (H3.out.f (List.Mem.tail _ (List.Mem.head _))).cell 2
  have ql : w.heap.size < w3.heap.size := (H3.out.f (List.Mem.tail _ (List.Mem.head _))).lt
  go_upto_region 6 with fail
  go_cut [6, 7] from 11 (fun vp ve w' => ∃ b : Nat, vp = .pointer (some ⟨b, 0, none⟩) ∧ ve = .int .i64 0 ∧ HeldL w ((b, #[.bool vn, S vi, S vf]) :: [(w3.heap.size, #[.int .i64 p.kind, .int .i64 p.mn, .int .i64 p.mx, .bool p.inc.neg, S p.inc.l, .int .i64 p.inc.e, .int .i64 p.mode, .int .i64 p.mi]), (w.heap.size + 1, #[.int .i64 k0, .int .i64 k1, .int .i64 k2, .int .i64 k3, .int .i64 k4, .int .i64 k5, .int .i64 k6]), (w.heap.size, #[.bool n, .slice a len cap, .int .i64 e])]) w')
  case first =>
    have ALL1 : Hid (∀ w' : World, HeldL w [(w3.heap.size, #[.int .i64 p.kind, .int .i64 p.mn, .int .i64 p.mx, .bool p.inc.neg, S p.inc.l, .int .i64 p.inc.e, .int .i64 p.mode, .int .i64 p.mi]), (w.heap.size + 1, #[.int .i64 k0, .int .i64 k1, .int .i64 k2, .int .i64 k3, .int .i64 k4, .int .i64 k5, .int .i64 k6]), (w.heap.size, #[.bool n, .slice a len cap, .int .i64 e])] w' → w'.cell? ⟨w3.heap.size, 0, none⟩ = some (.int .i64 p.kind) ∧ w'.cell? ⟨w3.heap.size, 1, none⟩ = some (.int .i64 p.mn) ∧ w'.cell? ⟨w3.heap.size, 2, none⟩ = some (.int .i64 p.mx) ∧ w'.cell? ⟨w3.heap.size, 3, none⟩ = some (.bool p.inc.neg) ∧ w'.cell? ⟨w3.heap.size, 4, none⟩ = some (S p.inc.l) ∧ w'.cell? ⟨w3.heap.size, 5, none⟩ = some (.int .i64 p.inc.e) ∧ w'.cell? ⟨w3.heap.size, 6, none⟩ = some (.int .i64 p.mode) ∧ w'.cell? ⟨w3.heap.size, 7, none⟩ = some (.int .i64 p.mi) ∧ w'.cell? ⟨w.heap.size, 0, none⟩ = some (.bool n) ∧ w'.cell? ⟨w.heap.size, 1, none⟩ = some (.slice a len cap) ∧ w'.cell? ⟨w.heap.size, 2, none⟩ = some (.int .i64 e) ∧ HeldL w [(w3.heap.size, #[.int .i64 p.kind, .int .i64 p.mn, .int .i64 p.mx, .bool p.inc.neg, S p.inc.l, .int .i64 p.inc.e, .int .i64 p.mode, .int .i64 p.mi]), (w.heap.size + 1, #[.int .i64 k0, .int .i64 k1, .int .i64 k2, .int .i64 k3, .int .i64 k4, .int .i64 k5, .int .i64 k6]), (w.heap.size, #[.bool n, .slice a len cap, .int .i64 e])] w') := Lib.hid (fun w' h => ⟨(h.f (List.Mem.head _)).cell 0, (h.f (List.Mem.head _)).cell 1, (h.f (List.Mem.head _)).cell 2, (h.f (List.Mem.head _)).cell 3, (h.f (List.Mem.head _)).cell 4, (h.f (List.Mem.head _)).cell 5, (h.f (List.Mem.head _)).cell 6, (h.f (List.Mem.head _)).cell 7, (h.f (List.Mem.tail _ (List.Mem.tail _ (List.Mem.head _)))).cell 0, (h.f (List.Mem.tail _ (List.Mem.tail _ (List.Mem.head _)))).cell 1, (h.f (List.Mem.tail _ (List.Mem.tail _ (List.Mem.head _)))).cell 2, h⟩)
    have KEEP1 : Hid (∀ w' w'' : World, (w'.cell? ⟨w3.heap.size, 0, none⟩ = some (.int .i64 p.kind) ∧ w'.cell? ⟨w3.heap.size, 1, none⟩ = some (.int .i64 p.mn) ∧ w'.cell? ⟨w3.heap.size, 2, none⟩ = some (.int .i64 p.mx) ∧ w'.cell? ⟨w3.heap.size, 3, none⟩ = some (.bool p.inc.neg) ∧ w'.cell? ⟨w3.heap.size, 4, none⟩ = some (S p.inc.l) ∧ w'.cell? ⟨w3.heap.size, 5, none⟩ = some (.int .i64 p.inc.e) ∧ w'.cell? ⟨w3.heap.size, 6, none⟩ = some (.int .i64 p.mode) ∧ w'.cell? ⟨w3.heap.size, 7, none⟩ = some (.int .i64 p.mi) ∧ w'.cell? ⟨w.heap.size, 0, none⟩ = some (.bool n) ∧ w'.cell? ⟨w.heap.size, 1, none⟩ = some (.slice a len cap) ∧ w'.cell? ⟨w.heap.size, 2, none⟩ = some (.int .i64 e) ∧ HeldL w [(w3.heap.size, #[.int .i64 p.kind, .int .i64 p.mn, .int .i64 p.mx, .bool p.inc.neg, S p.inc.l, .int .i64 p.inc.e, .int .i64 p.mode, .int .i64 p.mi]), (w.heap.size + 1, #[.int .i64 k0, .int .i64 k1, .int .i64 k2, .int .i64 k3, .int .i64 k4, .int .i64 k5, .int .i64 k6]), (w.heap.size, #[.bool n, .slice a len cap, .int .i64 e])] w') → Below w'.heap.size w' w'' → (w''.cell? ⟨w3.heap.size, 0, none⟩ = some (.int .i64 p.kind) ∧ w''.cell? ⟨w3.heap.size, 1, none⟩ = some (.int .i64 p.mn) ∧ w''.cell? ⟨w3.heap.size, 2, none⟩ = some (.int .i64 p.mx) ∧ w''.cell? ⟨w3.heap.size, 3, none⟩ = some (.bool p.inc.neg) ∧ w''.cell? ⟨w3.heap.size, 4, none⟩ = some (S p.inc.l) ∧ w''.cell? ⟨w3.heap.size, 5, none⟩ = some (.int .i64 p.inc.e) ∧ w''.cell? ⟨w3.heap.size, 6, none⟩ = some (.int .i64 p.mode) ∧ w''.cell? ⟨w3.heap.size, 7, none⟩ = some (.int .i64 p.mi) ∧ w''.cell? ⟨w.heap.size, 0, none⟩ = some (.bool n) ∧ w''.cell? ⟨w.heap.size, 1, none⟩ = some (.slice a len cap) ∧ w''.cell? ⟨w.heap.size, 2, none⟩ = some (.int .i64 e) ∧ HeldL w [(w3.heap.size, #[.int .i64 p.kind, .int .i64 p.mn, .int .i64 p.mx, .bool p.inc.neg, S p.inc.l, .int .i64 p.inc.e, .int .i64 p.mode, .int .i64 p.mi]), (w.heap.size + 1, #[.int .i64 k0, .int .i64 k1, .int .i64 k2, .int .i64 k3, .int .i64 k4, .int .i64 k5, .int .i64 k6]), (w.heap.size, #[.bool n, .slice a len cap, .int .i64 e])] w'')) := Lib.hid (fun w' w'' h hb => ALL1.out _ (HeldL.keep (h.2.2.2.2.2.2.2.2.2.2.2) hb))
    have TAB1 : Hid (∀ w' : World, (w'.cell? ⟨w3.heap.size, 0, none⟩ = some (.int .i64 p.kind) ∧ w'.cell? ⟨w3.heap.size, 1, none⟩ = some (.int .i64 p.mn) ∧ w'.cell? ⟨w3.heap.size, 2, none⟩ = some (.int .i64 p.mx) ∧ w'.cell? ⟨w3.heap.size, 3, none⟩ = some (.bool p.inc.neg) ∧ w'.cell? ⟨w3.heap.size, 4, none⟩ = some (S p.inc.l) ∧ w'.cell? ⟨w3.heap.size, 5, none⟩ = some (.int .i64 p.inc.e) ∧ w'.cell? ⟨w3.heap.size, 6, none⟩ = some (.int .i64 p.mode) ∧ w'.cell? ⟨w3.heap.size, 7, none⟩ = some (.int .i64 p.mi) ∧ w'.cell? ⟨w.heap.size, 0, none⟩ = some (.bool n) ∧ w'.cell? ⟨w.heap.size, 1, none⟩ = some (.slice a len cap) ∧ w'.cell? ⟨w.heap.size, 2, none⟩ = some (.int .i64 e) ∧ HeldL w [(w3.heap.size, #[.int .i64 p.kind, .int .i64 p.mn, .int .i64 p.mx, .bool p.inc.neg, S p.inc.l, .int .i64 p.inc.e, .int .i64 p.mode, .int .i64 p.mi]), (w.heap.size + 1, #[.int .i64 k0, .int .i64 k1, .int .i64 k2, .int .i64 k3, .int .i64 k4, .int .i64 k5, .int .i64 k6]), (w.heap.size, #[.bool n, .slice a len cap, .int .i64 e])] w') → Tab w') := Lib.hid (fun w' h => HT.out.below (h.2.2.2.2.2.2.2.2.2.2.2).bel)
    have HS1 : Hid (HeldL w [(w3.heap.size, #[.int .i64 p.kind, .int .i64 p.mn, .int .i64 p.mx, .bool p.inc.neg, S p.inc.l, .int .i64 p.inc.e, .int .i64 p.mode, .int .i64 p.mi]), (w.heap.size + 1, #[.int .i64 k0, .int .i64 k1, .int .i64 k2, .int .i64 k3, .int .i64 k4, .int .i64 k5, .int .i64 k6]), (w.heap.size, #[.bool n, .slice a len cap, .int .i64 e])] _) := Lib.hid (HeldL.alloc H3.out (w3.heap.size) #[.int .i64 p.kind, .int .i64 p.mn, .int .i64 p.mx, .bool p.inc.neg, S p.inc.l, .int .i64 p.inc.e, .int .i64 p.mode, .int .i64 p.mi] 46 (by simp))
    refine wp_region_held_drew (S := fun w' => w'.cell? ⟨w3.heap.size, 0, none⟩ = some (.int .i64 p.kind) ∧ w'.cell? ⟨w3.heap.size, 1, none⟩ = some (.int .i64 p.mn) ∧ w'.cell? ⟨w3.heap.size, 2, none⟩ = some (.int .i64 p.mx) ∧ w'.cell? ⟨w3.heap.size, 3, none⟩ = some (.bool p.inc.neg) ∧ w'.cell? ⟨w3.heap.size, 4, none⟩ = some (S p.inc.l) ∧ w'.cell? ⟨w3.heap.size, 5, none⟩ = some (.int .i64 p.inc.e) ∧ w'.cell? ⟨w3.heap.size, 6, none⟩ = some (.int .i64 p.mode) ∧ w'.cell? ⟨w3.heap.size, 7, none⟩ = some (.int .i64 p.mi) ∧ w'.cell? ⟨w.heap.size, 0, none⟩ = some (.bool n) ∧ w'.cell? ⟨w.heap.size, 1, none⟩ = some (.slice a len cap) ∧ w'.cell? ⟨w.heap.size, 2, none⟩ = some (.int .i64 e) ∧ HeldL w [(w3.heap.size, #[.int .i64 p.kind, .int .i64 p.mn, .int .i64 p.mx, .bool p.inc.neg, S p.inc.l, .int .i64 p.inc.e, .int .i64 p.mode, .int .i64 p.mi]), (w.heap.size + 1, #[.int .i64 k0, .int .i64 k1, .int .i64 k2, .int .i64 k3, .int .i64 k4, .int .i64 k5, .int .i64 k6]), (w.heap.size, #[.bool n, .slice a len cap, .int .i64 e])] w') (by kernel_rfl) (ALL1.out _ (HeldL.drew HS1.out)) (fun hHeld => ?_)
    refine wpAnyH_take (i := 0) (oi := { dst := some 19, op := Go.Op.load 46 (Go.Operand.tmp 5), type := 46, pos := "law.go:127", after := #[], guard := none }) (v := ?_) rfl (by kernel_rfl) (by kernel_rfl) (by kernel_rfl) (fun _ _ _ h => h) (Or.inl ⟨by rfl, ?_⟩) hHeld ?_
    case refine_2 => (intro w hSw; (try dsimp only at hSw); go_simp <;> with_reducible rfl)
    try simp only [Act.put, List.setIfInBounds_toArray, List.set_cons_zero, List.set_cons_succ]
    refine wpAnyH_take (i := 1) (oi := { dst := some 20, op := Go.Op.load 24 (Go.Operand.tmp 2), type := 24, pos := "law.go:127", after := #[], guard := none }) (v := ?_) rfl (by kernel_rfl) (by kernel_rfl) (by kernel_rfl) (fun _ _ _ h => h) (Or.inl ⟨by rfl, ?_⟩) hHeld ?_
    case refine_2 => (intro w hSw; (try dsimp only at hSw); go_simp <;> with_reducible rfl)
    try simp only [Act.put, List.setIfInBounds_toArray, List.set_cons_zero, List.set_cons_succ]
    refine wpAnyH_ready (rs := [2, 7]) (by kernel_rfl) (by simp) ?_
    refine (AllReadyH.cons (o := { dst := some 21, op := Go.Op.call { callee := Go.Callee.value (Go.Operand.func 13), args := #[Go.Operand.tmp 20], argTypes := #[24] }, type := 31, pos := "law.go:127", after := #[{ on := 1, ground := Go.Ground.data }], guard := none }) rfl (fun KK hK => ?_) (AllReadyH.cons (o := { dst := some 6, op := Go.Op.alloc 49, type := 0, pos := "law.go:127", after := #[], guard := none }) rfl (fun KK hK => ?_) AllReadyH.nil))
    ·
      go_simp
      with_reducible refine (make_as n a len cap L e _ (HIN.out.below (hHeld.2.2.2.2.2.2.2.2.2.2.2).bel) (by omega)).mono ?_
      rintro x wA ⟨rfl, hb⟩
      go_wp2_with fail
      refine hK.out _ _ (KEEP1.out _ _ hHeld hb) (fun hHeld2 => ?_)
      clear hK hHeld hb
      have hHeld := hHeld2
      clear hHeld2
      try simp only [Act.put, List.setIfInBounds_toArray, List.set_cons_zero, List.set_cons_succ]
      refine wpAnyH_ready (rs := [3, 7]) (by kernel_rfl) (by simp) ?_
      refine (AllReadyH.cons (o := { dst := some 22, op := Go.Op.call { callee := Go.Callee.value (Go.Operand.func 24), args := #[Go.Operand.tmp 19, Go.Operand.tmp 21], argTypes := #[46, 31] }, type := 51, pos := "law.go:127", after := #[{ on := 0, ground := Go.Ground.data }, { on := 2, ground := Go.Ground.data }, { on := 2, ground := Go.Ground.chain }], guard := none }) rfl (fun KK hK => ?_) (AllReadyH.cons (o := { dst := some 6, op := Go.Op.alloc 49, type := 0, pos := "law.go:127", after := #[], guard := none }) rfl (fun KK hK => ?_) AllReadyH.nil))
      ·
        go_simp
        with_reducible refine (HA1.out _ (TAB1.out _ hHeld)).mono ?_
        rintro x wB ⟨rfl, hb⟩
        go_wp2_with fail
        refine hK.out _ _ (KEEP1.out _ _ hHeld hb) (fun hHeld2 => ?_)
        clear hK hHeld hb
        have hHeld := hHeld2
        clear hHeld2
        try simp only [Act.put, List.setIfInBounds_toArray, List.set_cons_zero, List.set_cons_succ]
        refine wpAnyH_take (i := 4) (oi := { dst := some 18, op := Go.Op.move (Go.Operand.tmp 22), type := 51, pos := "law.go:127", after := #[{ on := 3, ground := Go.Ground.data }], guard := none }) (v := ?_) rfl (by kernel_rfl) (by kernel_rfl) (by kernel_rfl) (fun _ _ _ h => h) (Or.inl ⟨by rfl, ?_⟩) hHeld ?_
        case refine_2 => (intro w hSw; (try dsimp only at hSw); go_simp <;> with_reducible rfl)
        try simp only [Act.put, List.setIfInBounds_toArray, List.set_cons_zero, List.set_cons_succ]
        refine wpAnyH_take (i := 5) (oi := { dst := some 23, op := Go.Op.extract (Go.Operand.tmp 18) 0, type := 49, pos := "law.go:127", after := #[{ on := 4, ground := Go.Ground.data }], guard := none }) (v := ?_) rfl (by kernel_rfl) (by kernel_rfl) (by kernel_rfl) (fun _ _ _ h => h) (Or.inl ⟨by rfl, ?_⟩) hHeld ?_
        case refine_2 => (intro w hSw; (try dsimp only at hSw); go_simp <;> with_reducible rfl)
        try simp only [Act.put, List.setIfInBounds_toArray, List.set_cons_zero, List.set_cons_succ]
        refine wpAnyH_take (i := 6) (oi := { dst := some 24, op := Go.Op.extract (Go.Operand.tmp 18) 1, type := 50, pos := "law.go:127", after := #[{ on := 4, ground := Go.Ground.data }, { on := 8, ground := Go.Ground.gcOnly Go.Departure.lateStores }], guard := none }) (v := ?_) rfl (by kernel_rfl) (by kernel_rfl) (by kernel_rfl) (fun _ _ _ h => h) (Or.inl ⟨by rfl, ?_⟩) hHeld ?_
        case refine_2 => (intro w hSw; (try dsimp only at hSw); go_simp <;> with_reducible rfl)
        try simp only [Act.put, List.setIfInBounds_toArray, List.set_cons_zero, List.set_cons_succ]
        refine wpAnyH_ready (rs := [7]) (by kernel_rfl) (by simp) ?_
        refine (AllReadyH.cons (o := { dst := some 6, op := Go.Op.alloc 49, type := 0, pos := "law.go:127", after := #[], guard := none }) rfl (fun KK hK => ?_) AllReadyH.nil)
        have hH0 := hHeld
        go_simp
        refine hK.out _ _ (ALL1.out _ (HeldL.skip (hHeld.2.2.2.2.2.2.2.2.2.2.2) _)) (fun hHeld2 => ?_)
        clear hK hHeld
        have hHeld := hHeld2
        clear hHeld2
        try simp only [Act.put, List.setIfInBounds_toArray, List.set_cons_zero, List.set_cons_succ]
        refine wpAnyH_ready (rs := [8]) (by kernel_rfl) (by simp) ?_
        refine (AllReadyH.cons (o := { dst := none, op := Go.Op.store 49 (Go.Operand.tmp 6) (Go.Operand.tmp 23), type := 0, pos := "law.go:127", after := #[{ on := 7, ground := Go.Ground.data }, { on := 5, ground := Go.Ground.data }, { on := 3, ground := Go.Ground.chain }, { on := 0, ground := Go.Ground.phase }, { on := 1, ground := Go.Ground.phase }, { on := 2, ground := Go.Ground.phase }, { on := 3, ground := Go.Ground.phase }, { on := 4, ground := Go.Ground.phase }, { on := 5, ground := Go.Ground.phase }, { on := 6, ground := Go.Ground.textOnly Go.Departure.lateStores }, { on := 7, ground := Go.Ground.phase }], guard := none }) rfl (fun KK hK => ?_) AllReadyH.nil)
        go_simp
        refine hK.out _ _ (ALL1.out _ (HeldL.skip (hH0.2.2.2.2.2.2.2.2.2.2.2) _)) (fun hHeld2 => ?_)
        clear hK hHeld
        have hHeld := hHeld2
        clear hHeld2
        try simp only [Act.put, List.setIfInBounds_toArray, List.set_cons_zero, List.set_cons_succ]
        refine wpAnyH_take (i := 9) (oi := { dst := some 7, op := Go.Op.assign (Go.Operand.tmp 24), type := 50, pos := "law.go:127", after := #[{ on := 6, ground := Go.Ground.data }, { on := 8, ground := Go.Ground.chain }, { on := 0, ground := Go.Ground.phase }, { on := 1, ground := Go.Ground.phase }, { on := 2, ground := Go.Ground.phase }, { on := 3, ground := Go.Ground.phase }, { on := 4, ground := Go.Ground.phase }, { on := 5, ground := Go.Ground.phase }, { on := 6, ground := Go.Ground.phase }, { on := 7, ground := Go.Ground.phase }, { on := 8, ground := Go.Ground.phase }], guard := none }) (v := ?_) rfl (by kernel_rfl) (by kernel_rfl) (by kernel_rfl) (fun _ _ _ h => h) (Or.inl ⟨by rfl, ?_⟩) hHeld ?_
        case refine_2 => (intro w hSw; (try dsimp only at hSw); go_simp <;> with_reducible rfl)
        try simp only [Act.put, List.setIfInBounds_toArray, List.set_cons_zero, List.set_cons_succ]
        refine wpAnyH_done (by kernel_rfl) ?_ _
        go_wp2
        go_meet
        case rel => exact ⟨_, rfl, rfl, HeldL.alloc (hH0.2.2.2.2.2.2.2.2.2.2.2) _ _ _ rfl⟩
      ·
        go_simp
        have HN : Hid (HeldL w ((wA.heap.size, #[.bool false, .string ⟨#[]⟩, .string ⟨#[]⟩]) :: [(w3.heap.size, #[.int .i64 p.kind, .int .i64 p.mn, .int .i64 p.mx, .bool p.inc.neg, S p.inc.l, .int .i64 p.inc.e, .int .i64 p.mode, .int .i64 p.mi]), (w.heap.size + 1, #[.int .i64 k0, .int .i64 k1, .int .i64 k2, .int .i64 k3, .int .i64 k4, .int .i64 k5, .int .i64 k6]), (w.heap.size, #[.bool n, .slice a len cap, .int .i64 e])]) _) := Lib.hid (HeldL.alloc (hHeld.2.2.2.2.2.2.2.2.2.2.2) (wA.heap.size) #[.bool false, .string ⟨#[]⟩, .string ⟨#[]⟩] 49 (by first | rfl | simp))
        refine hK.out _ _ (ALL1.out _ (HeldL.tail HN.out)) (fun hHeld2 => ?_)
        clear hK hHeld
        have hHeld := hHeld2
        clear hHeld2
        try simp only [Act.put, List.setIfInBounds_toArray, List.set_cons_zero, List.set_cons_succ]
        refine wpAnyH_ready (rs := [3]) (by kernel_rfl) (by simp) ?_
        refine (AllReadyH.cons (o := { dst := some 22, op := Go.Op.call { callee := Go.Callee.value (Go.Operand.func 24), args := #[Go.Operand.tmp 19, Go.Operand.tmp 21], argTypes := #[46, 31] }, type := 51, pos := "law.go:127", after := #[{ on := 0, ground := Go.Ground.data }, { on := 2, ground := Go.Ground.data }, { on := 2, ground := Go.Ground.chain }], guard := none }) rfl (fun KK hK => ?_) AllReadyH.nil)
        go_simp
        with_reducible refine (HA1.out _ (TAB1.out _ hHeld)).mono ?_
        rintro x wB ⟨rfl, hb⟩
        go_wp2_with fail
        refine hK.out _ _ (KEEP1.out _ _ hHeld hb) (fun hHeld2 => ?_)
        have HM : Hid (HeldL w ((wA.heap.size, #[.bool false, .string ⟨#[]⟩, .string ⟨#[]⟩]) :: [(w3.heap.size, #[.int .i64 p.kind, .int .i64 p.mn, .int .i64 p.mx, .bool p.inc.neg, S p.inc.l, .int .i64 p.inc.e, .int .i64 p.mode, .int .i64 p.mi]), (w.heap.size + 1, #[.int .i64 k0, .int .i64 k1, .int .i64 k2, .int .i64 k3, .int .i64 k4, .int .i64 k5, .int .i64 k6]), (w.heap.size, #[.bool n, .slice a len cap, .int .i64 e])]) wB) := Lib.hid (HeldL.keep HN.out hb)
        clear HN
        have HN := HM
        clear HM
        clear hK hHeld hb
        have hHeld := hHeld2
        clear hHeld2
        try simp only [Act.put, List.setIfInBounds_toArray, List.set_cons_zero, List.set_cons_succ]
        refine wpAnyH_take (i := 4) (oi := { dst := some 18, op := Go.Op.move (Go.Operand.tmp 22), type := 51, pos := "law.go:127", after := #[{ on := 3, ground := Go.Ground.data }], guard := none }) (v := ?_) rfl (by kernel_rfl) (by kernel_rfl) (by kernel_rfl) (fun _ _ _ h => h) (Or.inl ⟨by rfl, ?_⟩) hHeld ?_
        case refine_2 => (intro w hSw; (try dsimp only at hSw); go_simp <;> with_reducible rfl)
        try simp only [Act.put, List.setIfInBounds_toArray, List.set_cons_zero, List.set_cons_succ]
        refine wpAnyH_take (i := 5) (oi := { dst := some 23, op := Go.Op.extract (Go.Operand.tmp 18) 0, type := 49, pos := "law.go:127", after := #[{ on := 4, ground := Go.Ground.data }], guard := none }) (v := ?_) rfl (by kernel_rfl) (by kernel_rfl) (by kernel_rfl) (fun _ _ _ h => h) (Or.inl ⟨by rfl, ?_⟩) hHeld ?_
        case refine_2 => (intro w hSw; (try dsimp only at hSw); go_simp <;> with_reducible rfl)
        try simp only [Act.put, List.setIfInBounds_toArray, List.set_cons_zero, List.set_cons_succ]
        refine wpAnyH_take (i := 6) (oi := { dst := some 24, op := Go.Op.extract (Go.Operand.tmp 18) 1, type := 50, pos := "law.go:127", after := #[{ on := 4, ground := Go.Ground.data }, { on := 8, ground := Go.Ground.gcOnly Go.Departure.lateStores }], guard := none }) (v := ?_) rfl (by kernel_rfl) (by kernel_rfl) (by kernel_rfl) (fun _ _ _ h => h) (Or.inl ⟨by rfl, ?_⟩) hHeld ?_
        case refine_2 => (intro w hSw; (try dsimp only at hSw); go_simp <;> with_reducible rfl)
        try simp only [Act.put, List.setIfInBounds_toArray, List.set_cons_zero, List.set_cons_succ]
        refine wpAnyH_ready (rs := [8]) (by kernel_rfl) (by simp) ?_
        refine (AllReadyH.cons (o := { dst := none, op := Go.Op.store 49 (Go.Operand.tmp 6) (Go.Operand.tmp 23), type := 0, pos := "law.go:127", after := #[{ on := 7, ground := Go.Ground.data }, { on := 5, ground := Go.Ground.data }, { on := 3, ground := Go.Ground.chain }, { on := 0, ground := Go.Ground.phase }, { on := 1, ground := Go.Ground.phase }, { on := 2, ground := Go.Ground.phase }, { on := 3, ground := Go.Ground.phase }, { on := 4, ground := Go.Ground.phase }, { on := 5, ground := Go.Ground.phase }, { on := 6, ground := Go.Ground.textOnly Go.Departure.lateStores }, { on := 7, ground := Go.Ground.phase }], guard := none }) rfl (fun KK hK => ?_) AllReadyH.nil)
        obtain ⟨nn0, nn1, nn2, nnz0, nnz1, nnz2, nnl⟩ := (HN.out.f (List.Mem.head _)).three
        go_simp
        refine hK.out _ _ (ALL1.out _ (HeldL.tail (HeldL.store3 [] [(w3.heap.size, #[.int .i64 p.kind, .int .i64 p.mn, .int .i64 p.mx, .bool p.inc.neg, S p.inc.l, .int .i64 p.inc.e, .int .i64 p.mode, .int .i64 p.mi]), (w.heap.size + 1, #[.int .i64 k0, .int .i64 k1, .int .i64 k2, .int .i64 k3, .int .i64 k4, .int .i64 k5, .int .i64 k6]), (w.heap.size, #[.bool n, .slice a len cap, .int .i64 e])] HN.out (.bool vn) (S vi) (S vf)))) (fun hHeld2 => ?_)
        clear hK hHeld
        have hHeld := hHeld2
        clear hHeld2
        try simp only [Act.put, List.setIfInBounds_toArray, List.set_cons_zero, List.set_cons_succ]
        refine wpAnyH_take (i := 9) (oi := { dst := some 7, op := Go.Op.assign (Go.Operand.tmp 24), type := 50, pos := "law.go:127", after := #[{ on := 6, ground := Go.Ground.data }, { on := 8, ground := Go.Ground.chain }, { on := 0, ground := Go.Ground.phase }, { on := 1, ground := Go.Ground.phase }, { on := 2, ground := Go.Ground.phase }, { on := 3, ground := Go.Ground.phase }, { on := 4, ground := Go.Ground.phase }, { on := 5, ground := Go.Ground.phase }, { on := 6, ground := Go.Ground.phase }, { on := 7, ground := Go.Ground.phase }, { on := 8, ground := Go.Ground.phase }], guard := none }) (v := ?_) rfl (by kernel_rfl) (by kernel_rfl) (by kernel_rfl) (fun _ _ _ h => h) (Or.inl ⟨by rfl, ?_⟩) hHeld ?_
        case refine_2 => (intro w hSw; (try dsimp only at hSw); go_simp <;> with_reducible rfl)
        try simp only [Act.put, List.setIfInBounds_toArray, List.set_cons_zero, List.set_cons_succ]
        refine wpAnyH_done (by kernel_rfl) ?_ _
        go_wp2
        go_meet
        case rel => exact ⟨_, rfl, rfl, HeldL.store3 [] [(w3.heap.size, #[.int .i64 p.kind, .int .i64 p.mn, .int .i64 p.mx, .bool p.inc.neg, S p.inc.l, .int .i64 p.inc.e, .int .i64 p.mode, .int .i64 p.mi]), (w.heap.size + 1, #[.int .i64 k0, .int .i64 k1, .int .i64 k2, .int .i64 k3, .int .i64 k4, .int .i64 k5, .int .i64 k6]), (w.heap.size, #[.bool n, .slice a len cap, .int .i64 e])] HN.out (.bool vn) (S vi) (S vf)⟩
    ·
      go_simp
      have HN : Hid (HeldL w ((w3.heap.size + 1, #[.bool false, .string ⟨#[]⟩, .string ⟨#[]⟩]) :: [(w3.heap.size, #[.int .i64 p.kind, .int .i64 p.mn, .int .i64 p.mx, .bool p.inc.neg, S p.inc.l, .int .i64 p.inc.e, .int .i64 p.mode, .int .i64 p.mi]), (w.heap.size + 1, #[.int .i64 k0, .int .i64 k1, .int .i64 k2, .int .i64 k3, .int .i64 k4, .int .i64 k5, .int .i64 k6]), (w.heap.size, #[.bool n, .slice a len cap, .int .i64 e])]) _) := Lib.hid (HeldL.alloc (hHeld.2.2.2.2.2.2.2.2.2.2.2) (w3.heap.size + 1) #[.bool false, .string ⟨#[]⟩, .string ⟨#[]⟩] 49 (by first | rfl | simp))
      refine hK.out _ _ (ALL1.out _ (HeldL.tail HN.out)) (fun hHeld2 => ?_)
      clear hK hHeld
      have hHeld := hHeld2
      clear hHeld2
      try simp only [Act.put, List.setIfInBounds_toArray, List.set_cons_zero, List.set_cons_succ]
      refine wpAnyH_ready (rs := [2]) (by kernel_rfl) (by simp) ?_
      refine (AllReadyH.cons (o := { dst := some 21, op := Go.Op.call { callee := Go.Callee.value (Go.Operand.func 13), args := #[Go.Operand.tmp 20], argTypes := #[24] }, type := 31, pos := "law.go:127", after := #[{ on := 1, ground := Go.Ground.data }], guard := none }) rfl (fun KK hK => ?_) AllReadyH.nil)
      go_simp
      with_reducible refine (make_as n a len cap L e _ (HIN.out.below (hHeld.2.2.2.2.2.2.2.2.2.2.2).bel) (by omega)).mono ?_
      rintro x wA ⟨rfl, hb⟩
      go_wp2_with fail
      refine hK.out _ _ (KEEP1.out _ _ hHeld hb) (fun hHeld2 => ?_)
      have HM : Hid (HeldL w ((w3.heap.size + 1, #[.bool false, .string ⟨#[]⟩, .string ⟨#[]⟩]) :: [(w3.heap.size, #[.int .i64 p.kind, .int .i64 p.mn, .int .i64 p.mx, .bool p.inc.neg, S p.inc.l, .int .i64 p.inc.e, .int .i64 p.mode, .int .i64 p.mi]), (w.heap.size + 1, #[.int .i64 k0, .int .i64 k1, .int .i64 k2, .int .i64 k3, .int .i64 k4, .int .i64 k5, .int .i64 k6]), (w.heap.size, #[.bool n, .slice a len cap, .int .i64 e])]) wA) := Lib.hid (HeldL.keep HN.out hb)
      clear HN
      have HN := HM
      clear HM
      clear hK hHeld hb
      have hHeld := hHeld2
      clear hHeld2
      try simp only [Act.put, List.setIfInBounds_toArray, List.set_cons_zero, List.set_cons_succ]
      refine wpAnyH_ready (rs := [3]) (by kernel_rfl) (by simp) ?_
      refine (AllReadyH.cons (o := { dst := some 22, op := Go.Op.call { callee := Go.Callee.value (Go.Operand.func 24), args := #[Go.Operand.tmp 19, Go.Operand.tmp 21], argTypes := #[46, 31] }, type := 51, pos := "law.go:127", after := #[{ on := 0, ground := Go.Ground.data }, { on := 2, ground := Go.Ground.data }, { on := 2, ground := Go.Ground.chain }], guard := none }) rfl (fun KK hK => ?_) AllReadyH.nil)
      go_simp
      with_reducible refine (HA1.out _ (TAB1.out _ hHeld)).mono ?_
      rintro x wB ⟨rfl, hb⟩
      go_wp2_with fail
      refine hK.out _ _ (KEEP1.out _ _ hHeld hb) (fun hHeld2 => ?_)
      have HM : Hid (HeldL w ((w3.heap.size + 1, #[.bool false, .string ⟨#[]⟩, .string ⟨#[]⟩]) :: [(w3.heap.size, #[.int .i64 p.kind, .int .i64 p.mn, .int .i64 p.mx, .bool p.inc.neg, S p.inc.l, .int .i64 p.inc.e, .int .i64 p.mode, .int .i64 p.mi]), (w.heap.size + 1, #[.int .i64 k0, .int .i64 k1, .int .i64 k2, .int .i64 k3, .int .i64 k4, .int .i64 k5, .int .i64 k6]), (w.heap.size, #[.bool n, .slice a len cap, .int .i64 e])]) wB) := Lib.hid (HeldL.keep HN.out hb)
      clear HN
      have HN := HM
      clear HM
      clear hK hHeld hb
      have hHeld := hHeld2
      clear hHeld2
      try simp only [Act.put, List.setIfInBounds_toArray, List.set_cons_zero, List.set_cons_succ]
      refine wpAnyH_take (i := 4) (oi := { dst := some 18, op := Go.Op.move (Go.Operand.tmp 22), type := 51, pos := "law.go:127", after := #[{ on := 3, ground := Go.Ground.data }], guard := none }) (v := ?_) rfl (by kernel_rfl) (by kernel_rfl) (by kernel_rfl) (fun _ _ _ h => h) (Or.inl ⟨by rfl, ?_⟩) hHeld ?_
      case refine_2 => (intro w hSw; (try dsimp only at hSw); go_simp <;> with_reducible rfl)
      try simp only [Act.put, List.setIfInBounds_toArray, List.set_cons_zero, List.set_cons_succ]
      refine wpAnyH_take (i := 5) (oi := { dst := some 23, op := Go.Op.extract (Go.Operand.tmp 18) 0, type := 49, pos := "law.go:127", after := #[{ on := 4, ground := Go.Ground.data }], guard := none }) (v := ?_) rfl (by kernel_rfl) (by kernel_rfl) (by kernel_rfl) (fun _ _ _ h => h) (Or.inl ⟨by rfl, ?_⟩) hHeld ?_
      case refine_2 => (intro w hSw; (try dsimp only at hSw); go_simp <;> with_reducible rfl)
      try simp only [Act.put, List.setIfInBounds_toArray, List.set_cons_zero, List.set_cons_succ]
      refine wpAnyH_take (i := 6) (oi := { dst := some 24, op := Go.Op.extract (Go.Operand.tmp 18) 1, type := 50, pos := "law.go:127", after := #[{ on := 4, ground := Go.Ground.data }, { on := 8, ground := Go.Ground.gcOnly Go.Departure.lateStores }], guard := none }) (v := ?_) rfl (by kernel_rfl) (by kernel_rfl) (by kernel_rfl) (fun _ _ _ h => h) (Or.inl ⟨by rfl, ?_⟩) hHeld ?_
      case refine_2 => (intro w hSw; (try dsimp only at hSw); go_simp <;> with_reducible rfl)
      try simp only [Act.put, List.setIfInBounds_toArray, List.set_cons_zero, List.set_cons_succ]
      refine wpAnyH_ready (rs := [8]) (by kernel_rfl) (by simp) ?_
      refine (AllReadyH.cons (o := { dst := none, op := Go.Op.store 49 (Go.Operand.tmp 6) (Go.Operand.tmp 23), type := 0, pos := "law.go:127", after := #[{ on := 7, ground := Go.Ground.data }, { on := 5, ground := Go.Ground.data }, { on := 3, ground := Go.Ground.chain }, { on := 0, ground := Go.Ground.phase }, { on := 1, ground := Go.Ground.phase }, { on := 2, ground := Go.Ground.phase }, { on := 3, ground := Go.Ground.phase }, { on := 4, ground := Go.Ground.phase }, { on := 5, ground := Go.Ground.phase }, { on := 6, ground := Go.Ground.textOnly Go.Departure.lateStores }, { on := 7, ground := Go.Ground.phase }], guard := none }) rfl (fun KK hK => ?_) AllReadyH.nil)
      obtain ⟨nn0, nn1, nn2, nnz0, nnz1, nnz2, nnl⟩ := (HN.out.f (List.Mem.head _)).three
      go_simp
      refine hK.out _ _ (ALL1.out _ (HeldL.tail (HeldL.store3 [] [(w3.heap.size, #[.int .i64 p.kind, .int .i64 p.mn, .int .i64 p.mx, .bool p.inc.neg, S p.inc.l, .int .i64 p.inc.e, .int .i64 p.mode, .int .i64 p.mi]), (w.heap.size + 1, #[.int .i64 k0, .int .i64 k1, .int .i64 k2, .int .i64 k3, .int .i64 k4, .int .i64 k5, .int .i64 k6]), (w.heap.size, #[.bool n, .slice a len cap, .int .i64 e])] HN.out (.bool vn) (S vi) (S vf)))) (fun hHeld2 => ?_)
      clear hK hHeld
      have hHeld := hHeld2
      clear hHeld2
      try simp only [Act.put, List.setIfInBounds_toArray, List.set_cons_zero, List.set_cons_succ]
      refine wpAnyH_take (i := 9) (oi := { dst := some 7, op := Go.Op.assign (Go.Operand.tmp 24), type := 50, pos := "law.go:127", after := #[{ on := 6, ground := Go.Ground.data }, { on := 8, ground := Go.Ground.chain }, { on := 0, ground := Go.Ground.phase }, { on := 1, ground := Go.Ground.phase }, { on := 2, ground := Go.Ground.phase }, { on := 3, ground := Go.Ground.phase }, { on := 4, ground := Go.Ground.phase }, { on := 5, ground := Go.Ground.phase }, { on := 6, ground := Go.Ground.phase }, { on := 7, ground := Go.Ground.phase }, { on := 8, ground := Go.Ground.phase }], guard := none }) (v := ?_) rfl (by kernel_rfl) (by kernel_rfl) (by kernel_rfl) (fun _ _ _ h => h) (Or.inl ⟨by rfl, ?_⟩) hHeld ?_
      case refine_2 => (intro w hSw; (try dsimp only at hSw); go_simp <;> with_reducible rfl)
      try simp only [Act.put, List.setIfInBounds_toArray, List.set_cons_zero, List.set_cons_succ]
      refine wpAnyH_done (by kernel_rfl) ?_ _
      go_wp2
      go_meet
      case rel => exact ⟨_, rfl, rfl, HeldL.store3 [] [(w3.heap.size, #[.int .i64 p.kind, .int .i64 p.mn, .int .i64 p.mx, .bool p.inc.neg, S p.inc.l, .int .i64 p.inc.e, .int .i64 p.mode, .int .i64 p.mi]), (w.heap.size + 1, #[.int .i64 k0, .int .i64 k1, .int .i64 k2, .int .i64 k3, .int .i64 k4, .int .i64 k5, .int .i64 k6]), (w.heap.size, #[.bool n, .slice a len cap, .int .i64 e])] HN.out (.bool vn) (S vi) (S vf)⟩
  case rest =>
  clear q0 q1 q2 ql
  obtain ⟨b4, hvp, hve, hh⟩ := hcut
  subst hvp hve
  have H4 : Hid (HeldL w ((b4, #[.bool vn, S vi, S vf]) :: [(w3.heap.size, #[.int .i64 p.kind, .int .i64 p.mn, .int .i64 p.mx, .bool p.inc.neg, S p.inc.l, .int .i64 p.inc.e, .int .i64 p.mode, .int .i64 p.mi]), (w.heap.size + 1, #[.int .i64 k0, .int .i64 k1, .int .i64 k2, .int .i64 k3, .int .i64 k4, .int .i64 k5, .int .i64 k6]), (w.heap.size, #[.bool n, .slice a len cap, .int .i64 e])]) wc) := Lib.hid hh
  clear hh H3
  have HR := H4
  clear H4
  cases vn with
  | true =>
    by_cases hf : vf = []
    · subst hf
      have hi : ¬ vi = [] := fun h => HOR.out.elim (fun a => a h) (fun a => a rfl)
      have eI := empty_of (ne_empty hi)
      have eI2 := ne_empty hi
      have HPA2 := Lib.hid (HPA.out hi)
      have htt2 : t = 45 :: vi := by rw [← HTT.out]; simp [textV, signL]
      subst htt2
      have H20 : Hid (HeldL w [(b4, #[.bool true, S vi, .string ⟨#[]⟩]), (w3.heap.size, #[.int .i64 p.kind, .int .i64 p.mn, .int .i64 p.mx, .bool p.inc.neg, S p.inc.l, .int .i64 p.inc.e, .int .i64 p.mode, .int .i64 p.mi]), (w.heap.size + 1, #[.int .i64 k0, .int .i64 k1, .int .i64 k2, .int .i64 k3, .int .i64 k4, .int .i64 k5, .int .i64 k6]), (w.heap.size, #[.bool n, .slice a len cap, .int .i64 e])] wc) := HR
      clear HR
      have bv0 : wc.cell? ⟨b4, 0, none⟩ = some (.bool true) := (H20.out.f (List.Mem.head _)).cell 0
      have bv1 : wc.cell? ⟨b4, 1, none⟩ = some (S vi) := (H20.out.f (List.Mem.head _)).cell 1
      have bv2 : wc.cell? ⟨b4, 2, none⟩ = some (.string ⟨#[]⟩) := (H20.out.f (List.Mem.head _)).cell 2
      have bvl : b4 < wc.heap.size := (H20.out.f (List.Mem.head _)).lt
      go_wp2_with fail
      rw [show (⟨#[45]⟩ : ByteArray) ++ (⟨vi.toArray⟩ : ByteArray) = ⟨(45 :: vi).toArray⟩ from cat45 vi]
      with_reducible refine (HTX.out _ (HT.out.below H20.out.bel)).mono ?_
      rintro x w21 ⟨rfl, hb⟩
      clear bv0 bv1 bv2 bvl
      have H21 : Hid (HeldL w [(b4, #[.bool true, S vi, .string ⟨#[]⟩]), (w3.heap.size, #[.int .i64 p.kind, .int .i64 p.mn, .int .i64 p.mx, .bool p.inc.neg, S p.inc.l, .int .i64 p.inc.e, .int .i64 p.mode, .int .i64 p.mi]), (w.heap.size + 1, #[.int .i64 k0, .int .i64 k1, .int .i64 k2, .int .i64 k3, .int .i64 k4, .int .i64 k5, .int .i64 k6]), (w.heap.size, #[.bool n, .slice a len cap, .int .i64 e])] w21) := Lib.hid (HeldL.keep H20.out hb)
      clear H20
      clear hb
      have bv0 : w21.cell? ⟨b4, 0, none⟩ = some (.bool true) := (H21.out.f (List.Mem.head _)).cell 0
      have bv1 : w21.cell? ⟨b4, 1, none⟩ = some (S vi) := (H21.out.f (List.Mem.head _)).cell 1
      have bv2 : w21.cell? ⟨b4, 2, none⟩ = some (.string ⟨#[]⟩) := (H21.out.f (List.Mem.head _)).cell 2
      have bvl : b4 < w21.heap.size := (H21.out.f (List.Mem.head _)).lt
      go_wp2_with fail
      with_reducible refine (HTX.out _ (HT.out.below H21.out.bel)).mono ?_
      rintro x w22 ⟨rfl, hb⟩
      clear bv0 bv1 bv2 bvl
      have H22 : Hid (HeldL w [(b4, #[.bool true, S vi, .string ⟨#[]⟩]), (w3.heap.size, #[.int .i64 p.kind, .int .i64 p.mn, .int .i64 p.mx, .bool p.inc.neg, S p.inc.l, .int .i64 p.inc.e, .int .i64 p.mode, .int .i64 p.mi]), (w.heap.size + 1, #[.int .i64 k0, .int .i64 k1, .int .i64 k2, .int .i64 k3, .int .i64 k4, .int .i64 k5, .int .i64 k6]), (w.heap.size, #[.bool n, .slice a len cap, .int .i64 e])] w22) := Lib.hid (HeldL.keep H21.out hb)
      clear H21
      clear hb
      have bv0 : w22.cell? ⟨b4, 0, none⟩ = some (.bool true) := (H22.out.f (List.Mem.head _)).cell 0
      have bv1 : w22.cell? ⟨b4, 1, none⟩ = some (S vi) := (H22.out.f (List.Mem.head _)).cell 1
      have bv2 : w22.cell? ⟨b4, 2, none⟩ = some (.string ⟨#[]⟩) := (H22.out.f (List.Mem.head _)).cell 2
      have bvl : b4 < w22.heap.size := (H22.out.f (List.Mem.head _)).lt
      go_wp2_with fail
      with_reducible refine (HPA2.out _ (HT.out.below H22.out.bel)).mono ?_
      rintro x w23 ⟨rfl, hb⟩
      clear bv0 bv1 bv2 bvl
      have H23 : Hid (HeldL w [(b4, #[.bool true, S vi, .string ⟨#[]⟩]), (w3.heap.size, #[.int .i64 p.kind, .int .i64 p.mn, .int .i64 p.mx, .bool p.inc.neg, S p.inc.l, .int .i64 p.inc.e, .int .i64 p.mode, .int .i64 p.mi]), (w.heap.size + 1, #[.int .i64 k0, .int .i64 k1, .int .i64 k2, .int .i64 k3, .int .i64 k4, .int .i64 k5, .int .i64 k6]), (w.heap.size, #[.bool n, .slice a len cap, .int .i64 e])] w23) := Lib.hid (HeldL.keep H22.out hb)
      clear H22
      clear hb
      have bv0 : w23.cell? ⟨b4, 0, none⟩ = some (.bool true) := (H23.out.f (List.Mem.head _)).cell 0
      have bv1 : w23.cell? ⟨b4, 1, none⟩ = some (S vi) := (H23.out.f (List.Mem.head _)).cell 1
      have bv2 : w23.cell? ⟨b4, 2, none⟩ = some (.string ⟨#[]⟩) := (H23.out.f (List.Mem.head _)).cell 2
      have bvl : b4 < w23.heap.size := (H23.out.f (List.Mem.head _)).lt
      go_wp2_with fail
      have ALL1 : Hid (∀ w' : World, HeldL w [(w23.heap.size, #[.bool g.neg, S g.l, .int .i64 g.e]), (b4, #[.bool true, S vi, .string ⟨#[]⟩]), (w3.heap.size, #[.int .i64 p.kind, .int .i64 p.mn, .int .i64 p.mx, .bool p.inc.neg, S p.inc.l, .int .i64 p.inc.e, .int .i64 p.mode, .int .i64 p.mi]), (w.heap.size + 1, #[.int .i64 k0, .int .i64 k1, .int .i64 k2, .int .i64 k3, .int .i64 k4, .int .i64 k5, .int .i64 k6]), (w.heap.size, #[.bool n, .slice a len cap, .int .i64 e])] w' → w'.cell? ⟨b4, 0, none⟩ = some (.bool true) ∧ w'.cell? ⟨b4, 1, none⟩ = some (S vi) ∧ w'.cell? ⟨b4, 2, none⟩ = some (.string ⟨#[]⟩) ∧ w'.cell? ⟨w23.heap.size, 0, none⟩ = some (.bool g.neg) ∧ w'.cell? ⟨w23.heap.size, 1, none⟩ = some (S g.l) ∧ w'.cell? ⟨w23.heap.size, 2, none⟩ = some (.int .i64 g.e) ∧ HeldL w [(w23.heap.size, #[.bool g.neg, S g.l, .int .i64 g.e]), (b4, #[.bool true, S vi, .string ⟨#[]⟩]), (w3.heap.size, #[.int .i64 p.kind, .int .i64 p.mn, .int .i64 p.mx, .bool p.inc.neg, S p.inc.l, .int .i64 p.inc.e, .int .i64 p.mode, .int .i64 p.mi]), (w.heap.size + 1, #[.int .i64 k0, .int .i64 k1, .int .i64 k2, .int .i64 k3, .int .i64 k4, .int .i64 k5, .int .i64 k6]), (w.heap.size, #[.bool n, .slice a len cap, .int .i64 e])] w') := Lib.hid (fun w' h => ⟨(h.f (List.Mem.tail _ (List.Mem.head _))).cell 0, (h.f (List.Mem.tail _ (List.Mem.head _))).cell 1, (h.f (List.Mem.tail _ (List.Mem.head _))).cell 2, (h.f (List.Mem.head _)).cell 0, (h.f (List.Mem.head _)).cell 1, (h.f (List.Mem.head _)).cell 2, h⟩)
      have KEEP1 : Hid (∀ w' w'' : World, (w'.cell? ⟨b4, 0, none⟩ = some (.bool true) ∧ w'.cell? ⟨b4, 1, none⟩ = some (S vi) ∧ w'.cell? ⟨b4, 2, none⟩ = some (.string ⟨#[]⟩) ∧ w'.cell? ⟨w23.heap.size, 0, none⟩ = some (.bool g.neg) ∧ w'.cell? ⟨w23.heap.size, 1, none⟩ = some (S g.l) ∧ w'.cell? ⟨w23.heap.size, 2, none⟩ = some (.int .i64 g.e) ∧ HeldL w [(w23.heap.size, #[.bool g.neg, S g.l, .int .i64 g.e]), (b4, #[.bool true, S vi, .string ⟨#[]⟩]), (w3.heap.size, #[.int .i64 p.kind, .int .i64 p.mn, .int .i64 p.mx, .bool p.inc.neg, S p.inc.l, .int .i64 p.inc.e, .int .i64 p.mode, .int .i64 p.mi]), (w.heap.size + 1, #[.int .i64 k0, .int .i64 k1, .int .i64 k2, .int .i64 k3, .int .i64 k4, .int .i64 k5, .int .i64 k6]), (w.heap.size, #[.bool n, .slice a len cap, .int .i64 e])] w') → Below w'.heap.size w' w'' → (w''.cell? ⟨b4, 0, none⟩ = some (.bool true) ∧ w''.cell? ⟨b4, 1, none⟩ = some (S vi) ∧ w''.cell? ⟨b4, 2, none⟩ = some (.string ⟨#[]⟩) ∧ w''.cell? ⟨w23.heap.size, 0, none⟩ = some (.bool g.neg) ∧ w''.cell? ⟨w23.heap.size, 1, none⟩ = some (S g.l) ∧ w''.cell? ⟨w23.heap.size, 2, none⟩ = some (.int .i64 g.e) ∧ HeldL w [(w23.heap.size, #[.bool g.neg, S g.l, .int .i64 g.e]), (b4, #[.bool true, S vi, .string ⟨#[]⟩]), (w3.heap.size, #[.int .i64 p.kind, .int .i64 p.mn, .int .i64 p.mx, .bool p.inc.neg, S p.inc.l, .int .i64 p.inc.e, .int .i64 p.mode, .int .i64 p.mi]), (w.heap.size + 1, #[.int .i64 k0, .int .i64 k1, .int .i64 k2, .int .i64 k3, .int .i64 k4, .int .i64 k5, .int .i64 k6]), (w.heap.size, #[.bool n, .slice a len cap, .int .i64 e])] w'')) := Lib.hid (fun w' w'' h hb => ALL1.out _ (HeldL.keep (h.2.2.2.2.2.2) hb))
      have HS1 : Hid (HeldL w [(w23.heap.size, #[.bool g.neg, S g.l, .int .i64 g.e]), (b4, #[.bool true, S vi, .string ⟨#[]⟩]), (w3.heap.size, #[.int .i64 p.kind, .int .i64 p.mn, .int .i64 p.mx, .bool p.inc.neg, S p.inc.l, .int .i64 p.inc.e, .int .i64 p.mode, .int .i64 p.mi]), (w.heap.size + 1, #[.int .i64 k0, .int .i64 k1, .int .i64 k2, .int .i64 k3, .int .i64 k4, .int .i64 k5, .int .i64 k6]), (w.heap.size, #[.bool n, .slice a len cap, .int .i64 e])] _) := Lib.hid (HeldL.alloc H23.out (w23.heap.size) #[.bool g.neg, S g.l, .int .i64 g.e] 31 (by simp))
      have TAB1 : Hid (∀ w' : World, (w'.cell? ⟨b4, 0, none⟩ = some (.bool true) ∧ w'.cell? ⟨b4, 1, none⟩ = some (S vi) ∧ w'.cell? ⟨b4, 2, none⟩ = some (.string ⟨#[]⟩) ∧ w'.cell? ⟨w23.heap.size, 0, none⟩ = some (.bool g.neg) ∧ w'.cell? ⟨w23.heap.size, 1, none⟩ = some (S g.l) ∧ w'.cell? ⟨w23.heap.size, 2, none⟩ = some (.int .i64 g.e) ∧ HeldL w [(w23.heap.size, #[.bool g.neg, S g.l, .int .i64 g.e]), (b4, #[.bool true, S vi, .string ⟨#[]⟩]), (w3.heap.size, #[.int .i64 p.kind, .int .i64 p.mn, .int .i64 p.mx, .bool p.inc.neg, S p.inc.l, .int .i64 p.inc.e, .int .i64 p.mode, .int .i64 p.mi]), (w.heap.size + 1, #[.int .i64 k0, .int .i64 k1, .int .i64 k2, .int .i64 k3, .int .i64 k4, .int .i64 k5, .int .i64 k6]), (w.heap.size, #[.bool n, .slice a len cap, .int .i64 e])] w') → Tab w') := Lib.hid (fun w' h => HT.out.below (h.2.2.2.2.2.2).bel)
      go_region_held3 (fun w' => w'.cell? ⟨b4, 0, none⟩ = some (.bool true) ∧ w'.cell? ⟨b4, 1, none⟩ = some (S vi) ∧ w'.cell? ⟨b4, 2, none⟩ = some (.string ⟨#[]⟩) ∧ w'.cell? ⟨w23.heap.size, 0, none⟩ = some (.bool g.neg) ∧ w'.cell? ⟨w23.heap.size, 1, none⟩ = some (S g.l) ∧ w'.cell? ⟨w23.heap.size, 2, none⟩ = some (.int .i64 g.e) ∧ HeldL w [(w23.heap.size, #[.bool g.neg, S g.l, .int .i64 g.e]), (b4, #[.bool true, S vi, .string ⟨#[]⟩]), (w3.heap.size, #[.int .i64 p.kind, .int .i64 p.mn, .int .i64 p.mx, .bool p.inc.neg, S p.inc.l, .int .i64 p.inc.e, .int .i64 p.mode, .int .i64 p.mi]), (w.heap.size + 1, #[.int .i64 k0, .int .i64 k1, .int .i64 k2, .int .i64 k3, .int .i64 k4, .int .i64 k5, .int .i64 k6]), (w.heap.size, #[.bool n, .slice a len cap, .int .i64 e])] w')
        (first | exact ALL1.out _ (HeldL.drew HS1.out) | exact KEEP1.out _ _ (by assumption) hb | assumption)
        (first | (go_at_call 26; (with_reducible refine (HVL.out _ (by first | exact HT.out.below HS1.out.bel.drew | exact TAB1.out _ (by assumption))).mono ?_); rintro x wD ⟨rfl, hb⟩))
      have HH : HeldL w [(w23.heap.size, #[.bool g.neg, S g.l, .int .i64 g.e]), (b4, #[.bool true, S vi, .string ⟨#[]⟩]), (w3.heap.size, #[.int .i64 p.kind, .int .i64 p.mn, .int .i64 p.mx, .bool p.inc.neg, S p.inc.l, .int .i64 p.inc.e, .int .i64 p.mode, .int .i64 p.mi]), (w.heap.size + 1, #[.int .i64 k0, .int .i64 k1, .int .i64 k2, .int .i64 k3, .int .i64 k4, .int .i64 k5, .int .i64 k6]), (w.heap.size, #[.bool n, .slice a len cap, .int .i64 e])] wD := (‹wD.cell? ⟨b4, 0, none⟩ = some (.bool true) ∧ wD.cell? ⟨b4, 1, none⟩ = some (S vi) ∧ wD.cell? ⟨b4, 2, none⟩ = some (.string ⟨#[]⟩) ∧ wD.cell? ⟨w23.heap.size, 0, none⟩ = some (.bool g.neg) ∧ wD.cell? ⟨w23.heap.size, 1, none⟩ = some (S g.l) ∧ wD.cell? ⟨w23.heap.size, 2, none⟩ = some (.int .i64 g.e) ∧ HeldL w [(w23.heap.size, #[.bool g.neg, S g.l, .int .i64 g.e]), (b4, #[.bool true, S vi, .string ⟨#[]⟩]), (w3.heap.size, #[.int .i64 p.kind, .int .i64 p.mn, .int .i64 p.mx, .bool p.inc.neg, S p.inc.l, .int .i64 p.inc.e, .int .i64 p.mode, .int .i64 p.mi]), (w.heap.size + 1, #[.int .i64 k0, .int .i64 k1, .int .i64 k2, .int .i64 k3, .int .i64 k4, .int .i64 k5, .int .i64 k6]), (w.heap.size, #[.bool n, .slice a len cap, .int .i64 e])] wD›).2.2.2.2.2.2
      clear bv0 bv1 bv2 bvl
      have H24 : Hid (HeldL w [(w23.heap.size, #[.bool g.neg, S g.l, .int .i64 g.e]), (b4, #[.bool true, S vi, .string ⟨#[]⟩]), (w3.heap.size, #[.int .i64 p.kind, .int .i64 p.mn, .int .i64 p.mx, .bool p.inc.neg, S p.inc.l, .int .i64 p.inc.e, .int .i64 p.mode, .int .i64 p.mi]), (w.heap.size + 1, #[.int .i64 k0, .int .i64 k1, .int .i64 k2, .int .i64 k3, .int .i64 k4, .int .i64 k5, .int .i64 k6]), (w.heap.size, #[.bool n, .slice a len cap, .int .i64 e])] wD) := Lib.hid HH
      clear HH ALL1 KEEP1 HS1 TAB1 H23
      go_wp2
      go_ret
      exact ⟨rfl, H24.out.bel⟩
    · have eF := empty_of (ne_empty hf)
      have eF2 := ne_empty hf
      by_cases hi : vi = []
      · subst hi
        have htt2 : t = 45 :: ([] ++ 46 :: vf) := by rw [← HTT.out]; simp [textV, signL, hf]
        subst htt2
        have H20 : Hid (HeldL w [(b4, #[.bool true, .string ⟨#[]⟩, S vf]), (w3.heap.size, #[.int .i64 p.kind, .int .i64 p.mn, .int .i64 p.mx, .bool p.inc.neg, S p.inc.l, .int .i64 p.inc.e, .int .i64 p.mode, .int .i64 p.mi]), (w.heap.size + 1, #[.int .i64 k0, .int .i64 k1, .int .i64 k2, .int .i64 k3, .int .i64 k4, .int .i64 k5, .int .i64 k6]), (w.heap.size, #[.bool n, .slice a len cap, .int .i64 e])] wc) := HR
        clear HR
        have bv0 : wc.cell? ⟨b4, 0, none⟩ = some (.bool true) := (H20.out.f (List.Mem.head _)).cell 0
        have bv1 : wc.cell? ⟨b4, 1, none⟩ = some (.string ⟨#[]⟩) := (H20.out.f (List.Mem.head _)).cell 1
        have bv2 : wc.cell? ⟨b4, 2, none⟩ = some (S vf) := (H20.out.f (List.Mem.head _)).cell 2
        have bvl : b4 < wc.heap.size := (H20.out.f (List.Mem.head _)).lt
        go_wp2_with fail
        rw [show (⟨#[45]⟩ : ByteArray) ++ (⟨#[]⟩ : ByteArray) = ⟨#[45]⟩ from rfl]
        rw [show (⟨((45 :: []) : List UInt8).toArray⟩ : ByteArray) ++ (⟨#[46]⟩ : ByteArray) ++ (⟨vf.toArray⟩ : ByteArray) = ⟨((45 :: []) ++ 46 :: vf).toArray⟩ from cat46b (45 :: []) vf]
        with_reducible refine (HTX.out _ (HT.out.below H20.out.bel)).mono ?_
        rintro x w21 ⟨rfl, hb⟩
        clear bv0 bv1 bv2 bvl
        have H21 : Hid (HeldL w [(b4, #[.bool true, .string ⟨#[]⟩, S vf]), (w3.heap.size, #[.int .i64 p.kind, .int .i64 p.mn, .int .i64 p.mx, .bool p.inc.neg, S p.inc.l, .int .i64 p.inc.e, .int .i64 p.mode, .int .i64 p.mi]), (w.heap.size + 1, #[.int .i64 k0, .int .i64 k1, .int .i64 k2, .int .i64 k3, .int .i64 k4, .int .i64 k5, .int .i64 k6]), (w.heap.size, #[.bool n, .slice a len cap, .int .i64 e])] w21) := Lib.hid (HeldL.keep H20.out hb)
        clear H20
        clear hb
        have bv0 : w21.cell? ⟨b4, 0, none⟩ = some (.bool true) := (H21.out.f (List.Mem.head _)).cell 0
        have bv1 : w21.cell? ⟨b4, 1, none⟩ = some (.string ⟨#[]⟩) := (H21.out.f (List.Mem.head _)).cell 1
        have bv2 : w21.cell? ⟨b4, 2, none⟩ = some (S vf) := (H21.out.f (List.Mem.head _)).cell 2
        have bvl : b4 < w21.heap.size := (H21.out.f (List.Mem.head _)).lt
        go_wp2
        go_ret
        exact ⟨rfl, H21.out.bel⟩
      · have eI := empty_of (ne_empty hi)
        have eI2 := ne_empty hi
        have HPA2 := Lib.hid (HPA.out hi)
        have htt2 : t = 45 :: (vi ++ 46 :: vf) := by rw [← HTT.out]; simp [textV, signL, hf]
        subst htt2
        have H20 : Hid (HeldL w [(b4, #[.bool true, S vi, S vf]), (w3.heap.size, #[.int .i64 p.kind, .int .i64 p.mn, .int .i64 p.mx, .bool p.inc.neg, S p.inc.l, .int .i64 p.inc.e, .int .i64 p.mode, .int .i64 p.mi]), (w.heap.size + 1, #[.int .i64 k0, .int .i64 k1, .int .i64 k2, .int .i64 k3, .int .i64 k4, .int .i64 k5, .int .i64 k6]), (w.heap.size, #[.bool n, .slice a len cap, .int .i64 e])] wc) := HR
        clear HR
        have bv0 : wc.cell? ⟨b4, 0, none⟩ = some (.bool true) := (H20.out.f (List.Mem.head _)).cell 0
        have bv1 : wc.cell? ⟨b4, 1, none⟩ = some (S vi) := (H20.out.f (List.Mem.head _)).cell 1
        have bv2 : wc.cell? ⟨b4, 2, none⟩ = some (S vf) := (H20.out.f (List.Mem.head _)).cell 2
        have bvl : b4 < wc.heap.size := (H20.out.f (List.Mem.head _)).lt
        go_wp2_with fail
        rw [show (⟨#[45]⟩ : ByteArray) ++ (⟨vi.toArray⟩ : ByteArray) = ⟨(45 :: vi).toArray⟩ from cat45 vi]
        rw [show (⟨((45 :: vi) : List UInt8).toArray⟩ : ByteArray) ++ (⟨#[46]⟩ : ByteArray) ++ (⟨vf.toArray⟩ : ByteArray) = ⟨((45 :: vi) ++ 46 :: vf).toArray⟩ from cat46b (45 :: vi) vf]
        with_reducible refine (HTX.out _ (HT.out.below H20.out.bel)).mono ?_
        rintro x w21 ⟨rfl, hb⟩
        clear bv0 bv1 bv2 bvl
        have H21 : Hid (HeldL w [(b4, #[.bool true, S vi, S vf]), (w3.heap.size, #[.int .i64 p.kind, .int .i64 p.mn, .int .i64 p.mx, .bool p.inc.neg, S p.inc.l, .int .i64 p.inc.e, .int .i64 p.mode, .int .i64 p.mi]), (w.heap.size + 1, #[.int .i64 k0, .int .i64 k1, .int .i64 k2, .int .i64 k3, .int .i64 k4, .int .i64 k5, .int .i64 k6]), (w.heap.size, #[.bool n, .slice a len cap, .int .i64 e])] w21) := Lib.hid (HeldL.keep H20.out hb)
        clear H20
        clear hb
        have bv0 : w21.cell? ⟨b4, 0, none⟩ = some (.bool true) := (H21.out.f (List.Mem.head _)).cell 0
        have bv1 : w21.cell? ⟨b4, 1, none⟩ = some (S vi) := (H21.out.f (List.Mem.head _)).cell 1
        have bv2 : w21.cell? ⟨b4, 2, none⟩ = some (S vf) := (H21.out.f (List.Mem.head _)).cell 2
        have bvl : b4 < w21.heap.size := (H21.out.f (List.Mem.head _)).lt
        go_wp2_with fail
        with_reducible refine (HTX.out _ (HT.out.below H21.out.bel)).mono ?_
        rintro x w22 ⟨rfl, hb⟩
        clear bv0 bv1 bv2 bvl
        have H22 : Hid (HeldL w [(b4, #[.bool true, S vi, S vf]), (w3.heap.size, #[.int .i64 p.kind, .int .i64 p.mn, .int .i64 p.mx, .bool p.inc.neg, S p.inc.l, .int .i64 p.inc.e, .int .i64 p.mode, .int .i64 p.mi]), (w.heap.size + 1, #[.int .i64 k0, .int .i64 k1, .int .i64 k2, .int .i64 k3, .int .i64 k4, .int .i64 k5, .int .i64 k6]), (w.heap.size, #[.bool n, .slice a len cap, .int .i64 e])] w22) := Lib.hid (HeldL.keep H21.out hb)
        clear H21
        clear hb
        have bv0 : w22.cell? ⟨b4, 0, none⟩ = some (.bool true) := (H22.out.f (List.Mem.head _)).cell 0
        have bv1 : w22.cell? ⟨b4, 1, none⟩ = some (S vi) := (H22.out.f (List.Mem.head _)).cell 1
        have bv2 : w22.cell? ⟨b4, 2, none⟩ = some (S vf) := (H22.out.f (List.Mem.head _)).cell 2
        have bvl : b4 < w22.heap.size := (H22.out.f (List.Mem.head _)).lt
        go_wp2_with fail
        with_reducible refine (HPA2.out _ (HT.out.below H22.out.bel)).mono ?_
        rintro x w23 ⟨rfl, hb⟩
        clear bv0 bv1 bv2 bvl
        have H23 : Hid (HeldL w [(b4, #[.bool true, S vi, S vf]), (w3.heap.size, #[.int .i64 p.kind, .int .i64 p.mn, .int .i64 p.mx, .bool p.inc.neg, S p.inc.l, .int .i64 p.inc.e, .int .i64 p.mode, .int .i64 p.mi]), (w.heap.size + 1, #[.int .i64 k0, .int .i64 k1, .int .i64 k2, .int .i64 k3, .int .i64 k4, .int .i64 k5, .int .i64 k6]), (w.heap.size, #[.bool n, .slice a len cap, .int .i64 e])] w23) := Lib.hid (HeldL.keep H22.out hb)
        clear H22
        clear hb
        have bv0 : w23.cell? ⟨b4, 0, none⟩ = some (.bool true) := (H23.out.f (List.Mem.head _)).cell 0
        have bv1 : w23.cell? ⟨b4, 1, none⟩ = some (S vi) := (H23.out.f (List.Mem.head _)).cell 1
        have bv2 : w23.cell? ⟨b4, 2, none⟩ = some (S vf) := (H23.out.f (List.Mem.head _)).cell 2
        have bvl : b4 < w23.heap.size := (H23.out.f (List.Mem.head _)).lt
        go_wp2_with fail
        have ALL1 : Hid (∀ w' : World, HeldL w [(w23.heap.size, #[.bool g.neg, S g.l, .int .i64 g.e]), (b4, #[.bool true, S vi, S vf]), (w3.heap.size, #[.int .i64 p.kind, .int .i64 p.mn, .int .i64 p.mx, .bool p.inc.neg, S p.inc.l, .int .i64 p.inc.e, .int .i64 p.mode, .int .i64 p.mi]), (w.heap.size + 1, #[.int .i64 k0, .int .i64 k1, .int .i64 k2, .int .i64 k3, .int .i64 k4, .int .i64 k5, .int .i64 k6]), (w.heap.size, #[.bool n, .slice a len cap, .int .i64 e])] w' → w'.cell? ⟨b4, 0, none⟩ = some (.bool true) ∧ w'.cell? ⟨b4, 1, none⟩ = some (S vi) ∧ w'.cell? ⟨b4, 2, none⟩ = some (S vf) ∧ w'.cell? ⟨w23.heap.size, 0, none⟩ = some (.bool g.neg) ∧ w'.cell? ⟨w23.heap.size, 1, none⟩ = some (S g.l) ∧ w'.cell? ⟨w23.heap.size, 2, none⟩ = some (.int .i64 g.e) ∧ HeldL w [(w23.heap.size, #[.bool g.neg, S g.l, .int .i64 g.e]), (b4, #[.bool true, S vi, S vf]), (w3.heap.size, #[.int .i64 p.kind, .int .i64 p.mn, .int .i64 p.mx, .bool p.inc.neg, S p.inc.l, .int .i64 p.inc.e, .int .i64 p.mode, .int .i64 p.mi]), (w.heap.size + 1, #[.int .i64 k0, .int .i64 k1, .int .i64 k2, .int .i64 k3, .int .i64 k4, .int .i64 k5, .int .i64 k6]), (w.heap.size, #[.bool n, .slice a len cap, .int .i64 e])] w') := Lib.hid (fun w' h => ⟨(h.f (List.Mem.tail _ (List.Mem.head _))).cell 0, (h.f (List.Mem.tail _ (List.Mem.head _))).cell 1, (h.f (List.Mem.tail _ (List.Mem.head _))).cell 2, (h.f (List.Mem.head _)).cell 0, (h.f (List.Mem.head _)).cell 1, (h.f (List.Mem.head _)).cell 2, h⟩)
        have KEEP1 : Hid (∀ w' w'' : World, (w'.cell? ⟨b4, 0, none⟩ = some (.bool true) ∧ w'.cell? ⟨b4, 1, none⟩ = some (S vi) ∧ w'.cell? ⟨b4, 2, none⟩ = some (S vf) ∧ w'.cell? ⟨w23.heap.size, 0, none⟩ = some (.bool g.neg) ∧ w'.cell? ⟨w23.heap.size, 1, none⟩ = some (S g.l) ∧ w'.cell? ⟨w23.heap.size, 2, none⟩ = some (.int .i64 g.e) ∧ HeldL w [(w23.heap.size, #[.bool g.neg, S g.l, .int .i64 g.e]), (b4, #[.bool true, S vi, S vf]), (w3.heap.size, #[.int .i64 p.kind, .int .i64 p.mn, .int .i64 p.mx, .bool p.inc.neg, S p.inc.l, .int .i64 p.inc.e, .int .i64 p.mode, .int .i64 p.mi]), (w.heap.size + 1, #[.int .i64 k0, .int .i64 k1, .int .i64 k2, .int .i64 k3, .int .i64 k4, .int .i64 k5, .int .i64 k6]), (w.heap.size, #[.bool n, .slice a len cap, .int .i64 e])] w') → Below w'.heap.size w' w'' → (w''.cell? ⟨b4, 0, none⟩ = some (.bool true) ∧ w''.cell? ⟨b4, 1, none⟩ = some (S vi) ∧ w''.cell? ⟨b4, 2, none⟩ = some (S vf) ∧ w''.cell? ⟨w23.heap.size, 0, none⟩ = some (.bool g.neg) ∧ w''.cell? ⟨w23.heap.size, 1, none⟩ = some (S g.l) ∧ w''.cell? ⟨w23.heap.size, 2, none⟩ = some (.int .i64 g.e) ∧ HeldL w [(w23.heap.size, #[.bool g.neg, S g.l, .int .i64 g.e]), (b4, #[.bool true, S vi, S vf]), (w3.heap.size, #[.int .i64 p.kind, .int .i64 p.mn, .int .i64 p.mx, .bool p.inc.neg, S p.inc.l, .int .i64 p.inc.e, .int .i64 p.mode, .int .i64 p.mi]), (w.heap.size + 1, #[.int .i64 k0, .int .i64 k1, .int .i64 k2, .int .i64 k3, .int .i64 k4, .int .i64 k5, .int .i64 k6]), (w.heap.size, #[.bool n, .slice a len cap, .int .i64 e])] w'')) := Lib.hid (fun w' w'' h hb => ALL1.out _ (HeldL.keep (h.2.2.2.2.2.2) hb))
        have HS1 : Hid (HeldL w [(w23.heap.size, #[.bool g.neg, S g.l, .int .i64 g.e]), (b4, #[.bool true, S vi, S vf]), (w3.heap.size, #[.int .i64 p.kind, .int .i64 p.mn, .int .i64 p.mx, .bool p.inc.neg, S p.inc.l, .int .i64 p.inc.e, .int .i64 p.mode, .int .i64 p.mi]), (w.heap.size + 1, #[.int .i64 k0, .int .i64 k1, .int .i64 k2, .int .i64 k3, .int .i64 k4, .int .i64 k5, .int .i64 k6]), (w.heap.size, #[.bool n, .slice a len cap, .int .i64 e])] _) := Lib.hid (HeldL.alloc H23.out (w23.heap.size) #[.bool g.neg, S g.l, .int .i64 g.e] 31 (by simp))
        have TAB1 : Hid (∀ w' : World, (w'.cell? ⟨b4, 0, none⟩ = some (.bool true) ∧ w'.cell? ⟨b4, 1, none⟩ = some (S vi) ∧ w'.cell? ⟨b4, 2, none⟩ = some (S vf) ∧ w'.cell? ⟨w23.heap.size, 0, none⟩ = some (.bool g.neg) ∧ w'.cell? ⟨w23.heap.size, 1, none⟩ = some (S g.l) ∧ w'.cell? ⟨w23.heap.size, 2, none⟩ = some (.int .i64 g.e) ∧ HeldL w [(w23.heap.size, #[.bool g.neg, S g.l, .int .i64 g.e]), (b4, #[.bool true, S vi, S vf]), (w3.heap.size, #[.int .i64 p.kind, .int .i64 p.mn, .int .i64 p.mx, .bool p.inc.neg, S p.inc.l, .int .i64 p.inc.e, .int .i64 p.mode, .int .i64 p.mi]), (w.heap.size + 1, #[.int .i64 k0, .int .i64 k1, .int .i64 k2, .int .i64 k3, .int .i64 k4, .int .i64 k5, .int .i64 k6]), (w.heap.size, #[.bool n, .slice a len cap, .int .i64 e])] w') → Tab w') := Lib.hid (fun w' h => HT.out.below (h.2.2.2.2.2.2).bel)
        go_region_held3 (fun w' => w'.cell? ⟨b4, 0, none⟩ = some (.bool true) ∧ w'.cell? ⟨b4, 1, none⟩ = some (S vi) ∧ w'.cell? ⟨b4, 2, none⟩ = some (S vf) ∧ w'.cell? ⟨w23.heap.size, 0, none⟩ = some (.bool g.neg) ∧ w'.cell? ⟨w23.heap.size, 1, none⟩ = some (S g.l) ∧ w'.cell? ⟨w23.heap.size, 2, none⟩ = some (.int .i64 g.e) ∧ HeldL w [(w23.heap.size, #[.bool g.neg, S g.l, .int .i64 g.e]), (b4, #[.bool true, S vi, S vf]), (w3.heap.size, #[.int .i64 p.kind, .int .i64 p.mn, .int .i64 p.mx, .bool p.inc.neg, S p.inc.l, .int .i64 p.inc.e, .int .i64 p.mode, .int .i64 p.mi]), (w.heap.size + 1, #[.int .i64 k0, .int .i64 k1, .int .i64 k2, .int .i64 k3, .int .i64 k4, .int .i64 k5, .int .i64 k6]), (w.heap.size, #[.bool n, .slice a len cap, .int .i64 e])] w')
          (first | exact ALL1.out _ (HeldL.drew HS1.out) | exact KEEP1.out _ _ (by assumption) hb | assumption)
          (first | (go_at_call 26; (with_reducible refine (HVL.out _ (by first | exact HT.out.below HS1.out.bel.drew | exact TAB1.out _ (by assumption))).mono ?_); rintro x wD ⟨rfl, hb⟩))
        have HH : HeldL w [(w23.heap.size, #[.bool g.neg, S g.l, .int .i64 g.e]), (b4, #[.bool true, S vi, S vf]), (w3.heap.size, #[.int .i64 p.kind, .int .i64 p.mn, .int .i64 p.mx, .bool p.inc.neg, S p.inc.l, .int .i64 p.inc.e, .int .i64 p.mode, .int .i64 p.mi]), (w.heap.size + 1, #[.int .i64 k0, .int .i64 k1, .int .i64 k2, .int .i64 k3, .int .i64 k4, .int .i64 k5, .int .i64 k6]), (w.heap.size, #[.bool n, .slice a len cap, .int .i64 e])] wD := (‹wD.cell? ⟨b4, 0, none⟩ = some (.bool true) ∧ wD.cell? ⟨b4, 1, none⟩ = some (S vi) ∧ wD.cell? ⟨b4, 2, none⟩ = some (S vf) ∧ wD.cell? ⟨w23.heap.size, 0, none⟩ = some (.bool g.neg) ∧ wD.cell? ⟨w23.heap.size, 1, none⟩ = some (S g.l) ∧ wD.cell? ⟨w23.heap.size, 2, none⟩ = some (.int .i64 g.e) ∧ HeldL w [(w23.heap.size, #[.bool g.neg, S g.l, .int .i64 g.e]), (b4, #[.bool true, S vi, S vf]), (w3.heap.size, #[.int .i64 p.kind, .int .i64 p.mn, .int .i64 p.mx, .bool p.inc.neg, S p.inc.l, .int .i64 p.inc.e, .int .i64 p.mode, .int .i64 p.mi]), (w.heap.size + 1, #[.int .i64 k0, .int .i64 k1, .int .i64 k2, .int .i64 k3, .int .i64 k4, .int .i64 k5, .int .i64 k6]), (w.heap.size, #[.bool n, .slice a len cap, .int .i64 e])] wD›).2.2.2.2.2.2
        clear bv0 bv1 bv2 bvl
        have H24 : Hid (HeldL w [(w23.heap.size, #[.bool g.neg, S g.l, .int .i64 g.e]), (b4, #[.bool true, S vi, S vf]), (w3.heap.size, #[.int .i64 p.kind, .int .i64 p.mn, .int .i64 p.mx, .bool p.inc.neg, S p.inc.l, .int .i64 p.inc.e, .int .i64 p.mode, .int .i64 p.mi]), (w.heap.size + 1, #[.int .i64 k0, .int .i64 k1, .int .i64 k2, .int .i64 k3, .int .i64 k4, .int .i64 k5, .int .i64 k6]), (w.heap.size, #[.bool n, .slice a len cap, .int .i64 e])] wD) := Lib.hid HH
        clear HH ALL1 KEEP1 HS1 TAB1 H23
        go_wp2
        go_ret
        exact ⟨rfl, H24.out.bel⟩
  | false =>
    by_cases hf : vf = []
    · subst hf
      have hi : ¬ vi = [] := fun h => HOR.out.elim (fun a => a h) (fun a => a rfl)
      have eI := empty_of (ne_empty hi)
      have eI2 := ne_empty hi
      have HPA2 := Lib.hid (HPA.out hi)
      have htt2 : vi = t := by rw [← HTT.out]; simp [textV, signL]
      subst htt2
      have H20 : Hid (HeldL w [(b4, #[.bool false, S vi, .string ⟨#[]⟩]), (w3.heap.size, #[.int .i64 p.kind, .int .i64 p.mn, .int .i64 p.mx, .bool p.inc.neg, S p.inc.l, .int .i64 p.inc.e, .int .i64 p.mode, .int .i64 p.mi]), (w.heap.size + 1, #[.int .i64 k0, .int .i64 k1, .int .i64 k2, .int .i64 k3, .int .i64 k4, .int .i64 k5, .int .i64 k6]), (w.heap.size, #[.bool n, .slice a len cap, .int .i64 e])] wc) := HR
      clear HR
      have bv0 : wc.cell? ⟨b4, 0, none⟩ = some (.bool false) := (H20.out.f (List.Mem.head _)).cell 0
      have bv1 : wc.cell? ⟨b4, 1, none⟩ = some (S vi) := (H20.out.f (List.Mem.head _)).cell 1
      have bv2 : wc.cell? ⟨b4, 2, none⟩ = some (.string ⟨#[]⟩) := (H20.out.f (List.Mem.head _)).cell 2
      have bvl : b4 < wc.heap.size := (H20.out.f (List.Mem.head _)).lt
      go_wp2_with fail
      with_reducible refine (HTX.out _ (HT.out.below H20.out.bel)).mono ?_
      rintro x w21 ⟨rfl, hb⟩
      clear bv0 bv1 bv2 bvl
      have H21 : Hid (HeldL w [(b4, #[.bool false, S vi, .string ⟨#[]⟩]), (w3.heap.size, #[.int .i64 p.kind, .int .i64 p.mn, .int .i64 p.mx, .bool p.inc.neg, S p.inc.l, .int .i64 p.inc.e, .int .i64 p.mode, .int .i64 p.mi]), (w.heap.size + 1, #[.int .i64 k0, .int .i64 k1, .int .i64 k2, .int .i64 k3, .int .i64 k4, .int .i64 k5, .int .i64 k6]), (w.heap.size, #[.bool n, .slice a len cap, .int .i64 e])] w21) := Lib.hid (HeldL.keep H20.out hb)
      clear H20
      clear hb
      have bv0 : w21.cell? ⟨b4, 0, none⟩ = some (.bool false) := (H21.out.f (List.Mem.head _)).cell 0
      have bv1 : w21.cell? ⟨b4, 1, none⟩ = some (S vi) := (H21.out.f (List.Mem.head _)).cell 1
      have bv2 : w21.cell? ⟨b4, 2, none⟩ = some (.string ⟨#[]⟩) := (H21.out.f (List.Mem.head _)).cell 2
      have bvl : b4 < w21.heap.size := (H21.out.f (List.Mem.head _)).lt
      go_wp2_with fail
      with_reducible refine (HTX.out _ (HT.out.below H21.out.bel)).mono ?_
      rintro x w22 ⟨rfl, hb⟩
      clear bv0 bv1 bv2 bvl
      have H22 : Hid (HeldL w [(b4, #[.bool false, S vi, .string ⟨#[]⟩]), (w3.heap.size, #[.int .i64 p.kind, .int .i64 p.mn, .int .i64 p.mx, .bool p.inc.neg, S p.inc.l, .int .i64 p.inc.e, .int .i64 p.mode, .int .i64 p.mi]), (w.heap.size + 1, #[.int .i64 k0, .int .i64 k1, .int .i64 k2, .int .i64 k3, .int .i64 k4, .int .i64 k5, .int .i64 k6]), (w.heap.size, #[.bool n, .slice a len cap, .int .i64 e])] w22) := Lib.hid (HeldL.keep H21.out hb)
      clear H21
      clear hb
      have bv0 : w22.cell? ⟨b4, 0, none⟩ = some (.bool false) := (H22.out.f (List.Mem.head _)).cell 0
      have bv1 : w22.cell? ⟨b4, 1, none⟩ = some (S vi) := (H22.out.f (List.Mem.head _)).cell 1
      have bv2 : w22.cell? ⟨b4, 2, none⟩ = some (.string ⟨#[]⟩) := (H22.out.f (List.Mem.head _)).cell 2
      have bvl : b4 < w22.heap.size := (H22.out.f (List.Mem.head _)).lt
      go_wp2_with fail
      with_reducible refine (HPA2.out _ (HT.out.below H22.out.bel)).mono ?_
      rintro x w23 ⟨rfl, hb⟩
      clear bv0 bv1 bv2 bvl
      have H23 : Hid (HeldL w [(b4, #[.bool false, S vi, .string ⟨#[]⟩]), (w3.heap.size, #[.int .i64 p.kind, .int .i64 p.mn, .int .i64 p.mx, .bool p.inc.neg, S p.inc.l, .int .i64 p.inc.e, .int .i64 p.mode, .int .i64 p.mi]), (w.heap.size + 1, #[.int .i64 k0, .int .i64 k1, .int .i64 k2, .int .i64 k3, .int .i64 k4, .int .i64 k5, .int .i64 k6]), (w.heap.size, #[.bool n, .slice a len cap, .int .i64 e])] w23) := Lib.hid (HeldL.keep H22.out hb)
      clear H22
      clear hb
      have bv0 : w23.cell? ⟨b4, 0, none⟩ = some (.bool false) := (H23.out.f (List.Mem.head _)).cell 0
      have bv1 : w23.cell? ⟨b4, 1, none⟩ = some (S vi) := (H23.out.f (List.Mem.head _)).cell 1
      have bv2 : w23.cell? ⟨b4, 2, none⟩ = some (.string ⟨#[]⟩) := (H23.out.f (List.Mem.head _)).cell 2
      have bvl : b4 < w23.heap.size := (H23.out.f (List.Mem.head _)).lt
      go_wp2_with fail
      have ALL1 : Hid (∀ w' : World, HeldL w [(w23.heap.size, #[.bool g.neg, S g.l, .int .i64 g.e]), (b4, #[.bool false, S vi, .string ⟨#[]⟩]), (w3.heap.size, #[.int .i64 p.kind, .int .i64 p.mn, .int .i64 p.mx, .bool p.inc.neg, S p.inc.l, .int .i64 p.inc.e, .int .i64 p.mode, .int .i64 p.mi]), (w.heap.size + 1, #[.int .i64 k0, .int .i64 k1, .int .i64 k2, .int .i64 k3, .int .i64 k4, .int .i64 k5, .int .i64 k6]), (w.heap.size, #[.bool n, .slice a len cap, .int .i64 e])] w' → w'.cell? ⟨b4, 0, none⟩ = some (.bool false) ∧ w'.cell? ⟨b4, 1, none⟩ = some (S vi) ∧ w'.cell? ⟨b4, 2, none⟩ = some (.string ⟨#[]⟩) ∧ w'.cell? ⟨w23.heap.size, 0, none⟩ = some (.bool g.neg) ∧ w'.cell? ⟨w23.heap.size, 1, none⟩ = some (S g.l) ∧ w'.cell? ⟨w23.heap.size, 2, none⟩ = some (.int .i64 g.e) ∧ HeldL w [(w23.heap.size, #[.bool g.neg, S g.l, .int .i64 g.e]), (b4, #[.bool false, S vi, .string ⟨#[]⟩]), (w3.heap.size, #[.int .i64 p.kind, .int .i64 p.mn, .int .i64 p.mx, .bool p.inc.neg, S p.inc.l, .int .i64 p.inc.e, .int .i64 p.mode, .int .i64 p.mi]), (w.heap.size + 1, #[.int .i64 k0, .int .i64 k1, .int .i64 k2, .int .i64 k3, .int .i64 k4, .int .i64 k5, .int .i64 k6]), (w.heap.size, #[.bool n, .slice a len cap, .int .i64 e])] w') := Lib.hid (fun w' h => ⟨(h.f (List.Mem.tail _ (List.Mem.head _))).cell 0, (h.f (List.Mem.tail _ (List.Mem.head _))).cell 1, (h.f (List.Mem.tail _ (List.Mem.head _))).cell 2, (h.f (List.Mem.head _)).cell 0, (h.f (List.Mem.head _)).cell 1, (h.f (List.Mem.head _)).cell 2, h⟩)
      have KEEP1 : Hid (∀ w' w'' : World, (w'.cell? ⟨b4, 0, none⟩ = some (.bool false) ∧ w'.cell? ⟨b4, 1, none⟩ = some (S vi) ∧ w'.cell? ⟨b4, 2, none⟩ = some (.string ⟨#[]⟩) ∧ w'.cell? ⟨w23.heap.size, 0, none⟩ = some (.bool g.neg) ∧ w'.cell? ⟨w23.heap.size, 1, none⟩ = some (S g.l) ∧ w'.cell? ⟨w23.heap.size, 2, none⟩ = some (.int .i64 g.e) ∧ HeldL w [(w23.heap.size, #[.bool g.neg, S g.l, .int .i64 g.e]), (b4, #[.bool false, S vi, .string ⟨#[]⟩]), (w3.heap.size, #[.int .i64 p.kind, .int .i64 p.mn, .int .i64 p.mx, .bool p.inc.neg, S p.inc.l, .int .i64 p.inc.e, .int .i64 p.mode, .int .i64 p.mi]), (w.heap.size + 1, #[.int .i64 k0, .int .i64 k1, .int .i64 k2, .int .i64 k3, .int .i64 k4, .int .i64 k5, .int .i64 k6]), (w.heap.size, #[.bool n, .slice a len cap, .int .i64 e])] w') → Below w'.heap.size w' w'' → (w''.cell? ⟨b4, 0, none⟩ = some (.bool false) ∧ w''.cell? ⟨b4, 1, none⟩ = some (S vi) ∧ w''.cell? ⟨b4, 2, none⟩ = some (.string ⟨#[]⟩) ∧ w''.cell? ⟨w23.heap.size, 0, none⟩ = some (.bool g.neg) ∧ w''.cell? ⟨w23.heap.size, 1, none⟩ = some (S g.l) ∧ w''.cell? ⟨w23.heap.size, 2, none⟩ = some (.int .i64 g.e) ∧ HeldL w [(w23.heap.size, #[.bool g.neg, S g.l, .int .i64 g.e]), (b4, #[.bool false, S vi, .string ⟨#[]⟩]), (w3.heap.size, #[.int .i64 p.kind, .int .i64 p.mn, .int .i64 p.mx, .bool p.inc.neg, S p.inc.l, .int .i64 p.inc.e, .int .i64 p.mode, .int .i64 p.mi]), (w.heap.size + 1, #[.int .i64 k0, .int .i64 k1, .int .i64 k2, .int .i64 k3, .int .i64 k4, .int .i64 k5, .int .i64 k6]), (w.heap.size, #[.bool n, .slice a len cap, .int .i64 e])] w'')) := Lib.hid (fun w' w'' h hb => ALL1.out _ (HeldL.keep (h.2.2.2.2.2.2) hb))
      have HS1 : Hid (HeldL w [(w23.heap.size, #[.bool g.neg, S g.l, .int .i64 g.e]), (b4, #[.bool false, S vi, .string ⟨#[]⟩]), (w3.heap.size, #[.int .i64 p.kind, .int .i64 p.mn, .int .i64 p.mx, .bool p.inc.neg, S p.inc.l, .int .i64 p.inc.e, .int .i64 p.mode, .int .i64 p.mi]), (w.heap.size + 1, #[.int .i64 k0, .int .i64 k1, .int .i64 k2, .int .i64 k3, .int .i64 k4, .int .i64 k5, .int .i64 k6]), (w.heap.size, #[.bool n, .slice a len cap, .int .i64 e])] _) := Lib.hid (HeldL.alloc H23.out (w23.heap.size) #[.bool g.neg, S g.l, .int .i64 g.e] 31 (by simp))
      have TAB1 : Hid (∀ w' : World, (w'.cell? ⟨b4, 0, none⟩ = some (.bool false) ∧ w'.cell? ⟨b4, 1, none⟩ = some (S vi) ∧ w'.cell? ⟨b4, 2, none⟩ = some (.string ⟨#[]⟩) ∧ w'.cell? ⟨w23.heap.size, 0, none⟩ = some (.bool g.neg) ∧ w'.cell? ⟨w23.heap.size, 1, none⟩ = some (S g.l) ∧ w'.cell? ⟨w23.heap.size, 2, none⟩ = some (.int .i64 g.e) ∧ HeldL w [(w23.heap.size, #[.bool g.neg, S g.l, .int .i64 g.e]), (b4, #[.bool false, S vi, .string ⟨#[]⟩]), (w3.heap.size, #[.int .i64 p.kind, .int .i64 p.mn, .int .i64 p.mx, .bool p.inc.neg, S p.inc.l, .int .i64 p.inc.e, .int .i64 p.mode, .int .i64 p.mi]), (w.heap.size + 1, #[.int .i64 k0, .int .i64 k1, .int .i64 k2, .int .i64 k3, .int .i64 k4, .int .i64 k5, .int .i64 k6]), (w.heap.size, #[.bool n, .slice a len cap, .int .i64 e])] w') → Tab w') := Lib.hid (fun w' h => HT.out.below (h.2.2.2.2.2.2).bel)
      go_region_held3 (fun w' => w'.cell? ⟨b4, 0, none⟩ = some (.bool false) ∧ w'.cell? ⟨b4, 1, none⟩ = some (S vi) ∧ w'.cell? ⟨b4, 2, none⟩ = some (.string ⟨#[]⟩) ∧ w'.cell? ⟨w23.heap.size, 0, none⟩ = some (.bool g.neg) ∧ w'.cell? ⟨w23.heap.size, 1, none⟩ = some (S g.l) ∧ w'.cell? ⟨w23.heap.size, 2, none⟩ = some (.int .i64 g.e) ∧ HeldL w [(w23.heap.size, #[.bool g.neg, S g.l, .int .i64 g.e]), (b4, #[.bool false, S vi, .string ⟨#[]⟩]), (w3.heap.size, #[.int .i64 p.kind, .int .i64 p.mn, .int .i64 p.mx, .bool p.inc.neg, S p.inc.l, .int .i64 p.inc.e, .int .i64 p.mode, .int .i64 p.mi]), (w.heap.size + 1, #[.int .i64 k0, .int .i64 k1, .int .i64 k2, .int .i64 k3, .int .i64 k4, .int .i64 k5, .int .i64 k6]), (w.heap.size, #[.bool n, .slice a len cap, .int .i64 e])] w')
        (first | exact ALL1.out _ (HeldL.drew HS1.out) | exact KEEP1.out _ _ (by assumption) hb | assumption)
        (first | (go_at_call 26; (with_reducible refine (HVL.out _ (by first | exact HT.out.below HS1.out.bel.drew | exact TAB1.out _ (by assumption))).mono ?_); rintro x wD ⟨rfl, hb⟩))
      have HH : HeldL w [(w23.heap.size, #[.bool g.neg, S g.l, .int .i64 g.e]), (b4, #[.bool false, S vi, .string ⟨#[]⟩]), (w3.heap.size, #[.int .i64 p.kind, .int .i64 p.mn, .int .i64 p.mx, .bool p.inc.neg, S p.inc.l, .int .i64 p.inc.e, .int .i64 p.mode, .int .i64 p.mi]), (w.heap.size + 1, #[.int .i64 k0, .int .i64 k1, .int .i64 k2, .int .i64 k3, .int .i64 k4, .int .i64 k5, .int .i64 k6]), (w.heap.size, #[.bool n, .slice a len cap, .int .i64 e])] wD := (‹wD.cell? ⟨b4, 0, none⟩ = some (.bool false) ∧ wD.cell? ⟨b4, 1, none⟩ = some (S vi) ∧ wD.cell? ⟨b4, 2, none⟩ = some (.string ⟨#[]⟩) ∧ wD.cell? ⟨w23.heap.size, 0, none⟩ = some (.bool g.neg) ∧ wD.cell? ⟨w23.heap.size, 1, none⟩ = some (S g.l) ∧ wD.cell? ⟨w23.heap.size, 2, none⟩ = some (.int .i64 g.e) ∧ HeldL w [(w23.heap.size, #[.bool g.neg, S g.l, .int .i64 g.e]), (b4, #[.bool false, S vi, .string ⟨#[]⟩]), (w3.heap.size, #[.int .i64 p.kind, .int .i64 p.mn, .int .i64 p.mx, .bool p.inc.neg, S p.inc.l, .int .i64 p.inc.e, .int .i64 p.mode, .int .i64 p.mi]), (w.heap.size + 1, #[.int .i64 k0, .int .i64 k1, .int .i64 k2, .int .i64 k3, .int .i64 k4, .int .i64 k5, .int .i64 k6]), (w.heap.size, #[.bool n, .slice a len cap, .int .i64 e])] wD›).2.2.2.2.2.2
      clear bv0 bv1 bv2 bvl
      have H24 : Hid (HeldL w [(w23.heap.size, #[.bool g.neg, S g.l, .int .i64 g.e]), (b4, #[.bool false, S vi, .string ⟨#[]⟩]), (w3.heap.size, #[.int .i64 p.kind, .int .i64 p.mn, .int .i64 p.mx, .bool p.inc.neg, S p.inc.l, .int .i64 p.inc.e, .int .i64 p.mode, .int .i64 p.mi]), (w.heap.size + 1, #[.int .i64 k0, .int .i64 k1, .int .i64 k2, .int .i64 k3, .int .i64 k4, .int .i64 k5, .int .i64 k6]), (w.heap.size, #[.bool n, .slice a len cap, .int .i64 e])] wD) := Lib.hid HH
      clear HH ALL1 KEEP1 HS1 TAB1 H23
      go_wp2
      go_ret
      exact ⟨rfl, H24.out.bel⟩
    · have eF := empty_of (ne_empty hf)
      have eF2 := ne_empty hf
      by_cases hi : vi = []
      · subst hi
        have htt2 : t = [] ++ 46 :: vf := by rw [← HTT.out]; simp [textV, signL, hf]
        subst htt2
        have H20 : Hid (HeldL w [(b4, #[.bool false, .string ⟨#[]⟩, S vf]), (w3.heap.size, #[.int .i64 p.kind, .int .i64 p.mn, .int .i64 p.mx, .bool p.inc.neg, S p.inc.l, .int .i64 p.inc.e, .int .i64 p.mode, .int .i64 p.mi]), (w.heap.size + 1, #[.int .i64 k0, .int .i64 k1, .int .i64 k2, .int .i64 k3, .int .i64 k4, .int .i64 k5, .int .i64 k6]), (w.heap.size, #[.bool n, .slice a len cap, .int .i64 e])] wc) := HR
        clear HR
        have bv0 : wc.cell? ⟨b4, 0, none⟩ = some (.bool false) := (H20.out.f (List.Mem.head _)).cell 0
        have bv1 : wc.cell? ⟨b4, 1, none⟩ = some (.string ⟨#[]⟩) := (H20.out.f (List.Mem.head _)).cell 1
        have bv2 : wc.cell? ⟨b4, 2, none⟩ = some (S vf) := (H20.out.f (List.Mem.head _)).cell 2
        have bvl : b4 < wc.heap.size := (H20.out.f (List.Mem.head _)).lt
        go_wp2_with fail
        rw [show (⟨([] : List UInt8).toArray⟩ : ByteArray) ++ (⟨#[46]⟩ : ByteArray) ++ (⟨vf.toArray⟩ : ByteArray) = ⟨([] ++ 46 :: vf).toArray⟩ from cat46b [] vf]
        with_reducible refine (HTX.out _ (HT.out.below H20.out.bel)).mono ?_
        rintro x w21 ⟨rfl, hb⟩
        clear bv0 bv1 bv2 bvl
        have H21 : Hid (HeldL w [(b4, #[.bool false, .string ⟨#[]⟩, S vf]), (w3.heap.size, #[.int .i64 p.kind, .int .i64 p.mn, .int .i64 p.mx, .bool p.inc.neg, S p.inc.l, .int .i64 p.inc.e, .int .i64 p.mode, .int .i64 p.mi]), (w.heap.size + 1, #[.int .i64 k0, .int .i64 k1, .int .i64 k2, .int .i64 k3, .int .i64 k4, .int .i64 k5, .int .i64 k6]), (w.heap.size, #[.bool n, .slice a len cap, .int .i64 e])] w21) := Lib.hid (HeldL.keep H20.out hb)
        clear H20
        clear hb
        have bv0 : w21.cell? ⟨b4, 0, none⟩ = some (.bool false) := (H21.out.f (List.Mem.head _)).cell 0
        have bv1 : w21.cell? ⟨b4, 1, none⟩ = some (.string ⟨#[]⟩) := (H21.out.f (List.Mem.head _)).cell 1
        have bv2 : w21.cell? ⟨b4, 2, none⟩ = some (S vf) := (H21.out.f (List.Mem.head _)).cell 2
        have bvl : b4 < w21.heap.size := (H21.out.f (List.Mem.head _)).lt
        go_wp2
        go_ret
        exact ⟨rfl, H21.out.bel⟩
      · have eI := empty_of (ne_empty hi)
        have eI2 := ne_empty hi
        have HPA2 := Lib.hid (HPA.out hi)
        have htt2 : t = vi ++ 46 :: vf := by rw [← HTT.out]; simp [textV, signL, hf]
        subst htt2
        have H20 : Hid (HeldL w [(b4, #[.bool false, S vi, S vf]), (w3.heap.size, #[.int .i64 p.kind, .int .i64 p.mn, .int .i64 p.mx, .bool p.inc.neg, S p.inc.l, .int .i64 p.inc.e, .int .i64 p.mode, .int .i64 p.mi]), (w.heap.size + 1, #[.int .i64 k0, .int .i64 k1, .int .i64 k2, .int .i64 k3, .int .i64 k4, .int .i64 k5, .int .i64 k6]), (w.heap.size, #[.bool n, .slice a len cap, .int .i64 e])] wc) := HR
        clear HR
        have bv0 : wc.cell? ⟨b4, 0, none⟩ = some (.bool false) := (H20.out.f (List.Mem.head _)).cell 0
        have bv1 : wc.cell? ⟨b4, 1, none⟩ = some (S vi) := (H20.out.f (List.Mem.head _)).cell 1
        have bv2 : wc.cell? ⟨b4, 2, none⟩ = some (S vf) := (H20.out.f (List.Mem.head _)).cell 2
        have bvl : b4 < wc.heap.size := (H20.out.f (List.Mem.head _)).lt
        go_wp2_with fail
        rw [show (⟨(vi : List UInt8).toArray⟩ : ByteArray) ++ (⟨#[46]⟩ : ByteArray) ++ (⟨vf.toArray⟩ : ByteArray) = ⟨(vi ++ 46 :: vf).toArray⟩ from cat46b vi vf]
        with_reducible refine (HTX.out _ (HT.out.below H20.out.bel)).mono ?_
        rintro x w21 ⟨rfl, hb⟩
        clear bv0 bv1 bv2 bvl
        have H21 : Hid (HeldL w [(b4, #[.bool false, S vi, S vf]), (w3.heap.size, #[.int .i64 p.kind, .int .i64 p.mn, .int .i64 p.mx, .bool p.inc.neg, S p.inc.l, .int .i64 p.inc.e, .int .i64 p.mode, .int .i64 p.mi]), (w.heap.size + 1, #[.int .i64 k0, .int .i64 k1, .int .i64 k2, .int .i64 k3, .int .i64 k4, .int .i64 k5, .int .i64 k6]), (w.heap.size, #[.bool n, .slice a len cap, .int .i64 e])] w21) := Lib.hid (HeldL.keep H20.out hb)
        clear H20
        clear hb
        have bv0 : w21.cell? ⟨b4, 0, none⟩ = some (.bool false) := (H21.out.f (List.Mem.head _)).cell 0
        have bv1 : w21.cell? ⟨b4, 1, none⟩ = some (S vi) := (H21.out.f (List.Mem.head _)).cell 1
        have bv2 : w21.cell? ⟨b4, 2, none⟩ = some (S vf) := (H21.out.f (List.Mem.head _)).cell 2
        have bvl : b4 < w21.heap.size := (H21.out.f (List.Mem.head _)).lt
        go_wp2_with fail
        with_reducible refine (HTX.out _ (HT.out.below H21.out.bel)).mono ?_
        rintro x w22 ⟨rfl, hb⟩
        clear bv0 bv1 bv2 bvl
        have H22 : Hid (HeldL w [(b4, #[.bool false, S vi, S vf]), (w3.heap.size, #[.int .i64 p.kind, .int .i64 p.mn, .int .i64 p.mx, .bool p.inc.neg, S p.inc.l, .int .i64 p.inc.e, .int .i64 p.mode, .int .i64 p.mi]), (w.heap.size + 1, #[.int .i64 k0, .int .i64 k1, .int .i64 k2, .int .i64 k3, .int .i64 k4, .int .i64 k5, .int .i64 k6]), (w.heap.size, #[.bool n, .slice a len cap, .int .i64 e])] w22) := Lib.hid (HeldL.keep H21.out hb)
        clear H21
        clear hb
        have bv0 : w22.cell? ⟨b4, 0, none⟩ = some (.bool false) := (H22.out.f (List.Mem.head _)).cell 0
        have bv1 : w22.cell? ⟨b4, 1, none⟩ = some (S vi) := (H22.out.f (List.Mem.head _)).cell 1
        have bv2 : w22.cell? ⟨b4, 2, none⟩ = some (S vf) := (H22.out.f (List.Mem.head _)).cell 2
        have bvl : b4 < w22.heap.size := (H22.out.f (List.Mem.head _)).lt
        go_wp2_with fail
        with_reducible refine (HPA2.out _ (HT.out.below H22.out.bel)).mono ?_
        rintro x w23 ⟨rfl, hb⟩
        clear bv0 bv1 bv2 bvl
        have H23 : Hid (HeldL w [(b4, #[.bool false, S vi, S vf]), (w3.heap.size, #[.int .i64 p.kind, .int .i64 p.mn, .int .i64 p.mx, .bool p.inc.neg, S p.inc.l, .int .i64 p.inc.e, .int .i64 p.mode, .int .i64 p.mi]), (w.heap.size + 1, #[.int .i64 k0, .int .i64 k1, .int .i64 k2, .int .i64 k3, .int .i64 k4, .int .i64 k5, .int .i64 k6]), (w.heap.size, #[.bool n, .slice a len cap, .int .i64 e])] w23) := Lib.hid (HeldL.keep H22.out hb)
        clear H22
        clear hb
        have bv0 : w23.cell? ⟨b4, 0, none⟩ = some (.bool false) := (H23.out.f (List.Mem.head _)).cell 0
        have bv1 : w23.cell? ⟨b4, 1, none⟩ = some (S vi) := (H23.out.f (List.Mem.head _)).cell 1
        have bv2 : w23.cell? ⟨b4, 2, none⟩ = some (S vf) := (H23.out.f (List.Mem.head _)).cell 2
        have bvl : b4 < w23.heap.size := (H23.out.f (List.Mem.head _)).lt
        go_wp2_with fail
        have ALL1 : Hid (∀ w' : World, HeldL w [(w23.heap.size, #[.bool g.neg, S g.l, .int .i64 g.e]), (b4, #[.bool false, S vi, S vf]), (w3.heap.size, #[.int .i64 p.kind, .int .i64 p.mn, .int .i64 p.mx, .bool p.inc.neg, S p.inc.l, .int .i64 p.inc.e, .int .i64 p.mode, .int .i64 p.mi]), (w.heap.size + 1, #[.int .i64 k0, .int .i64 k1, .int .i64 k2, .int .i64 k3, .int .i64 k4, .int .i64 k5, .int .i64 k6]), (w.heap.size, #[.bool n, .slice a len cap, .int .i64 e])] w' → w'.cell? ⟨b4, 0, none⟩ = some (.bool false) ∧ w'.cell? ⟨b4, 1, none⟩ = some (S vi) ∧ w'.cell? ⟨b4, 2, none⟩ = some (S vf) ∧ w'.cell? ⟨w23.heap.size, 0, none⟩ = some (.bool g.neg) ∧ w'.cell? ⟨w23.heap.size, 1, none⟩ = some (S g.l) ∧ w'.cell? ⟨w23.heap.size, 2, none⟩ = some (.int .i64 g.e) ∧ HeldL w [(w23.heap.size, #[.bool g.neg, S g.l, .int .i64 g.e]), (b4, #[.bool false, S vi, S vf]), (w3.heap.size, #[.int .i64 p.kind, .int .i64 p.mn, .int .i64 p.mx, .bool p.inc.neg, S p.inc.l, .int .i64 p.inc.e, .int .i64 p.mode, .int .i64 p.mi]), (w.heap.size + 1, #[.int .i64 k0, .int .i64 k1, .int .i64 k2, .int .i64 k3, .int .i64 k4, .int .i64 k5, .int .i64 k6]), (w.heap.size, #[.bool n, .slice a len cap, .int .i64 e])] w') := Lib.hid (fun w' h => ⟨(h.f (List.Mem.tail _ (List.Mem.head _))).cell 0, (h.f (List.Mem.tail _ (List.Mem.head _))).cell 1, (h.f (List.Mem.tail _ (List.Mem.head _))).cell 2, (h.f (List.Mem.head _)).cell 0, (h.f (List.Mem.head _)).cell 1, (h.f (List.Mem.head _)).cell 2, h⟩)
        have KEEP1 : Hid (∀ w' w'' : World, (w'.cell? ⟨b4, 0, none⟩ = some (.bool false) ∧ w'.cell? ⟨b4, 1, none⟩ = some (S vi) ∧ w'.cell? ⟨b4, 2, none⟩ = some (S vf) ∧ w'.cell? ⟨w23.heap.size, 0, none⟩ = some (.bool g.neg) ∧ w'.cell? ⟨w23.heap.size, 1, none⟩ = some (S g.l) ∧ w'.cell? ⟨w23.heap.size, 2, none⟩ = some (.int .i64 g.e) ∧ HeldL w [(w23.heap.size, #[.bool g.neg, S g.l, .int .i64 g.e]), (b4, #[.bool false, S vi, S vf]), (w3.heap.size, #[.int .i64 p.kind, .int .i64 p.mn, .int .i64 p.mx, .bool p.inc.neg, S p.inc.l, .int .i64 p.inc.e, .int .i64 p.mode, .int .i64 p.mi]), (w.heap.size + 1, #[.int .i64 k0, .int .i64 k1, .int .i64 k2, .int .i64 k3, .int .i64 k4, .int .i64 k5, .int .i64 k6]), (w.heap.size, #[.bool n, .slice a len cap, .int .i64 e])] w') → Below w'.heap.size w' w'' → (w''.cell? ⟨b4, 0, none⟩ = some (.bool false) ∧ w''.cell? ⟨b4, 1, none⟩ = some (S vi) ∧ w''.cell? ⟨b4, 2, none⟩ = some (S vf) ∧ w''.cell? ⟨w23.heap.size, 0, none⟩ = some (.bool g.neg) ∧ w''.cell? ⟨w23.heap.size, 1, none⟩ = some (S g.l) ∧ w''.cell? ⟨w23.heap.size, 2, none⟩ = some (.int .i64 g.e) ∧ HeldL w [(w23.heap.size, #[.bool g.neg, S g.l, .int .i64 g.e]), (b4, #[.bool false, S vi, S vf]), (w3.heap.size, #[.int .i64 p.kind, .int .i64 p.mn, .int .i64 p.mx, .bool p.inc.neg, S p.inc.l, .int .i64 p.inc.e, .int .i64 p.mode, .int .i64 p.mi]), (w.heap.size + 1, #[.int .i64 k0, .int .i64 k1, .int .i64 k2, .int .i64 k3, .int .i64 k4, .int .i64 k5, .int .i64 k6]), (w.heap.size, #[.bool n, .slice a len cap, .int .i64 e])] w'')) := Lib.hid (fun w' w'' h hb => ALL1.out _ (HeldL.keep (h.2.2.2.2.2.2) hb))
        have HS1 : Hid (HeldL w [(w23.heap.size, #[.bool g.neg, S g.l, .int .i64 g.e]), (b4, #[.bool false, S vi, S vf]), (w3.heap.size, #[.int .i64 p.kind, .int .i64 p.mn, .int .i64 p.mx, .bool p.inc.neg, S p.inc.l, .int .i64 p.inc.e, .int .i64 p.mode, .int .i64 p.mi]), (w.heap.size + 1, #[.int .i64 k0, .int .i64 k1, .int .i64 k2, .int .i64 k3, .int .i64 k4, .int .i64 k5, .int .i64 k6]), (w.heap.size, #[.bool n, .slice a len cap, .int .i64 e])] _) := Lib.hid (HeldL.alloc H23.out (w23.heap.size) #[.bool g.neg, S g.l, .int .i64 g.e] 31 (by simp))
        have TAB1 : Hid (∀ w' : World, (w'.cell? ⟨b4, 0, none⟩ = some (.bool false) ∧ w'.cell? ⟨b4, 1, none⟩ = some (S vi) ∧ w'.cell? ⟨b4, 2, none⟩ = some (S vf) ∧ w'.cell? ⟨w23.heap.size, 0, none⟩ = some (.bool g.neg) ∧ w'.cell? ⟨w23.heap.size, 1, none⟩ = some (S g.l) ∧ w'.cell? ⟨w23.heap.size, 2, none⟩ = some (.int .i64 g.e) ∧ HeldL w [(w23.heap.size, #[.bool g.neg, S g.l, .int .i64 g.e]), (b4, #[.bool false, S vi, S vf]), (w3.heap.size, #[.int .i64 p.kind, .int .i64 p.mn, .int .i64 p.mx, .bool p.inc.neg, S p.inc.l, .int .i64 p.inc.e, .int .i64 p.mode, .int .i64 p.mi]), (w.heap.size + 1, #[.int .i64 k0, .int .i64 k1, .int .i64 k2, .int .i64 k3, .int .i64 k4, .int .i64 k5, .int .i64 k6]), (w.heap.size, #[.bool n, .slice a len cap, .int .i64 e])] w') → Tab w') := Lib.hid (fun w' h => HT.out.below (h.2.2.2.2.2.2).bel)
        go_region_held3 (fun w' => w'.cell? ⟨b4, 0, none⟩ = some (.bool false) ∧ w'.cell? ⟨b4, 1, none⟩ = some (S vi) ∧ w'.cell? ⟨b4, 2, none⟩ = some (S vf) ∧ w'.cell? ⟨w23.heap.size, 0, none⟩ = some (.bool g.neg) ∧ w'.cell? ⟨w23.heap.size, 1, none⟩ = some (S g.l) ∧ w'.cell? ⟨w23.heap.size, 2, none⟩ = some (.int .i64 g.e) ∧ HeldL w [(w23.heap.size, #[.bool g.neg, S g.l, .int .i64 g.e]), (b4, #[.bool false, S vi, S vf]), (w3.heap.size, #[.int .i64 p.kind, .int .i64 p.mn, .int .i64 p.mx, .bool p.inc.neg, S p.inc.l, .int .i64 p.inc.e, .int .i64 p.mode, .int .i64 p.mi]), (w.heap.size + 1, #[.int .i64 k0, .int .i64 k1, .int .i64 k2, .int .i64 k3, .int .i64 k4, .int .i64 k5, .int .i64 k6]), (w.heap.size, #[.bool n, .slice a len cap, .int .i64 e])] w')
          (first | exact ALL1.out _ (HeldL.drew HS1.out) | exact KEEP1.out _ _ (by assumption) hb | assumption)
          (first | (go_at_call 26; (with_reducible refine (HVL.out _ (by first | exact HT.out.below HS1.out.bel.drew | exact TAB1.out _ (by assumption))).mono ?_); rintro x wD ⟨rfl, hb⟩))
        have HH : HeldL w [(w23.heap.size, #[.bool g.neg, S g.l, .int .i64 g.e]), (b4, #[.bool false, S vi, S vf]), (w3.heap.size, #[.int .i64 p.kind, .int .i64 p.mn, .int .i64 p.mx, .bool p.inc.neg, S p.inc.l, .int .i64 p.inc.e, .int .i64 p.mode, .int .i64 p.mi]), (w.heap.size + 1, #[.int .i64 k0, .int .i64 k1, .int .i64 k2, .int .i64 k3, .int .i64 k4, .int .i64 k5, .int .i64 k6]), (w.heap.size, #[.bool n, .slice a len cap, .int .i64 e])] wD := (‹wD.cell? ⟨b4, 0, none⟩ = some (.bool false) ∧ wD.cell? ⟨b4, 1, none⟩ = some (S vi) ∧ wD.cell? ⟨b4, 2, none⟩ = some (S vf) ∧ wD.cell? ⟨w23.heap.size, 0, none⟩ = some (.bool g.neg) ∧ wD.cell? ⟨w23.heap.size, 1, none⟩ = some (S g.l) ∧ wD.cell? ⟨w23.heap.size, 2, none⟩ = some (.int .i64 g.e) ∧ HeldL w [(w23.heap.size, #[.bool g.neg, S g.l, .int .i64 g.e]), (b4, #[.bool false, S vi, S vf]), (w3.heap.size, #[.int .i64 p.kind, .int .i64 p.mn, .int .i64 p.mx, .bool p.inc.neg, S p.inc.l, .int .i64 p.inc.e, .int .i64 p.mode, .int .i64 p.mi]), (w.heap.size + 1, #[.int .i64 k0, .int .i64 k1, .int .i64 k2, .int .i64 k3, .int .i64 k4, .int .i64 k5, .int .i64 k6]), (w.heap.size, #[.bool n, .slice a len cap, .int .i64 e])] wD›).2.2.2.2.2.2
        clear bv0 bv1 bv2 bvl
        have H24 : Hid (HeldL w [(w23.heap.size, #[.bool g.neg, S g.l, .int .i64 g.e]), (b4, #[.bool false, S vi, S vf]), (w3.heap.size, #[.int .i64 p.kind, .int .i64 p.mn, .int .i64 p.mx, .bool p.inc.neg, S p.inc.l, .int .i64 p.inc.e, .int .i64 p.mode, .int .i64 p.mi]), (w.heap.size + 1, #[.int .i64 k0, .int .i64 k1, .int .i64 k2, .int .i64 k3, .int .i64 k4, .int .i64 k5, .int .i64 k6]), (w.heap.size, #[.bool n, .slice a len cap, .int .i64 e])] wD) := Lib.hid HH
        clear HH ALL1 KEEP1 HS1 TAB1 H23
        go_wp2
        go_ret
        exact ⟨rfl, H24.out.bel⟩

set_option maxRecDepth 100000 in
set_option maxHeartbeats 1600000 in
theorem texts_no (n0 : Bool) (a0 : Option Addr) (len0 cap0 : Nat) (e0 : Int) (k0 k1 k2 k3 k4 k5 k6 : Int) (w : World) (hc0 : len0 ≤ cap0) (hm0 : cap0 ≤ maxLen) (htab : Tab w) (h : ¬ ((len0 : Int) ≤ 30 ∧ -30 ≤ e0 ∧ e0 ≤ 30)) :
    Calls Tryz.prog 7 #[RV n0 a0 len0 cap0 e0, .agg #[.int .i64 k0, .int .i64 k1, .int .i64 k2, .int .i64 k3, .int .i64 k4, .int .i64 k5, .int .i64 k6]] w fun x w' => x = .returned (.bool true) ∧ Below w.heap.size w w' := by
  have HT := Lib.hid htab
  have H := Lib.hid h
  clear htab h
  go_enter Tryz.func7, Tryz.ntmps7
  go_wp2_with fail
  with_reducible refine (head4 _ (HT.out.below (HeldL.alloc (HeldL.alloc (HeldL.refl w) (w.heap.size) #[.bool n0, .slice a0 len0 cap0, .int .i64 e0] 24 (by simp)) (w.heap.size + 1) #[.int .i64 k0, .int .i64 k1, .int .i64 k2, .int .i64 k3, .int .i64 k4, .int .i64 k5, .int .i64 k6] 43 (by simp)).bel)).mono ?_
  rintro x w1 ⟨rfl, hb⟩
  have H1 : Hid (HeldL w [(w.heap.size + 1, #[.int .i64 k0, .int .i64 k1, .int .i64 k2, .int .i64 k3, .int .i64 k4, .int .i64 k5, .int .i64 k6]), (w.heap.size, #[.bool n0, .slice a0 len0 cap0, .int .i64 e0])] w1) := Lib.hid (HeldL.keep (HeldL.alloc (HeldL.alloc (HeldL.refl w) (w.heap.size) #[.bool n0, .slice a0 len0 cap0, .int .i64 e0] 24 (by simp)) (w.heap.size + 1) #[.int .i64 k0, .int .i64 k1, .int .i64 k2, .int .i64 k3, .int .i64 k4, .int .i64 k5, .int .i64 k6] 43 (by simp)) hb)
  clear hb
  have r0 : w1.cell? ⟨w.heap.size, 0, none⟩ = some (.bool n0) := (H1.out.f (List.Mem.tail _ (List.Mem.head _))).cell 0
  have r1 : w1.cell? ⟨w.heap.size, 1, none⟩ = some (.slice a0 len0 cap0) := (H1.out.f (List.Mem.tail _ (List.Mem.head _))).cell 1
  have r2 : w1.cell? ⟨w.heap.size, 2, none⟩ = some (.int .i64 e0) := (H1.out.f (List.Mem.tail _ (List.Mem.head _))).cell 2
  have rl : w.heap.size < w1.heap.size := (H1.out.f (List.Mem.tail _ (List.Mem.head _))).lt
  go_wp2_with fail
  with_reducible refine (few_no n0 a0 len0 cap0 e0 30 _ hc0 hm0 (by decide) (by decide) H.out).mono ?_
  rintro x w2 ⟨rfl, hb⟩
  clear r0 r1 r2 rl
  have H2 : Hid (HeldL w [(w.heap.size + 1, #[.int .i64 k0, .int .i64 k1, .int .i64 k2, .int .i64 k3, .int .i64 k4, .int .i64 k5, .int .i64 k6]), (w.heap.size, #[.bool n0, .slice a0 len0 cap0, .int .i64 e0])] w2) := Lib.hid (HeldL.keep H1.out hb)
  clear H1
  clear hb
  go_wp2
  go_ret
  exact ⟨rfl, H2.out.bel⟩
end Go.Proofs.YtfbfjkacaadbpaaGreatDoor

namespace Go.Proofs.YtfbfjkacaadbpaaGreatDoor
open Go.RowKit Florin
set_option linter.unusedVariables false

theorem isDig_take {l : List UInt8} (h : isDig l = true) (q : Nat) : isDig (l.take q) = true ∧ isDig (l.drop q) = true := by
  have hs : l = l.take q ++ l.drop q := (List.take_append_drop _ _).symm
  rw [hs, isDig_append] at h
  simpa using h
theorem parts_dig {g : Tri} (h : isDig g.l = true) : isDig (partsT g).1 = true ∧ isDig (partsT g).2 = true := by
  unfold partsT
  split
  · exact ⟨by rw [isDig_append, h, isDig_zs]; rfl, rfl⟩
  · split
    · exact ⟨rfl, by rw [isDig_append, h, isDig_zs]; rfl⟩
    · exact isDig_take h _
theorem vis_dig (p : Prc) {g : Tri} (h : isDig g.l = true) : isDig (visP p g).i = true ∧ isDig (visP p g).f = true := by
  obtain ⟨h1, h2⟩ := parts_dig h
  unfold visP
  simp only
  constructor
  · split
    · rfl
    · rw [isDig_append, h1, isDig_zs]; rfl
  · rw [isDig_append, h2, isDig_zs]; rfl
theorem vis_or (p : Prc) (g : Tri) : (visP p g).i ≠ [] ∨ (visP p g).f ≠ [] := by
  unfold visP
  simp only
  split
  · left; simp
  · rename_i h
    by_cases h1 : zs (p.mi - ((partsT g).1.length : Int)).toNat ++ (partsT g).1 = []
    · right; exact fun h2 => h ⟨h1, h2⟩
    · left; exact h1
/-- .. with its noughts at the end, too. -/
theorem value_all (p : Prc) (g : Tri) (h : g = zero ∨ Nrm g) (hb : (visP p g).f.length ≤ 2000) : made (visP p g).neg ((visP p g).i ++ (visP p g).f) (0 - ((visP p g).f.length : Int)) = g := by
  revert hb
  unfold visP
  simp only
  intro hb
  rcases h with rfl | h
  · have hp : partsT zero = ([], []) := by decide
    rw [hp]
    simp only [List.append_nil, List.nil_append]
    refine made_zero _ _ ?_
    have hz : ∀ n, trim (zs n) = [] := by
      intro n; induction n with
      | zero => rfl
      | succ n ih => rw [show zs (n + 1) = 48 :: zs n from rfl, trim_cons_zero, ih]
    split
    · rename_i hh
      rw [hh.2]; decide
    · unfold bare
      have e := zs_add (p.mi - (([] : List UInt8).length : Int)).toNat (mfrac p zero - (([] : List UInt8).length : Int)).toNat []
      simp only [List.append_nil] at e
      rw [e, if_pos (isDig_zs _), hz]
  · obtain ⟨b, l, e⟩ := g
    have lo := h.lo
    have hi := h.hi
    simp only at lo hi
    have hne : l ≠ [] := h.ne
    obtain ⟨t, ht⟩ : ∃ t : Nat, (mfrac p ⟨b, l, e⟩ - ((partsT ⟨b, l, e⟩).2.length : Int)).toNat = t := ⟨_, rfl⟩
    rw [ht] at hb ⊢
    rw [List.length_append, zs_length] at hb
    revert hb
    unfold partsT
    simp only
    by_cases h0 : 0 ≤ e
    · rw [if_pos h0]
      intro hb
      simp only [List.nil_append] at hb ⊢
      rw [if_neg (fun hh => hne (by have := (List.append_eq_nil_iff.1 hh.1).2; exact (List.append_eq_nil_iff.1 this).1))]
      simp only [List.length_nil] at hb
      have := nrm_of h (e.toNat + t) (p.mi - ((l ++ zs e.toNat).length : Int)).toNat (by omega) (by omega)
      rw [show e - ((e.toNat + t : Nat) : Int) = 0 - (((zs t).length : Nat) : Int) by rw [zs_length]; omega] at this
      rw [← this]
      congr 1
      rw [show zs (e.toNat + t) = zs e.toNat ++ zs t from by unfold zs; rw [List.replicate_append_replicate]]
      simp [List.append_assoc]
    · rw [if_neg h0]
      by_cases hp : (l.length : Int) + e ≤ 0
      · rw [if_pos hp]
        intro hb
        simp only [List.append_nil] at hb ⊢
        rw [if_neg (fun hh => hne (by have := (List.append_eq_nil_iff.1 hh.2).1; exact (List.append_eq_nil_iff.1 this).2))]
        rw [List.length_append, zs_length] at hb
        have := nrm_of h t ((p.mi - (([] : List UInt8).length : Int)).toNat + (-((l.length : Int) + e)).toNat) (by omega) (by omega)
        rw [List.length_append, List.length_append, zs_length, zs_length]
        rw [show 0 - ((((-((l.length : Int) + e)).toNat + l.length + t : Nat) : Int)) = e - (t : Int) by omega, ← this]
        congr 1
        rw [← zs_add]
        simp [List.append_assoc]
      · rw [if_neg hp]
        intro hb
        simp only at hb ⊢
        have hlen : 0 < l.length := List.length_pos_iff.2 hne
        obtain ⟨q, hq⟩ : ∃ q : Nat, ((l.length : Int) + e).toNat = q := ⟨_, rfl⟩
        rw [hq] at hb ⊢
        have hqb : q < l.length ∧ 0 < q := by omega
        have hdne : l.drop q ≠ [] := by intro hh; have := congrArg List.length hh; rw [List.length_drop, List.length_nil] at this; omega
        rw [if_neg (fun hh => hdne (List.append_eq_nil_iff.1 hh.2).1)]
        rw [List.length_drop] at hb
        have := nrm_of h t (p.mi - ((l.take q).length : Int)).toNat (by omega) (by omega)
        rw [List.length_append, List.length_drop, zs_length]
        rw [show 0 - (((l.length - q + t : Nat) : Int)) = e - (t : Int) by omega, ← this]
        congr 1
        rw [List.append_assoc, ← List.append_assoc (l.take q), List.take_append_drop]
        simp [List.append_assoc]
theorem fitT {M : Nat} {z : Int} (hM : M ≤ 20000) (h : z.natAbs < 10 ^ M) : Fit 200 z := Fit.of (m := M) (by decide) h (by omega)
theorem nfOrT {z : Int} (hf : Fit 200 z) : nf 200 z = zero ∨ Nrm (nf 200 z) := by
  unfold nf
  exact made_nrm (decide (z < 0)) (dig z.natAbs) (-((200 : Nat) : Int))
/-- Few digits are shown. -/
theorem vis_few (p : Prc) (hp : Asked p) (R : Int) (N : Nat) (hN : N = 400) (rb : R.natAbs < 10 ^ (N + 1)) : (visP p (nf 200 R)).i.length ≤ 400 ∧ (visP p (nf 200 R)).f.length ≤ 400 := by
  obtain ⟨_, hi, hn, _⟩ := validP_parts hp.ok
  have m8 := hp.mn8
  have m7 := hp.mi7
  have fR := fitT (M := N + 1) (by omega) rb
  have hlo := (nf_dv fR).lo
  have hsum : ((nf 200 R).l.length : Int) + (nf 200 R).e ≤ 300 := by
    by_cases h0 : R = 0
    · subst h0; rw [nf_zero]; decide
    · obtain ⟨t, q1, q2, q3, q4⟩ := nf_pos fR h0
      have hl : (nf 200 R).l.length = (rt (dig R.natAbs)).length := by rw [q1]
      have he : (nf 200 R).e = (t : Int) - 200 := by rw [q1]; rfl
      have := (dig_length_le R.natAbs (N + 1)).2 rb
      omega
  have he2 : (nf 200 R).e ≤ 300 := by omega
  generalize nf 200 R = g at *
  have hF : mfrac p g ≤ 400 := by
    unfold mfrac
    split
    · split
      · omega
      · rename_i hne
        have := List.length_pos_iff.2 hne
        omega
    · omega
  have ha : (partsT g).1.length ≤ 300 ∧ (partsT g).2.length ≤ 300 := by
    unfold partsT
    split
    · simp only [List.length_append, zs_length, List.length_nil]; omega
    · split
      · simp only [List.length_append, zs_length, List.length_nil]; omega
      · simp only [List.length_take, List.length_drop]; omega
  unfold visP
  simp only
  constructor
  · split
    · decide
    · rw [List.length_append, zs_length]; omega
  · rw [List.length_append, zs_length]; omega
theorem text_render (v : Vs) : textV v = render v.neg v.i (!v.f.isEmpty) v.f false 101 [] [] := by
  obtain ⟨b, i, f⟩ := v
  unfold textV render signL sgnL
  cases f with
  | nil => simp
  | cons c f => simp
theorem showTexts_walk (n : Bool) (a : Option Addr) (len cap : Nat) (e : Int) (L : List UInt8) (k0 k1 k2 k3 k4 k5 k6 : Int) (w : World) (hin : InB w a len cap L) (htab : Tab w) :
    Calls Tryz.prog 7 #[RV n a len cap e, .agg #[.int .i64 k0, .int .i64 k1, .int .i64 k2, .int .i64 k3, .int .i64 k4, .int .i64 k5, .int .i64 k6]] w fun x w' => x = .returned (.bool true) ∧ Below w.heap.size w w' := by
  by_cases hf : (len : Int) ≤ 30 ∧ -30 ≤ e ∧ e ≤ 30
  · obtain ⟨h1, h2, h3⟩ := hf
    obtain ⟨p, hp, hpr⟩ := prec_any k0 k1 k2 k3 k4 k5 k6
    obtain ⟨N, hN⟩ : ∃ N : Nat, N = 400 := ⟨_, rfl⟩
    have hL : L.length ≤ 30 := by rw [hin.1]; omega
    obtain ⟨R, rb, hr⟩ := shownR p hp n L e hL h2 h3 N hN
    have fR := fitT (M := N + 1) (by omega) rb
    have pl : p.inc.l.length ≤ 100000 := by have := hp.il; omega
    have lR : (nf 200 R).l.length ≤ 1000 := Nat.le_trans (nf_length rb) (by omega)
    have vf := vis_few p hp R N hN rb
    have vd := vis_dig p (nf_isDig 200 R)
    have hor := vis_or p (nf 200 R)
    have va := value_all p (nf 200 R) (nfOrT fR) (by omega)
    have vv := value_vis p (nf 200 R) (nfOrT fR)
    obtain ⟨v, hv⟩ : ∃ v, visP p (nf 200 R) = v := ⟨_, rfl⟩
    have A1 : ∀ w : World, Tab w → Calls Tryz.prog 24 #[PV p, V ⟨n, dgs L, e⟩] w fun z w' => z = .returned (.tuple #[VV v, .int .i64 0]) ∧ Below w.heap.size w w' :=
      fun w hw => apply_as p ⟨n, dgs L, e⟩ w pl (by simp only; rw [dgs_length]; omega) hp.ok hw _ hr (by omega) (nf_made fR) _ hv
    rw [hv] at vf vd hor va vv
    have V1 : ∀ w : World, Tab w → Calls Tryz.prog 26 #[VV v] w fun z w' => z = .returned (V (nf 200 R)) ∧ Below w.heap.size w w' := fun w hw => value_as v _ w (by omega) (by omega) vv
    have T1 : ∀ w : World, Tab w → Calls Tryz.prog 30 #[VV v] w fun z w' => z = .returned (S (textV v)) ∧ Below w.heap.size w w' := fun w hw => text_as v w (by omega) (by omega) _ rfl
    have P1 : ¬ v.i = [] → ∀ w : World, Tab w → Calls Tryz.prog 31 #[S (textV v)] w fun z w' => z = .returned (.tuple #[V (nf 200 R), .int .i64 0]) ∧ Below w.heap.size w w' := by
      intro hi w hw
      rw [text_render]
      have wf : Wf v.i (!v.f.isEmpty) v.f false 101 [] [] := by
        refine ⟨(sdig_iff _).2 ⟨hi, vd.1⟩, ?_, by simp⟩
        cases hff : v.f.isEmpty with
        | true => simpa using hff
        | false =>
          simp only [Bool.not_false, if_true]
          exact (sdig_iff _).2 ⟨fun h => by rw [h] at hff; simp at hff, vd.2⟩
      have tri := render_tri (neg := v.neg) wf (by decide) (by omega)
      refine parse_ren wf (by omega) (by omega) (by decide) _ _ ?_ tri.1 w
      rw [tri.2]; exact va
    obtain ⟨vn, vi, vf'⟩ := v
    simp only at vf P1 hor
    exact texts_w n a len cap L e k0 k1 k2 k3 k4 k5 k6 w hin htab (by omega) h2 h3 p hpr vn vi vf' _ (by omega) (by omega) (nf 200 R) A1 rfl T1 hor P1 V1
  · exact texts_no n a len cap e k0 k1 k2 k3 k4 k5 k6 w hin.2.1 hin.2.2.1 htab hf
end Go.Proofs.YtfbfjkacaadbpaaGreatDoor
