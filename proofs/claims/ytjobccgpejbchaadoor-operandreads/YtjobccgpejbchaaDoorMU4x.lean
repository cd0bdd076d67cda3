/- LawU4a, LawU4b, LawU4c, in one text. -/
import Derived.Test.YtjobccgpejbchaaDoorOPlain
namespace Go.Proofs.YtjobccgpejbchaaDoor
open Go.RowKit Florin
set_option linter.unusedVariables false
set_option linter.unusedSimpArgs false
attribute [local go_sem ↓] Go.wp_at_zero Go.wp_at_succ eq_OL

private theorem dz0_a : dig (Int.toNat 0) = [] := dig_zero
private theorem ofE_a (w : World) (n : Int) (h1 : n ≤ 9223372036854775807) (ht : Tab w) (q : List UInt8) (hq : dig n.toNat = q) :
    Calls Tryd.prog 17 #[.int .i64 n] w fun e w' => e = .returned (S q) ∧ Below w.heap.size w w' := by
  subst hq; exact of_any n w h1 ht
set_option maxRecDepth 100000 in
set_option maxHeartbeats 3200000 in
theorem reads_qn_len (a : Option Addr) (len cap : Nat) (L : List UInt8) (a1 : Option Addr) (len1 cap1 : Nat) (L1 : List UInt8) (e : Int) (lt : Bool) (w : World) (hin : InB w a len cap L) (hin1 : InB w a1 len1 cap1 L1) (W : List UInt8) (hW : dgs L = W) (wl : W.length ≤ 1100) (w0 : W ≠ []) (h1 : len ≤ 1100) (h10 : ¬ len = 0) (h2 : len1 ≤ 1100) (h3 : e ≤ 11000) (h4 : e < 0) (h5 : 1000 < W.length) (hr : readO W = ⟨[], [], 0⟩) (he : errO W = 2) (ht : Tab w) :
    Calls Tryd.prog 4 #[.slice a len cap, .slice a1 len1 cap1, .bool false, .int .i64 e, .bool lt] w fun x w' => x = .returned (.bool true) ∧ Below w.heap.size w w' := by
  have h5i : (1000 : Int) < (W.length : Int) := by omega
  have bb1 : decide ((1100 : Int) < (len : Int)) = false := decide_eq_false (by omega)
  have bb2 : decide ((1100 : Int) < (len1 : Int)) = false := decide_eq_false (by omega)
  have bb3 : ((len : Int) == 0) = false := by simp; omega
  have bb5 : decide ((11000 : Int) < e) = false := decide_eq_false (by omega)
  have bb6 : decide ((1000 : Int) < (W.length : Int)) = true := decide_eq_true (by omega)
  have HIN := Lib.hid hin
  have HIN1 := Lib.hid hin1
  have HW := Lib.hid hW
  have HR := Lib.hid hr
  have HE := Lib.hid he
  have HT := Lib.hid ht
  clear hin hin1 hW hr he ht
  go_enter Tryd.func4, Tryd.ntmps4
  go_wp2_with fail
  with_reducible refine (head5 _).mono ?_
  rintro x w1 ⟨rfl, hb⟩
  have H1 : Hid (HeldL w [] w1) := Lib.hid (HeldL.keep (HeldL.refl w) hb)
  clear hb
  go_wp2_with fail
  with_reducible refine (digits_is a len cap L _ (HIN.out.below H1.out.bel) (by omega) W HW.out).mono ?_
  rintro x w2 ⟨rfl, hb⟩
  have H2 : Hid (HeldL w [] w2) := Lib.hid (HeldL.keep H1.out hb)
  clear H1
  clear hb
  go_wp2_with fail
  with_reducible refine (read_as ⟨W.toArray⟩ _ (by rw [arr_size]; omega) ⟨[], [], 0⟩ 2 (by rw [arr_list]; exact HR.out) (by rw [arr_list]; exact HE.out)).mono ?_
  rintro x w3 ⟨rfl, hb⟩
  have H3 : Hid (HeldL w [(w2.heap.size, #[.bool false, S W, .string ⟨#[]⟩])] w3) := Lib.hid (HeldL.keep (HeldL.alloc H2.out (w2.heap.size) #[.bool false, S W, .string ⟨#[]⟩] 25 (by simp)) hb)
  clear H2
  clear hb
  have bv0 : w3.cell? ⟨w2.heap.size, 0, none⟩ = some (.bool false) := (H3.out.f (List.Mem.head _)).cell 0
  have bv1 : w3.cell? ⟨w2.heap.size, 1, none⟩ = some (S W) := (H3.out.f (List.Mem.head _)).cell 1
  have bv2 : w3.cell? ⟨w2.heap.size, 2, none⟩ = some (.string ⟨#[]⟩) := (H3.out.f (List.Mem.head _)).cell 2
  have bvl : w2.heap.size < w3.heap.size := (H3.out.f (List.Mem.head _)).lt
  go_wp2
  go_ret
  exact ⟨rfl, (HeldL.alloc H3.out (w3.heap.size) #[.string ⟨#[]⟩, .string ⟨#[]⟩, .int .i64 0] 28 (by simp)).bel⟩

set_option maxRecDepth 100000 in
set_option maxHeartbeats 3200000 in
theorem reads_qn_ok (a : Option Addr) (len cap : Nat) (L : List UInt8) (a1 : Option Addr) (len1 cap1 : Nat) (L1 : List UInt8) (e : Int) (lt : Bool) (w : World) (hin : InB w a len cap L) (hin1 : InB w a1 len1 cap1 L1) (W : List UInt8) (hW : dgs L = W) (wl : W.length ≤ 1100) (w0 : W ≠ []) (h1 : len ≤ 1100) (h10 : ¬ len = 0) (h2 : len1 ≤ 1100) (h3 : e ≤ 11000) (h4 : e < 0) (h5 : ¬ 1000 < W.length) (h6 : e ≤ 10000) (I F : List UInt8) (K : Int) (hr : readO W = ⟨I, F, K⟩) (he : errO W = 0) (ho : ofP ⟨false, W, []⟩ (max e 0) = ⟨I, F, K⟩) (ht : Tab w) :
    Calls Tryd.prog 4 #[.slice a len cap, .slice a1 len1 cap1, .bool false, .int .i64 e, .bool lt] w fun x w' => x = .returned (.bool true) ∧ Below w.heap.size w w' := by
  have h5i : ¬ (1000 : Int) < (W.length : Int) := by omega
  have bb1 : decide ((1100 : Int) < (len : Int)) = false := decide_eq_false (by omega)
  have bb2 : decide ((1100 : Int) < (len1 : Int)) = false := decide_eq_false (by omega)
  have bb3 : ((len : Int) == 0) = false := by simp; omega
  have bb5 : decide ((11000 : Int) < e) = false := decide_eq_false (by omega)
  have bb7 : decide ((10000 : Int) < e) = false := decide_eq_false (by omega)
  have bb6 : decide ((1000 : Int) < (W.length : Int)) = false := decide_eq_false (by omega)
  have HIN := Lib.hid hin
  have HIN1 := Lib.hid hin1
  have HW := Lib.hid hW
  have HR := Lib.hid hr
  have HE := Lib.hid he
  have HT := Lib.hid ht
  have HO := Lib.hid ho
  clear hin hin1 hW hr he ht ho
  go_enter Tryd.func4, Tryd.ntmps4
  go_wp2_with fail
  with_reducible refine (head5 _).mono ?_
  rintro x w1 ⟨rfl, hb⟩
  have H1 : Hid (HeldL w [] w1) := Lib.hid (HeldL.keep (HeldL.refl w) hb)
  clear hb
  go_wp2_with fail
  with_reducible refine (digits_is a len cap L _ (HIN.out.below H1.out.bel) (by omega) W HW.out).mono ?_
  rintro x w2 ⟨rfl, hb⟩
  have H2 : Hid (HeldL w [] w2) := Lib.hid (HeldL.keep H1.out hb)
  clear H1
  clear hb
  go_wp2_with fail
  with_reducible refine (read_as ⟨W.toArray⟩ _ (by rw [arr_size]; omega) ⟨I, F, K⟩ 0 (by rw [arr_list]; exact HR.out) (by rw [arr_list]; exact HE.out)).mono ?_
  rintro x w3 ⟨rfl, hb⟩
  have H3 : Hid (HeldL w [(w2.heap.size, #[.bool false, S W, .string ⟨#[]⟩])] w3) := Lib.hid (HeldL.keep (HeldL.alloc H2.out (w2.heap.size) #[.bool false, S W, .string ⟨#[]⟩] 25 (by simp)) hb)
  clear H2
  clear hb
  have bv0 : w3.cell? ⟨w2.heap.size, 0, none⟩ = some (.bool false) := (H3.out.f (List.Mem.head _)).cell 0
  have bv1 : w3.cell? ⟨w2.heap.size, 1, none⟩ = some (S W) := (H3.out.f (List.Mem.head _)).cell 1
  have bv2 : w3.cell? ⟨w2.heap.size, 2, none⟩ = some (.string ⟨#[]⟩) := (H3.out.f (List.Mem.head _)).cell 2
  have bvl : w2.heap.size < w3.heap.size := (H3.out.f (List.Mem.head _)).lt
  go_wp2_with fail
  have ALL1 : Hid (∀ w' : World, HeldL w [(w3.heap.size, #[S I, S F, .int .i64 K]), (w2.heap.size, #[.bool false, S W, .string ⟨#[]⟩])] w' → w'.cell? ⟨w2.heap.size, 0, none⟩ = some (.bool false) ∧ w'.cell? ⟨w2.heap.size, 1, none⟩ = some (S W) ∧ w'.cell? ⟨w2.heap.size, 2, none⟩ = some (.string ⟨#[]⟩) ∧ w'.cell? ⟨w3.heap.size, 0, none⟩ = some (S I) ∧ w'.cell? ⟨w3.heap.size, 1, none⟩ = some (S F) ∧ w'.cell? ⟨w3.heap.size, 2, none⟩ = some (.int .i64 K) ∧ HeldL w [(w3.heap.size, #[S I, S F, .int .i64 K]), (w2.heap.size, #[.bool false, S W, .string ⟨#[]⟩])] w') := Lib.hid (fun w' h => ⟨(h.f (List.Mem.tail _ (List.Mem.head _))).cell 0, (h.f (List.Mem.tail _ (List.Mem.head _))).cell 1, (h.f (List.Mem.tail _ (List.Mem.head _))).cell 2, (h.f (List.Mem.head _)).cell 0, (h.f (List.Mem.head _)).cell 1, (h.f (List.Mem.head _)).cell 2, h⟩)
  have KEEP1 : Hid (∀ w' w'' : World, (w'.cell? ⟨w2.heap.size, 0, none⟩ = some (.bool false) ∧ w'.cell? ⟨w2.heap.size, 1, none⟩ = some (S W) ∧ w'.cell? ⟨w2.heap.size, 2, none⟩ = some (.string ⟨#[]⟩) ∧ w'.cell? ⟨w3.heap.size, 0, none⟩ = some (S I) ∧ w'.cell? ⟨w3.heap.size, 1, none⟩ = some (S F) ∧ w'.cell? ⟨w3.heap.size, 2, none⟩ = some (.int .i64 K) ∧ HeldL w [(w3.heap.size, #[S I, S F, .int .i64 K]), (w2.heap.size, #[.bool false, S W, .string ⟨#[]⟩])] w') → Below w'.heap.size w' w'' → (w''.cell? ⟨w2.heap.size, 0, none⟩ = some (.bool false) ∧ w''.cell? ⟨w2.heap.size, 1, none⟩ = some (S W) ∧ w''.cell? ⟨w2.heap.size, 2, none⟩ = some (.string ⟨#[]⟩) ∧ w''.cell? ⟨w3.heap.size, 0, none⟩ = some (S I) ∧ w''.cell? ⟨w3.heap.size, 1, none⟩ = some (S F) ∧ w''.cell? ⟨w3.heap.size, 2, none⟩ = some (.int .i64 K) ∧ HeldL w [(w3.heap.size, #[S I, S F, .int .i64 K]), (w2.heap.size, #[.bool false, S W, .string ⟨#[]⟩])] w'')) := Lib.hid (fun w' w'' h hb => ALL1.out _ (HeldL.keep (h.2.2.2.2.2.2) hb))
  have HS1 : Hid (HeldL w [(w3.heap.size, #[S I, S F, .int .i64 K]), (w2.heap.size, #[.bool false, S W, .string ⟨#[]⟩])] _) := Lib.hid (HeldL.alloc H3.out (w3.heap.size) #[S I, S F, .int .i64 K] 28 (by simp))
  refine wp_region_held_drew (S := fun w' => w'.cell? ⟨w2.heap.size, 0, none⟩ = some (.bool false) ∧ w'.cell? ⟨w2.heap.size, 1, none⟩ = some (S W) ∧ w'.cell? ⟨w2.heap.size, 2, none⟩ = some (.string ⟨#[]⟩) ∧ w'.cell? ⟨w3.heap.size, 0, none⟩ = some (S I) ∧ w'.cell? ⟨w3.heap.size, 1, none⟩ = some (S F) ∧ w'.cell? ⟨w3.heap.size, 2, none⟩ = some (.int .i64 K) ∧ HeldL w [(w3.heap.size, #[S I, S F, .int .i64 K]), (w2.heap.size, #[.bool false, S W, .string ⟨#[]⟩])] w') (by kernel_rfl) (ALL1.out _ (HeldL.drew HS1.out)) (fun hHeld => ?_)
  refine wpAnyH_take (i := 0) (oi := { dst := some 94, op := Go.Op.move (Go.Operand.tmp 16), type := 37, pos := "law.go:108", after := #[], guard := none }) (v := ?_) rfl (by kernel_rfl) (by kernel_rfl) (by kernel_rfl) (fun _ _ _ h => h) (Or.inl ⟨by rfl, ?_⟩) hHeld ?_
  case refine_2 => (intro w hSw; (try dsimp only at hSw); go_simp <;> with_reducible rfl)
  try simp only [Act.put, List.setIfInBounds_toArray, List.set_cons_zero, List.set_cons_succ]
  refine wpAnyH_take (i := 1) (oi := { dst := some 95, op := Go.Op.binOp Go.BinOp.eql 37 (Go.Operand.tmp 94) (Go.Operand.const (Go.Value.int Go.IntKind.i64 0)) 37, type := 4, pos := "law.go:108", after := #[{ on := 0, ground := Go.Ground.data }], guard := none }) (v := ?_) rfl (by kernel_rfl) (by kernel_rfl) (by kernel_rfl) (fun _ _ _ h => h) (Or.inl ⟨by rfl, ?_⟩) hHeld ?_
  case refine_2 => (intro w hSw; (try dsimp only at hSw); go_simp <;> with_reducible rfl)
  try simp only [Act.put, List.setIfInBounds_toArray, List.set_cons_zero, List.set_cons_succ]
  refine wpAnyH_take (i := 2) (oi := { dst := some 96, op := Go.Op.move (Go.Operand.tmp 95), type := 4, pos := "law.go:108", after := #[{ on := 1, ground := Go.Ground.data }], guard := none }) (v := ?_) rfl (by kernel_rfl) (by kernel_rfl) (by kernel_rfl) (fun _ _ _ h => h) (Or.inl ⟨by rfl, ?_⟩) hHeld ?_
  case refine_2 => (intro w hSw; (try dsimp only at hSw); go_simp <;> with_reducible rfl)
  try simp only [Act.put, List.setIfInBounds_toArray, List.set_cons_zero, List.set_cons_succ]
  refine wpAnyH_take (i := 3) (oi := { dst := some 97, op := Go.Op.load 28 (Go.Operand.tmp 15), type := 28, pos := "law.go:108", after := #[{ on := 2, ground := Go.Ground.guard }], guard := some (2, true) }) (v := ?_) rfl (by kernel_rfl) (by kernel_rfl) (by kernel_rfl) (fun _ _ _ h => h) (Or.inl ⟨by rfl, ?_⟩) hHeld ?_
  case refine_2 => (intro w hSw; (try dsimp only at hSw); go_simp <;> with_reducible rfl)
  try simp only [Act.put, List.setIfInBounds_toArray, List.set_cons_zero, List.set_cons_succ]
  refine wpAnyH_take (i := 4) (oi := { dst := some 98, op := Go.Op.load 25 (Go.Operand.tmp 11), type := 25, pos := "law.go:108", after := #[{ on := 2, ground := Go.Ground.guard }], guard := some (2, true) }) (v := ?_) rfl (by kernel_rfl) (by kernel_rfl) (by kernel_rfl) (fun _ _ _ h => h) (Or.inl ⟨by rfl, ?_⟩) hHeld ?_
  case refine_2 => (intro w hSw; (try dsimp only at hSw); go_simp <;> with_reducible rfl)
  try simp only [Act.put, List.setIfInBounds_toArray, List.set_cons_zero, List.set_cons_succ]
  refine wpAnyH_take (i := 5) (oi := { dst := some 99, op := Go.Op.move (Go.Operand.tmp 3), type := 3, pos := "law.go:108", after := #[{ on := 2, ground := Go.Ground.guard }], guard := some (2, true) }) (v := ?_) rfl (by kernel_rfl) (by kernel_rfl) (by kernel_rfl) (fun _ _ _ h => h) (Or.inl ⟨by rfl, ?_⟩) hHeld ?_
  case refine_2 => (intro w hSw; (try dsimp only at hSw); go_simp <;> with_reducible rfl)
  try simp only [Act.put, List.setIfInBounds_toArray, List.set_cons_zero, List.set_cons_succ]
  refine wpAnyH_take (i := 6) (oi := { dst := some 100, op := Go.Op.call { callee := Go.Callee.builtin Go.Builtin.max, args := #[Go.Operand.tmp 99, Go.Operand.const (Go.Value.int Go.IntKind.i64 0)], argTypes := #[3, 3] }, type := 3, pos := "law.go:108", after := #[{ on := 5, ground := Go.Ground.data }, { on := 2, ground := Go.Ground.guard }], guard := some (2, true) }) (v := ?_) rfl (by kernel_rfl) (by kernel_rfl) (by kernel_rfl) (fun _ _ _ h => h) (Or.inl ⟨by rfl, ?_⟩) hHeld ?_
  case refine_2 => (intro w hSw; (try dsimp only at hSw); go_simp <;> with_reducible rfl)
  try simp only [Act.put, List.setIfInBounds_toArray, List.set_cons_zero, List.set_cons_succ]
  refine wpAnyH_ready (rs := [7]) (by kernel_rfl) (by simp) ?_
  refine AllReadyH.cons (o := { dst := some 101, op := Go.Op.call { callee := Go.Callee.value (Go.Operand.func 7), args := #[Go.Operand.tmp 98, Go.Operand.tmp 100], argTypes := #[25, 3] }, type := 28, pos := "law.go:108", after := #[{ on := 4, ground := Go.Ground.data }, { on := 6, ground := Go.Ground.data }, { on := 2, ground := Go.Ground.chain }, { on := 2, ground := Go.Ground.guard }], guard := some (2, true) }) rfl (fun KK hK => ?_) AllReadyH.nil
  go_simp
  with_reducible refine (of_as ⟨false, W, []⟩ (max e 0) _ (by show W.length ≤ 900000; omega) (by show ([] : List UInt8).length ≤ 900000; simp) ⟨I, F, K⟩ HO.out).mono ?_
  rintro x wA ⟨rfl, hb⟩
  go_wp2_with fail
  refine hK.out _ _ (KEEP1.out _ _ hHeld hb) (fun hHeld2 => ?_)
  clear hK hHeld hb
  have hHeld := hHeld2
  clear hHeld2
  try simp only [Act.put, List.setIfInBounds_toArray, List.set_cons_zero, List.set_cons_succ]
  refine wpAnyH_take (i := 8) (oi := { dst := some 102, op := Go.Op.binOp Go.BinOp.eql 28 (Go.Operand.tmp 97) (Go.Operand.tmp 101) 28, type := 4, pos := "law.go:108", after := #[{ on := 3, ground := Go.Ground.data }, { on := 7, ground := Go.Ground.data }, { on := 2, ground := Go.Ground.guard }], guard := some (2, true) }) (v := ?_) rfl (by kernel_rfl) (by kernel_rfl) (by kernel_rfl) (fun _ _ _ h => h) (Or.inl ⟨by rfl, ?_⟩) hHeld ?_
  case refine_2 => (intro w hSw; (try dsimp only at hSw); go_simp <;> with_reducible rfl)
  try simp only [Act.put, List.setIfInBounds_toArray, List.set_cons_zero, List.set_cons_succ]
  refine wpAnyH_take (i := 9) (oi := { dst := some 103, op := Go.Op.pick (Go.Operand.tmp 96) (Go.Operand.tmp 102) (Go.Operand.const (Go.Value.bool false)), type := 4, pos := "law.go:108", after := #[{ on := 2, ground := Go.Ground.data }, { on := 8, ground := Go.Ground.data }], guard := none }) (v := ?_) rfl (by kernel_rfl) (by kernel_rfl) (by kernel_rfl) (fun _ _ _ h => h) (Or.inl ⟨by rfl, ?_⟩) hHeld ?_
  case refine_2 => (intro w hSw; (try dsimp only at hSw); go_simp <;> with_reducible rfl)
  try simp only [Act.put, List.setIfInBounds_toArray, List.set_cons_zero, List.set_cons_succ]
  refine wpAnyH_take (i := 10) (oi := { dst := some 10, op := Go.Op.assign (Go.Operand.tmp 103), type := 4, pos := "law.go:108", after := #[{ on := 9, ground := Go.Ground.data }, { on := 7, ground := Go.Ground.chain }, { on := 0, ground := Go.Ground.phase }, { on := 1, ground := Go.Ground.phase }, { on := 2, ground := Go.Ground.phase }, { on := 3, ground := Go.Ground.phase }, { on := 4, ground := Go.Ground.phase }, { on := 5, ground := Go.Ground.phase }, { on := 6, ground := Go.Ground.phase }, { on := 7, ground := Go.Ground.phase }, { on := 8, ground := Go.Ground.phase }, { on := 9, ground := Go.Ground.phase }], guard := none }) (v := ?_) rfl (by kernel_rfl) (by kernel_rfl) (by kernel_rfl) (fun _ _ _ h => h) (Or.inl ⟨by rfl, ?_⟩) hHeld ?_
  case refine_2 => (intro w hSw; (try dsimp only at hSw); go_simp <;> with_reducible rfl)
  try simp only [Act.put, List.setIfInBounds_toArray, List.set_cons_zero, List.set_cons_succ]
  refine wpAnyH_done (by kernel_rfl) ?_ _
  clear bv0 bv1 bv2 bvl
  have H4 : Hid (HeldL w [(w3.heap.size, #[S I, S F, .int .i64 K]), (w2.heap.size, #[.bool false, S W, .string ⟨#[]⟩])] wA) := Lib.hid (hHeld.2.2.2.2.2.2)
  clear hHeld ALL1 KEEP1 HS1 H3
  go_wp2
  go_ret
  exact ⟨rfl, H4.out.bel⟩

set_option maxRecDepth 100000 in
set_option maxHeartbeats 3200000 in
theorem reads_qc0_len (a : Option Addr) (len cap : Nat) (L : List UInt8) (a1 : Option Addr) (len1 cap1 : Nat) (L1 : List UInt8) (e : Int) (w : World) (hin : InB w a len cap L) (hin1 : InB w a1 len1 cap1 L1) (W : List UInt8) (hW : dgs L = W) (wl : W.length ≤ 1100) (w0 : W ≠ []) (h1 : len ≤ 1100) (h10 : ¬ len = 0) (h2 : len1 ≤ 1100) (h3 : e ≤ 11000) (h4 : e = 0) (T2 T3 : List UInt8) (hT2 : W ++ [99] = T2) (hT3 : T2 ++ [48] = T3) (h5 : 1000 < W.length) (hr : readO T3 = ⟨[], [], 0⟩) (he : errO T3 = 2) (ht : Tab w) :
    Calls Tryd.prog 4 #[.slice a len cap, .slice a1 len1 cap1, .bool false, .int .i64 e, .bool false] w fun x w' => x = .returned (.bool true) ∧ Below w.heap.size w w' := by
  have T2l : T2.length = W.length + 1 := by rw [← hT2]; simp
  have T3l : T3.length = W.length + 1 + 1 := by rw [← hT3, List.length_append, T2l]; rfl
  have SA2 : (⟨W.toArray⟩ : ByteArray) ++ (⟨#[99]⟩ : ByteArray) = ⟨T2.toArray⟩ := by rw [← hT2]; exact arr_append W [99]
  have SA3 : (⟨T2.toArray⟩ : ByteArray) ++ (⟨#[48]⟩ : ByteArray) = ⟨T3.toArray⟩ := by rw [← hT3]; exact arr_append T2 [48]
  have cc2 : ¬ 9223372036854775807 < W.length + 1 := by omega
  have cc3 : ¬ 9223372036854775807 < T2.length + 1 := by omega
  have T3x : T3.length ≤ 3000 := by omega
  clear hT2 hT3 T3l
  have h5i : (1000 : Int) < (W.length : Int) := by omega
  have bb1 : decide ((1100 : Int) < (len : Int)) = false := decide_eq_false (by omega)
  have bb2 : decide ((1100 : Int) < (len1 : Int)) = false := decide_eq_false (by omega)
  have bb3 : ((len : Int) == 0) = false := by simp; omega
  have bb6 : decide ((1000 : Int) < (W.length : Int)) = true := decide_eq_true (by omega)
  have HIN := Lib.hid hin
  have HIN1 := Lib.hid hin1
  have HW := Lib.hid hW
  have HR := Lib.hid hr
  have HE := Lib.hid he
  have HT := Lib.hid ht
  clear hin hin1 hW hr he ht
  subst h4
  go_enter Tryd.func4, Tryd.ntmps4
  go_wp2_with fail
  with_reducible refine (head5 _).mono ?_
  rintro x w1 ⟨rfl, hb⟩
  have H1 : Hid (HeldL w [] w1) := Lib.hid (HeldL.keep (HeldL.refl w) hb)
  clear hb
  go_wp2_with fail
  with_reducible refine (digits_is a len cap L _ (HIN.out.below H1.out.bel) (by omega) W HW.out).mono ?_
  rintro x w2 ⟨rfl, hb⟩
  have H2 : Hid (HeldL w [] w2) := Lib.hid (HeldL.keep H1.out hb)
  clear H1
  clear hb
  go_wp2_with fail
  with_reducible refine (ofE_a _ 0 (by omega) (HT.out.below (HeldL.alloc H2.out (w2.heap.size) #[.bool false, S W, .string ⟨#[]⟩] 25 (by simp)).bel) [] dz0_a).mono ?_
  rintro x w3 ⟨rfl, hb⟩
  have H3 : Hid (HeldL w [(w2.heap.size, #[.bool false, S W, .string ⟨#[]⟩])] w3) := Lib.hid (HeldL.keep (HeldL.alloc H2.out (w2.heap.size) #[.bool false, S W, .string ⟨#[]⟩] 25 (by simp)) hb)
  clear H2
  clear hb
  go_wp2_with fail
  with_reducible refine (read_as ⟨T3.toArray⟩ _ (by rw [arr_size]; omega) ⟨[], [], 0⟩ 2 (by rw [arr_list]; exact HR.out) (by rw [arr_list]; exact HE.out)).mono ?_
  rintro x w4 ⟨rfl, hb⟩
  have H4 : Hid (HeldL w [(w2.heap.size, #[.bool false, S W, .string ⟨#[]⟩])] w4) := Lib.hid (HeldL.keep H3.out hb)
  clear H3
  clear hb
  have bv0 : w4.cell? ⟨w2.heap.size, 0, none⟩ = some (.bool false) := (H4.out.f (List.Mem.head _)).cell 0
  have bv1 : w4.cell? ⟨w2.heap.size, 1, none⟩ = some (S W) := (H4.out.f (List.Mem.head _)).cell 1
  have bv2 : w4.cell? ⟨w2.heap.size, 2, none⟩ = some (.string ⟨#[]⟩) := (H4.out.f (List.Mem.head _)).cell 2
  have bvl : w2.heap.size < w4.heap.size := (H4.out.f (List.Mem.head _)).lt
  go_wp2
  go_ret
  exact ⟨rfl, (HeldL.alloc H4.out (w4.heap.size) #[.string ⟨#[]⟩, .string ⟨#[]⟩, .int .i64 0] 28 (by simp)).bel⟩

set_option maxRecDepth 100000 in
set_option maxHeartbeats 3200000 in
theorem reads_qc0_ok (a : Option Addr) (len cap : Nat) (L : List UInt8) (a1 : Option Addr) (len1 cap1 : Nat) (L1 : List UInt8) (e : Int) (w : World) (hin : InB w a len cap L) (hin1 : InB w a1 len1 cap1 L1) (W : List UInt8) (hW : dgs L = W) (wl : W.length ≤ 1100) (w0 : W ≠ []) (h1 : len ≤ 1100) (h10 : ¬ len = 0) (h2 : len1 ≤ 1100) (h3 : e ≤ 11000) (h4 : e = 0) (T2 T3 : List UInt8) (hT2 : W ++ [99] = T2) (hT3 : T2 ++ [48] = T3) (h5 : ¬ 1000 < W.length) (h6 : e ≤ 10000) (I F : List UInt8) (K : Int) (hr : readO T3 = ⟨I, F, K⟩) (he : errO T3 = 0) (ho : ofP ⟨false, W, []⟩ (0) = ⟨I, F, K⟩) (ht : Tab w) :
    Calls Tryd.prog 4 #[.slice a len cap, .slice a1 len1 cap1, .bool false, .int .i64 e, .bool false] w fun x w' => x = .returned (.bool true) ∧ Below w.heap.size w w' := by
  have T2l : T2.length = W.length + 1 := by rw [← hT2]; simp
  have T3l : T3.length = W.length + 1 + 1 := by rw [← hT3, List.length_append, T2l]; rfl
  have SA2 : (⟨W.toArray⟩ : ByteArray) ++ (⟨#[99]⟩ : ByteArray) = ⟨T2.toArray⟩ := by rw [← hT2]; exact arr_append W [99]
  have SA3 : (⟨T2.toArray⟩ : ByteArray) ++ (⟨#[48]⟩ : ByteArray) = ⟨T3.toArray⟩ := by rw [← hT3]; exact arr_append T2 [48]
  have cc2 : ¬ 9223372036854775807 < W.length + 1 := by omega
  have cc3 : ¬ 9223372036854775807 < T2.length + 1 := by omega
  have T3x : T3.length ≤ 3000 := by omega
  clear hT2 hT3 T3l
  have h5i : ¬ (1000 : Int) < (W.length : Int) := by omega
  have bb1 : decide ((1100 : Int) < (len : Int)) = false := decide_eq_false (by omega)
  have bb2 : decide ((1100 : Int) < (len1 : Int)) = false := decide_eq_false (by omega)
  have bb3 : ((len : Int) == 0) = false := by simp; omega
  have bb6 : decide ((1000 : Int) < (W.length : Int)) = false := decide_eq_false (by omega)
  have HIN := Lib.hid hin
  have HIN1 := Lib.hid hin1
  have HW := Lib.hid hW
  have HR := Lib.hid hr
  have HE := Lib.hid he
  have HT := Lib.hid ht
  have HO := Lib.hid ho
  clear hin hin1 hW hr he ht ho
  subst h4
  go_enter Tryd.func4, Tryd.ntmps4
  go_wp2_with fail
  with_reducible refine (head5 _).mono ?_
  rintro x w1 ⟨rfl, hb⟩
  have H1 : Hid (HeldL w [] w1) := Lib.hid (HeldL.keep (HeldL.refl w) hb)
  clear hb
  go_wp2_with fail
  with_reducible refine (digits_is a len cap L _ (HIN.out.below H1.out.bel) (by omega) W HW.out).mono ?_
  rintro x w2 ⟨rfl, hb⟩
  have H2 : Hid (HeldL w [] w2) := Lib.hid (HeldL.keep H1.out hb)
  clear H1
  clear hb
  go_wp2_with fail
  with_reducible refine (ofE_a _ 0 (by omega) (HT.out.below (HeldL.alloc H2.out (w2.heap.size) #[.bool false, S W, .string ⟨#[]⟩] 25 (by simp)).bel) [] dz0_a).mono ?_
  rintro x w3 ⟨rfl, hb⟩
  have H3 : Hid (HeldL w [(w2.heap.size, #[.bool false, S W, .string ⟨#[]⟩])] w3) := Lib.hid (HeldL.keep (HeldL.alloc H2.out (w2.heap.size) #[.bool false, S W, .string ⟨#[]⟩] 25 (by simp)) hb)
  clear H2
  clear hb
  go_wp2_with fail
  with_reducible refine (read_as ⟨T3.toArray⟩ _ (by rw [arr_size]; omega) ⟨I, F, K⟩ 0 (by rw [arr_list]; exact HR.out) (by rw [arr_list]; exact HE.out)).mono ?_
  rintro x w4 ⟨rfl, hb⟩
  have H4 : Hid (HeldL w [(w2.heap.size, #[.bool false, S W, .string ⟨#[]⟩])] w4) := Lib.hid (HeldL.keep H3.out hb)
  clear H3
  clear hb
  have bv0 : w4.cell? ⟨w2.heap.size, 0, none⟩ = some (.bool false) := (H4.out.f (List.Mem.head _)).cell 0
  have bv1 : w4.cell? ⟨w2.heap.size, 1, none⟩ = some (S W) := (H4.out.f (List.Mem.head _)).cell 1
  have bv2 : w4.cell? ⟨w2.heap.size, 2, none⟩ = some (.string ⟨#[]⟩) := (H4.out.f (List.Mem.head _)).cell 2
  have bvl : w2.heap.size < w4.heap.size := (H4.out.f (List.Mem.head _)).lt
  go_wp2_with fail
  have ALL1 : Hid (∀ w' : World, HeldL w [(w4.heap.size, #[S I, S F, .int .i64 K]), (w2.heap.size, #[.bool false, S W, .string ⟨#[]⟩])] w' → w'.cell? ⟨w2.heap.size, 0, none⟩ = some (.bool false) ∧ w'.cell? ⟨w2.heap.size, 1, none⟩ = some (S W) ∧ w'.cell? ⟨w2.heap.size, 2, none⟩ = some (.string ⟨#[]⟩) ∧ w'.cell? ⟨w4.heap.size, 0, none⟩ = some (S I) ∧ w'.cell? ⟨w4.heap.size, 1, none⟩ = some (S F) ∧ w'.cell? ⟨w4.heap.size, 2, none⟩ = some (.int .i64 K) ∧ HeldL w [(w4.heap.size, #[S I, S F, .int .i64 K]), (w2.heap.size, #[.bool false, S W, .string ⟨#[]⟩])] w') := Lib.hid (fun w' h => ⟨(h.f (List.Mem.tail _ (List.Mem.head _))).cell 0, (h.f (List.Mem.tail _ (List.Mem.head _))).cell 1, (h.f (List.Mem.tail _ (List.Mem.head _))).cell 2, (h.f (List.Mem.head _)).cell 0, (h.f (List.Mem.head _)).cell 1, (h.f (List.Mem.head _)).cell 2, h⟩)
  have KEEP1 : Hid (∀ w' w'' : World, (w'.cell? ⟨w2.heap.size, 0, none⟩ = some (.bool false) ∧ w'.cell? ⟨w2.heap.size, 1, none⟩ = some (S W) ∧ w'.cell? ⟨w2.heap.size, 2, none⟩ = some (.string ⟨#[]⟩) ∧ w'.cell? ⟨w4.heap.size, 0, none⟩ = some (S I) ∧ w'.cell? ⟨w4.heap.size, 1, none⟩ = some (S F) ∧ w'.cell? ⟨w4.heap.size, 2, none⟩ = some (.int .i64 K) ∧ HeldL w [(w4.heap.size, #[S I, S F, .int .i64 K]), (w2.heap.size, #[.bool false, S W, .string ⟨#[]⟩])] w') → Below w'.heap.size w' w'' → (w''.cell? ⟨w2.heap.size, 0, none⟩ = some (.bool false) ∧ w''.cell? ⟨w2.heap.size, 1, none⟩ = some (S W) ∧ w''.cell? ⟨w2.heap.size, 2, none⟩ = some (.string ⟨#[]⟩) ∧ w''.cell? ⟨w4.heap.size, 0, none⟩ = some (S I) ∧ w''.cell? ⟨w4.heap.size, 1, none⟩ = some (S F) ∧ w''.cell? ⟨w4.heap.size, 2, none⟩ = some (.int .i64 K) ∧ HeldL w [(w4.heap.size, #[S I, S F, .int .i64 K]), (w2.heap.size, #[.bool false, S W, .string ⟨#[]⟩])] w'')) := Lib.hid (fun w' w'' h hb => ALL1.out _ (HeldL.keep (h.2.2.2.2.2.2) hb))
  have HS1 : Hid (HeldL w [(w4.heap.size, #[S I, S F, .int .i64 K]), (w2.heap.size, #[.bool false, S W, .string ⟨#[]⟩])] _) := Lib.hid (HeldL.alloc H4.out (w4.heap.size) #[S I, S F, .int .i64 K] 28 (by simp))
  refine wp_region_held_drew (S := fun w' => w'.cell? ⟨w2.heap.size, 0, none⟩ = some (.bool false) ∧ w'.cell? ⟨w2.heap.size, 1, none⟩ = some (S W) ∧ w'.cell? ⟨w2.heap.size, 2, none⟩ = some (.string ⟨#[]⟩) ∧ w'.cell? ⟨w4.heap.size, 0, none⟩ = some (S I) ∧ w'.cell? ⟨w4.heap.size, 1, none⟩ = some (S F) ∧ w'.cell? ⟨w4.heap.size, 2, none⟩ = some (.int .i64 K) ∧ HeldL w [(w4.heap.size, #[S I, S F, .int .i64 K]), (w2.heap.size, #[.bool false, S W, .string ⟨#[]⟩])] w') (by kernel_rfl) (ALL1.out _ (HeldL.drew HS1.out)) (fun hHeld => ?_)
  refine wpAnyH_take (i := 0) (oi := { dst := some 94, op := Go.Op.move (Go.Operand.tmp 16), type := 37, pos := "law.go:108", after := #[], guard := none }) (v := ?_) rfl (by kernel_rfl) (by kernel_rfl) (by kernel_rfl) (fun _ _ _ h => h) (Or.inl ⟨by rfl, ?_⟩) hHeld ?_
  case refine_2 => (intro w hSw; (try dsimp only at hSw); go_simp <;> with_reducible rfl)
  try simp only [Act.put, List.setIfInBounds_toArray, List.set_cons_zero, List.set_cons_succ]
  refine wpAnyH_take (i := 1) (oi := { dst := some 95, op := Go.Op.binOp Go.BinOp.eql 37 (Go.Operand.tmp 94) (Go.Operand.const (Go.Value.int Go.IntKind.i64 0)) 37, type := 4, pos := "law.go:108", after := #[{ on := 0, ground := Go.Ground.data }], guard := none }) (v := ?_) rfl (by kernel_rfl) (by kernel_rfl) (by kernel_rfl) (fun _ _ _ h => h) (Or.inl ⟨by rfl, ?_⟩) hHeld ?_
  case refine_2 => (intro w hSw; (try dsimp only at hSw); go_simp <;> with_reducible rfl)
  try simp only [Act.put, List.setIfInBounds_toArray, List.set_cons_zero, List.set_cons_succ]
  refine wpAnyH_take (i := 2) (oi := { dst := some 96, op := Go.Op.move (Go.Operand.tmp 95), type := 4, pos := "law.go:108", after := #[{ on := 1, ground := Go.Ground.data }], guard := none }) (v := ?_) rfl (by kernel_rfl) (by kernel_rfl) (by kernel_rfl) (fun _ _ _ h => h) (Or.inl ⟨by rfl, ?_⟩) hHeld ?_
  case refine_2 => (intro w hSw; (try dsimp only at hSw); go_simp <;> with_reducible rfl)
  try simp only [Act.put, List.setIfInBounds_toArray, List.set_cons_zero, List.set_cons_succ]
  refine wpAnyH_take (i := 3) (oi := { dst := some 97, op := Go.Op.load 28 (Go.Operand.tmp 15), type := 28, pos := "law.go:108", after := #[{ on := 2, ground := Go.Ground.guard }], guard := some (2, true) }) (v := ?_) rfl (by kernel_rfl) (by kernel_rfl) (by kernel_rfl) (fun _ _ _ h => h) (Or.inl ⟨by rfl, ?_⟩) hHeld ?_
  case refine_2 => (intro w hSw; (try dsimp only at hSw); go_simp <;> with_reducible rfl)
  try simp only [Act.put, List.setIfInBounds_toArray, List.set_cons_zero, List.set_cons_succ]
  refine wpAnyH_take (i := 4) (oi := { dst := some 98, op := Go.Op.load 25 (Go.Operand.tmp 11), type := 25, pos := "law.go:108", after := #[{ on := 2, ground := Go.Ground.guard }], guard := some (2, true) }) (v := ?_) rfl (by kernel_rfl) (by kernel_rfl) (by kernel_rfl) (fun _ _ _ h => h) (Or.inl ⟨by rfl, ?_⟩) hHeld ?_
  case refine_2 => (intro w hSw; (try dsimp only at hSw); go_simp <;> with_reducible rfl)
  try simp only [Act.put, List.setIfInBounds_toArray, List.set_cons_zero, List.set_cons_succ]
  refine wpAnyH_take (i := 5) (oi := { dst := some 99, op := Go.Op.move (Go.Operand.tmp 3), type := 3, pos := "law.go:108", after := #[{ on := 2, ground := Go.Ground.guard }], guard := some (2, true) }) (v := ?_) rfl (by kernel_rfl) (by kernel_rfl) (by kernel_rfl) (fun _ _ _ h => h) (Or.inl ⟨by rfl, ?_⟩) hHeld ?_
  case refine_2 => (intro w hSw; (try dsimp only at hSw); go_simp <;> with_reducible rfl)
  try simp only [Act.put, List.setIfInBounds_toArray, List.set_cons_zero, List.set_cons_succ]
  refine wpAnyH_take (i := 6) (oi := { dst := some 100, op := Go.Op.call { callee := Go.Callee.builtin Go.Builtin.max, args := #[Go.Operand.tmp 99, Go.Operand.const (Go.Value.int Go.IntKind.i64 0)], argTypes := #[3, 3] }, type := 3, pos := "law.go:108", after := #[{ on := 5, ground := Go.Ground.data }, { on := 2, ground := Go.Ground.guard }], guard := some (2, true) }) (v := ?_) rfl (by kernel_rfl) (by kernel_rfl) (by kernel_rfl) (fun _ _ _ h => h) (Or.inl ⟨by rfl, ?_⟩) hHeld ?_
  case refine_2 => (intro w hSw; (try dsimp only at hSw); go_simp <;> with_reducible rfl)
  try simp only [Act.put, List.setIfInBounds_toArray, List.set_cons_zero, List.set_cons_succ]
  refine wpAnyH_ready (rs := [7]) (by kernel_rfl) (by simp) ?_
  refine AllReadyH.cons (o := { dst := some 101, op := Go.Op.call { callee := Go.Callee.value (Go.Operand.func 7), args := #[Go.Operand.tmp 98, Go.Operand.tmp 100], argTypes := #[25, 3] }, type := 28, pos := "law.go:108", after := #[{ on := 4, ground := Go.Ground.data }, { on := 6, ground := Go.Ground.data }, { on := 2, ground := Go.Ground.chain }, { on := 2, ground := Go.Ground.guard }], guard := some (2, true) }) rfl (fun KK hK => ?_) AllReadyH.nil
  go_simp
  with_reducible refine (of_as ⟨false, W, []⟩ (0) _ (by show W.length ≤ 900000; omega) (by show ([] : List UInt8).length ≤ 900000; simp) ⟨I, F, K⟩ HO.out).mono ?_
  rintro x wA ⟨rfl, hb⟩
  go_wp2_with fail
  refine hK.out _ _ (KEEP1.out _ _ hHeld hb) (fun hHeld2 => ?_)
  clear hK hHeld hb
  have hHeld := hHeld2
  clear hHeld2
  try simp only [Act.put, List.setIfInBounds_toArray, List.set_cons_zero, List.set_cons_succ]
  refine wpAnyH_take (i := 8) (oi := { dst := some 102, op := Go.Op.binOp Go.BinOp.eql 28 (Go.Operand.tmp 97) (Go.Operand.tmp 101) 28, type := 4, pos := "law.go:108", after := #[{ on := 3, ground := Go.Ground.data }, { on := 7, ground := Go.Ground.data }, { on := 2, ground := Go.Ground.guard }], guard := some (2, true) }) (v := ?_) rfl (by kernel_rfl) (by kernel_rfl) (by kernel_rfl) (fun _ _ _ h => h) (Or.inl ⟨by rfl, ?_⟩) hHeld ?_
  case refine_2 => (intro w hSw; (try dsimp only at hSw); go_simp <;> with_reducible rfl)
  try simp only [Act.put, List.setIfInBounds_toArray, List.set_cons_zero, List.set_cons_succ]
  refine wpAnyH_take (i := 9) (oi := { dst := some 103, op := Go.Op.pick (Go.Operand.tmp 96) (Go.Operand.tmp 102) (Go.Operand.const (Go.Value.bool false)), type := 4, pos := "law.go:108", after := #[{ on := 2, ground := Go.Ground.data }, { on := 8, ground := Go.Ground.data }], guard := none }) (v := ?_) rfl (by kernel_rfl) (by kernel_rfl) (by kernel_rfl) (fun _ _ _ h => h) (Or.inl ⟨by rfl, ?_⟩) hHeld ?_
  case refine_2 => (intro w hSw; (try dsimp only at hSw); go_simp <;> with_reducible rfl)
  try simp only [Act.put, List.setIfInBounds_toArray, List.set_cons_zero, List.set_cons_succ]
  refine wpAnyH_take (i := 10) (oi := { dst := some 10, op := Go.Op.assign (Go.Operand.tmp 103), type := 4, pos := "law.go:108", after := #[{ on := 9, ground := Go.Ground.data }, { on := 7, ground := Go.Ground.chain }, { on := 0, ground := Go.Ground.phase }, { on := 1, ground := Go.Ground.phase }, { on := 2, ground := Go.Ground.phase }, { on := 3, ground := Go.Ground.phase }, { on := 4, ground := Go.Ground.phase }, { on := 5, ground := Go.Ground.phase }, { on := 6, ground := Go.Ground.phase }, { on := 7, ground := Go.Ground.phase }, { on := 8, ground := Go.Ground.phase }, { on := 9, ground := Go.Ground.phase }], guard := none }) (v := ?_) rfl (by kernel_rfl) (by kernel_rfl) (by kernel_rfl) (fun _ _ _ h => h) (Or.inl ⟨by rfl, ?_⟩) hHeld ?_
  case refine_2 => (intro w hSw; (try dsimp only at hSw); go_simp <;> with_reducible rfl)
  try simp only [Act.put, List.setIfInBounds_toArray, List.set_cons_zero, List.set_cons_succ]
  refine wpAnyH_done (by kernel_rfl) ?_ _
  clear bv0 bv1 bv2 bvl
  have H5 : Hid (HeldL w [(w4.heap.size, #[S I, S F, .int .i64 K]), (w2.heap.size, #[.bool false, S W, .string ⟨#[]⟩])] wA) := Lib.hid (hHeld.2.2.2.2.2.2)
  clear hHeld ALL1 KEEP1 HS1 H4
  go_wp2
  go_ret
  exact ⟨rfl, H5.out.bel⟩

end Go.Proofs.YtjobccgpejbchaaDoor

namespace Go.Proofs.YtjobccgpejbchaaDoor
open Go.RowKit Florin
set_option linter.unusedVariables false
set_option linter.unusedSimpArgs false
attribute [local go_sem ↓] Go.wp_at_zero Go.wp_at_succ eq_OL

private theorem dz0_b : dig (Int.toNat 0) = [] := dig_zero
private theorem ofE_b (w : World) (n : Int) (h1 : n ≤ 9223372036854775807) (ht : Tab w) (q : List UInt8) (hq : dig n.toNat = q) :
    Calls Tryd.prog 17 #[.int .i64 n] w fun e w' => e = .returned (S q) ∧ Below w.heap.size w w' := by
  subst hq; exact of_any n w h1 ht
set_option maxRecDepth 100000 in
set_option maxHeartbeats 3200000 in
theorem reads_qe0_len (a : Option Addr) (len cap : Nat) (L : List UInt8) (a1 : Option Addr) (len1 cap1 : Nat) (L1 : List UInt8) (e : Int) (w : World) (hin : InB w a len cap L) (hin1 : InB w a1 len1 cap1 L1) (W : List UInt8) (hW : dgs L = W) (wl : W.length ≤ 1100) (w0 : W ≠ []) (h1 : len ≤ 1100) (h10 : ¬ len = 0) (h2 : len1 ≤ 1100) (h3 : e ≤ 11000) (h4 : e = 0) (T2 T3 : List UInt8) (hT2 : W ++ [101] = T2) (hT3 : T2 ++ [48] = T3) (h5 : 1000 < W.length) (hr : readO T3 = ⟨[], [], 0⟩) (he : errO T3 = 2) (ht : Tab w) :
    Calls Tryd.prog 4 #[.slice a len cap, .slice a1 len1 cap1, .bool false, .int .i64 e, .bool true] w fun x w' => x = .returned (.bool true) ∧ Below w.heap.size w w' := by
  have T2l : T2.length = W.length + 1 := by rw [← hT2]; simp
  have T3l : T3.length = W.length + 1 + 1 := by rw [← hT3, List.length_append, T2l]; rfl
  have SA2 : (⟨W.toArray⟩ : ByteArray) ++ (⟨#[101]⟩ : ByteArray) = ⟨T2.toArray⟩ := by rw [← hT2]; exact arr_append W [101]
  have SA3 : (⟨T2.toArray⟩ : ByteArray) ++ (⟨#[48]⟩ : ByteArray) = ⟨T3.toArray⟩ := by rw [← hT3]; exact arr_append T2 [48]
  have cc2 : ¬ 9223372036854775807 < W.length + 1 := by omega
  have cc3 : ¬ 9223372036854775807 < T2.length + 1 := by omega
  have T3x : T3.length ≤ 3000 := by omega
  clear hT2 hT3 T3l
  have h5i : (1000 : Int) < (W.length : Int) := by omega
  have bb1 : decide ((1100 : Int) < (len : Int)) = false := decide_eq_false (by omega)
  have bb2 : decide ((1100 : Int) < (len1 : Int)) = false := decide_eq_false (by omega)
  have bb3 : ((len : Int) == 0) = false := by simp; omega
  have bb6 : decide ((1000 : Int) < (W.length : Int)) = true := decide_eq_true (by omega)
  have HIN := Lib.hid hin
  have HIN1 := Lib.hid hin1
  have HW := Lib.hid hW
  have HR := Lib.hid hr
  have HE := Lib.hid he
  have HT := Lib.hid ht
  clear hin hin1 hW hr he ht
  subst h4
  go_enter Tryd.func4, Tryd.ntmps4
  go_wp2_with fail
  with_reducible refine (head5 _).mono ?_
  rintro x w1 ⟨rfl, hb⟩
  have H1 : Hid (HeldL w [] w1) := Lib.hid (HeldL.keep (HeldL.refl w) hb)
  clear hb
  go_wp2_with fail
  with_reducible refine (digits_is a len cap L _ (HIN.out.below H1.out.bel) (by omega) W HW.out).mono ?_
  rintro x w2 ⟨rfl, hb⟩
  have H2 : Hid (HeldL w [] w2) := Lib.hid (HeldL.keep H1.out hb)
  clear H1
  clear hb
  go_wp2_with fail
  with_reducible refine (ofE_b _ 0 (by omega) (HT.out.below (HeldL.alloc H2.out (w2.heap.size) #[.bool false, S W, .string ⟨#[]⟩] 25 (by simp)).bel) [] dz0_b).mono ?_
  rintro x w3 ⟨rfl, hb⟩
  have H3 : Hid (HeldL w [(w2.heap.size, #[.bool false, S W, .string ⟨#[]⟩])] w3) := Lib.hid (HeldL.keep (HeldL.alloc H2.out (w2.heap.size) #[.bool false, S W, .string ⟨#[]⟩] 25 (by simp)) hb)
  clear H2
  clear hb
  go_wp2_with fail
  with_reducible refine (read_as ⟨T3.toArray⟩ _ (by rw [arr_size]; omega) ⟨[], [], 0⟩ 2 (by rw [arr_list]; exact HR.out) (by rw [arr_list]; exact HE.out)).mono ?_
  rintro x w4 ⟨rfl, hb⟩
  have H4 : Hid (HeldL w [(w2.heap.size, #[.bool false, S W, .string ⟨#[]⟩])] w4) := Lib.hid (HeldL.keep H3.out hb)
  clear H3
  clear hb
  have bv0 : w4.cell? ⟨w2.heap.size, 0, none⟩ = some (.bool false) := (H4.out.f (List.Mem.head _)).cell 0
  have bv1 : w4.cell? ⟨w2.heap.size, 1, none⟩ = some (S W) := (H4.out.f (List.Mem.head _)).cell 1
  have bv2 : w4.cell? ⟨w2.heap.size, 2, none⟩ = some (.string ⟨#[]⟩) := (H4.out.f (List.Mem.head _)).cell 2
  have bvl : w2.heap.size < w4.heap.size := (H4.out.f (List.Mem.head _)).lt
  go_wp2
  go_ret
  exact ⟨rfl, (HeldL.alloc H4.out (w4.heap.size) #[.string ⟨#[]⟩, .string ⟨#[]⟩, .int .i64 0] 28 (by simp)).bel⟩

set_option maxRecDepth 100000 in
set_option maxHeartbeats 3200000 in
theorem reads_qe0_ok (a : Option Addr) (len cap : Nat) (L : List UInt8) (a1 : Option Addr) (len1 cap1 : Nat) (L1 : List UInt8) (e : Int) (w : World) (hin : InB w a len cap L) (hin1 : InB w a1 len1 cap1 L1) (W : List UInt8) (hW : dgs L = W) (wl : W.length ≤ 1100) (w0 : W ≠ []) (h1 : len ≤ 1100) (h10 : ¬ len = 0) (h2 : len1 ≤ 1100) (h3 : e ≤ 11000) (h4 : e = 0) (T2 T3 : List UInt8) (hT2 : W ++ [101] = T2) (hT3 : T2 ++ [48] = T3) (h5 : ¬ 1000 < W.length) (h6 : e ≤ 10000) (I F : List UInt8) (K : Int) (hr : readO T3 = ⟨I, F, K⟩) (he : errO T3 = 0) (ho : ofP ⟨false, W, []⟩ (0) = ⟨I, F, K⟩) (ht : Tab w) :
    Calls Tryd.prog 4 #[.slice a len cap, .slice a1 len1 cap1, .bool false, .int .i64 e, .bool true] w fun x w' => x = .returned (.bool true) ∧ Below w.heap.size w w' := by
  have T2l : T2.length = W.length + 1 := by rw [← hT2]; simp
  have T3l : T3.length = W.length + 1 + 1 := by rw [← hT3, List.length_append, T2l]; rfl
  have SA2 : (⟨W.toArray⟩ : ByteArray) ++ (⟨#[101]⟩ : ByteArray) = ⟨T2.toArray⟩ := by rw [← hT2]; exact arr_append W [101]
  have SA3 : (⟨T2.toArray⟩ : ByteArray) ++ (⟨#[48]⟩ : ByteArray) = ⟨T3.toArray⟩ := by rw [← hT3]; exact arr_append T2 [48]
  have cc2 : ¬ 9223372036854775807 < W.length + 1 := by omega
  have cc3 : ¬ 9223372036854775807 < T2.length + 1 := by omega
  have T3x : T3.length ≤ 3000 := by omega
  clear hT2 hT3 T3l
  have h5i : ¬ (1000 : Int) < (W.length : Int) := by omega
  have bb1 : decide ((1100 : Int) < (len : Int)) = false := decide_eq_false (by omega)
  have bb2 : decide ((1100 : Int) < (len1 : Int)) = false := decide_eq_false (by omega)
  have bb3 : ((len : Int) == 0) = false := by simp; omega
  have bb6 : decide ((1000 : Int) < (W.length : Int)) = false := decide_eq_false (by omega)
  have HIN := Lib.hid hin
  have HIN1 := Lib.hid hin1
  have HW := Lib.hid hW
  have HR := Lib.hid hr
  have HE := Lib.hid he
  have HT := Lib.hid ht
  have HO := Lib.hid ho
  clear hin hin1 hW hr he ht ho
  subst h4
  go_enter Tryd.func4, Tryd.ntmps4
  go_wp2_with fail
  with_reducible refine (head5 _).mono ?_
  rintro x w1 ⟨rfl, hb⟩
  have H1 : Hid (HeldL w [] w1) := Lib.hid (HeldL.keep (HeldL.refl w) hb)
  clear hb
  go_wp2_with fail
  with_reducible refine (digits_is a len cap L _ (HIN.out.below H1.out.bel) (by omega) W HW.out).mono ?_
  rintro x w2 ⟨rfl, hb⟩
  have H2 : Hid (HeldL w [] w2) := Lib.hid (HeldL.keep H1.out hb)
  clear H1
  clear hb
  go_wp2_with fail
  with_reducible refine (ofE_b _ 0 (by omega) (HT.out.below (HeldL.alloc H2.out (w2.heap.size) #[.bool false, S W, .string ⟨#[]⟩] 25 (by simp)).bel) [] dz0_b).mono ?_
  rintro x w3 ⟨rfl, hb⟩
  have H3 : Hid (HeldL w [(w2.heap.size, #[.bool false, S W, .string ⟨#[]⟩])] w3) := Lib.hid (HeldL.keep (HeldL.alloc H2.out (w2.heap.size) #[.bool false, S W, .string ⟨#[]⟩] 25 (by simp)) hb)
  clear H2
  clear hb
  go_wp2_with fail
  with_reducible refine (read_as ⟨T3.toArray⟩ _ (by rw [arr_size]; omega) ⟨I, F, K⟩ 0 (by rw [arr_list]; exact HR.out) (by rw [arr_list]; exact HE.out)).mono ?_
  rintro x w4 ⟨rfl, hb⟩
  have H4 : Hid (HeldL w [(w2.heap.size, #[.bool false, S W, .string ⟨#[]⟩])] w4) := Lib.hid (HeldL.keep H3.out hb)
  clear H3
  clear hb
  have bv0 : w4.cell? ⟨w2.heap.size, 0, none⟩ = some (.bool false) := (H4.out.f (List.Mem.head _)).cell 0
  have bv1 : w4.cell? ⟨w2.heap.size, 1, none⟩ = some (S W) := (H4.out.f (List.Mem.head _)).cell 1
  have bv2 : w4.cell? ⟨w2.heap.size, 2, none⟩ = some (.string ⟨#[]⟩) := (H4.out.f (List.Mem.head _)).cell 2
  have bvl : w2.heap.size < w4.heap.size := (H4.out.f (List.Mem.head _)).lt
  go_wp2_with fail
  have ALL1 : Hid (∀ w' : World, HeldL w [(w4.heap.size, #[S I, S F, .int .i64 K]), (w2.heap.size, #[.bool false, S W, .string ⟨#[]⟩])] w' → w'.cell? ⟨w2.heap.size, 0, none⟩ = some (.bool false) ∧ w'.cell? ⟨w2.heap.size, 1, none⟩ = some (S W) ∧ w'.cell? ⟨w2.heap.size, 2, none⟩ = some (.string ⟨#[]⟩) ∧ w'.cell? ⟨w4.heap.size, 0, none⟩ = some (S I) ∧ w'.cell? ⟨w4.heap.size, 1, none⟩ = some (S F) ∧ w'.cell? ⟨w4.heap.size, 2, none⟩ = some (.int .i64 K) ∧ HeldL w [(w4.heap.size, #[S I, S F, .int .i64 K]), (w2.heap.size, #[.bool false, S W, .string ⟨#[]⟩])] w') := Lib.hid (fun w' h => ⟨(h.f (List.Mem.tail _ (List.Mem.head _))).cell 0, (h.f (List.Mem.tail _ (List.Mem.head _))).cell 1, (h.f (List.Mem.tail _ (List.Mem.head _))).cell 2, (h.f (List.Mem.head _)).cell 0, (h.f (List.Mem.head _)).cell 1, (h.f (List.Mem.head _)).cell 2, h⟩)
  have KEEP1 : Hid (∀ w' w'' : World, (w'.cell? ⟨w2.heap.size, 0, none⟩ = some (.bool false) ∧ w'.cell? ⟨w2.heap.size, 1, none⟩ = some (S W) ∧ w'.cell? ⟨w2.heap.size, 2, none⟩ = some (.string ⟨#[]⟩) ∧ w'.cell? ⟨w4.heap.size, 0, none⟩ = some (S I) ∧ w'.cell? ⟨w4.heap.size, 1, none⟩ = some (S F) ∧ w'.cell? ⟨w4.heap.size, 2, none⟩ = some (.int .i64 K) ∧ HeldL w [(w4.heap.size, #[S I, S F, .int .i64 K]), (w2.heap.size, #[.bool false, S W, .string ⟨#[]⟩])] w') → Below w'.heap.size w' w'' → (w''.cell? ⟨w2.heap.size, 0, none⟩ = some (.bool false) ∧ w''.cell? ⟨w2.heap.size, 1, none⟩ = some (S W) ∧ w''.cell? ⟨w2.heap.size, 2, none⟩ = some (.string ⟨#[]⟩) ∧ w''.cell? ⟨w4.heap.size, 0, none⟩ = some (S I) ∧ w''.cell? ⟨w4.heap.size, 1, none⟩ = some (S F) ∧ w''.cell? ⟨w4.heap.size, 2, none⟩ = some (.int .i64 K) ∧ HeldL w [(w4.heap.size, #[S I, S F, .int .i64 K]), (w2.heap.size, #[.bool false, S W, .string ⟨#[]⟩])] w'')) := Lib.hid (fun w' w'' h hb => ALL1.out _ (HeldL.keep (h.2.2.2.2.2.2) hb))
  have HS1 : Hid (HeldL w [(w4.heap.size, #[S I, S F, .int .i64 K]), (w2.heap.size, #[.bool false, S W, .string ⟨#[]⟩])] _) := Lib.hid (HeldL.alloc H4.out (w4.heap.size) #[S I, S F, .int .i64 K] 28 (by simp))
  refine wp_region_held_drew (S := fun w' => w'.cell? ⟨w2.heap.size, 0, none⟩ = some (.bool false) ∧ w'.cell? ⟨w2.heap.size, 1, none⟩ = some (S W) ∧ w'.cell? ⟨w2.heap.size, 2, none⟩ = some (.string ⟨#[]⟩) ∧ w'.cell? ⟨w4.heap.size, 0, none⟩ = some (S I) ∧ w'.cell? ⟨w4.heap.size, 1, none⟩ = some (S F) ∧ w'.cell? ⟨w4.heap.size, 2, none⟩ = some (.int .i64 K) ∧ HeldL w [(w4.heap.size, #[S I, S F, .int .i64 K]), (w2.heap.size, #[.bool false, S W, .string ⟨#[]⟩])] w') (by kernel_rfl) (ALL1.out _ (HeldL.drew HS1.out)) (fun hHeld => ?_)
  refine wpAnyH_take (i := 0) (oi := { dst := some 94, op := Go.Op.move (Go.Operand.tmp 16), type := 37, pos := "law.go:108", after := #[], guard := none }) (v := ?_) rfl (by kernel_rfl) (by kernel_rfl) (by kernel_rfl) (fun _ _ _ h => h) (Or.inl ⟨by rfl, ?_⟩) hHeld ?_
  case refine_2 => (intro w hSw; (try dsimp only at hSw); go_simp <;> with_reducible rfl)
  try simp only [Act.put, List.setIfInBounds_toArray, List.set_cons_zero, List.set_cons_succ]
  refine wpAnyH_take (i := 1) (oi := { dst := some 95, op := Go.Op.binOp Go.BinOp.eql 37 (Go.Operand.tmp 94) (Go.Operand.const (Go.Value.int Go.IntKind.i64 0)) 37, type := 4, pos := "law.go:108", after := #[{ on := 0, ground := Go.Ground.data }], guard := none }) (v := ?_) rfl (by kernel_rfl) (by kernel_rfl) (by kernel_rfl) (fun _ _ _ h => h) (Or.inl ⟨by rfl, ?_⟩) hHeld ?_
  case refine_2 => (intro w hSw; (try dsimp only at hSw); go_simp <;> with_reducible rfl)
  try simp only [Act.put, List.setIfInBounds_toArray, List.set_cons_zero, List.set_cons_succ]
  refine wpAnyH_take (i := 2) (oi := { dst := some 96, op := Go.Op.move (Go.Operand.tmp 95), type := 4, pos := "law.go:108", after := #[{ on := 1, ground := Go.Ground.data }], guard := none }) (v := ?_) rfl (by kernel_rfl) (by kernel_rfl) (by kernel_rfl) (fun _ _ _ h => h) (Or.inl ⟨by rfl, ?_⟩) hHeld ?_
  case refine_2 => (intro w hSw; (try dsimp only at hSw); go_simp <;> with_reducible rfl)
  try simp only [Act.put, List.setIfInBounds_toArray, List.set_cons_zero, List.set_cons_succ]
  refine wpAnyH_take (i := 3) (oi := { dst := some 97, op := Go.Op.load 28 (Go.Operand.tmp 15), type := 28, pos := "law.go:108", after := #[{ on := 2, ground := Go.Ground.guard }], guard := some (2, true) }) (v := ?_) rfl (by kernel_rfl) (by kernel_rfl) (by kernel_rfl) (fun _ _ _ h => h) (Or.inl ⟨by rfl, ?_⟩) hHeld ?_
  case refine_2 => (intro w hSw; (try dsimp only at hSw); go_simp <;> with_reducible rfl)
  try simp only [Act.put, List.setIfInBounds_toArray, List.set_cons_zero, List.set_cons_succ]
  refine wpAnyH_take (i := 4) (oi := { dst := some 98, op := Go.Op.load 25 (Go.Operand.tmp 11), type := 25, pos := "law.go:108", after := #[{ on := 2, ground := Go.Ground.guard }], guard := some (2, true) }) (v := ?_) rfl (by kernel_rfl) (by kernel_rfl) (by kernel_rfl) (fun _ _ _ h => h) (Or.inl ⟨by rfl, ?_⟩) hHeld ?_
  case refine_2 => (intro w hSw; (try dsimp only at hSw); go_simp <;> with_reducible rfl)
  try simp only [Act.put, List.setIfInBounds_toArray, List.set_cons_zero, List.set_cons_succ]
  refine wpAnyH_take (i := 5) (oi := { dst := some 99, op := Go.Op.move (Go.Operand.tmp 3), type := 3, pos := "law.go:108", after := #[{ on := 2, ground := Go.Ground.guard }], guard := some (2, true) }) (v := ?_) rfl (by kernel_rfl) (by kernel_rfl) (by kernel_rfl) (fun _ _ _ h => h) (Or.inl ⟨by rfl, ?_⟩) hHeld ?_
  case refine_2 => (intro w hSw; (try dsimp only at hSw); go_simp <;> with_reducible rfl)
  try simp only [Act.put, List.setIfInBounds_toArray, List.set_cons_zero, List.set_cons_succ]
  refine wpAnyH_take (i := 6) (oi := { dst := some 100, op := Go.Op.call { callee := Go.Callee.builtin Go.Builtin.max, args := #[Go.Operand.tmp 99, Go.Operand.const (Go.Value.int Go.IntKind.i64 0)], argTypes := #[3, 3] }, type := 3, pos := "law.go:108", after := #[{ on := 5, ground := Go.Ground.data }, { on := 2, ground := Go.Ground.guard }], guard := some (2, true) }) (v := ?_) rfl (by kernel_rfl) (by kernel_rfl) (by kernel_rfl) (fun _ _ _ h => h) (Or.inl ⟨by rfl, ?_⟩) hHeld ?_
  case refine_2 => (intro w hSw; (try dsimp only at hSw); go_simp <;> with_reducible rfl)
  try simp only [Act.put, List.setIfInBounds_toArray, List.set_cons_zero, List.set_cons_succ]
  refine wpAnyH_ready (rs := [7]) (by kernel_rfl) (by simp) ?_
  refine AllReadyH.cons (o := { dst := some 101, op := Go.Op.call { callee := Go.Callee.value (Go.Operand.func 7), args := #[Go.Operand.tmp 98, Go.Operand.tmp 100], argTypes := #[25, 3] }, type := 28, pos := "law.go:108", after := #[{ on := 4, ground := Go.Ground.data }, { on := 6, ground := Go.Ground.data }, { on := 2, ground := Go.Ground.chain }, { on := 2, ground := Go.Ground.guard }], guard := some (2, true) }) rfl (fun KK hK => ?_) AllReadyH.nil
  go_simp
  with_reducible refine (of_as ⟨false, W, []⟩ (0) _ (by show W.length ≤ 900000; omega) (by show ([] : List UInt8).length ≤ 900000; simp) ⟨I, F, K⟩ HO.out).mono ?_
  rintro x wA ⟨rfl, hb⟩
  go_wp2_with fail
  refine hK.out _ _ (KEEP1.out _ _ hHeld hb) (fun hHeld2 => ?_)
  clear hK hHeld hb
  have hHeld := hHeld2
  clear hHeld2
  try simp only [Act.put, List.setIfInBounds_toArray, List.set_cons_zero, List.set_cons_succ]
  refine wpAnyH_take (i := 8) (oi := { dst := some 102, op := Go.Op.binOp Go.BinOp.eql 28 (Go.Operand.tmp 97) (Go.Operand.tmp 101) 28, type := 4, pos := "law.go:108", after := #[{ on := 3, ground := Go.Ground.data }, { on := 7, ground := Go.Ground.data }, { on := 2, ground := Go.Ground.guard }], guard := some (2, true) }) (v := ?_) rfl (by kernel_rfl) (by kernel_rfl) (by kernel_rfl) (fun _ _ _ h => h) (Or.inl ⟨by rfl, ?_⟩) hHeld ?_
  case refine_2 => (intro w hSw; (try dsimp only at hSw); go_simp <;> with_reducible rfl)
  try simp only [Act.put, List.setIfInBounds_toArray, List.set_cons_zero, List.set_cons_succ]
  refine wpAnyH_take (i := 9) (oi := { dst := some 103, op := Go.Op.pick (Go.Operand.tmp 96) (Go.Operand.tmp 102) (Go.Operand.const (Go.Value.bool false)), type := 4, pos := "law.go:108", after := #[{ on := 2, ground := Go.Ground.data }, { on := 8, ground := Go.Ground.data }], guard := none }) (v := ?_) rfl (by kernel_rfl) (by kernel_rfl) (by kernel_rfl) (fun _ _ _ h => h) (Or.inl ⟨by rfl, ?_⟩) hHeld ?_
  case refine_2 => (intro w hSw; (try dsimp only at hSw); go_simp <;> with_reducible rfl)
  try simp only [Act.put, List.setIfInBounds_toArray, List.set_cons_zero, List.set_cons_succ]
  refine wpAnyH_take (i := 10) (oi := { dst := some 10, op := Go.Op.assign (Go.Operand.tmp 103), type := 4, pos := "law.go:108", after := #[{ on := 9, ground := Go.Ground.data }, { on := 7, ground := Go.Ground.chain }, { on := 0, ground := Go.Ground.phase }, { on := 1, ground := Go.Ground.phase }, { on := 2, ground := Go.Ground.phase }, { on := 3, ground := Go.Ground.phase }, { on := 4, ground := Go.Ground.phase }, { on := 5, ground := Go.Ground.phase }, { on := 6, ground := Go.Ground.phase }, { on := 7, ground := Go.Ground.phase }, { on := 8, ground := Go.Ground.phase }, { on := 9, ground := Go.Ground.phase }], guard := none }) (v := ?_) rfl (by kernel_rfl) (by kernel_rfl) (by kernel_rfl) (fun _ _ _ h => h) (Or.inl ⟨by rfl, ?_⟩) hHeld ?_
  case refine_2 => (intro w hSw; (try dsimp only at hSw); go_simp <;> with_reducible rfl)
  try simp only [Act.put, List.setIfInBounds_toArray, List.set_cons_zero, List.set_cons_succ]
  refine wpAnyH_done (by kernel_rfl) ?_ _
  clear bv0 bv1 bv2 bvl
  have H5 : Hid (HeldL w [(w4.heap.size, #[S I, S F, .int .i64 K]), (w2.heap.size, #[.bool false, S W, .string ⟨#[]⟩])] wA) := Lib.hid (hHeld.2.2.2.2.2.2)
  clear hHeld ALL1 KEEP1 HS1 H4
  go_wp2
  go_ret
  exact ⟨rfl, H5.out.bel⟩

set_option maxRecDepth 100000 in
set_option maxHeartbeats 3200000 in
theorem reads_qc1_len (a : Option Addr) (len cap : Nat) (L : List UInt8) (a1 : Option Addr) (len1 cap1 : Nat) (L1 : List UInt8) (e : Int) (w : World) (hin : InB w a len cap L) (hin1 : InB w a1 len1 cap1 L1) (W : List UInt8) (hW : dgs L = W) (wl : W.length ≤ 1100) (w0 : W ≠ []) (h1 : len ≤ 1100) (h10 : ¬ len = 0) (h2 : len1 ≤ 1100) (h3 : e ≤ 11000) (h4 : 0 < e) (Q : List UInt8) (hQ : dig e.toNat = Q) (ql : Q.length ≤ 30) (q0 : Q ≠ []) (T2 T3 : List UInt8) (hT2 : W ++ [99] = T2) (hT3 : T2 ++ Q = T3) (h5 : 1000 < W.length) (hr : readO T3 = ⟨[], [], 0⟩) (he : errO T3 = 2) (ht : Tab w) :
    Calls Tryd.prog 4 #[.slice a len cap, .slice a1 len1 cap1, .bool false, .int .i64 e, .bool false] w fun x w' => x = .returned (.bool true) ∧ Below w.heap.size w w' := by
  have qe := empty_of (ne_empty q0)
  have qe2 := ne_empty q0
  have T2l : T2.length = W.length + 1 := by rw [← hT2]; simp
  have T3l : T3.length = W.length + 1 + Q.length := by rw [← hT3, List.length_append, T2l]
  have SA2 : (⟨W.toArray⟩ : ByteArray) ++ (⟨#[99]⟩ : ByteArray) = ⟨T2.toArray⟩ := by rw [← hT2]; exact arr_append W [99]
  have SA3 : (⟨T2.toArray⟩ : ByteArray) ++ (⟨Q.toArray⟩ : ByteArray) = ⟨T3.toArray⟩ := by rw [← hT3]; exact arr_append T2 Q
  have cc2 : ¬ 9223372036854775807 < W.length + 1 := by omega
  have cc3 : ¬ 9223372036854775807 < T2.length + Q.length := by omega
  have T3x : T3.length ≤ 3000 := by omega
  clear hT2 hT3 T3l
  have h5i : (1000 : Int) < (W.length : Int) := by omega
  have bb1 : decide ((1100 : Int) < (len : Int)) = false := decide_eq_false (by omega)
  have bb2 : decide ((1100 : Int) < (len1 : Int)) = false := decide_eq_false (by omega)
  have bb3 : ((len : Int) == 0) = false := by simp; omega
  have bb5 : decide ((11000 : Int) < e) = false := decide_eq_false (by omega)
  have bb6 : decide ((1000 : Int) < (W.length : Int)) = true := decide_eq_true (by omega)
  have HIN := Lib.hid hin
  have HIN1 := Lib.hid hin1
  have HW := Lib.hid hW
  have HR := Lib.hid hr
  have HE := Lib.hid he
  have HT := Lib.hid ht
  have HQ := Lib.hid hQ
  clear hin hin1 hW hr he ht hQ
  have h4g : (0 : Int) ≤ e := by omega
  go_enter Tryd.func4, Tryd.ntmps4
  go_wp2_with fail
  with_reducible refine (head5 _).mono ?_
  rintro x w1 ⟨rfl, hb⟩
  have H1 : Hid (HeldL w [] w1) := Lib.hid (HeldL.keep (HeldL.refl w) hb)
  clear hb
  go_wp2_with fail
  with_reducible refine (digits_is a len cap L _ (HIN.out.below H1.out.bel) (by omega) W HW.out).mono ?_
  rintro x w2 ⟨rfl, hb⟩
  have H2 : Hid (HeldL w [] w2) := Lib.hid (HeldL.keep H1.out hb)
  clear H1
  clear hb
  go_wp2_with fail
  with_reducible refine (ofE_b _ e (by omega) (HT.out.below (HeldL.alloc H2.out (w2.heap.size) #[.bool false, S W, .string ⟨#[]⟩] 25 (by simp)).bel) Q HQ.out).mono ?_
  rintro x w3 ⟨rfl, hb⟩
  have H3 : Hid (HeldL w [(w2.heap.size, #[.bool false, S W, .string ⟨#[]⟩])] w3) := Lib.hid (HeldL.keep (HeldL.alloc H2.out (w2.heap.size) #[.bool false, S W, .string ⟨#[]⟩] 25 (by simp)) hb)
  clear H2
  clear hb
  go_wp2_with fail
  with_reducible refine (read_as ⟨T3.toArray⟩ _ (by rw [arr_size]; omega) ⟨[], [], 0⟩ 2 (by rw [arr_list]; exact HR.out) (by rw [arr_list]; exact HE.out)).mono ?_
  rintro x w4 ⟨rfl, hb⟩
  have H4 : Hid (HeldL w [(w2.heap.size, #[.bool false, S W, .string ⟨#[]⟩])] w4) := Lib.hid (HeldL.keep H3.out hb)
  clear H3
  clear hb
  have bv0 : w4.cell? ⟨w2.heap.size, 0, none⟩ = some (.bool false) := (H4.out.f (List.Mem.head _)).cell 0
  have bv1 : w4.cell? ⟨w2.heap.size, 1, none⟩ = some (S W) := (H4.out.f (List.Mem.head _)).cell 1
  have bv2 : w4.cell? ⟨w2.heap.size, 2, none⟩ = some (.string ⟨#[]⟩) := (H4.out.f (List.Mem.head _)).cell 2
  have bvl : w2.heap.size < w4.heap.size := (H4.out.f (List.Mem.head _)).lt
  go_wp2
  go_ret
  exact ⟨rfl, (HeldL.alloc H4.out (w4.heap.size) #[.string ⟨#[]⟩, .string ⟨#[]⟩, .int .i64 0] 28 (by simp)).bel⟩

set_option maxRecDepth 100000 in
set_option maxHeartbeats 3200000 in
theorem reads_qc1_pow (a : Option Addr) (len cap : Nat) (L : List UInt8) (a1 : Option Addr) (len1 cap1 : Nat) (L1 : List UInt8) (e : Int) (w : World) (hin : InB w a len cap L) (hin1 : InB w a1 len1 cap1 L1) (W : List UInt8) (hW : dgs L = W) (wl : W.length ≤ 1100) (w0 : W ≠ []) (h1 : len ≤ 1100) (h10 : ¬ len = 0) (h2 : len1 ≤ 1100) (h3 : e ≤ 11000) (h4 : 0 < e) (Q : List UInt8) (hQ : dig e.toNat = Q) (ql : Q.length ≤ 30) (q0 : Q ≠ []) (T2 T3 : List UInt8) (hT2 : W ++ [99] = T2) (hT3 : T2 ++ Q = T3) (h5 : ¬ 1000 < W.length) (h6 : 10000 < e) (hr : readO T3 = ⟨[], [], 0⟩) (he : errO T3 = 2) (ht : Tab w) :
    Calls Tryd.prog 4 #[.slice a len cap, .slice a1 len1 cap1, .bool false, .int .i64 e, .bool false] w fun x w' => x = .returned (.bool true) ∧ Below w.heap.size w w' := by
  have qe := empty_of (ne_empty q0)
  have qe2 := ne_empty q0
  have T2l : T2.length = W.length + 1 := by rw [← hT2]; simp
  have T3l : T3.length = W.length + 1 + Q.length := by rw [← hT3, List.length_append, T2l]
  have SA2 : (⟨W.toArray⟩ : ByteArray) ++ (⟨#[99]⟩ : ByteArray) = ⟨T2.toArray⟩ := by rw [← hT2]; exact arr_append W [99]
  have SA3 : (⟨T2.toArray⟩ : ByteArray) ++ (⟨Q.toArray⟩ : ByteArray) = ⟨T3.toArray⟩ := by rw [← hT3]; exact arr_append T2 Q
  have cc2 : ¬ 9223372036854775807 < W.length + 1 := by omega
  have cc3 : ¬ 9223372036854775807 < T2.length + Q.length := by omega
  have T3x : T3.length ≤ 3000 := by omega
  clear hT2 hT3 T3l
  have h5i : ¬ (1000 : Int) < (W.length : Int) := by omega
  have bb1 : decide ((1100 : Int) < (len : Int)) = false := decide_eq_false (by omega)
  have bb2 : decide ((1100 : Int) < (len1 : Int)) = false := decide_eq_false (by omega)
  have bb3 : ((len : Int) == 0) = false := by simp; omega
  have bb5 : decide ((11000 : Int) < e) = false := decide_eq_false (by omega)
  have bb7 : decide ((10000 : Int) < e) = true := decide_eq_true (by omega)
  have bb6 : decide ((1000 : Int) < (W.length : Int)) = false := decide_eq_false (by omega)
  have HIN := Lib.hid hin
  have HIN1 := Lib.hid hin1
  have HW := Lib.hid hW
  have HR := Lib.hid hr
  have HE := Lib.hid he
  have HT := Lib.hid ht
  have HQ := Lib.hid hQ
  clear hin hin1 hW hr he ht hQ
  have h4g : (0 : Int) ≤ e := by omega
  go_enter Tryd.func4, Tryd.ntmps4
  go_wp2_with fail
  with_reducible refine (head5 _).mono ?_
  rintro x w1 ⟨rfl, hb⟩
  have H1 : Hid (HeldL w [] w1) := Lib.hid (HeldL.keep (HeldL.refl w) hb)
  clear hb
  go_wp2_with fail
  with_reducible refine (digits_is a len cap L _ (HIN.out.below H1.out.bel) (by omega) W HW.out).mono ?_
  rintro x w2 ⟨rfl, hb⟩
  have H2 : Hid (HeldL w [] w2) := Lib.hid (HeldL.keep H1.out hb)
  clear H1
  clear hb
  go_wp2_with fail
  with_reducible refine (ofE_b _ e (by omega) (HT.out.below (HeldL.alloc H2.out (w2.heap.size) #[.bool false, S W, .string ⟨#[]⟩] 25 (by simp)).bel) Q HQ.out).mono ?_
  rintro x w3 ⟨rfl, hb⟩
  have H3 : Hid (HeldL w [(w2.heap.size, #[.bool false, S W, .string ⟨#[]⟩])] w3) := Lib.hid (HeldL.keep (HeldL.alloc H2.out (w2.heap.size) #[.bool false, S W, .string ⟨#[]⟩] 25 (by simp)) hb)
  clear H2
  clear hb
  go_wp2_with fail
  with_reducible refine (read_as ⟨T3.toArray⟩ _ (by rw [arr_size]; omega) ⟨[], [], 0⟩ 2 (by rw [arr_list]; exact HR.out) (by rw [arr_list]; exact HE.out)).mono ?_
  rintro x w4 ⟨rfl, hb⟩
  have H4 : Hid (HeldL w [(w2.heap.size, #[.bool false, S W, .string ⟨#[]⟩])] w4) := Lib.hid (HeldL.keep H3.out hb)
  clear H3
  clear hb
  have bv0 : w4.cell? ⟨w2.heap.size, 0, none⟩ = some (.bool false) := (H4.out.f (List.Mem.head _)).cell 0
  have bv1 : w4.cell? ⟨w2.heap.size, 1, none⟩ = some (S W) := (H4.out.f (List.Mem.head _)).cell 1
  have bv2 : w4.cell? ⟨w2.heap.size, 2, none⟩ = some (.string ⟨#[]⟩) := (H4.out.f (List.Mem.head _)).cell 2
  have bvl : w2.heap.size < w4.heap.size := (H4.out.f (List.Mem.head _)).lt
  go_wp2
  go_ret
  exact ⟨rfl, (HeldL.alloc H4.out (w4.heap.size) #[.string ⟨#[]⟩, .string ⟨#[]⟩, .int .i64 0] 28 (by simp)).bel⟩

set_option maxRecDepth 100000 in
set_option maxHeartbeats 3200000 in
theorem reads_qc1_ok (a : Option Addr) (len cap : Nat) (L : List UInt8) (a1 : Option Addr) (len1 cap1 : Nat) (L1 : List UInt8) (e : Int) (w : World) (hin : InB w a len cap L) (hin1 : InB w a1 len1 cap1 L1) (W : List UInt8) (hW : dgs L = W) (wl : W.length ≤ 1100) (w0 : W ≠ []) (h1 : len ≤ 1100) (h10 : ¬ len = 0) (h2 : len1 ≤ 1100) (h3 : e ≤ 11000) (h4 : 0 < e) (Q : List UInt8) (hQ : dig e.toNat = Q) (ql : Q.length ≤ 30) (q0 : Q ≠ []) (T2 T3 : List UInt8) (hT2 : W ++ [99] = T2) (hT3 : T2 ++ Q = T3) (h5 : ¬ 1000 < W.length) (h6 : e ≤ 10000) (I F : List UInt8) (K : Int) (hr : readO T3 = ⟨I, F, K⟩) (he : errO T3 = 0) (ho : ofP ⟨false, W, []⟩ (max e 0) = ⟨I, F, K⟩) (ht : Tab w) :
    Calls Tryd.prog 4 #[.slice a len cap, .slice a1 len1 cap1, .bool false, .int .i64 e, .bool false] w fun x w' => x = .returned (.bool true) ∧ Below w.heap.size w w' := by
  have qe := empty_of (ne_empty q0)
  have qe2 := ne_empty q0
  have T2l : T2.length = W.length + 1 := by rw [← hT2]; simp
  have T3l : T3.length = W.length + 1 + Q.length := by rw [← hT3, List.length_append, T2l]
  have SA2 : (⟨W.toArray⟩ : ByteArray) ++ (⟨#[99]⟩ : ByteArray) = ⟨T2.toArray⟩ := by rw [← hT2]; exact arr_append W [99]
  have SA3 : (⟨T2.toArray⟩ : ByteArray) ++ (⟨Q.toArray⟩ : ByteArray) = ⟨T3.toArray⟩ := by rw [← hT3]; exact arr_append T2 Q
  have cc2 : ¬ 9223372036854775807 < W.length + 1 := by omega
  have cc3 : ¬ 9223372036854775807 < T2.length + Q.length := by omega
  have T3x : T3.length ≤ 3000 := by omega
  clear hT2 hT3 T3l
  have h5i : ¬ (1000 : Int) < (W.length : Int) := by omega
  have bb1 : decide ((1100 : Int) < (len : Int)) = false := decide_eq_false (by omega)
  have bb2 : decide ((1100 : Int) < (len1 : Int)) = false := decide_eq_false (by omega)
  have bb3 : ((len : Int) == 0) = false := by simp; omega
  have bb5 : decide ((11000 : Int) < e) = false := decide_eq_false (by omega)
  have bb7 : decide ((10000 : Int) < e) = false := decide_eq_false (by omega)
  have bb6 : decide ((1000 : Int) < (W.length : Int)) = false := decide_eq_false (by omega)
  have HIN := Lib.hid hin
  have HIN1 := Lib.hid hin1
  have HW := Lib.hid hW
  have HR := Lib.hid hr
  have HE := Lib.hid he
  have HT := Lib.hid ht
  have HQ := Lib.hid hQ
  have HO := Lib.hid ho
  clear hin hin1 hW hr he ht hQ ho
  have h4g : (0 : Int) ≤ e := by omega
  go_enter Tryd.func4, Tryd.ntmps4
  go_wp2_with fail
  with_reducible refine (head5 _).mono ?_
  rintro x w1 ⟨rfl, hb⟩
  have H1 : Hid (HeldL w [] w1) := Lib.hid (HeldL.keep (HeldL.refl w) hb)
  clear hb
  go_wp2_with fail
  with_reducible refine (digits_is a len cap L _ (HIN.out.below H1.out.bel) (by omega) W HW.out).mono ?_
  rintro x w2 ⟨rfl, hb⟩
  have H2 : Hid (HeldL w [] w2) := Lib.hid (HeldL.keep H1.out hb)
  clear H1
  clear hb
  go_wp2_with fail
  with_reducible refine (ofE_b _ e (by omega) (HT.out.below (HeldL.alloc H2.out (w2.heap.size) #[.bool false, S W, .string ⟨#[]⟩] 25 (by simp)).bel) Q HQ.out).mono ?_
  rintro x w3 ⟨rfl, hb⟩
  have H3 : Hid (HeldL w [(w2.heap.size, #[.bool false, S W, .string ⟨#[]⟩])] w3) := Lib.hid (HeldL.keep (HeldL.alloc H2.out (w2.heap.size) #[.bool false, S W, .string ⟨#[]⟩] 25 (by simp)) hb)
  clear H2
  clear hb
  go_wp2_with fail
  with_reducible refine (read_as ⟨T3.toArray⟩ _ (by rw [arr_size]; omega) ⟨I, F, K⟩ 0 (by rw [arr_list]; exact HR.out) (by rw [arr_list]; exact HE.out)).mono ?_
  rintro x w4 ⟨rfl, hb⟩
  have H4 : Hid (HeldL w [(w2.heap.size, #[.bool false, S W, .string ⟨#[]⟩])] w4) := Lib.hid (HeldL.keep H3.out hb)
  clear H3
  clear hb
  have bv0 : w4.cell? ⟨w2.heap.size, 0, none⟩ = some (.bool false) := (H4.out.f (List.Mem.head _)).cell 0
  have bv1 : w4.cell? ⟨w2.heap.size, 1, none⟩ = some (S W) := (H4.out.f (List.Mem.head _)).cell 1
  have bv2 : w4.cell? ⟨w2.heap.size, 2, none⟩ = some (.string ⟨#[]⟩) := (H4.out.f (List.Mem.head _)).cell 2
  have bvl : w2.heap.size < w4.heap.size := (H4.out.f (List.Mem.head _)).lt
  go_wp2_with fail
  have ALL1 : Hid (∀ w' : World, HeldL w [(w4.heap.size, #[S I, S F, .int .i64 K]), (w2.heap.size, #[.bool false, S W, .string ⟨#[]⟩])] w' → w'.cell? ⟨w2.heap.size, 0, none⟩ = some (.bool false) ∧ w'.cell? ⟨w2.heap.size, 1, none⟩ = some (S W) ∧ w'.cell? ⟨w2.heap.size, 2, none⟩ = some (.string ⟨#[]⟩) ∧ w'.cell? ⟨w4.heap.size, 0, none⟩ = some (S I) ∧ w'.cell? ⟨w4.heap.size, 1, none⟩ = some (S F) ∧ w'.cell? ⟨w4.heap.size, 2, none⟩ = some (.int .i64 K) ∧ HeldL w [(w4.heap.size, #[S I, S F, .int .i64 K]), (w2.heap.size, #[.bool false, S W, .string ⟨#[]⟩])] w') := Lib.hid (fun w' h => ⟨(h.f (List.Mem.tail _ (List.Mem.head _))).cell 0, (h.f (List.Mem.tail _ (List.Mem.head _))).cell 1, (h.f (List.Mem.tail _ (List.Mem.head _))).cell 2, (h.f (List.Mem.head _)).cell 0, (h.f (List.Mem.head _)).cell 1, (h.f (List.Mem.head _)).cell 2, h⟩)
  have KEEP1 : Hid (∀ w' w'' : World, (w'.cell? ⟨w2.heap.size, 0, none⟩ = some (.bool false) ∧ w'.cell? ⟨w2.heap.size, 1, none⟩ = some (S W) ∧ w'.cell? ⟨w2.heap.size, 2, none⟩ = some (.string ⟨#[]⟩) ∧ w'.cell? ⟨w4.heap.size, 0, none⟩ = some (S I) ∧ w'.cell? ⟨w4.heap.size, 1, none⟩ = some (S F) ∧ w'.cell? ⟨w4.heap.size, 2, none⟩ = some (.int .i64 K) ∧ HeldL w [(w4.heap.size, #[S I, S F, .int .i64 K]), (w2.heap.size, #[.bool false, S W, .string ⟨#[]⟩])] w') → Below w'.heap.size w' w'' → (w''.cell? ⟨w2.heap.size, 0, none⟩ = some (.bool false) ∧ w''.cell? ⟨w2.heap.size, 1, none⟩ = some (S W) ∧ w''.cell? ⟨w2.heap.size, 2, none⟩ = some (.string ⟨#[]⟩) ∧ w''.cell? ⟨w4.heap.size, 0, none⟩ = some (S I) ∧ w''.cell? ⟨w4.heap.size, 1, none⟩ = some (S F) ∧ w''.cell? ⟨w4.heap.size, 2, none⟩ = some (.int .i64 K) ∧ HeldL w [(w4.heap.size, #[S I, S F, .int .i64 K]), (w2.heap.size, #[.bool false, S W, .string ⟨#[]⟩])] w'')) := Lib.hid (fun w' w'' h hb => ALL1.out _ (HeldL.keep (h.2.2.2.2.2.2) hb))
  have HS1 : Hid (HeldL w [(w4.heap.size, #[S I, S F, .int .i64 K]), (w2.heap.size, #[.bool false, S W, .string ⟨#[]⟩])] _) := Lib.hid (HeldL.alloc H4.out (w4.heap.size) #[S I, S F, .int .i64 K] 28 (by simp))
  refine wp_region_held_drew (S := fun w' => w'.cell? ⟨w2.heap.size, 0, none⟩ = some (.bool false) ∧ w'.cell? ⟨w2.heap.size, 1, none⟩ = some (S W) ∧ w'.cell? ⟨w2.heap.size, 2, none⟩ = some (.string ⟨#[]⟩) ∧ w'.cell? ⟨w4.heap.size, 0, none⟩ = some (S I) ∧ w'.cell? ⟨w4.heap.size, 1, none⟩ = some (S F) ∧ w'.cell? ⟨w4.heap.size, 2, none⟩ = some (.int .i64 K) ∧ HeldL w [(w4.heap.size, #[S I, S F, .int .i64 K]), (w2.heap.size, #[.bool false, S W, .string ⟨#[]⟩])] w') (by kernel_rfl) (ALL1.out _ (HeldL.drew HS1.out)) (fun hHeld => ?_)
  refine wpAnyH_take (i := 0) (oi := { dst := some 94, op := Go.Op.move (Go.Operand.tmp 16), type := 37, pos := "law.go:108", after := #[], guard := none }) (v := ?_) rfl (by kernel_rfl) (by kernel_rfl) (by kernel_rfl) (fun _ _ _ h => h) (Or.inl ⟨by rfl, ?_⟩) hHeld ?_
  case refine_2 => (intro w hSw; (try dsimp only at hSw); go_simp <;> with_reducible rfl)
  try simp only [Act.put, List.setIfInBounds_toArray, List.set_cons_zero, List.set_cons_succ]
  refine wpAnyH_take (i := 1) (oi := { dst := some 95, op := Go.Op.binOp Go.BinOp.eql 37 (Go.Operand.tmp 94) (Go.Operand.const (Go.Value.int Go.IntKind.i64 0)) 37, type := 4, pos := "law.go:108", after := #[{ on := 0, ground := Go.Ground.data }], guard := none }) (v := ?_) rfl (by kernel_rfl) (by kernel_rfl) (by kernel_rfl) (fun _ _ _ h => h) (Or.inl ⟨by rfl, ?_⟩) hHeld ?_
  case refine_2 => (intro w hSw; (try dsimp only at hSw); go_simp <;> with_reducible rfl)
  try simp only [Act.put, List.setIfInBounds_toArray, List.set_cons_zero, List.set_cons_succ]
  refine wpAnyH_take (i := 2) (oi := { dst := some 96, op := Go.Op.move (Go.Operand.tmp 95), type := 4, pos := "law.go:108", after := #[{ on := 1, ground := Go.Ground.data }], guard := none }) (v := ?_) rfl (by kernel_rfl) (by kernel_rfl) (by kernel_rfl) (fun _ _ _ h => h) (Or.inl ⟨by rfl, ?_⟩) hHeld ?_
  case refine_2 => (intro w hSw; (try dsimp only at hSw); go_simp <;> with_reducible rfl)
  try simp only [Act.put, List.setIfInBounds_toArray, List.set_cons_zero, List.set_cons_succ]
  refine wpAnyH_take (i := 3) (oi := { dst := some 97, op := Go.Op.load 28 (Go.Operand.tmp 15), type := 28, pos := "law.go:108", after := #[{ on := 2, ground := Go.Ground.guard }], guard := some (2, true) }) (v := ?_) rfl (by kernel_rfl) (by kernel_rfl) (by kernel_rfl) (fun _ _ _ h => h) (Or.inl ⟨by rfl, ?_⟩) hHeld ?_
  case refine_2 => (intro w hSw; (try dsimp only at hSw); go_simp <;> with_reducible rfl)
  try simp only [Act.put, List.setIfInBounds_toArray, List.set_cons_zero, List.set_cons_succ]
  refine wpAnyH_take (i := 4) (oi := { dst := some 98, op := Go.Op.load 25 (Go.Operand.tmp 11), type := 25, pos := "law.go:108", after := #[{ on := 2, ground := Go.Ground.guard }], guard := some (2, true) }) (v := ?_) rfl (by kernel_rfl) (by kernel_rfl) (by kernel_rfl) (fun _ _ _ h => h) (Or.inl ⟨by rfl, ?_⟩) hHeld ?_
  case refine_2 => (intro w hSw; (try dsimp only at hSw); go_simp <;> with_reducible rfl)
  try simp only [Act.put, List.setIfInBounds_toArray, List.set_cons_zero, List.set_cons_succ]
  refine wpAnyH_take (i := 5) (oi := { dst := some 99, op := Go.Op.move (Go.Operand.tmp 3), type := 3, pos := "law.go:108", after := #[{ on := 2, ground := Go.Ground.guard }], guard := some (2, true) }) (v := ?_) rfl (by kernel_rfl) (by kernel_rfl) (by kernel_rfl) (fun _ _ _ h => h) (Or.inl ⟨by rfl, ?_⟩) hHeld ?_
  case refine_2 => (intro w hSw; (try dsimp only at hSw); go_simp <;> with_reducible rfl)
  try simp only [Act.put, List.setIfInBounds_toArray, List.set_cons_zero, List.set_cons_succ]
  refine wpAnyH_take (i := 6) (oi := { dst := some 100, op := Go.Op.call { callee := Go.Callee.builtin Go.Builtin.max, args := #[Go.Operand.tmp 99, Go.Operand.const (Go.Value.int Go.IntKind.i64 0)], argTypes := #[3, 3] }, type := 3, pos := "law.go:108", after := #[{ on := 5, ground := Go.Ground.data }, { on := 2, ground := Go.Ground.guard }], guard := some (2, true) }) (v := ?_) rfl (by kernel_rfl) (by kernel_rfl) (by kernel_rfl) (fun _ _ _ h => h) (Or.inl ⟨by rfl, ?_⟩) hHeld ?_
  case refine_2 => (intro w hSw; (try dsimp only at hSw); go_simp <;> with_reducible rfl)
  try simp only [Act.put, List.setIfInBounds_toArray, List.set_cons_zero, List.set_cons_succ]
  refine wpAnyH_ready (rs := [7]) (by kernel_rfl) (by simp) ?_
  refine AllReadyH.cons (o := { dst := some 101, op := Go.Op.call { callee := Go.Callee.value (Go.Operand.func 7), args := #[Go.Operand.tmp 98, Go.Operand.tmp 100], argTypes := #[25, 3] }, type := 28, pos := "law.go:108", after := #[{ on := 4, ground := Go.Ground.data }, { on := 6, ground := Go.Ground.data }, { on := 2, ground := Go.Ground.chain }, { on := 2, ground := Go.Ground.guard }], guard := some (2, true) }) rfl (fun KK hK => ?_) AllReadyH.nil
  go_simp
  with_reducible refine (of_as ⟨false, W, []⟩ (max e 0) _ (by show W.length ≤ 900000; omega) (by show ([] : List UInt8).length ≤ 900000; simp) ⟨I, F, K⟩ HO.out).mono ?_
  rintro x wA ⟨rfl, hb⟩
  go_wp2_with fail
  refine hK.out _ _ (KEEP1.out _ _ hHeld hb) (fun hHeld2 => ?_)
  clear hK hHeld hb
  have hHeld := hHeld2
  clear hHeld2
  try simp only [Act.put, List.setIfInBounds_toArray, List.set_cons_zero, List.set_cons_succ]
  refine wpAnyH_take (i := 8) (oi := { dst := some 102, op := Go.Op.binOp Go.BinOp.eql 28 (Go.Operand.tmp 97) (Go.Operand.tmp 101) 28, type := 4, pos := "law.go:108", after := #[{ on := 3, ground := Go.Ground.data }, { on := 7, ground := Go.Ground.data }, { on := 2, ground := Go.Ground.guard }], guard := some (2, true) }) (v := ?_) rfl (by kernel_rfl) (by kernel_rfl) (by kernel_rfl) (fun _ _ _ h => h) (Or.inl ⟨by rfl, ?_⟩) hHeld ?_
  case refine_2 => (intro w hSw; (try dsimp only at hSw); go_simp <;> with_reducible rfl)
  try simp only [Act.put, List.setIfInBounds_toArray, List.set_cons_zero, List.set_cons_succ]
  refine wpAnyH_take (i := 9) (oi := { dst := some 103, op := Go.Op.pick (Go.Operand.tmp 96) (Go.Operand.tmp 102) (Go.Operand.const (Go.Value.bool false)), type := 4, pos := "law.go:108", after := #[{ on := 2, ground := Go.Ground.data }, { on := 8, ground := Go.Ground.data }], guard := none }) (v := ?_) rfl (by kernel_rfl) (by kernel_rfl) (by kernel_rfl) (fun _ _ _ h => h) (Or.inl ⟨by rfl, ?_⟩) hHeld ?_
  case refine_2 => (intro w hSw; (try dsimp only at hSw); go_simp <;> with_reducible rfl)
  try simp only [Act.put, List.setIfInBounds_toArray, List.set_cons_zero, List.set_cons_succ]
  refine wpAnyH_take (i := 10) (oi := { dst := some 10, op := Go.Op.assign (Go.Operand.tmp 103), type := 4, pos := "law.go:108", after := #[{ on := 9, ground := Go.Ground.data }, { on := 7, ground := Go.Ground.chain }, { on := 0, ground := Go.Ground.phase }, { on := 1, ground := Go.Ground.phase }, { on := 2, ground := Go.Ground.phase }, { on := 3, ground := Go.Ground.phase }, { on := 4, ground := Go.Ground.phase }, { on := 5, ground := Go.Ground.phase }, { on := 6, ground := Go.Ground.phase }, { on := 7, ground := Go.Ground.phase }, { on := 8, ground := Go.Ground.phase }, { on := 9, ground := Go.Ground.phase }], guard := none }) (v := ?_) rfl (by kernel_rfl) (by kernel_rfl) (by kernel_rfl) (fun _ _ _ h => h) (Or.inl ⟨by rfl, ?_⟩) hHeld ?_
  case refine_2 => (intro w hSw; (try dsimp only at hSw); go_simp <;> with_reducible rfl)
  try simp only [Act.put, List.setIfInBounds_toArray, List.set_cons_zero, List.set_cons_succ]
  refine wpAnyH_done (by kernel_rfl) ?_ _
  clear bv0 bv1 bv2 bvl
  have H5 : Hid (HeldL w [(w4.heap.size, #[S I, S F, .int .i64 K]), (w2.heap.size, #[.bool false, S W, .string ⟨#[]⟩])] wA) := Lib.hid (hHeld.2.2.2.2.2.2)
  clear hHeld ALL1 KEEP1 HS1 H4
  go_wp2
  go_ret
  exact ⟨rfl, H5.out.bel⟩

end Go.Proofs.YtjobccgpejbchaaDoor

namespace Go.Proofs.YtjobccgpejbchaaDoor
open Go.RowKit Florin
set_option linter.unusedVariables false
set_option linter.unusedSimpArgs false
attribute [local go_sem ↓] Go.wp_at_zero Go.wp_at_succ eq_OL

private theorem dz0_c : dig (Int.toNat 0) = [] := dig_zero
private theorem ofE_c (w : World) (n : Int) (h1 : n ≤ 9223372036854775807) (ht : Tab w) (q : List UInt8) (hq : dig n.toNat = q) :
    Calls Tryd.prog 17 #[.int .i64 n] w fun e w' => e = .returned (S q) ∧ Below w.heap.size w w' := by
  subst hq; exact of_any n w h1 ht
set_option maxRecDepth 100000 in
set_option maxHeartbeats 3200000 in
theorem reads_qe1_len (a : Option Addr) (len cap : Nat) (L : List UInt8) (a1 : Option Addr) (len1 cap1 : Nat) (L1 : List UInt8) (e : Int) (w : World) (hin : InB w a len cap L) (hin1 : InB w a1 len1 cap1 L1) (W : List UInt8) (hW : dgs L = W) (wl : W.length ≤ 1100) (w0 : W ≠ []) (h1 : len ≤ 1100) (h10 : ¬ len = 0) (h2 : len1 ≤ 1100) (h3 : e ≤ 11000) (h4 : 0 < e) (Q : List UInt8) (hQ : dig e.toNat = Q) (ql : Q.length ≤ 30) (q0 : Q ≠ []) (T2 T3 : List UInt8) (hT2 : W ++ [101] = T2) (hT3 : T2 ++ Q = T3) (h5 : 1000 < W.length) (hr : readO T3 = ⟨[], [], 0⟩) (he : errO T3 = 2) (ht : Tab w) :
    Calls Tryd.prog 4 #[.slice a len cap, .slice a1 len1 cap1, .bool false, .int .i64 e, .bool true] w fun x w' => x = .returned (.bool true) ∧ Below w.heap.size w w' := by
  have qe := empty_of (ne_empty q0)
  have qe2 := ne_empty q0
  have T2l : T2.length = W.length + 1 := by rw [← hT2]; simp
  have T3l : T3.length = W.length + 1 + Q.length := by rw [← hT3, List.length_append, T2l]
  have SA2 : (⟨W.toArray⟩ : ByteArray) ++ (⟨#[101]⟩ : ByteArray) = ⟨T2.toArray⟩ := by rw [← hT2]; exact arr_append W [101]
  have SA3 : (⟨T2.toArray⟩ : ByteArray) ++ (⟨Q.toArray⟩ : ByteArray) = ⟨T3.toArray⟩ := by rw [← hT3]; exact arr_append T2 Q
  have cc2 : ¬ 9223372036854775807 < W.length + 1 := by omega
  have cc3 : ¬ 9223372036854775807 < T2.length + Q.length := by omega
  have T3x : T3.length ≤ 3000 := by omega
  clear hT2 hT3 T3l
  have h5i : (1000 : Int) < (W.length : Int) := by omega
  have bb1 : decide ((1100 : Int) < (len : Int)) = false := decide_eq_false (by omega)
  have bb2 : decide ((1100 : Int) < (len1 : Int)) = false := decide_eq_false (by omega)
  have bb3 : ((len : Int) == 0) = false := by simp; omega
  have bb5 : decide ((11000 : Int) < e) = false := decide_eq_false (by omega)
  have bb6 : decide ((1000 : Int) < (W.length : Int)) = true := decide_eq_true (by omega)
  have HIN := Lib.hid hin
  have HIN1 := Lib.hid hin1
  have HW := Lib.hid hW
  have HR := Lib.hid hr
  have HE := Lib.hid he
  have HT := Lib.hid ht
  have HQ := Lib.hid hQ
  clear hin hin1 hW hr he ht hQ
  have h4g : (0 : Int) ≤ e := by omega
  go_enter Tryd.func4, Tryd.ntmps4
  go_wp2_with fail
  with_reducible refine (head5 _).mono ?_
  rintro x w1 ⟨rfl, hb⟩
  have H1 : Hid (HeldL w [] w1) := Lib.hid (HeldL.keep (HeldL.refl w) hb)
  clear hb
  go_wp2_with fail
  with_reducible refine (digits_is a len cap L _ (HIN.out.below H1.out.bel) (by omega) W HW.out).mono ?_
  rintro x w2 ⟨rfl, hb⟩
  have H2 : Hid (HeldL w [] w2) := Lib.hid (HeldL.keep H1.out hb)
  clear H1
  clear hb
  go_wp2_with fail
  with_reducible refine (ofE_c _ e (by omega) (HT.out.below (HeldL.alloc H2.out (w2.heap.size) #[.bool false, S W, .string ⟨#[]⟩] 25 (by simp)).bel) Q HQ.out).mono ?_
  rintro x w3 ⟨rfl, hb⟩
  have H3 : Hid (HeldL w [(w2.heap.size, #[.bool false, S W, .string ⟨#[]⟩])] w3) := Lib.hid (HeldL.keep (HeldL.alloc H2.out (w2.heap.size) #[.bool false, S W, .string ⟨#[]⟩] 25 (by simp)) hb)
  clear H2
  clear hb
  go_wp2_with fail
  with_reducible refine (read_as ⟨T3.toArray⟩ _ (by rw [arr_size]; omega) ⟨[], [], 0⟩ 2 (by rw [arr_list]; exact HR.out) (by rw [arr_list]; exact HE.out)).mono ?_
  rintro x w4 ⟨rfl, hb⟩
  have H4 : Hid (HeldL w [(w2.heap.size, #[.bool false, S W, .string ⟨#[]⟩])] w4) := Lib.hid (HeldL.keep H3.out hb)
  clear H3
  clear hb
  have bv0 : w4.cell? ⟨w2.heap.size, 0, none⟩ = some (.bool false) := (H4.out.f (List.Mem.head _)).cell 0
  have bv1 : w4.cell? ⟨w2.heap.size, 1, none⟩ = some (S W) := (H4.out.f (List.Mem.head _)).cell 1
  have bv2 : w4.cell? ⟨w2.heap.size, 2, none⟩ = some (.string ⟨#[]⟩) := (H4.out.f (List.Mem.head _)).cell 2
  have bvl : w2.heap.size < w4.heap.size := (H4.out.f (List.Mem.head _)).lt
  go_wp2
  go_ret
  exact ⟨rfl, (HeldL.alloc H4.out (w4.heap.size) #[.string ⟨#[]⟩, .string ⟨#[]⟩, .int .i64 0] 28 (by simp)).bel⟩

set_option maxRecDepth 100000 in
set_option maxHeartbeats 3200000 in
theorem reads_qe1_pow (a : Option Addr) (len cap : Nat) (L : List UInt8) (a1 : Option Addr) (len1 cap1 : Nat) (L1 : List UInt8) (e : Int) (w : World) (hin : InB w a len cap L) (hin1 : InB w a1 len1 cap1 L1) (W : List UInt8) (hW : dgs L = W) (wl : W.length ≤ 1100) (w0 : W ≠ []) (h1 : len ≤ 1100) (h10 : ¬ len = 0) (h2 : len1 ≤ 1100) (h3 : e ≤ 11000) (h4 : 0 < e) (Q : List UInt8) (hQ : dig e.toNat = Q) (ql : Q.length ≤ 30) (q0 : Q ≠ []) (T2 T3 : List UInt8) (hT2 : W ++ [101] = T2) (hT3 : T2 ++ Q = T3) (h5 : ¬ 1000 < W.length) (h6 : 10000 < e) (hr : readO T3 = ⟨[], [], 0⟩) (he : errO T3 = 2) (ht : Tab w) :
    Calls Tryd.prog 4 #[.slice a len cap, .slice a1 len1 cap1, .bool false, .int .i64 e, .bool true] w fun x w' => x = .returned (.bool true) ∧ Below w.heap.size w w' := by
  have qe := empty_of (ne_empty q0)
  have qe2 := ne_empty q0
  have T2l : T2.length = W.length + 1 := by rw [← hT2]; simp
  have T3l : T3.length = W.length + 1 + Q.length := by rw [← hT3, List.length_append, T2l]
  have SA2 : (⟨W.toArray⟩ : ByteArray) ++ (⟨#[101]⟩ : ByteArray) = ⟨T2.toArray⟩ := by rw [← hT2]; exact arr_append W [101]
  have SA3 : (⟨T2.toArray⟩ : ByteArray) ++ (⟨Q.toArray⟩ : ByteArray) = ⟨T3.toArray⟩ := by rw [← hT3]; exact arr_append T2 Q
  have cc2 : ¬ 9223372036854775807 < W.length + 1 := by omega
  have cc3 : ¬ 9223372036854775807 < T2.length + Q.length := by omega
  have T3x : T3.length ≤ 3000 := by omega
  clear hT2 hT3 T3l
  have h5i : ¬ (1000 : Int) < (W.length : Int) := by omega
  have bb1 : decide ((1100 : Int) < (len : Int)) = false := decide_eq_false (by omega)
  have bb2 : decide ((1100 : Int) < (len1 : Int)) = false := decide_eq_false (by omega)
  have bb3 : ((len : Int) == 0) = false := by simp; omega
  have bb5 : decide ((11000 : Int) < e) = false := decide_eq_false (by omega)
  have bb7 : decide ((10000 : Int) < e) = true := decide_eq_true (by omega)
  have bb6 : decide ((1000 : Int) < (W.length : Int)) = false := decide_eq_false (by omega)
  have HIN := Lib.hid hin
  have HIN1 := Lib.hid hin1
  have HW := Lib.hid hW
  have HR := Lib.hid hr
  have HE := Lib.hid he
  have HT := Lib.hid ht
  have HQ := Lib.hid hQ
  clear hin hin1 hW hr he ht hQ
  have h4g : (0 : Int) ≤ e := by omega
  go_enter Tryd.func4, Tryd.ntmps4
  go_wp2_with fail
  with_reducible refine (head5 _).mono ?_
  rintro x w1 ⟨rfl, hb⟩
  have H1 : Hid (HeldL w [] w1) := Lib.hid (HeldL.keep (HeldL.refl w) hb)
  clear hb
  go_wp2_with fail
  with_reducible refine (digits_is a len cap L _ (HIN.out.below H1.out.bel) (by omega) W HW.out).mono ?_
  rintro x w2 ⟨rfl, hb⟩
  have H2 : Hid (HeldL w [] w2) := Lib.hid (HeldL.keep H1.out hb)
  clear H1
  clear hb
  go_wp2_with fail
  with_reducible refine (ofE_c _ e (by omega) (HT.out.below (HeldL.alloc H2.out (w2.heap.size) #[.bool false, S W, .string ⟨#[]⟩] 25 (by simp)).bel) Q HQ.out).mono ?_
  rintro x w3 ⟨rfl, hb⟩
  have H3 : Hid (HeldL w [(w2.heap.size, #[.bool false, S W, .string ⟨#[]⟩])] w3) := Lib.hid (HeldL.keep (HeldL.alloc H2.out (w2.heap.size) #[.bool false, S W, .string ⟨#[]⟩] 25 (by simp)) hb)
  clear H2
  clear hb
  go_wp2_with fail
  with_reducible refine (read_as ⟨T3.toArray⟩ _ (by rw [arr_size]; omega) ⟨[], [], 0⟩ 2 (by rw [arr_list]; exact HR.out) (by rw [arr_list]; exact HE.out)).mono ?_
  rintro x w4 ⟨rfl, hb⟩
  have H4 : Hid (HeldL w [(w2.heap.size, #[.bool false, S W, .string ⟨#[]⟩])] w4) := Lib.hid (HeldL.keep H3.out hb)
  clear H3
  clear hb
  have bv0 : w4.cell? ⟨w2.heap.size, 0, none⟩ = some (.bool false) := (H4.out.f (List.Mem.head _)).cell 0
  have bv1 : w4.cell? ⟨w2.heap.size, 1, none⟩ = some (S W) := (H4.out.f (List.Mem.head _)).cell 1
  have bv2 : w4.cell? ⟨w2.heap.size, 2, none⟩ = some (.string ⟨#[]⟩) := (H4.out.f (List.Mem.head _)).cell 2
  have bvl : w2.heap.size < w4.heap.size := (H4.out.f (List.Mem.head _)).lt
  go_wp2
  go_ret
  exact ⟨rfl, (HeldL.alloc H4.out (w4.heap.size) #[.string ⟨#[]⟩, .string ⟨#[]⟩, .int .i64 0] 28 (by simp)).bel⟩

set_option maxRecDepth 100000 in
set_option maxHeartbeats 3200000 in
theorem reads_qe1_ok (a : Option Addr) (len cap : Nat) (L : List UInt8) (a1 : Option Addr) (len1 cap1 : Nat) (L1 : List UInt8) (e : Int) (w : World) (hin : InB w a len cap L) (hin1 : InB w a1 len1 cap1 L1) (W : List UInt8) (hW : dgs L = W) (wl : W.length ≤ 1100) (w0 : W ≠ []) (h1 : len ≤ 1100) (h10 : ¬ len = 0) (h2 : len1 ≤ 1100) (h3 : e ≤ 11000) (h4 : 0 < e) (Q : List UInt8) (hQ : dig e.toNat = Q) (ql : Q.length ≤ 30) (q0 : Q ≠ []) (T2 T3 : List UInt8) (hT2 : W ++ [101] = T2) (hT3 : T2 ++ Q = T3) (h5 : ¬ 1000 < W.length) (h6 : e ≤ 10000) (I F : List UInt8) (K : Int) (hr : readO T3 = ⟨I, F, K⟩) (he : errO T3 = 0) (ho : ofP ⟨false, W, []⟩ (max e 0) = ⟨I, F, K⟩) (ht : Tab w) :
    Calls Tryd.prog 4 #[.slice a len cap, .slice a1 len1 cap1, .bool false, .int .i64 e, .bool true] w fun x w' => x = .returned (.bool true) ∧ Below w.heap.size w w' := by
  have qe := empty_of (ne_empty q0)
  have qe2 := ne_empty q0
  have T2l : T2.length = W.length + 1 := by rw [← hT2]; simp
  have T3l : T3.length = W.length + 1 + Q.length := by rw [← hT3, List.length_append, T2l]
  have SA2 : (⟨W.toArray⟩ : ByteArray) ++ (⟨#[101]⟩ : ByteArray) = ⟨T2.toArray⟩ := by rw [← hT2]; exact arr_append W [101]
  have SA3 : (⟨T2.toArray⟩ : ByteArray) ++ (⟨Q.toArray⟩ : ByteArray) = ⟨T3.toArray⟩ := by rw [← hT3]; exact arr_append T2 Q
  have cc2 : ¬ 9223372036854775807 < W.length + 1 := by omega
  have cc3 : ¬ 9223372036854775807 < T2.length + Q.length := by omega
  have T3x : T3.length ≤ 3000 := by omega
  clear hT2 hT3 T3l
  have h5i : ¬ (1000 : Int) < (W.length : Int) := by omega
  have bb1 : decide ((1100 : Int) < (len : Int)) = false := decide_eq_false (by omega)
  have bb2 : decide ((1100 : Int) < (len1 : Int)) = false := decide_eq_false (by omega)
  have bb3 : ((len : Int) == 0) = false := by simp; omega
  have bb5 : decide ((11000 : Int) < e) = false := decide_eq_false (by omega)
  have bb7 : decide ((10000 : Int) < e) = false := decide_eq_false (by omega)
  have bb6 : decide ((1000 : Int) < (W.length : Int)) = false := decide_eq_false (by omega)
  have HIN := Lib.hid hin
  have HIN1 := Lib.hid hin1
  have HW := Lib.hid hW
  have HR := Lib.hid hr
  have HE := Lib.hid he
  have HT := Lib.hid ht
  have HQ := Lib.hid hQ
  have HO := Lib.hid ho
  clear hin hin1 hW hr he ht hQ ho
  have h4g : (0 : Int) ≤ e := by omega
  go_enter Tryd.func4, Tryd.ntmps4
  go_wp2_with fail
  with_reducible refine (head5 _).mono ?_
  rintro x w1 ⟨rfl, hb⟩
  have H1 : Hid (HeldL w [] w1) := Lib.hid (HeldL.keep (HeldL.refl w) hb)
  clear hb
  go_wp2_with fail
  with_reducible refine (digits_is a len cap L _ (HIN.out.below H1.out.bel) (by omega) W HW.out).mono ?_
  rintro x w2 ⟨rfl, hb⟩
  have H2 : Hid (HeldL w [] w2) := Lib.hid (HeldL.keep H1.out hb)
  clear H1
  clear hb
  go_wp2_with fail
  with_reducible refine (ofE_c _ e (by omega) (HT.out.below (HeldL.alloc H2.out (w2.heap.size) #[.bool false, S W, .string ⟨#[]⟩] 25 (by simp)).bel) Q HQ.out).mono ?_
  rintro x w3 ⟨rfl, hb⟩
  have H3 : Hid (HeldL w [(w2.heap.size, #[.bool false, S W, .string ⟨#[]⟩])] w3) := Lib.hid (HeldL.keep (HeldL.alloc H2.out (w2.heap.size) #[.bool false, S W, .string ⟨#[]⟩] 25 (by simp)) hb)
  clear H2
  clear hb
  go_wp2_with fail
  with_reducible refine (read_as ⟨T3.toArray⟩ _ (by rw [arr_size]; omega) ⟨I, F, K⟩ 0 (by rw [arr_list]; exact HR.out) (by rw [arr_list]; exact HE.out)).mono ?_
  rintro x w4 ⟨rfl, hb⟩
  have H4 : Hid (HeldL w [(w2.heap.size, #[.bool false, S W, .string ⟨#[]⟩])] w4) := Lib.hid (HeldL.keep H3.out hb)
  clear H3
  clear hb
  have bv0 : w4.cell? ⟨w2.heap.size, 0, none⟩ = some (.bool false) := (H4.out.f (List.Mem.head _)).cell 0
  have bv1 : w4.cell? ⟨w2.heap.size, 1, none⟩ = some (S W) := (H4.out.f (List.Mem.head _)).cell 1
  have bv2 : w4.cell? ⟨w2.heap.size, 2, none⟩ = some (.string ⟨#[]⟩) := (H4.out.f (List.Mem.head _)).cell 2
  have bvl : w2.heap.size < w4.heap.size := (H4.out.f (List.Mem.head _)).lt
  go_wp2_with fail
  have ALL1 : Hid (∀ w' : World, HeldL w [(w4.heap.size, #[S I, S F, .int .i64 K]), (w2.heap.size, #[.bool false, S W, .string ⟨#[]⟩])] w' → w'.cell? ⟨w2.heap.size, 0, none⟩ = some (.bool false) ∧ w'.cell? ⟨w2.heap.size, 1, none⟩ = some (S W) ∧ w'.cell? ⟨w2.heap.size, 2, none⟩ = some (.string ⟨#[]⟩) ∧ w'.cell? ⟨w4.heap.size, 0, none⟩ = some (S I) ∧ w'.cell? ⟨w4.heap.size, 1, none⟩ = some (S F) ∧ w'.cell? ⟨w4.heap.size, 2, none⟩ = some (.int .i64 K) ∧ HeldL w [(w4.heap.size, #[S I, S F, .int .i64 K]), (w2.heap.size, #[.bool false, S W, .string ⟨#[]⟩])] w') := Lib.hid (fun w' h => ⟨(h.f (List.Mem.tail _ (List.Mem.head _))).cell 0, (h.f (List.Mem.tail _ (List.Mem.head _))).cell 1, (h.f (List.Mem.tail _ (List.Mem.head _))).cell 2, (h.f (List.Mem.head _)).cell 0, (h.f (List.Mem.head _)).cell 1, (h.f (List.Mem.head _)).cell 2, h⟩)
  have KEEP1 : Hid (∀ w' w'' : World, (w'.cell? ⟨w2.heap.size, 0, none⟩ = some (.bool false) ∧ w'.cell? ⟨w2.heap.size, 1, none⟩ = some (S W) ∧ w'.cell? ⟨w2.heap.size, 2, none⟩ = some (.string ⟨#[]⟩) ∧ w'.cell? ⟨w4.heap.size, 0, none⟩ = some (S I) ∧ w'.cell? ⟨w4.heap.size, 1, none⟩ = some (S F) ∧ w'.cell? ⟨w4.heap.size, 2, none⟩ = some (.int .i64 K) ∧ HeldL w [(w4.heap.size, #[S I, S F, .int .i64 K]), (w2.heap.size, #[.bool false, S W, .string ⟨#[]⟩])] w') → Below w'.heap.size w' w'' → (w''.cell? ⟨w2.heap.size, 0, none⟩ = some (.bool false) ∧ w''.cell? ⟨w2.heap.size, 1, none⟩ = some (S W) ∧ w''.cell? ⟨w2.heap.size, 2, none⟩ = some (.string ⟨#[]⟩) ∧ w''.cell? ⟨w4.heap.size, 0, none⟩ = some (S I) ∧ w''.cell? ⟨w4.heap.size, 1, none⟩ = some (S F) ∧ w''.cell? ⟨w4.heap.size, 2, none⟩ = some (.int .i64 K) ∧ HeldL w [(w4.heap.size, #[S I, S F, .int .i64 K]), (w2.heap.size, #[.bool false, S W, .string ⟨#[]⟩])] w'')) := Lib.hid (fun w' w'' h hb => ALL1.out _ (HeldL.keep (h.2.2.2.2.2.2) hb))
  have HS1 : Hid (HeldL w [(w4.heap.size, #[S I, S F, .int .i64 K]), (w2.heap.size, #[.bool false, S W, .string ⟨#[]⟩])] _) := Lib.hid (HeldL.alloc H4.out (w4.heap.size) #[S I, S F, .int .i64 K] 28 (by simp))
  refine wp_region_held_drew (S := fun w' => w'.cell? ⟨w2.heap.size, 0, none⟩ = some (.bool false) ∧ w'.cell? ⟨w2.heap.size, 1, none⟩ = some (S W) ∧ w'.cell? ⟨w2.heap.size, 2, none⟩ = some (.string ⟨#[]⟩) ∧ w'.cell? ⟨w4.heap.size, 0, none⟩ = some (S I) ∧ w'.cell? ⟨w4.heap.size, 1, none⟩ = some (S F) ∧ w'.cell? ⟨w4.heap.size, 2, none⟩ = some (.int .i64 K) ∧ HeldL w [(w4.heap.size, #[S I, S F, .int .i64 K]), (w2.heap.size, #[.bool false, S W, .string ⟨#[]⟩])] w') (by kernel_rfl) (ALL1.out _ (HeldL.drew HS1.out)) (fun hHeld => ?_)
  refine wpAnyH_take (i := 0) (oi := { dst := some 94, op := Go.Op.move (Go.Operand.tmp 16), type := 37, pos := "law.go:108", after := #[], guard := none }) (v := ?_) rfl (by kernel_rfl) (by kernel_rfl) (by kernel_rfl) (fun _ _ _ h => h) (Or.inl ⟨by rfl, ?_⟩) hHeld ?_
  case refine_2 => (intro w hSw; (try dsimp only at hSw); go_simp <;> with_reducible rfl)
  try simp only [Act.put, List.setIfInBounds_toArray, List.set_cons_zero, List.set_cons_succ]
  refine wpAnyH_take (i := 1) (oi := { dst := some 95, op := Go.Op.binOp Go.BinOp.eql 37 (Go.Operand.tmp 94) (Go.Operand.const (Go.Value.int Go.IntKind.i64 0)) 37, type := 4, pos := "law.go:108", after := #[{ on := 0, ground := Go.Ground.data }], guard := none }) (v := ?_) rfl (by kernel_rfl) (by kernel_rfl) (by kernel_rfl) (fun _ _ _ h => h) (Or.inl ⟨by rfl, ?_⟩) hHeld ?_
  case refine_2 => (intro w hSw; (try dsimp only at hSw); go_simp <;> with_reducible rfl)
  try simp only [Act.put, List.setIfInBounds_toArray, List.set_cons_zero, List.set_cons_succ]
  refine wpAnyH_take (i := 2) (oi := { dst := some 96, op := Go.Op.move (Go.Operand.tmp 95), type := 4, pos := "law.go:108", after := #[{ on := 1, ground := Go.Ground.data }], guard := none }) (v := ?_) rfl (by kernel_rfl) (by kernel_rfl) (by kernel_rfl) (fun _ _ _ h => h) (Or.inl ⟨by rfl, ?_⟩) hHeld ?_
  case refine_2 => (intro w hSw; (try dsimp only at hSw); go_simp <;> with_reducible rfl)
  try simp only [Act.put, List.setIfInBounds_toArray, List.set_cons_zero, List.set_cons_succ]
  refine wpAnyH_take (i := 3) (oi := { dst := some 97, op := Go.Op.load 28 (Go.Operand.tmp 15), type := 28, pos := "law.go:108", after := #[{ on := 2, ground := Go.Ground.guard }], guard := some (2, true) }) (v := ?_) rfl (by kernel_rfl) (by kernel_rfl) (by kernel_rfl) (fun _ _ _ h => h) (Or.inl ⟨by rfl, ?_⟩) hHeld ?_
  case refine_2 => (intro w hSw; (try dsimp only at hSw); go_simp <;> with_reducible rfl)
  try simp only [Act.put, List.setIfInBounds_toArray, List.set_cons_zero, List.set_cons_succ]
  refine wpAnyH_take (i := 4) (oi := { dst := some 98, op := Go.Op.load 25 (Go.Operand.tmp 11), type := 25, pos := "law.go:108", after := #[{ on := 2, ground := Go.Ground.guard }], guard := some (2, true) }) (v := ?_) rfl (by kernel_rfl) (by kernel_rfl) (by kernel_rfl) (fun _ _ _ h => h) (Or.inl ⟨by rfl, ?_⟩) hHeld ?_
  case refine_2 => (intro w hSw; (try dsimp only at hSw); go_simp <;> with_reducible rfl)
  try simp only [Act.put, List.setIfInBounds_toArray, List.set_cons_zero, List.set_cons_succ]
  refine wpAnyH_take (i := 5) (oi := { dst := some 99, op := Go.Op.move (Go.Operand.tmp 3), type := 3, pos := "law.go:108", after := #[{ on := 2, ground := Go.Ground.guard }], guard := some (2, true) }) (v := ?_) rfl (by kernel_rfl) (by kernel_rfl) (by kernel_rfl) (fun _ _ _ h => h) (Or.inl ⟨by rfl, ?_⟩) hHeld ?_
  case refine_2 => (intro w hSw; (try dsimp only at hSw); go_simp <;> with_reducible rfl)
  try simp only [Act.put, List.setIfInBounds_toArray, List.set_cons_zero, List.set_cons_succ]
  refine wpAnyH_take (i := 6) (oi := { dst := some 100, op := Go.Op.call { callee := Go.Callee.builtin Go.Builtin.max, args := #[Go.Operand.tmp 99, Go.Operand.const (Go.Value.int Go.IntKind.i64 0)], argTypes := #[3, 3] }, type := 3, pos := "law.go:108", after := #[{ on := 5, ground := Go.Ground.data }, { on := 2, ground := Go.Ground.guard }], guard := some (2, true) }) (v := ?_) rfl (by kernel_rfl) (by kernel_rfl) (by kernel_rfl) (fun _ _ _ h => h) (Or.inl ⟨by rfl, ?_⟩) hHeld ?_
  case refine_2 => (intro w hSw; (try dsimp only at hSw); go_simp <;> with_reducible rfl)
  try simp only [Act.put, List.setIfInBounds_toArray, List.set_cons_zero, List.set_cons_succ]
  refine wpAnyH_ready (rs := [7]) (by kernel_rfl) (by simp) ?_
  refine AllReadyH.cons (o := { dst := some 101, op := Go.Op.call { callee := Go.Callee.value (Go.Operand.func 7), args := #[Go.Operand.tmp 98, Go.Operand.tmp 100], argTypes := #[25, 3] }, type := 28, pos := "law.go:108", after := #[{ on := 4, ground := Go.Ground.data }, { on := 6, ground := Go.Ground.data }, { on := 2, ground := Go.Ground.chain }, { on := 2, ground := Go.Ground.guard }], guard := some (2, true) }) rfl (fun KK hK => ?_) AllReadyH.nil
  go_simp
  with_reducible refine (of_as ⟨false, W, []⟩ (max e 0) _ (by show W.length ≤ 900000; omega) (by show ([] : List UInt8).length ≤ 900000; simp) ⟨I, F, K⟩ HO.out).mono ?_
  rintro x wA ⟨rfl, hb⟩
  go_wp2_with fail
  refine hK.out _ _ (KEEP1.out _ _ hHeld hb) (fun hHeld2 => ?_)
  clear hK hHeld hb
  have hHeld := hHeld2
  clear hHeld2
  try simp only [Act.put, List.setIfInBounds_toArray, List.set_cons_zero, List.set_cons_succ]
  refine wpAnyH_take (i := 8) (oi := { dst := some 102, op := Go.Op.binOp Go.BinOp.eql 28 (Go.Operand.tmp 97) (Go.Operand.tmp 101) 28, type := 4, pos := "law.go:108", after := #[{ on := 3, ground := Go.Ground.data }, { on := 7, ground := Go.Ground.data }, { on := 2, ground := Go.Ground.guard }], guard := some (2, true) }) (v := ?_) rfl (by kernel_rfl) (by kernel_rfl) (by kernel_rfl) (fun _ _ _ h => h) (Or.inl ⟨by rfl, ?_⟩) hHeld ?_
  case refine_2 => (intro w hSw; (try dsimp only at hSw); go_simp <;> with_reducible rfl)
  try simp only [Act.put, List.setIfInBounds_toArray, List.set_cons_zero, List.set_cons_succ]
  refine wpAnyH_take (i := 9) (oi := { dst := some 103, op := Go.Op.pick (Go.Operand.tmp 96) (Go.Operand.tmp 102) (Go.Operand.const (Go.Value.bool false)), type := 4, pos := "law.go:108", after := #[{ on := 2, ground := Go.Ground.data }, { on := 8, ground := Go.Ground.data }], guard := none }) (v := ?_) rfl (by kernel_rfl) (by kernel_rfl) (by kernel_rfl) (fun _ _ _ h => h) (Or.inl ⟨by rfl, ?_⟩) hHeld ?_
  case refine_2 => (intro w hSw; (try dsimp only at hSw); go_simp <;> with_reducible rfl)
  try simp only [Act.put, List.setIfInBounds_toArray, List.set_cons_zero, List.set_cons_succ]
  refine wpAnyH_take (i := 10) (oi := { dst := some 10, op := Go.Op.assign (Go.Operand.tmp 103), type := 4, pos := "law.go:108", after := #[{ on := 9, ground := Go.Ground.data }, { on := 7, ground := Go.Ground.chain }, { on := 0, ground := Go.Ground.phase }, { on := 1, ground := Go.Ground.phase }, { on := 2, ground := Go.Ground.phase }, { on := 3, ground := Go.Ground.phase }, { on := 4, ground := Go.Ground.phase }, { on := 5, ground := Go.Ground.phase }, { on := 6, ground := Go.Ground.phase }, { on := 7, ground := Go.Ground.phase }, { on := 8, ground := Go.Ground.phase }, { on := 9, ground := Go.Ground.phase }], guard := none }) (v := ?_) rfl (by kernel_rfl) (by kernel_rfl) (by kernel_rfl) (fun _ _ _ h => h) (Or.inl ⟨by rfl, ?_⟩) hHeld ?_
  case refine_2 => (intro w hSw; (try dsimp only at hSw); go_simp <;> with_reducible rfl)
  try simp only [Act.put, List.setIfInBounds_toArray, List.set_cons_zero, List.set_cons_succ]
  refine wpAnyH_done (by kernel_rfl) ?_ _
  clear bv0 bv1 bv2 bvl
  have H5 : Hid (HeldL w [(w4.heap.size, #[S I, S F, .int .i64 K]), (w2.heap.size, #[.bool false, S W, .string ⟨#[]⟩])] wA) := Lib.hid (hHeld.2.2.2.2.2.2)
  clear hHeld ALL1 KEEP1 HS1 H4
  go_wp2
  go_ret
  exact ⟨rfl, H5.out.bel⟩

end Go.Proofs.YtjobccgpejbchaaDoor
