/- LawU4d, LawU4e, LawU4f, LawU4w, in one text. -/
import Derived.Test.YtjobccgpejbchaaDoorMU4x
import Derived.Test.YtjobccgpejbchaaDoorOPlain
namespace Go.Proofs.YtjobccgpejbchaaDoor
open Go.RowKit Florin
set_option linter.unusedVariables false
set_option linter.unusedSimpArgs false
attribute [local go_sem ↓] Go.wp_at_zero Go.wp_at_succ eq_OL

private theorem dz0_d : dig (Int.toNat 0) = [] := dig_zero
private theorem ofE_d (w : World) (n : Int) (h1 : n ≤ 9223372036854775807) (ht : Tab w) (q : List UInt8) (hq : dig n.toNat = q) :
    Calls Tryd.prog 17 #[.int .i64 n] w fun e w' => e = .returned (S q) ∧ Below w.heap.size w w' := by
  subst hq; exact of_any n w h1 ht
set_option maxRecDepth 100000 in
set_option maxHeartbeats 3200000 in
theorem reads_pn_len (a : Option Addr) (len cap : Nat) (L : List UInt8) (a1 : Option Addr) (len1 cap1 : Nat) (L1 : List UInt8) (e : Int) (lt : Bool) (w : World) (hin : InB w a len cap L) (hin1 : InB w a1 len1 cap1 L1) (W : List UInt8) (hW : dgs L = W) (wl : W.length ≤ 1100) (w0 : W ≠ []) (h1 : len ≤ 1100) (h10 : ¬ len = 0) (h2 : len1 ≤ 1100) (h3 : e ≤ 11000) (h20 : ¬ len1 = 0) (P : List UInt8) (hP : dgs L1 = P) (pl : P.length ≤ 1100) (T0 T1 : List UInt8) (hT0 : W ++ [46] = T0) (hT1 : T0 ++ P = T1) (h4 : e < 0) (h5 : 1000 < W.length + P.length) (hr : readO T1 = ⟨[], [], 0⟩) (he : errO T1 = 2) (ht : Tab w) :
    Calls Tryd.prog 4 #[.slice a len cap, .slice a1 len1 cap1, .bool true, .int .i64 e, .bool lt] w fun x w' => x = .returned (.bool true) ∧ Below w.heap.size w w' := by
  have T0l : T0.length = W.length + 1 := by rw [← hT0]; simp
  have T1l : T1.length = W.length + 1 + P.length := by rw [← hT1, List.length_append, T0l]
  have SA0 : (⟨W.toArray⟩ : ByteArray) ++ (⟨#[46]⟩ : ByteArray) = ⟨T0.toArray⟩ := by rw [← hT0]; exact arr_append W [46]
  have SA1 : (⟨T0.toArray⟩ : ByteArray) ++ (⟨P.toArray⟩ : ByteArray) = ⟨T1.toArray⟩ := by rw [← hT1]; exact arr_append T0 P
  have cc0 : ¬ 9223372036854775807 < W.length + 1 := by omega
  have cc1 : ¬ 9223372036854775807 < T0.length + P.length := by omega
  have T1x : T1.length ≤ 2300 := by omega
  clear hT0 hT1 T1l
  have h5i : (1000 : Int) < (W.length : Int) + (P.length : Int) := by omega
  have bb1 : decide ((1100 : Int) < (len : Int)) = false := decide_eq_false (by omega)
  have bb2 : decide ((1100 : Int) < (len1 : Int)) = false := decide_eq_false (by omega)
  have bb3 : ((len : Int) == 0) = false := by simp; omega
  have bb4 : ((len1 : Int) == 0) = false := by simp; omega
  have bb5 : decide ((11000 : Int) < e) = false := decide_eq_false (by omega)
  have bb6 : decide ((1000 : Int) < (W.length : Int) + (P.length : Int)) = true := decide_eq_true (by omega)
  have HIN := Lib.hid hin
  have HIN1 := Lib.hid hin1
  have HW := Lib.hid hW
  have HR := Lib.hid hr
  have HE := Lib.hid he
  have HT := Lib.hid ht
  have HP := Lib.hid hP
  clear hin hin1 hW hr he ht hP
  go_enter Tryd.func4, Tryd.ntmps4
  go_wp2_with fail
  with_reducible refine (head5 _).mono ?_
  rintro x w1 ⟨rfl, hb⟩
  have H1 : Hid (HeldL w [] w1) := Lib.hid (HeldL.keep (HeldL.refl w) hb)
  clear hb
  go_wp2_with fail
  with_reducible refine (digits_is a len cap L _ (HIN.out.below H1.out.bel) (by omega) W HW.out).mono ?_
  rintro x w2 ⟨rfl, hb⟩
  have H2 : Hid (HeldL w [] w2) := Lib.hid (HeldL.keep H1.out hb)
  clear H1
  clear hb
  go_wp2_with fail
  with_reducible refine (digits_is a1 len1 cap1 L1 _ (HIN1.out.below (HeldL.alloc H2.out (w2.heap.size) #[.bool false, S W, .string ⟨#[]⟩] 25 (by simp)).bel) (by omega) P HP.out).mono ?_
  rintro x w3 ⟨rfl, hb⟩
  have H3 : Hid (HeldL w [(w2.heap.size, #[.bool false, S W, .string ⟨#[]⟩])] w3) := Lib.hid (HeldL.keep (HeldL.alloc H2.out (w2.heap.size) #[.bool false, S W, .string ⟨#[]⟩] 25 (by simp)) hb)
  clear H2
  clear hb
  have bv0 : w3.cell? ⟨w2.heap.size, 0, none⟩ = some (.bool false) := (H3.out.f (List.Mem.head _)).cell 0
  have bvz0 : w3.frozen? ⟨w2.heap.size, 0, none⟩ = false := (H3.out.f (List.Mem.head _)).frozen 0
  have bv1 : w3.cell? ⟨w2.heap.size, 1, none⟩ = some (S W) := (H3.out.f (List.Mem.head _)).cell 1
  have bvz1 : w3.frozen? ⟨w2.heap.size, 1, none⟩ = false := (H3.out.f (List.Mem.head _)).frozen 1
  have bv2 : w3.cell? ⟨w2.heap.size, 2, none⟩ = some (.string ⟨#[]⟩) := (H3.out.f (List.Mem.head _)).cell 2
  have bvz2 : w3.frozen? ⟨w2.heap.size, 2, none⟩ = false := (H3.out.f (List.Mem.head _)).frozen 2
  have bvl : w2.heap.size < w3.heap.size := (H3.out.f (List.Mem.head _)).lt
  go_wp2_with fail
  clear bv0 bvz0 bv1 bvz1 bv2 bvz2 bvl
  have H4 : Hid (HeldL w [(w2.heap.size, #[.bool false, S W, S P])] (w3.setCell ⟨w2.heap.size, 2, none⟩ (S P))) := Lib.hid (HeldL.set1 (L1 := []) (L2 := []) H3.out 2 (S P))
  generalize (w3.setCell ⟨w2.heap.size, 2, none⟩ (S P)) = w4 at *
  clear H3
  with_reducible refine (read_as ⟨T1.toArray⟩ _ (by rw [arr_size]; omega) ⟨[], [], 0⟩ 2 (by rw [arr_list]; exact HR.out) (by rw [arr_list]; exact HE.out)).mono ?_
  rintro x w5 ⟨rfl, hb⟩
  have H5 : Hid (HeldL w [(w2.heap.size, #[.bool false, S W, S P])] w5) := Lib.hid (HeldL.keep H4.out hb)
  clear H4
  clear hb
  have bv0 : w5.cell? ⟨w2.heap.size, 0, none⟩ = some (.bool false) := (H5.out.f (List.Mem.head _)).cell 0
  have bv1 : w5.cell? ⟨w2.heap.size, 1, none⟩ = some (S W) := (H5.out.f (List.Mem.head _)).cell 1
  have bv2 : w5.cell? ⟨w2.heap.size, 2, none⟩ = some (S P) := (H5.out.f (List.Mem.head _)).cell 2
  have bvl : w2.heap.size < w5.heap.size := (H5.out.f (List.Mem.head _)).lt
  go_wp2
  go_ret
  exact ⟨rfl, (HeldL.alloc H5.out (w5.heap.size) #[.string ⟨#[]⟩, .string ⟨#[]⟩, .int .i64 0] 28 (by simp)).bel⟩

set_option maxRecDepth 100000 in
set_option maxHeartbeats 3200000 in
theorem reads_pn_ok (a : Option Addr) (len cap : Nat) (L : List UInt8) (a1 : Option Addr) (len1 cap1 : Nat) (L1 : List UInt8) (e : Int) (lt : Bool) (w : World) (hin : InB w a len cap L) (hin1 : InB w a1 len1 cap1 L1) (W : List UInt8) (hW : dgs L = W) (wl : W.length ≤ 1100) (w0 : W ≠ []) (h1 : len ≤ 1100) (h10 : ¬ len = 0) (h2 : len1 ≤ 1100) (h3 : e ≤ 11000) (h20 : ¬ len1 = 0) (P : List UInt8) (hP : dgs L1 = P) (pl : P.length ≤ 1100) (T0 T1 : List UInt8) (hT0 : W ++ [46] = T0) (hT1 : T0 ++ P = T1) (h4 : e < 0) (h5 : ¬ 1000 < W.length + P.length) (h6 : e ≤ 10000) (I F : List UInt8) (K : Int) (hr : readO T1 = ⟨I, F, K⟩) (he : errO T1 = 0) (ho : ofP ⟨false, W, P⟩ (max e 0) = ⟨I, F, K⟩) (ht : Tab w) :
    Calls Tryd.prog 4 #[.slice a len cap, .slice a1 len1 cap1, .bool true, .int .i64 e, .bool lt] w fun x w' => x = .returned (.bool true) ∧ Below w.heap.size w w' := by
  have T0l : T0.length = W.length + 1 := by rw [← hT0]; simp
  have T1l : T1.length = W.length + 1 + P.length := by rw [← hT1, List.length_append, T0l]
  have SA0 : (⟨W.toArray⟩ : ByteArray) ++ (⟨#[46]⟩ : ByteArray) = ⟨T0.toArray⟩ := by rw [← hT0]; exact arr_append W [46]
  have SA1 : (⟨T0.toArray⟩ : ByteArray) ++ (⟨P.toArray⟩ : ByteArray) = ⟨T1.toArray⟩ := by rw [← hT1]; exact arr_append T0 P
  have cc0 : ¬ 9223372036854775807 < W.length + 1 := by omega
  have cc1 : ¬ 9223372036854775807 < T0.length + P.length := by omega
  have T1x : T1.length ≤ 2300 := by omega
  clear hT0 hT1 T1l
  have h5i : ¬ (1000 : Int) < (W.length : Int) + (P.length : Int) := by omega
  have bb1 : decide ((1100 : Int) < (len : Int)) = false := decide_eq_false (by omega)
  have bb2 : decide ((1100 : Int) < (len1 : Int)) = false := decide_eq_false (by omega)
  have bb3 : ((len : Int) == 0) = false := by simp; omega
  have bb4 : ((len1 : Int) == 0) = false := by simp; omega
  have bb5 : decide ((11000 : Int) < e) = false := decide_eq_false (by omega)
  have bb7 : decide ((10000 : Int) < e) = false := decide_eq_false (by omega)
  have bb6 : decide ((1000 : Int) < (W.length : Int) + (P.length : Int)) = false := decide_eq_false (by omega)
  have HIN := Lib.hid hin
  have HIN1 := Lib.hid hin1
  have HW := Lib.hid hW
  have HR := Lib.hid hr
  have HE := Lib.hid he
  have HT := Lib.hid ht
  have HP := Lib.hid hP
  have HO := Lib.hid ho
  clear hin hin1 hW hr he ht hP ho
  go_enter Tryd.func4, Tryd.ntmps4
  go_wp2_with fail
  with_reducible refine (head5 _).mono ?_
  rintro x w1 ⟨rfl, hb⟩
  have H1 : Hid (HeldL w [] w1) := Lib.hid (HeldL.keep (HeldL.refl w) hb)
  clear hb
  go_wp2_with fail
  with_reducible refine (digits_is a len cap L _ (HIN.out.below H1.out.bel) (by omega) W HW.out).mono ?_
  rintro x w2 ⟨rfl, hb⟩
  have H2 : Hid (HeldL w [] w2) := Lib.hid (HeldL.keep H1.out hb)
  clear H1
  clear hb
  go_wp2_with fail
  with_reducible refine (digits_is a1 len1 cap1 L1 _ (HIN1.out.below (HeldL.alloc H2.out (w2.heap.size) #[.bool false, S W, .string ⟨#[]⟩] 25 (by simp)).bel) (by omega) P HP.out).mono ?_
  rintro x w3 ⟨rfl, hb⟩
  have H3 : Hid (HeldL w [(w2.heap.size, #[.bool false, S W, .string ⟨#[]⟩])] w3) := Lib.hid (HeldL.keep (HeldL.alloc H2.out (w2.heap.size) #[.bool false, S W, .string ⟨#[]⟩] 25 (by simp)) hb)
  clear H2
  clear hb
  have bv0 : w3.cell? ⟨w2.heap.size, 0, none⟩ = some (.bool false) := (H3.out.f (List.Mem.head _)).cell 0
  have bvz0 : w3.frozen? ⟨w2.heap.size, 0, none⟩ = false := (H3.out.f (List.Mem.head _)).frozen 0
  have bv1 : w3.cell? ⟨w2.heap.size, 1, none⟩ = some (S W) := (H3.out.f (List.Mem.head _)).cell 1
  have bvz1 : w3.frozen? ⟨w2.heap.size, 1, none⟩ = false := (H3.out.f (List.Mem.head _)).frozen 1
  have bv2 : w3.cell? ⟨w2.heap.size, 2, none⟩ = some (.string ⟨#[]⟩) := (H3.out.f (List.Mem.head _)).cell 2
  have bvz2 : w3.frozen? ⟨w2.heap.size, 2, none⟩ = false := (H3.out.f (List.Mem.head _)).frozen 2
  have bvl : w2.heap.size < w3.heap.size := (H3.out.f (List.Mem.head _)).lt
  go_wp2_with fail
  clear bv0 bvz0 bv1 bvz1 bv2 bvz2 bvl
  have H4 : Hid (HeldL w [(w2.heap.size, #[.bool false, S W, S P])] (w3.setCell ⟨w2.heap.size, 2, none⟩ (S P))) := Lib.hid (HeldL.set1 (L1 := []) (L2 := []) H3.out 2 (S P))
  generalize (w3.setCell ⟨w2.heap.size, 2, none⟩ (S P)) = w4 at *
  clear H3
  with_reducible refine (read_as ⟨T1.toArray⟩ _ (by rw [arr_size]; omega) ⟨I, F, K⟩ 0 (by rw [arr_list]; exact HR.out) (by rw [arr_list]; exact HE.out)).mono ?_
  rintro x w5 ⟨rfl, hb⟩
  have H5 : Hid (HeldL w [(w2.heap.size, #[.bool false, S W, S P])] w5) := Lib.hid (HeldL.keep H4.out hb)
  clear H4
  clear hb
  have bv0 : w5.cell? ⟨w2.heap.size, 0, none⟩ = some (.bool false) := (H5.out.f (List.Mem.head _)).cell 0
  have bv1 : w5.cell? ⟨w2.heap.size, 1, none⟩ = some (S W) := (H5.out.f (List.Mem.head _)).cell 1
  have bv2 : w5.cell? ⟨w2.heap.size, 2, none⟩ = some (S P) := (H5.out.f (List.Mem.head _)).cell 2
  have bvl : w2.heap.size < w5.heap.size := (H5.out.f (List.Mem.head _)).lt
  go_wp2_with fail
  have ALL1 : Hid (∀ w' : World, HeldL w [(w5.heap.size, #[S I, S F, .int .i64 K]), (w2.heap.size, #[.bool false, S W, S P])] w' → w'.cell? ⟨w2.heap.size, 0, none⟩ = some (.bool false) ∧ w'.cell? ⟨w2.heap.size, 1, none⟩ = some (S W) ∧ w'.cell? ⟨w2.heap.size, 2, none⟩ = some (S P) ∧ w'.cell? ⟨w5.heap.size, 0, none⟩ = some (S I) ∧ w'.cell? ⟨w5.heap.size, 1, none⟩ = some (S F) ∧ w'.cell? ⟨w5.heap.size, 2, none⟩ = some (.int .i64 K) ∧ HeldL w [(w5.heap.size, #[S I, S F, .int .i64 K]), (w2.heap.size, #[.bool false, S W, S P])] w') := Lib.hid (fun w' h => ⟨(h.f (List.Mem.tail _ (List.Mem.head _))).cell 0, (h.f (List.Mem.tail _ (List.Mem.head _))).cell 1, (h.f (List.Mem.tail _ (List.Mem.head _))).cell 2, (h.f (List.Mem.head _)).cell 0, (h.f (List.Mem.head _)).cell 1, (h.f (List.Mem.head _)).cell 2, h⟩)
  have KEEP1 : Hid (∀ w' w'' : World, (w'.cell? ⟨w2.heap.size, 0, none⟩ = some (.bool false) ∧ w'.cell? ⟨w2.heap.size, 1, none⟩ = some (S W) ∧ w'.cell? ⟨w2.heap.size, 2, none⟩ = some (S P) ∧ w'.cell? ⟨w5.heap.size, 0, none⟩ = some (S I) ∧ w'.cell? ⟨w5.heap.size, 1, none⟩ = some (S F) ∧ w'.cell? ⟨w5.heap.size, 2, none⟩ = some (.int .i64 K) ∧ HeldL w [(w5.heap.size, #[S I, S F, .int .i64 K]), (w2.heap.size, #[.bool false, S W, S P])] w') → Below w'.heap.size w' w'' → (w''.cell? ⟨w2.heap.size, 0, none⟩ = some (.bool false) ∧ w''.cell? ⟨w2.heap.size, 1, none⟩ = some (S W) ∧ w''.cell? ⟨w2.heap.size, 2, none⟩ = some (S P) ∧ w''.cell? ⟨w5.heap.size, 0, none⟩ = some (S I) ∧ w''.cell? ⟨w5.heap.size, 1, none⟩ = some (S F) ∧ w''.cell? ⟨w5.heap.size, 2, none⟩ = some (.int .i64 K) ∧ HeldL w [(w5.heap.size, #[S I, S F, .int .i64 K]), (w2.heap.size, #[.bool false, S W, S P])] w'')) := Lib.hid (fun w' w'' h hb => ALL1.out _ (HeldL.keep (h.2.2.2.2.2.2) hb))
  have HS1 : Hid (HeldL w [(w5.heap.size, #[S I, S F, .int .i64 K]), (w2.heap.size, #[.bool false, S W, S P])] _) := Lib.hid (HeldL.alloc H5.out (w5.heap.size) #[S I, S F, .int .i64 K] 28 (by simp))
  refine wp_region_held_drew (S := fun w' => w'.cell? ⟨w2.heap.size, 0, none⟩ = some (.bool false) ∧ w'.cell? ⟨w2.heap.size, 1, none⟩ = some (S W) ∧ w'.cell? ⟨w2.heap.size, 2, none⟩ = some (S P) ∧ w'.cell? ⟨w5.heap.size, 0, none⟩ = some (S I) ∧ w'.cell? ⟨w5.heap.size, 1, none⟩ = some (S F) ∧ w'.cell? ⟨w5.heap.size, 2, none⟩ = some (.int .i64 K) ∧ HeldL w [(w5.heap.size, #[S I, S F, .int .i64 K]), (w2.heap.size, #[.bool false, S W, S P])] w') (by kernel_rfl) (ALL1.out _ (HeldL.drew HS1.out)) (fun hHeld => ?_)
  refine wpAnyH_take (i := 0) (oi := { dst := some 94, op := Go.Op.move (Go.Operand.tmp 16), type := 37, pos := "law.go:108", after := #[], guard := none }) (v := ?_) rfl (by kernel_rfl) (by kernel_rfl) (by kernel_rfl) (fun _ _ _ h => h) (Or.inl ⟨by rfl, ?_⟩) hHeld ?_
  case refine_2 => (intro w hSw; (try dsimp only at hSw); go_simp <;> with_reducible rfl)
  try simp only [Act.put, List.setIfInBounds_toArray, List.set_cons_zero, List.set_cons_succ]
  refine wpAnyH_take (i := 1) (oi := { dst := some 95, op := Go.Op.binOp Go.BinOp.eql 37 (Go.Operand.tmp 94) (Go.Operand.const (Go.Value.int Go.IntKind.i64 0)) 37, type := 4, pos := "law.go:108", after := #[{ on := 0, ground := Go.Ground.data }], guard := none }) (v := ?_) rfl (by kernel_rfl) (by kernel_rfl) (by kernel_rfl) (fun _ _ _ h => h) (Or.inl ⟨by rfl, ?_⟩) hHeld ?_
  case refine_2 => (intro w hSw; (try dsimp only at hSw); go_simp <;> with_reducible rfl)
  try simp only [Act.put, List.setIfInBounds_toArray, List.set_cons_zero, List.set_cons_succ]
  refine wpAnyH_take (i := 2) (oi := { dst := some 96, op := Go.Op.move (Go.Operand.tmp 95), type := 4, pos := "law.go:108", after := #[{ on := 1, ground := Go.Ground.data }], guard := none }) (v := ?_) rfl (by kernel_rfl) (by kernel_rfl) (by kernel_rfl) (fun _ _ _ h => h) (Or.inl ⟨by rfl, ?_⟩) hHeld ?_
  case refine_2 => (intro w hSw; (try dsimp only at hSw); go_simp <;> with_reducible rfl)
  try simp only [Act.put, List.setIfInBounds_toArray, List.set_cons_zero, List.set_cons_succ]
  refine wpAnyH_take (i := 3) (oi := { dst := some 97, op := Go.Op.load 28 (Go.Operand.tmp 15), type := 28, pos := "law.go:108", after := #[{ on := 2, ground := Go.Ground.guard }], guard := some (2, true) }) (v := ?_) rfl (by kernel_rfl) (by kernel_rfl) (by kernel_rfl) (fun _ _ _ h => h) (Or.inl ⟨by rfl, ?_⟩) hHeld ?_
  case refine_2 => (intro w hSw; (try dsimp only at hSw); go_simp <;> with_reducible rfl)
  try simp only [Act.put, List.setIfInBounds_toArray, List.set_cons_zero, List.set_cons_succ]
  refine wpAnyH_take (i := 4) (oi := { dst := some 98, op := Go.Op.load 25 (Go.Operand.tmp 11), type := 25, pos := "law.go:108", after := #[{ on := 2, ground := Go.Ground.guard }], guard := some (2, true) }) (v := ?_) rfl (by kernel_rfl) (by kernel_rfl) (by kernel_rfl) (fun _ _ _ h => h) (Or.inl ⟨by rfl, ?_⟩) hHeld ?_
  case refine_2 => (intro w hSw; (try dsimp only at hSw); go_simp <;> with_reducible rfl)
  try simp only [Act.put, List.setIfInBounds_toArray, List.set_cons_zero, List.set_cons_succ]
  refine wpAnyH_take (i := 5) (oi := { dst := some 99, op := Go.Op.move (Go.Operand.tmp 3), type := 3, pos := "law.go:108", after := #[{ on := 2, ground := Go.Ground.guard }], guard := some (2, true) }) (v := ?_) rfl (by kernel_rfl) (by kernel_rfl) (by kernel_rfl) (fun _ _ _ h => h) (Or.inl ⟨by rfl, ?_⟩) hHeld ?_
  case refine_2 => (intro w hSw; (try dsimp only at hSw); go_simp <;> with_reducible rfl)
  try simp only [Act.put, List.setIfInBounds_toArray, List.set_cons_zero, List.set_cons_succ]
  refine wpAnyH_take (i := 6) (oi := { dst := some 100, op := Go.Op.call { callee := Go.Callee.builtin Go.Builtin.max, args := #[Go.Operand.tmp 99, Go.Operand.const (Go.Value.int Go.IntKind.i64 0)], argTypes := #[3, 3] }, type := 3, pos := "law.go:108", after := #[{ on := 5, ground := Go.Ground.data }, { on := 2, ground := Go.Ground.guard }], guard := some (2, true) }) (v := ?_) rfl (by kernel_rfl) (by kernel_rfl) (by kernel_rfl) (fun _ _ _ h => h) (Or.inl ⟨by rfl, ?_⟩) hHeld ?_
  case refine_2 => (intro w hSw; (try dsimp only at hSw); go_simp <;> with_reducible rfl)
  try simp only [Act.put, List.setIfInBounds_toArray, List.set_cons_zero, List.set_cons_succ]
  refine wpAnyH_ready (rs := [7]) (by kernel_rfl) (by simp) ?_
  refine AllReadyH.cons (o := { dst := some 101, op := Go.Op.call { callee := Go.Callee.value (Go.Operand.func 7), args := #[Go.Operand.tmp 98, Go.Operand.tmp 100], argTypes := #[25, 3] }, type := 28, pos := "law.go:108", after := #[{ on := 4, ground := Go.Ground.data }, { on := 6, ground := Go.Ground.data }, { on := 2, ground := Go.Ground.chain }, { on := 2, ground := Go.Ground.guard }], guard := some (2, true) }) rfl (fun KK hK => ?_) AllReadyH.nil
  go_simp
  with_reducible refine (of_as ⟨false, W, P⟩ (max e 0) _ (by show W.length ≤ 900000; omega) (by show (P : List UInt8).length ≤ 900000; omega) ⟨I, F, K⟩ HO.out).mono ?_
  rintro x wA ⟨rfl, hb⟩
  go_wp2_with fail
  refine hK.out _ _ (KEEP1.out _ _ hHeld hb) (fun hHeld2 => ?_)
  clear hK hHeld hb
  have hHeld := hHeld2
  clear hHeld2
  try simp only [Act.put, List.setIfInBounds_toArray, List.set_cons_zero, List.set_cons_succ]
  refine wpAnyH_take (i := 8) (oi := { dst := some 102, op := Go.Op.binOp Go.BinOp.eql 28 (Go.Operand.tmp 97) (Go.Operand.tmp 101) 28, type := 4, pos := "law.go:108", after := #[{ on := 3, ground := Go.Ground.data }, { on := 7, ground := Go.Ground.data }, { on := 2, ground := Go.Ground.guard }], guard := some (2, true) }) (v := ?_) rfl (by kernel_rfl) (by kernel_rfl) (by kernel_rfl) (fun _ _ _ h => h) (Or.inl ⟨by rfl, ?_⟩) hHeld ?_
  case refine_2 => (intro w hSw; (try dsimp only at hSw); go_simp <;> with_reducible rfl)
  try simp only [Act.put, List.setIfInBounds_toArray, List.set_cons_zero, List.set_cons_succ]
  refine wpAnyH_take (i := 9) (oi := { dst := some 103, op := Go.Op.pick (Go.Operand.tmp 96) (Go.Operand.tmp 102) (Go.Operand.const (Go.Value.bool false)), type := 4, pos := "law.go:108", after := #[{ on := 2, ground := Go.Ground.data }, { on := 8, ground := Go.Ground.data }], guard := none }) (v := ?_) rfl (by kernel_rfl) (by kernel_rfl) (by kernel_rfl) (fun _ _ _ h => h) (Or.inl ⟨by rfl, ?_⟩) hHeld ?_
  case refine_2 => (intro w hSw; (try dsimp only at hSw); go_simp <;> with_reducible rfl)
  try simp only [Act.put, List.setIfInBounds_toArray, List.set_cons_zero, List.set_cons_succ]
  refine wpAnyH_take (i := 10) (oi := { dst := some 10, op := Go.Op.assign (Go.Operand.tmp 103), type := 4, pos := "law.go:108", after := #[{ on := 9, ground := Go.Ground.data }, { on := 7, ground := Go.Ground.chain }, { on := 0, ground := Go.Ground.phase }, { on := 1, ground := Go.Ground.phase }, { on := 2, ground := Go.Ground.phase }, { on := 3, ground := Go.Ground.phase }, { on := 4, ground := Go.Ground.phase }, { on := 5, ground := Go.Ground.phase }, { on := 6, ground := Go.Ground.phase }, { on := 7, ground := Go.Ground.phase }, { on := 8, ground := Go.Ground.phase }, { on := 9, ground := Go.Ground.phase }], guard := none }) (v := ?_) rfl (by kernel_rfl) (by kernel_rfl) (by kernel_rfl) (fun _ _ _ h => h) (Or.inl ⟨by rfl, ?_⟩) hHeld ?_
  case refine_2 => (intro w hSw; (try dsimp only at hSw); go_simp <;> with_reducible rfl)
  try simp only [Act.put, List.setIfInBounds_toArray, List.set_cons_zero, List.set_cons_succ]
  refine wpAnyH_done (by kernel_rfl) ?_ _
  clear bv0 bv1 bv2 bvl
  have H6 : Hid (HeldL w [(w5.heap.size, #[S I, S F, .int .i64 K]), (w2.heap.size, #[.bool false, S W, S P])] wA) := Lib.hid (hHeld.2.2.2.2.2.2)
  clear hHeld ALL1 KEEP1 HS1 H5
  go_wp2
  go_ret
  exact ⟨rfl, H6.out.bel⟩

set_option maxRecDepth 100000 in
set_option maxHeartbeats 3200000 in
theorem reads_pc0_len (a : Option Addr) (len cap : Nat) (L : List UInt8) (a1 : Option Addr) (len1 cap1 : Nat) (L1 : List UInt8) (e : Int) (w : World) (hin : InB w a len cap L) (hin1 : InB w a1 len1 cap1 L1) (W : List UInt8) (hW : dgs L = W) (wl : W.length ≤ 1100) (w0 : W ≠ []) (h1 : len ≤ 1100) (h10 : ¬ len = 0) (h2 : len1 ≤ 1100) (h3 : e ≤ 11000) (h20 : ¬ len1 = 0) (P : List UInt8) (hP : dgs L1 = P) (pl : P.length ≤ 1100) (T0 T1 : List UInt8) (hT0 : W ++ [46] = T0) (hT1 : T0 ++ P = T1) (h4 : e = 0) (T2 T3 : List UInt8) (hT2 : T1 ++ [99] = T2) (hT3 : T2 ++ [48] = T3) (h5 : 1000 < W.length + P.length) (hr : readO T3 = ⟨[], [], 0⟩) (he : errO T3 = 2) (ht : Tab w) :
    Calls Tryd.prog 4 #[.slice a len cap, .slice a1 len1 cap1, .bool true, .int .i64 e, .bool false] w fun x w' => x = .returned (.bool true) ∧ Below w.heap.size w w' := by
  have T0l : T0.length = W.length + 1 := by rw [← hT0]; simp
  have T1l : T1.length = W.length + 1 + P.length := by rw [← hT1, List.length_append, T0l]
  have SA0 : (⟨W.toArray⟩ : ByteArray) ++ (⟨#[46]⟩ : ByteArray) = ⟨T0.toArray⟩ := by rw [← hT0]; exact arr_append W [46]
  have SA1 : (⟨T0.toArray⟩ : ByteArray) ++ (⟨P.toArray⟩ : ByteArray) = ⟨T1.toArray⟩ := by rw [← hT1]; exact arr_append T0 P
  have cc0 : ¬ 9223372036854775807 < W.length + 1 := by omega
  have cc1 : ¬ 9223372036854775807 < T0.length + P.length := by omega
  have T1x : T1.length ≤ 2300 := by omega
  clear hT0 hT1 T1l
  have T2l : T2.length = T1.length + 1 := by rw [← hT2]; simp
  have T3l : T3.length = T1.length + 1 + 1 := by rw [← hT3, List.length_append, T2l]; rfl
  have SA2 : (⟨T1.toArray⟩ : ByteArray) ++ (⟨#[99]⟩ : ByteArray) = ⟨T2.toArray⟩ := by rw [← hT2]; exact arr_append T1 [99]
  have SA3 : (⟨T2.toArray⟩ : ByteArray) ++ (⟨#[48]⟩ : ByteArray) = ⟨T3.toArray⟩ := by rw [← hT3]; exact arr_append T2 [48]
  have cc2 : ¬ 9223372036854775807 < T1.length + 1 := by omega
  have cc3 : ¬ 9223372036854775807 < T2.length + 1 := by omega
  have T3x : T3.length ≤ 3000 := by omega
  clear hT2 hT3 T3l
  have h5i : (1000 : Int) < (W.length : Int) + (P.length : Int) := by omega
  have bb1 : decide ((1100 : Int) < (len : Int)) = false := decide_eq_false (by omega)
  have bb2 : decide ((1100 : Int) < (len1 : Int)) = false := decide_eq_false (by omega)
  have bb3 : ((len : Int) == 0) = false := by simp; omega
  have bb4 : ((len1 : Int) == 0) = false := by simp; omega
  have bb6 : decide ((1000 : Int) < (W.length : Int) + (P.length : Int)) = true := decide_eq_true (by omega)
  have HIN := Lib.hid hin
  have HIN1 := Lib.hid hin1
  have HW := Lib.hid hW
  have HR := Lib.hid hr
  have HE := Lib.hid he
  have HT := Lib.hid ht
  have HP := Lib.hid hP
  clear hin hin1 hW hr he ht hP
  subst h4
  go_enter Tryd.func4, Tryd.ntmps4
  go_wp2_with fail
  with_reducible refine (head5 _).mono ?_
  rintro x w1 ⟨rfl, hb⟩
  have H1 : Hid (HeldL w [] w1) := Lib.hid (HeldL.keep (HeldL.refl w) hb)
  clear hb
  go_wp2_with fail
  with_reducible refine (digits_is a len cap L _ (HIN.out.below H1.out.bel) (by omega) W HW.out).mono ?_
  rintro x w2 ⟨rfl, hb⟩
  have H2 : Hid (HeldL w [] w2) := Lib.hid (HeldL.keep H1.out hb)
  clear H1
  clear hb
  go_wp2_with fail
  with_reducible refine (digits_is a1 len1 cap1 L1 _ (HIN1.out.below (HeldL.alloc H2.out (w2.heap.size) #[.bool false, S W, .string ⟨#[]⟩] 25 (by simp)).bel) (by omega) P HP.out).mono ?_
  rintro x w3 ⟨rfl, hb⟩
  have H3 : Hid (HeldL w [(w2.heap.size, #[.bool false, S W, .string ⟨#[]⟩])] w3) := Lib.hid (HeldL.keep (HeldL.alloc H2.out (w2.heap.size) #[.bool false, S W, .string ⟨#[]⟩] 25 (by simp)) hb)
  clear H2
  clear hb
  have bv0 : w3.cell? ⟨w2.heap.size, 0, none⟩ = some (.bool false) := (H3.out.f (List.Mem.head _)).cell 0
  have bvz0 : w3.frozen? ⟨w2.heap.size, 0, none⟩ = false := (H3.out.f (List.Mem.head _)).frozen 0
  have bv1 : w3.cell? ⟨w2.heap.size, 1, none⟩ = some (S W) := (H3.out.f (List.Mem.head _)).cell 1
  have bvz1 : w3.frozen? ⟨w2.heap.size, 1, none⟩ = false := (H3.out.f (List.Mem.head _)).frozen 1
  have bv2 : w3.cell? ⟨w2.heap.size, 2, none⟩ = some (.string ⟨#[]⟩) := (H3.out.f (List.Mem.head _)).cell 2
  have bvz2 : w3.frozen? ⟨w2.heap.size, 2, none⟩ = false := (H3.out.f (List.Mem.head _)).frozen 2
  have bvl : w2.heap.size < w3.heap.size := (H3.out.f (List.Mem.head _)).lt
  go_wp2_with fail
  clear bv0 bvz0 bv1 bvz1 bv2 bvz2 bvl
  have H4 : Hid (HeldL w [(w2.heap.size, #[.bool false, S W, S P])] (w3.setCell ⟨w2.heap.size, 2, none⟩ (S P))) := Lib.hid (HeldL.set1 (L1 := []) (L2 := []) H3.out 2 (S P))
  generalize (w3.setCell ⟨w2.heap.size, 2, none⟩ (S P)) = w4 at *
  clear H3
  with_reducible refine (ofE_d _ 0 (by omega) (HT.out.below H4.out.bel) [] dz0_d).mono ?_
  rintro x w5 ⟨rfl, hb⟩
  have H5 : Hid (HeldL w [(w2.heap.size, #[.bool false, S W, S P])] w5) := Lib.hid (HeldL.keep H4.out hb)
  clear H4
  clear hb
  go_wp2_with fail
  with_reducible refine (read_as ⟨T3.toArray⟩ _ (by rw [arr_size]; omega) ⟨[], [], 0⟩ 2 (by rw [arr_list]; exact HR.out) (by rw [arr_list]; exact HE.out)).mono ?_
  rintro x w6 ⟨rfl, hb⟩
  have H6 : Hid (HeldL w [(w2.heap.size, #[.bool false, S W, S P])] w6) := Lib.hid (HeldL.keep H5.out hb)
  clear H5
  clear hb
  have bv0 : w6.cell? ⟨w2.heap.size, 0, none⟩ = some (.bool false) := (H6.out.f (List.Mem.head _)).cell 0
  have bv1 : w6.cell? ⟨w2.heap.size, 1, none⟩ = some (S W) := (H6.out.f (List.Mem.head _)).cell 1
  have bv2 : w6.cell? ⟨w2.heap.size, 2, none⟩ = some (S P) := (H6.out.f (List.Mem.head _)).cell 2
  have bvl : w2.heap.size < w6.heap.size := (H6.out.f (List.Mem.head _)).lt
  go_wp2
  go_ret
  exact ⟨rfl, (HeldL.alloc H6.out (w6.heap.size) #[.string ⟨#[]⟩, .string ⟨#[]⟩, .int .i64 0] 28 (by simp)).bel⟩

set_option maxRecDepth 100000 in
set_option maxHeartbeats 3200000 in
theorem reads_pc0_ok (a : Option Addr) (len cap : Nat) (L : List UInt8) (a1 : Option Addr) (len1 cap1 : Nat) (L1 : List UInt8) (e : Int) (w : World) (hin : InB w a len cap L) (hin1 : InB w a1 len1 cap1 L1) (W : List UInt8) (hW : dgs L = W) (wl : W.length ≤ 1100) (w0 : W ≠ []) (h1 : len ≤ 1100) (h10 : ¬ len = 0) (h2 : len1 ≤ 1100) (h3 : e ≤ 11000) (h20 : ¬ len1 = 0) (P : List UInt8) (hP : dgs L1 = P) (pl : P.length ≤ 1100) (T0 T1 : List UInt8) (hT0 : W ++ [46] = T0) (hT1 : T0 ++ P = T1) (h4 : e = 0) (T2 T3 : List UInt8) (hT2 : T1 ++ [99] = T2) (hT3 : T2 ++ [48] = T3) (h5 : ¬ 1000 < W.length + P.length) (h6 : e ≤ 10000) (I F : List UInt8) (K : Int) (hr : readO T3 = ⟨I, F, K⟩) (he : errO T3 = 0) (ho : ofP ⟨false, W, P⟩ (0) = ⟨I, F, K⟩) (ht : Tab w) :
    Calls Tryd.prog 4 #[.slice a len cap, .slice a1 len1 cap1, .bool true, .int .i64 e, .bool false] w fun x w' => x = .returned (.bool true) ∧ Below w.heap.size w w' := by
  have T0l : T0.length = W.length + 1 := by rw [← hT0]; simp
  have T1l : T1.length = W.length + 1 + P.length := by rw [← hT1, List.length_append, T0l]
  have SA0 : (⟨W.toArray⟩ : ByteArray) ++ (⟨#[46]⟩ : ByteArray) = ⟨T0.toArray⟩ := by rw [← hT0]; exact arr_append W [46]
  have SA1 : (⟨T0.toArray⟩ : ByteArray) ++ (⟨P.toArray⟩ : ByteArray) = ⟨T1.toArray⟩ := by rw [← hT1]; exact arr_append T0 P
  have cc0 : ¬ 9223372036854775807 < W.length + 1 := by omega
  have cc1 : ¬ 9223372036854775807 < T0.length + P.length := by omega
  have T1x : T1.length ≤ 2300 := by omega
  clear hT0 hT1 T1l
  have T2l : T2.length = T1.length + 1 := by rw [← hT2]; simp
  have T3l : T3.length = T1.length + 1 + 1 := by rw [← hT3, List.length_append, T2l]; rfl
  have SA2 : (⟨T1.toArray⟩ : ByteArray) ++ (⟨#[99]⟩ : ByteArray) = ⟨T2.toArray⟩ := by rw [← hT2]; exact arr_append T1 [99]
  have SA3 : (⟨T2.toArray⟩ : ByteArray) ++ (⟨#[48]⟩ : ByteArray) = ⟨T3.toArray⟩ := by rw [← hT3]; exact arr_append T2 [48]
  have cc2 : ¬ 9223372036854775807 < T1.length + 1 := by omega
  have cc3 : ¬ 9223372036854775807 < T2.length + 1 := by omega
  have T3x : T3.length ≤ 3000 := by omega
  clear hT2 hT3 T3l
  have h5i : ¬ (1000 : Int) < (W.length : Int) + (P.length : Int) := by omega
  have bb1 : decide ((1100 : Int) < (len : Int)) = false := decide_eq_false (by omega)
  have bb2 : decide ((1100 : Int) < (len1 : Int)) = false := decide_eq_false (by omega)
  have bb3 : ((len : Int) == 0) = false := by simp; omega
  have bb4 : ((len1 : Int) == 0) = false := by simp; omega
  have bb6 : decide ((1000 : Int) < (W.length : Int) + (P.length : Int)) = false := decide_eq_false (by omega)
  have HIN := Lib.hid hin
  have HIN1 := Lib.hid hin1
  have HW := Lib.hid hW
  have HR := Lib.hid hr
  have HE := Lib.hid he
  have HT := Lib.hid ht
  have HP := Lib.hid hP
  have HO := Lib.hid ho
  clear hin hin1 hW hr he ht hP ho
  subst h4
  go_enter Tryd.func4, Tryd.ntmps4
  go_wp2_with fail
  with_reducible refine (head5 _).mono ?_
  rintro x w1 ⟨rfl, hb⟩
  have H1 : Hid (HeldL w [] w1) := Lib.hid (HeldL.keep (HeldL.refl w) hb)
  clear hb
  go_wp2_with fail
  with_reducible refine (digits_is a len cap L _ (HIN.out.below H1.out.bel) (by omega) W HW.out).mono ?_
  rintro x w2 ⟨rfl, hb⟩
  have H2 : Hid (HeldL w [] w2) := Lib.hid (HeldL.keep H1.out hb)
  clear H1
  clear hb
  go_wp2_with fail
  with_reducible refine (digits_is a1 len1 cap1 L1 _ (HIN1.out.below (HeldL.alloc H2.out (w2.heap.size) #[.bool false, S W, .string ⟨#[]⟩] 25 (by simp)).bel) (by omega) P HP.out).mono ?_
  rintro x w3 ⟨rfl, hb⟩
  have H3 : Hid (HeldL w [(w2.heap.size, #[.bool false, S W, .string ⟨#[]⟩])] w3) := Lib.hid (HeldL.keep (HeldL.alloc H2.out (w2.heap.size) #[.bool false, S W, .string ⟨#[]⟩] 25 (by simp)) hb)
  clear H2
  clear hb
  have bv0 : w3.cell? ⟨w2.heap.size, 0, none⟩ = some (.bool false) := (H3.out.f (List.Mem.head _)).cell 0
  have bvz0 : w3.frozen? ⟨w2.heap.size, 0, none⟩ = false := (H3.out.f (List.Mem.head _)).frozen 0
  have bv1 : w3.cell? ⟨w2.heap.size, 1, none⟩ = some (S W) := (H3.out.f (List.Mem.head _)).cell 1
  have bvz1 : w3.frozen? ⟨w2.heap.size, 1, none⟩ = false := (H3.out.f (List.Mem.head _)).frozen 1
  have bv2 : w3.cell? ⟨w2.heap.size, 2, none⟩ = some (.string ⟨#[]⟩) := (H3.out.f (List.Mem.head _)).cell 2
  have bvz2 : w3.frozen? ⟨w2.heap.size, 2, none⟩ = false := (H3.out.f (List.Mem.head _)).frozen 2
  have bvl : w2.heap.size < w3.heap.size := (H3.out.f (List.Mem.head _)).lt
  go_wp2_with fail
  clear bv0 bvz0 bv1 bvz1 bv2 bvz2 bvl
  have H4 : Hid (HeldL w [(w2.heap.size, #[.bool false, S W, S P])] (w3.setCell ⟨w2.heap.size, 2, none⟩ (S P))) := Lib.hid (HeldL.set1 (L1 := []) (L2 := []) H3.out 2 (S P))
  generalize (w3.setCell ⟨w2.heap.size, 2, none⟩ (S P)) = w4 at *
  clear H3
  with_reducible refine (ofE_d _ 0 (by omega) (HT.out.below H4.out.bel) [] dz0_d).mono ?_
  rintro x w5 ⟨rfl, hb⟩
  have H5 : Hid (HeldL w [(w2.heap.size, #[.bool false, S W, S P])] w5) := Lib.hid (HeldL.keep H4.out hb)
  clear H4
  clear hb
  go_wp2_with fail
  with_reducible refine (read_as ⟨T3.toArray⟩ _ (by rw [arr_size]; omega) ⟨I, F, K⟩ 0 (by rw [arr_list]; exact HR.out) (by rw [arr_list]; exact HE.out)).mono ?_
  rintro x w6 ⟨rfl, hb⟩
  have H6 : Hid (HeldL w [(w2.heap.size, #[.bool false, S W, S P])] w6) := Lib.hid (HeldL.keep H5.out hb)
  clear H5
  clear hb
  have bv0 : w6.cell? ⟨w2.heap.size, 0, none⟩ = some (.bool false) := (H6.out.f (List.Mem.head _)).cell 0
  have bv1 : w6.cell? ⟨w2.heap.size, 1, none⟩ = some (S W) := (H6.out.f (List.Mem.head _)).cell 1
  have bv2 : w6.cell? ⟨w2.heap.size, 2, none⟩ = some (S P) := (H6.out.f (List.Mem.head _)).cell 2
  have bvl : w2.heap.size < w6.heap.size := (H6.out.f (List.Mem.head _)).lt
  go_wp2_with fail
  have ALL1 : Hid (∀ w' : World, HeldL w [(w6.heap.size, #[S I, S F, .int .i64 K]), (w2.heap.size, #[.bool false, S W, S P])] w' → w'.cell? ⟨w2.heap.size, 0, none⟩ = some (.bool false) ∧ w'.cell? ⟨w2.heap.size, 1, none⟩ = some (S W) ∧ w'.cell? ⟨w2.heap.size, 2, none⟩ = some (S P) ∧ w'.cell? ⟨w6.heap.size, 0, none⟩ = some (S I) ∧ w'.cell? ⟨w6.heap.size, 1, none⟩ = some (S F) ∧ w'.cell? ⟨w6.heap.size, 2, none⟩ = some (.int .i64 K) ∧ HeldL w [(w6.heap.size, #[S I, S F, .int .i64 K]), (w2.heap.size, #[.bool false, S W, S P])] w') := Lib.hid (fun w' h => ⟨(h.f (List.Mem.tail _ (List.Mem.head _))).cell 0, (h.f (List.Mem.tail _ (List.Mem.head _))).cell 1, (h.f (List.Mem.tail _ (List.Mem.head _))).cell 2, (h.f (List.Mem.head _)).cell 0, (h.f (List.Mem.head _)).cell 1, (h.f (List.Mem.head _)).cell 2, h⟩)
  have KEEP1 : Hid (∀ w' w'' : World, (w'.cell? ⟨w2.heap.size, 0, none⟩ = some (.bool false) ∧ w'.cell? ⟨w2.heap.size, 1, none⟩ = some (S W) ∧ w'.cell? ⟨w2.heap.size, 2, none⟩ = some (S P) ∧ w'.cell? ⟨w6.heap.size, 0, none⟩ = some (S I) ∧ w'.cell? ⟨w6.heap.size, 1, none⟩ = some (S F) ∧ w'.cell? ⟨w6.heap.size, 2, none⟩ = some (.int .i64 K) ∧ HeldL w [(w6.heap.size, #[S I, S F, .int .i64 K]), (w2.heap.size, #[.bool false, S W, S P])] w') → Below w'.heap.size w' w'' → (w''.cell? ⟨w2.heap.size, 0, none⟩ = some (.bool false) ∧ w''.cell? ⟨w2.heap.size, 1, none⟩ = some (S W) ∧ w''.cell? ⟨w2.heap.size, 2, none⟩ = some (S P) ∧ w''.cell? ⟨w6.heap.size, 0, none⟩ = some (S I) ∧ w''.cell? ⟨w6.heap.size, 1, none⟩ = some (S F) ∧ w''.cell? ⟨w6.heap.size, 2, none⟩ = some (.int .i64 K) ∧ HeldL w [(w6.heap.size, #[S I, S F, .int .i64 K]), (w2.heap.size, #[.bool false, S W, S P])] w'')) := Lib.hid (fun w' w'' h hb => ALL1.out _ (HeldL.keep (h.2.2.2.2.2.2) hb))
  have HS1 : Hid (HeldL w [(w6.heap.size, #[S I, S F, .int .i64 K]), (w2.heap.size, #[.bool false, S W, S P])] _) := Lib.hid (HeldL.alloc H6.out (w6.heap.size) #[S I, S F, .int .i64 K] 28 (by simp))
  refine wp_region_held_drew (S := fun w' => w'.cell? ⟨w2.heap.size, 0, none⟩ = some (.bool false) ∧ w'.cell? ⟨w2.heap.size, 1, none⟩ = some (S W) ∧ w'.cell? ⟨w2.heap.size, 2, none⟩ = some (S P) ∧ w'.cell? ⟨w6.heap.size, 0, none⟩ = some (S I) ∧ w'.cell? ⟨w6.heap.size, 1, none⟩ = some (S F) ∧ w'.cell? ⟨w6.heap.size, 2, none⟩ = some (.int .i64 K) ∧ HeldL w [(w6.heap.size, #[S I, S F, .int .i64 K]), (w2.heap.size, #[.bool false, S W, S P])] w') (by kernel_rfl) (ALL1.out _ (HeldL.drew HS1.out)) (fun hHeld => ?_)
  refine wpAnyH_take (i := 0) (oi := { dst := some 94, op := Go.Op.move (Go.Operand.tmp 16), type := 37, pos := "law.go:108", after := #[], guard := none }) (v := ?_) rfl (by kernel_rfl) (by kernel_rfl) (by kernel_rfl) (fun _ _ _ h => h) (Or.inl ⟨by rfl, ?_⟩) hHeld ?_
  case refine_2 => (intro w hSw; (try dsimp only at hSw); go_simp <;> with_reducible rfl)
  try simp only [Act.put, List.setIfInBounds_toArray, List.set_cons_zero, List.set_cons_succ]
  refine wpAnyH_take (i := 1) (oi := { dst := some 95, op := Go.Op.binOp Go.BinOp.eql 37 (Go.Operand.tmp 94) (Go.Operand.const (Go.Value.int Go.IntKind.i64 0)) 37, type := 4, pos := "law.go:108", after := #[{ on := 0, ground := Go.Ground.data }], guard := none }) (v := ?_) rfl (by kernel_rfl) (by kernel_rfl) (by kernel_rfl) (fun _ _ _ h => h) (Or.inl ⟨by rfl, ?_⟩) hHeld ?_
  case refine_2 => (intro w hSw; (try dsimp only at hSw); go_simp <;> with_reducible rfl)
  try simp only [Act.put, List.setIfInBounds_toArray, List.set_cons_zero, List.set_cons_succ]
  refine wpAnyH_take (i := 2) (oi := { dst := some 96, op := Go.Op.move (Go.Operand.tmp 95), type := 4, pos := "law.go:108", after := #[{ on := 1, ground := Go.Ground.data }], guard := none }) (v := ?_) rfl (by kernel_rfl) (by kernel_rfl) (by kernel_rfl) (fun _ _ _ h => h) (Or.inl ⟨by rfl, ?_⟩) hHeld ?_
  case refine_2 => (intro w hSw; (try dsimp only at hSw); go_simp <;> with_reducible rfl)
  try simp only [Act.put, List.setIfInBounds_toArray, List.set_cons_zero, List.set_cons_succ]
  refine wpAnyH_take (i := 3) (oi := { dst := some 97, op := Go.Op.load 28 (Go.Operand.tmp 15), type := 28, pos := "law.go:108", after := #[{ on := 2, ground := Go.Ground.guard }], guard := some (2, true) }) (v := ?_) rfl (by kernel_rfl) (by kernel_rfl) (by kernel_rfl) (fun _ _ _ h => h) (Or.inl ⟨by rfl, ?_⟩) hHeld ?_
  case refine_2 => (intro w hSw; (try dsimp only at hSw); go_simp <;> with_reducible rfl)
  try simp only [Act.put, List.setIfInBounds_toArray, List.set_cons_zero, List.set_cons_succ]
  refine wpAnyH_take (i := 4) (oi := { dst := some 98, op := Go.Op.load 25 (Go.Operand.tmp 11), type := 25, pos := "law.go:108", after := #[{ on := 2, ground := Go.Ground.guard }], guard := some (2, true) }) (v := ?_) rfl (by kernel_rfl) (by kernel_rfl) (by kernel_rfl) (fun _ _ _ h => h) (Or.inl ⟨by rfl, ?_⟩) hHeld ?_
  case refine_2 => (intro w hSw; (try dsimp only at hSw); go_simp <;> with_reducible rfl)
  try simp only [Act.put, List.setIfInBounds_toArray, List.set_cons_zero, List.set_cons_succ]
  refine wpAnyH_take (i := 5) (oi := { dst := some 99, op := Go.Op.move (Go.Operand.tmp 3), type := 3, pos := "law.go:108", after := #[{ on := 2, ground := Go.Ground.guard }], guard := some (2, true) }) (v := ?_) rfl (by kernel_rfl) (by kernel_rfl) (by kernel_rfl) (fun _ _ _ h => h) (Or.inl ⟨by rfl, ?_⟩) hHeld ?_
  case refine_2 => (intro w hSw; (try dsimp only at hSw); go_simp <;> with_reducible rfl)
  try simp only [Act.put, List.setIfInBounds_toArray, List.set_cons_zero, List.set_cons_succ]
  refine wpAnyH_take (i := 6) (oi := { dst := some 100, op := Go.Op.call { callee := Go.Callee.builtin Go.Builtin.max, args := #[Go.Operand.tmp 99, Go.Operand.const (Go.Value.int Go.IntKind.i64 0)], argTypes := #[3, 3] }, type := 3, pos := "law.go:108", after := #[{ on := 5, ground := Go.Ground.data }, { on := 2, ground := Go.Ground.guard }], guard := some (2, true) }) (v := ?_) rfl (by kernel_rfl) (by kernel_rfl) (by kernel_rfl) (fun _ _ _ h => h) (Or.inl ⟨by rfl, ?_⟩) hHeld ?_
  case refine_2 => (intro w hSw; (try dsimp only at hSw); go_simp <;> with_reducible rfl)
  try simp only [Act.put, List.setIfInBounds_toArray, List.set_cons_zero, List.set_cons_succ]
  refine wpAnyH_ready (rs := [7]) (by kernel_rfl) (by simp) ?_
  refine AllReadyH.cons (o := { dst := some 101, op := Go.Op.call { callee := Go.Callee.value (Go.Operand.func 7), args := #[Go.Operand.tmp 98, Go.Operand.tmp 100], argTypes := #[25, 3] }, type := 28, pos := "law.go:108", after := #[{ on := 4, ground := Go.Ground.data }, { on := 6, ground := Go.Ground.data }, { on := 2, ground := Go.Ground.chain }, { on := 2, ground := Go.Ground.guard }], guard := some (2, true) }) rfl (fun KK hK => ?_) AllReadyH.nil
  go_simp
  with_reducible refine (of_as ⟨false, W, P⟩ (0) _ (by show W.length ≤ 900000; omega) (by show (P : List UInt8).length ≤ 900000; omega) ⟨I, F, K⟩ HO.out).mono ?_
  rintro x wA ⟨rfl, hb⟩
  go_wp2_with fail
  refine hK.out _ _ (KEEP1.out _ _ hHeld hb) (fun hHeld2 => ?_)
  clear hK hHeld hb
  have hHeld := hHeld2
  clear hHeld2
  try simp only [Act.put, List.setIfInBounds_toArray, List.set_cons_zero, List.set_cons_succ]
  refine wpAnyH_take (i := 8) (oi := { dst := some 102, op := Go.Op.binOp Go.BinOp.eql 28 (Go.Operand.tmp 97) (Go.Operand.tmp 101) 28, type := 4, pos := "law.go:108", after := #[{ on := 3, ground := Go.Ground.data }, { on := 7, ground := Go.Ground.data }, { on := 2, ground := Go.Ground.guard }], guard := some (2, true) }) (v := ?_) rfl (by kernel_rfl) (by kernel_rfl) (by kernel_rfl) (fun _ _ _ h => h) (Or.inl ⟨by rfl, ?_⟩) hHeld ?_
  case refine_2 => (intro w hSw; (try dsimp only at hSw); go_simp <;> with_reducible rfl)
  try simp only [Act.put, List.setIfInBounds_toArray, List.set_cons_zero, List.set_cons_succ]
  refine wpAnyH_take (i := 9) (oi := { dst := some 103, op := Go.Op.pick (Go.Operand.tmp 96) (Go.Operand.tmp 102) (Go.Operand.const (Go.Value.bool false)), type := 4, pos := "law.go:108", after := #[{ on := 2, ground := Go.Ground.data }, { on := 8, ground := Go.Ground.data }], guard := none }) (v := ?_) rfl (by kernel_rfl) (by kernel_rfl) (by kernel_rfl) (fun _ _ _ h => h) (Or.inl ⟨by rfl, ?_⟩) hHeld ?_
  case refine_2 => (intro w hSw; (try dsimp only at hSw); go_simp <;> with_reducible rfl)
  try simp only [Act.put, List.setIfInBounds_toArray, List.set_cons_zero, List.set_cons_succ]
  refine wpAnyH_take (i := 10) (oi := { dst := some 10, op := Go.Op.assign (Go.Operand.tmp 103), type := 4, pos := "law.go:108", after := #[{ on := 9, ground := Go.Ground.data }, { on := 7, ground := Go.Ground.chain }, { on := 0, ground := Go.Ground.phase }, { on := 1, ground := Go.Ground.phase }, { on := 2, ground := Go.Ground.phase }, { on := 3, ground := Go.Ground.phase }, { on := 4, ground := Go.Ground.phase }, { on := 5, ground := Go.Ground.phase }, { on := 6, ground := Go.Ground.phase }, { on := 7, ground := Go.Ground.phase }, { on := 8, ground := Go.Ground.phase }, { on := 9, ground := Go.Ground.phase }], guard := none }) (v := ?_) rfl (by kernel_rfl) (by kernel_rfl) (by kernel_rfl) (fun _ _ _ h => h) (Or.inl ⟨by rfl, ?_⟩) hHeld ?_
  case refine_2 => (intro w hSw; (try dsimp only at hSw); go_simp <;> with_reducible rfl)
  try simp only [Act.put, List.setIfInBounds_toArray, List.set_cons_zero, List.set_cons_succ]
  refine wpAnyH_done (by kernel_rfl) ?_ _
  clear bv0 bv1 bv2 bvl
  have H7 : Hid (HeldL w [(w6.heap.size, #[S I, S F, .int .i64 K]), (w2.heap.size, #[.bool false, S W, S P])] wA) := Lib.hid (hHeld.2.2.2.2.2.2)
  clear hHeld ALL1 KEEP1 HS1 H6
  go_wp2
  go_ret
  exact ⟨rfl, H7.out.bel⟩

end Go.Proofs.YtjobccgpejbchaaDoor

namespace Go.Proofs.YtjobccgpejbchaaDoor
open Go.RowKit Florin
set_option linter.unusedVariables false
set_option linter.unusedSimpArgs false
attribute [local go_sem ↓] Go.wp_at_zero Go.wp_at_succ eq_OL

private theorem dz0_e : dig (Int.toNat 0) = [] := dig_zero
private theorem ofE_e (w : World) (n : Int) (h1 : n ≤ 9223372036854775807) (ht : Tab w) (q : List UInt8) (hq : dig n.toNat = q) :
    Calls Tryd.prog 17 #[.int .i64 n] w fun e w' => e = .returned (S q) ∧ Below w.heap.size w w' := by
  subst hq; exact of_any n w h1 ht
set_option maxRecDepth 100000 in
set_option maxHeartbeats 3200000 in
theorem reads_pe0_len (a : Option Addr) (len cap : Nat) (L : List UInt8) (a1 : Option Addr) (len1 cap1 : Nat) (L1 : List UInt8) (e : Int) (w : World) (hin : InB w a len cap L) (hin1 : InB w a1 len1 cap1 L1) (W : List UInt8) (hW : dgs L = W) (wl : W.length ≤ 1100) (w0 : W ≠ []) (h1 : len ≤ 1100) (h10 : ¬ len = 0) (h2 : len1 ≤ 1100) (h3 : e ≤ 11000) (h20 : ¬ len1 = 0) (P : List UInt8) (hP : dgs L1 = P) (pl : P.length ≤ 1100) (T0 T1 : List UInt8) (hT0 : W ++ [46] = T0) (hT1 : T0 ++ P = T1) (h4 : e = 0) (T2 T3 : List UInt8) (hT2 : T1 ++ [101] = T2) (hT3 : T2 ++ [48] = T3) (h5 : 1000 < W.length + P.length) (hr : readO T3 = ⟨[], [], 0⟩) (he : errO T3 = 2) (ht : Tab w) :
    Calls Tryd.prog 4 #[.slice a len cap, .slice a1 len1 cap1, .bool true, .int .i64 e, .bool true] w fun x w' => x = .returned (.bool true) ∧ Below w.heap.size w w' := by
  have T0l : T0.length = W.length + 1 := by rw [← hT0]; simp
  have T1l : T1.length = W.length + 1 + P.length := by rw [← hT1, List.length_append, T0l]
  have SA0 : (⟨W.toArray⟩ : ByteArray) ++ (⟨#[46]⟩ : ByteArray) = ⟨T0.toArray⟩ := by rw [← hT0]; exact arr_append W [46]
  have SA1 : (⟨T0.toArray⟩ : ByteArray) ++ (⟨P.toArray⟩ : ByteArray) = ⟨T1.toArray⟩ := by rw [← hT1]; exact arr_append T0 P
  have cc0 : ¬ 9223372036854775807 < W.length + 1 := by omega
  have cc1 : ¬ 9223372036854775807 < T0.length + P.length := by omega
  have T1x : T1.length ≤ 2300 := by omega
  clear hT0 hT1 T1l
  have T2l : T2.length = T1.length + 1 := by rw [← hT2]; simp
  have T3l : T3.length = T1.length + 1 + 1 := by rw [← hT3, List.length_append, T2l]; rfl
  have SA2 : (⟨T1.toArray⟩ : ByteArray) ++ (⟨#[101]⟩ : ByteArray) = ⟨T2.toArray⟩ := by rw [← hT2]; exact arr_append T1 [101]
  have SA3 : (⟨T2.toArray⟩ : ByteArray) ++ (⟨#[48]⟩ : ByteArray) = ⟨T3.toArray⟩ := by rw [← hT3]; exact arr_append T2 [48]
  have cc2 : ¬ 9223372036854775807 < T1.length + 1 := by omega
  have cc3 : ¬ 9223372036854775807 < T2.length + 1 := by omega
  have T3x : T3.length ≤ 3000 := by omega
  clear hT2 hT3 T3l
  have h5i : (1000 : Int) < (W.length : Int) + (P.length : Int) := by omega
  have bb1 : decide ((1100 : Int) < (len : Int)) = false := decide_eq_false (by omega)
  have bb2 : decide ((1100 : Int) < (len1 : Int)) = false := decide_eq_false (by omega)
  have bb3 : ((len : Int) == 0) = false := by simp; omega
  have bb4 : ((len1 : Int) == 0) = false := by simp; omega
  have bb6 : decide ((1000 : Int) < (W.length : Int) + (P.length : Int)) = true := decide_eq_true (by omega)
  have HIN := Lib.hid hin
  have HIN1 := Lib.hid hin1
  have HW := Lib.hid hW
  have HR := Lib.hid hr
  have HE := Lib.hid he
  have HT := Lib.hid ht
  have HP := Lib.hid hP
  clear hin hin1 hW hr he ht hP
  subst h4
  go_enter Tryd.func4, Tryd.ntmps4
  go_wp2_with fail
  with_reducible refine (head5 _).mono ?_
  rintro x w1 ⟨rfl, hb⟩
  have H1 : Hid (HeldL w [] w1) := Lib.hid (HeldL.keep (HeldL.refl w) hb)
  clear hb
  go_wp2_with fail
  with_reducible refine (digits_is a len cap L _ (HIN.out.below H1.out.bel) (by omega) W HW.out).mono ?_
  rintro x w2 ⟨rfl, hb⟩
  have H2 : Hid (HeldL w [] w2) := Lib.hid (HeldL.keep H1.out hb)
  clear H1
  clear hb
  go_wp2_with fail
  with_reducible refine (digits_is a1 len1 cap1 L1 _ (HIN1.out.below (HeldL.alloc H2.out (w2.heap.size) #[.bool false, S W, .string ⟨#[]⟩] 25 (by simp)).bel) (by omega) P HP.out).mono ?_
  rintro x w3 ⟨rfl, hb⟩
  have H3 : Hid (HeldL w [(w2.heap.size, #[.bool false, S W, .string ⟨#[]⟩])] w3) := Lib.hid (HeldL.keep (HeldL.alloc H2.out (w2.heap.size) #[.bool false, S W, .string ⟨#[]⟩] 25 (by simp)) hb)
  clear H2
  clear hb
  have bv0 : w3.cell? ⟨w2.heap.size, 0, none⟩ = some (.bool false) := (H3.out.f (List.Mem.head _)).cell 0
  have bvz0 : w3.frozen? ⟨w2.heap.size, 0, none⟩ = false := (H3.out.f (List.Mem.head _)).frozen 0
  have bv1 : w3.cell? ⟨w2.heap.size, 1, none⟩ = some (S W) := (H3.out.f (List.Mem.head _)).cell 1
  have bvz1 : w3.frozen? ⟨w2.heap.size, 1, none⟩ = false := (H3.out.f (List.Mem.head _)).frozen 1
  have bv2 : w3.cell? ⟨w2.heap.size, 2, none⟩ = some (.string ⟨#[]⟩) := (H3.out.f (List.Mem.head _)).cell 2
  have bvz2 : w3.frozen? ⟨w2.heap.size, 2, none⟩ = false := (H3.out.f (List.Mem.head _)).frozen 2
  have bvl : w2.heap.size < w3.heap.size := (H3.out.f (List.Mem.head _)).lt
  go_wp2_with fail
  clear bv0 bvz0 bv1 bvz1 bv2 bvz2 bvl
  have H4 : Hid (HeldL w [(w2.heap.size, #[.bool false, S W, S P])] (w3.setCell ⟨w2.heap.size, 2, none⟩ (S P))) := Lib.hid (HeldL.set1 (L1 := []) (L2 := []) H3.out 2 (S P))
  generalize (w3.setCell ⟨w2.heap.size, 2, none⟩ (S P)) = w4 at *
  clear H3
  with_reducible refine (ofE_e _ 0 (by omega) (HT.out.below H4.out.bel) [] dz0_e).mono ?_
  rintro x w5 ⟨rfl, hb⟩
  have H5 : Hid (HeldL w [(w2.heap.size, #[.bool false, S W, S P])] w5) := Lib.hid (HeldL.keep H4.out hb)
  clear H4
  clear hb
  go_wp2_with fail
  with_reducible refine (read_as ⟨T3.toArray⟩ _ (by rw [arr_size]; omega) ⟨[], [], 0⟩ 2 (by rw [arr_list]; exact HR.out) (by rw [arr_list]; exact HE.out)).mono ?_
  rintro x w6 ⟨rfl, hb⟩
  have H6 : Hid (HeldL w [(w2.heap.size, #[.bool false, S W, S P])] w6) := Lib.hid (HeldL.keep H5.out hb)
  clear H5
  clear hb
  have bv0 : w6.cell? ⟨w2.heap.size, 0, none⟩ = some (.bool false) := (H6.out.f (List.Mem.head _)).cell 0
  have bv1 : w6.cell? ⟨w2.heap.size, 1, none⟩ = some (S W) := (H6.out.f (List.Mem.head _)).cell 1
  have bv2 : w6.cell? ⟨w2.heap.size, 2, none⟩ = some (S P) := (H6.out.f (List.Mem.head _)).cell 2
  have bvl : w2.heap.size < w6.heap.size := (H6.out.f (List.Mem.head _)).lt
  go_wp2
  go_ret
  exact ⟨rfl, (HeldL.alloc H6.out (w6.heap.size) #[.string ⟨#[]⟩, .string ⟨#[]⟩, .int .i64 0] 28 (by simp)).bel⟩

set_option maxRecDepth 100000 in
set_option maxHeartbeats 3200000 in
theorem reads_pe0_ok (a : Option Addr) (len cap : Nat) (L : List UInt8) (a1 : Option Addr) (len1 cap1 : Nat) (L1 : List UInt8) (e : Int) (w : World) (hin : InB w a len cap L) (hin1 : InB w a1 len1 cap1 L1) (W : List UInt8) (hW : dgs L = W) (wl : W.length ≤ 1100) (w0 : W ≠ []) (h1 : len ≤ 1100) (h10 : ¬ len = 0) (h2 : len1 ≤ 1100) (h3 : e ≤ 11000) (h20 : ¬ len1 = 0) (P : List UInt8) (hP : dgs L1 = P) (pl : P.length ≤ 1100) (T0 T1 : List UInt8) (hT0 : W ++ [46] = T0) (hT1 : T0 ++ P = T1) (h4 : e = 0) (T2 T3 : List UInt8) (hT2 : T1 ++ [101] = T2) (hT3 : T2 ++ [48] = T3) (h5 : ¬ 1000 < W.length + P.length) (h6 : e ≤ 10000) (I F : List UInt8) (K : Int) (hr : readO T3 = ⟨I, F, K⟩) (he : errO T3 = 0) (ho : ofP ⟨false, W, P⟩ (0) = ⟨I, F, K⟩) (ht : Tab w) :
    Calls Tryd.prog 4 #[.slice a len cap, .slice a1 len1 cap1, .bool true, .int .i64 e, .bool true] w fun x w' => x = .returned (.bool true) ∧ Below w.heap.size w w' := by
  have T0l : T0.length = W.length + 1 := by rw [← hT0]; simp
  have T1l : T1.length = W.length + 1 + P.length := by rw [← hT1, List.length_append, T0l]
  have SA0 : (⟨W.toArray⟩ : ByteArray) ++ (⟨#[46]⟩ : ByteArray) = ⟨T0.toArray⟩ := by rw [← hT0]; exact arr_append W [46]
  have SA1 : (⟨T0.toArray⟩ : ByteArray) ++ (⟨P.toArray⟩ : ByteArray) = ⟨T1.toArray⟩ := by rw [← hT1]; exact arr_append T0 P
  have cc0 : ¬ 9223372036854775807 < W.length + 1 := by omega
  have cc1 : ¬ 9223372036854775807 < T0.length + P.length := by omega
  have T1x : T1.length ≤ 2300 := by omega
  clear hT0 hT1 T1l
  have T2l : T2.length = T1.length + 1 := by rw [← hT2]; simp
  have T3l : T3.length = T1.length + 1 + 1 := by rw [← hT3, List.length_append, T2l]; rfl
  have SA2 : (⟨T1.toArray⟩ : ByteArray) ++ (⟨#[101]⟩ : ByteArray) = ⟨T2.toArray⟩ := by rw [← hT2]; exact arr_append T1 [101]
  have SA3 : (⟨T2.toArray⟩ : ByteArray) ++ (⟨#[48]⟩ : ByteArray) = ⟨T3.toArray⟩ := by rw [← hT3]; exact arr_append T2 [48]
  have cc2 : ¬ 9223372036854775807 < T1.length + 1 := by omega
  have cc3 : ¬ 9223372036854775807 < T2.length + 1 := by omega
  have T3x : T3.length ≤ 3000 := by omega
  clear hT2 hT3 T3l
  have h5i : ¬ (1000 : Int) < (W.length : Int) + (P.length : Int) := by omega
  have bb1 : decide ((1100 : Int) < (len : Int)) = false := decide_eq_false (by omega)
  have bb2 : decide ((1100 : Int) < (len1 : Int)) = false := decide_eq_false (by omega)
  have bb3 : ((len : Int) == 0) = false := by simp; omega
  have bb4 : ((len1 : Int) == 0) = false := by simp; omega
  have bb6 : decide ((1000 : Int) < (W.length : Int) + (P.length : Int)) = false := decide_eq_false (by omega)
  have HIN := Lib.hid hin
  have HIN1 := Lib.hid hin1
  have HW := Lib.hid hW
  have HR := Lib.hid hr
  have HE := Lib.hid he
  have HT := Lib.hid ht
  have HP := Lib.hid hP
  have HO := Lib.hid ho
  clear hin hin1 hW hr he ht hP ho
  subst h4
  go_enter Tryd.func4, Tryd.ntmps4
  go_wp2_with fail
  with_reducible refine (head5 _).mono ?_
  rintro x w1 ⟨rfl, hb⟩
  have H1 : Hid (HeldL w [] w1) := Lib.hid (HeldL.keep (HeldL.refl w) hb)
  clear hb
  go_wp2_with fail
  with_reducible refine (digits_is a len cap L _ (HIN.out.below H1.out.bel) (by omega) W HW.out).mono ?_
  rintro x w2 ⟨rfl, hb⟩
  have H2 : Hid (HeldL w [] w2) := Lib.hid (HeldL.keep H1.out hb)
  clear H1
  clear hb
  go_wp2_with fail
  with_reducible refine (digits_is a1 len1 cap1 L1 _ (HIN1.out.below (HeldL.alloc H2.out (w2.heap.size) #[.bool false, S W, .string ⟨#[]⟩] 25 (by simp)).bel) (by omega) P HP.out).mono ?_
  rintro x w3 ⟨rfl, hb⟩
  have H3 : Hid (HeldL w [(w2.heap.size, #[.bool false, S W, .string ⟨#[]⟩])] w3) := Lib.hid (HeldL.keep (HeldL.alloc H2.out (w2.heap.size) #[.bool false, S W, .string ⟨#[]⟩] 25 (by simp)) hb)
  clear H2
  clear hb
  have bv0 : w3.cell? ⟨w2.heap.size, 0, none⟩ = some (.bool false) := (H3.out.f (List.Mem.head _)).cell 0
  have bvz0 : w3.frozen? ⟨w2.heap.size, 0, none⟩ = false := (H3.out.f (List.Mem.head _)).frozen 0
  have bv1 : w3.cell? ⟨w2.heap.size, 1, none⟩ = some (S W) := (H3.out.f (List.Mem.head _)).cell 1
  have bvz1 : w3.frozen? ⟨w2.heap.size, 1, none⟩ = false := (H3.out.f (List.Mem.head _)).frozen 1
  have bv2 : w3.cell? ⟨w2.heap.size, 2, none⟩ = some (.string ⟨#[]⟩) := (H3.out.f (List.Mem.head _)).cell 2
  have bvz2 : w3.frozen? ⟨w2.heap.size, 2, none⟩ = false := (H3.out.f (List.Mem.head _)).frozen 2
  have bvl : w2.heap.size < w3.heap.size := (H3.out.f (List.Mem.head _)).lt
  go_wp2_with fail
  clear bv0 bvz0 bv1 bvz1 bv2 bvz2 bvl
  have H4 : Hid (HeldL w [(w2.heap.size, #[.bool false, S W, S P])] (w3.setCell ⟨w2.heap.size, 2, none⟩ (S P))) := Lib.hid (HeldL.set1 (L1 := []) (L2 := []) H3.out 2 (S P))
  generalize (w3.setCell ⟨w2.heap.size, 2, none⟩ (S P)) = w4 at *
  clear H3
  with_reducible refine (ofE_e _ 0 (by omega) (HT.out.below H4.out.bel) [] dz0_e).mono ?_
  rintro x w5 ⟨rfl, hb⟩
  have H5 : Hid (HeldL w [(w2.heap.size, #[.bool false, S W, S P])] w5) := Lib.hid (HeldL.keep H4.out hb)
  clear H4
  clear hb
  go_wp2_with fail
  with_reducible refine (read_as ⟨T3.toArray⟩ _ (by rw [arr_size]; omega) ⟨I, F, K⟩ 0 (by rw [arr_list]; exact HR.out) (by rw [arr_list]; exact HE.out)).mono ?_
  rintro x w6 ⟨rfl, hb⟩
  have H6 : Hid (HeldL w [(w2.heap.size, #[.bool false, S W, S P])] w6) := Lib.hid (HeldL.keep H5.out hb)
  clear H5
  clear hb
  have bv0 : w6.cell? ⟨w2.heap.size, 0, none⟩ = some (.bool false) := (H6.out.f (List.Mem.head _)).cell 0
  have bv1 : w6.cell? ⟨w2.heap.size, 1, none⟩ = some (S W) := (H6.out.f (List.Mem.head _)).cell 1
  have bv2 : w6.cell? ⟨w2.heap.size, 2, none⟩ = some (S P) := (H6.out.f (List.Mem.head _)).cell 2
  have bvl : w2.heap.size < w6.heap.size := (H6.out.f (List.Mem.head _)).lt
  go_wp2_with fail
  have ALL1 : Hid (∀ w' : World, HeldL w [(w6.heap.size, #[S I, S F, .int .i64 K]), (w2.heap.size, #[.bool false, S W, S P])] w' → w'.cell? ⟨w2.heap.size, 0, none⟩ = some (.bool false) ∧ w'.cell? ⟨w2.heap.size, 1, none⟩ = some (S W) ∧ w'.cell? ⟨w2.heap.size, 2, none⟩ = some (S P) ∧ w'.cell? ⟨w6.heap.size, 0, none⟩ = some (S I) ∧ w'.cell? ⟨w6.heap.size, 1, none⟩ = some (S F) ∧ w'.cell? ⟨w6.heap.size, 2, none⟩ = some (.int .i64 K) ∧ HeldL w [(w6.heap.size, #[S I, S F, .int .i64 K]), (w2.heap.size, #[.bool false, S W, S P])] w') := Lib.hid (fun w' h => ⟨(h.f (List.Mem.tail _ (List.Mem.head _))).cell 0, (h.f (List.Mem.tail _ (List.Mem.head _))).cell 1, (h.f (List.Mem.tail _ (List.Mem.head _))).cell 2, (h.f (List.Mem.head _)).cell 0, (h.f (List.Mem.head _)).cell 1, (h.f (List.Mem.head _)).cell 2, h⟩)
  have KEEP1 : Hid (∀ w' w'' : World, (w'.cell? ⟨w2.heap.size, 0, none⟩ = some (.bool false) ∧ w'.cell? ⟨w2.heap.size, 1, none⟩ = some (S W) ∧ w'.cell? ⟨w2.heap.size, 2, none⟩ = some (S P) ∧ w'.cell? ⟨w6.heap.size, 0, none⟩ = some (S I) ∧ w'.cell? ⟨w6.heap.size, 1, none⟩ = some (S F) ∧ w'.cell? ⟨w6.heap.size, 2, none⟩ = some (.int .i64 K) ∧ HeldL w [(w6.heap.size, #[S I, S F, .int .i64 K]), (w2.heap.size, #[.bool false, S W, S P])] w') → Below w'.heap.size w' w'' → (w''.cell? ⟨w2.heap.size, 0, none⟩ = some (.bool false) ∧ w''.cell? ⟨w2.heap.size, 1, none⟩ = some (S W) ∧ w''.cell? ⟨w2.heap.size, 2, none⟩ = some (S P) ∧ w''.cell? ⟨w6.heap.size, 0, none⟩ = some (S I) ∧ w''.cell? ⟨w6.heap.size, 1, none⟩ = some (S F) ∧ w''.cell? ⟨w6.heap.size, 2, none⟩ = some (.int .i64 K) ∧ HeldL w [(w6.heap.size, #[S I, S F, .int .i64 K]), (w2.heap.size, #[.bool false, S W, S P])] w'')) := Lib.hid (fun w' w'' h hb => ALL1.out _ (HeldL.keep (h.2.2.2.2.2.2) hb))
  have HS1 : Hid (HeldL w [(w6.heap.size, #[S I, S F, .int .i64 K]), (w2.heap.size, #[.bool false, S W, S P])] _) := Lib.hid (HeldL.alloc H6.out (w6.heap.size) #[S I, S F, .int .i64 K] 28 (by simp))
  refine wp_region_held_drew (S := fun w' => w'.cell? ⟨w2.heap.size, 0, none⟩ = some (.bool false) ∧ w'.cell? ⟨w2.heap.size, 1, none⟩ = some (S W) ∧ w'.cell? ⟨w2.heap.size, 2, none⟩ = some (S P) ∧ w'.cell? ⟨w6.heap.size, 0, none⟩ = some (S I) ∧ w'.cell? ⟨w6.heap.size, 1, none⟩ = some (S F) ∧ w'.cell? ⟨w6.heap.size, 2, none⟩ = some (.int .i64 K) ∧ HeldL w [(w6.heap.size, #[S I, S F, .int .i64 K]), (w2.heap.size, #[.bool false, S W, S P])] w') (by kernel_rfl) (ALL1.out _ (HeldL.drew HS1.out)) (fun hHeld => ?_)
  refine wpAnyH_take (i := 0) (oi := { dst := some 94, op := Go.Op.move (Go.Operand.tmp 16), type := 37, pos := "law.go:108", after := #[], guard := none }) (v := ?_) rfl (by kernel_rfl) (by kernel_rfl) (by kernel_rfl) (fun _ _ _ h => h) (Or.inl ⟨by rfl, ?_⟩) hHeld ?_
  case refine_2 => (intro w hSw; (try dsimp only at hSw); go_simp <;> with_reducible rfl)
  try simp only [Act.put, List.setIfInBounds_toArray, List.set_cons_zero, List.set_cons_succ]
  refine wpAnyH_take (i := 1) (oi := { dst := some 95, op := Go.Op.binOp Go.BinOp.eql 37 (Go.Operand.tmp 94) (Go.Operand.const (Go.Value.int Go.IntKind.i64 0)) 37, type := 4, pos := "law.go:108", after := #[{ on := 0, ground := Go.Ground.data }], guard := none }) (v := ?_) rfl (by kernel_rfl) (by kernel_rfl) (by kernel_rfl) (fun _ _ _ h => h) (Or.inl ⟨by rfl, ?_⟩) hHeld ?_
  case refine_2 => (intro w hSw; (try dsimp only at hSw); go_simp <;> with_reducible rfl)
  try simp only [Act.put, List.setIfInBounds_toArray, List.set_cons_zero, List.set_cons_succ]
  refine wpAnyH_take (i := 2) (oi := { dst := some 96, op := Go.Op.move (Go.Operand.tmp 95), type := 4, pos := "law.go:108", after := #[{ on := 1, ground := Go.Ground.data }], guard := none }) (v := ?_) rfl (by kernel_rfl) (by kernel_rfl) (by kernel_rfl) (fun _ _ _ h => h) (Or.inl ⟨by rfl, ?_⟩) hHeld ?_
  case refine_2 => (intro w hSw; (try dsimp only at hSw); go_simp <;> with_reducible rfl)
  try simp only [Act.put, List.setIfInBounds_toArray, List.set_cons_zero, List.set_cons_succ]
  refine wpAnyH_take (i := 3) (oi := { dst := some 97, op := Go.Op.load 28 (Go.Operand.tmp 15), type := 28, pos := "law.go:108", after := #[{ on := 2, ground := Go.Ground.guard }], guard := some (2, true) }) (v := ?_) rfl (by kernel_rfl) (by kernel_rfl) (by kernel_rfl) (fun _ _ _ h => h) (Or.inl ⟨by rfl, ?_⟩) hHeld ?_
  case refine_2 => (intro w hSw; (try dsimp only at hSw); go_simp <;> with_reducible rfl)
  try simp only [Act.put, List.setIfInBounds_toArray, List.set_cons_zero, List.set_cons_succ]
  refine wpAnyH_take (i := 4) (oi := { dst := some 98, op := Go.Op.load 25 (Go.Operand.tmp 11), type := 25, pos := "law.go:108", after := #[{ on := 2, ground := Go.Ground.guard }], guard := some (2, true) }) (v := ?_) rfl (by kernel_rfl) (by kernel_rfl) (by kernel_rfl) (fun _ _ _ h => h) (Or.inl ⟨by rfl, ?_⟩) hHeld ?_
  case refine_2 => (intro w hSw; (try dsimp only at hSw); go_simp <;> with_reducible rfl)
  try simp only [Act.put, List.setIfInBounds_toArray, List.set_cons_zero, List.set_cons_succ]
  refine wpAnyH_take (i := 5) (oi := { dst := some 99, op := Go.Op.move (Go.Operand.tmp 3), type := 3, pos := "law.go:108", after := #[{ on := 2, ground := Go.Ground.guard }], guard := some (2, true) }) (v := ?_) rfl (by kernel_rfl) (by kernel_rfl) (by kernel_rfl) (fun _ _ _ h => h) (Or.inl ⟨by rfl, ?_⟩) hHeld ?_
  case refine_2 => (intro w hSw; (try dsimp only at hSw); go_simp <;> with_reducible rfl)
  try simp only [Act.put, List.setIfInBounds_toArray, List.set_cons_zero, List.set_cons_succ]
  refine wpAnyH_take (i := 6) (oi := { dst := some 100, op := Go.Op.call { callee := Go.Callee.builtin Go.Builtin.max, args := #[Go.Operand.tmp 99, Go.Operand.const (Go.Value.int Go.IntKind.i64 0)], argTypes := #[3, 3] }, type := 3, pos := "law.go:108", after := #[{ on := 5, ground := Go.Ground.data }, { on := 2, ground := Go.Ground.guard }], guard := some (2, true) }) (v := ?_) rfl (by kernel_rfl) (by kernel_rfl) (by kernel_rfl) (fun _ _ _ h => h) (Or.inl ⟨by rfl, ?_⟩) hHeld ?_
  case refine_2 => (intro w hSw; (try dsimp only at hSw); go_simp <;> with_reducible rfl)
  try simp only [Act.put, List.setIfInBounds_toArray, List.set_cons_zero, List.set_cons_succ]
  refine wpAnyH_ready (rs := [7]) (by kernel_rfl) (by simp) ?_
  refine AllReadyH.cons (o := { dst := some 101, op := Go.Op.call { callee := Go.Callee.value (Go.Operand.func 7), args := #[Go.Operand.tmp 98, Go.Operand.tmp 100], argTypes := #[25, 3] }, type := 28, pos := "law.go:108", after := #[{ on := 4, ground := Go.Ground.data }, { on := 6, ground := Go.Ground.data }, { on := 2, ground := Go.Ground.chain }, { on := 2, ground := Go.Ground.guard }], guard := some (2, true) }) rfl (fun KK hK => ?_) AllReadyH.nil
  go_simp
  with_reducible refine (of_as ⟨false, W, P⟩ (0) _ (by show W.length ≤ 900000; omega) (by show (P : List UInt8).length ≤ 900000; omega) ⟨I, F, K⟩ HO.out).mono ?_
  rintro x wA ⟨rfl, hb⟩
  go_wp2_with fail
  refine hK.out _ _ (KEEP1.out _ _ hHeld hb) (fun hHeld2 => ?_)
  clear hK hHeld hb
  have hHeld := hHeld2
  clear hHeld2
  try simp only [Act.put, List.setIfInBounds_toArray, List.set_cons_zero, List.set_cons_succ]
  refine wpAnyH_take (i := 8) (oi := { dst := some 102, op := Go.Op.binOp Go.BinOp.eql 28 (Go.Operand.tmp 97) (Go.Operand.tmp 101) 28, type := 4, pos := "law.go:108", after := #[{ on := 3, ground := Go.Ground.data }, { on := 7, ground := Go.Ground.data }, { on := 2, ground := Go.Ground.guard }], guard := some (2, true) }) (v := ?_) rfl (by kernel_rfl) (by kernel_rfl) (by kernel_rfl) (fun _ _ _ h => h) (Or.inl ⟨by rfl, ?_⟩) hHeld ?_
  case refine_2 => (intro w hSw; (try dsimp only at hSw); go_simp <;> with_reducible rfl)
  try simp only [Act.put, List.setIfInBounds_toArray, List.set_cons_zero, List.set_cons_succ]
  refine wpAnyH_take (i := 9) (oi := { dst := some 103, op := Go.Op.pick (Go.Operand.tmp 96) (Go.Operand.tmp 102) (Go.Operand.const (Go.Value.bool false)), type := 4, pos := "law.go:108", after := #[{ on := 2, ground := Go.Ground.data }, { on := 8, ground := Go.Ground.data }], guard := none }) (v := ?_) rfl (by kernel_rfl) (by kernel_rfl) (by kernel_rfl) (fun _ _ _ h => h) (Or.inl ⟨by rfl, ?_⟩) hHeld ?_
  case refine_2 => (intro w hSw; (try dsimp only at hSw); go_simp <;> with_reducible rfl)
  try simp only [Act.put, List.setIfInBounds_toArray, List.set_cons_zero, List.set_cons_succ]
  refine wpAnyH_take (i := 10) (oi := { dst := some 10, op := Go.Op.assign (Go.Operand.tmp 103), type := 4, pos := "law.go:108", after := #[{ on := 9, ground := Go.Ground.data }, { on := 7, ground := Go.Ground.chain }, { on := 0, ground := Go.Ground.phase }, { on := 1, ground := Go.Ground.phase }, { on := 2, ground := Go.Ground.phase }, { on := 3, ground := Go.Ground.phase }, { on := 4, ground := Go.Ground.phase }, { on := 5, ground := Go.Ground.phase }, { on := 6, ground := Go.Ground.phase }, { on := 7, ground := Go.Ground.phase }, { on := 8, ground := Go.Ground.phase }, { on := 9, ground := Go.Ground.phase }], guard := none }) (v := ?_) rfl (by kernel_rfl) (by kernel_rfl) (by kernel_rfl) (fun _ _ _ h => h) (Or.inl ⟨by rfl, ?_⟩) hHeld ?_
  case refine_2 => (intro w hSw; (try dsimp only at hSw); go_simp <;> with_reducible rfl)
  try simp only [Act.put, List.setIfInBounds_toArray, List.set_cons_zero, List.set_cons_succ]
  refine wpAnyH_done (by kernel_rfl) ?_ _
  clear bv0 bv1 bv2 bvl
  have H7 : Hid (HeldL w [(w6.heap.size, #[S I, S F, .int .i64 K]), (w2.heap.size, #[.bool false, S W, S P])] wA) := Lib.hid (hHeld.2.2.2.2.2.2)
  clear hHeld ALL1 KEEP1 HS1 H6
  go_wp2
  go_ret
  exact ⟨rfl, H7.out.bel⟩

set_option maxRecDepth 100000 in
set_option maxHeartbeats 3200000 in
theorem reads_pc1_len (a : Option Addr) (len cap : Nat) (L : List UInt8) (a1 : Option Addr) (len1 cap1 : Nat) (L1 : List UInt8) (e : Int) (w : World) (hin : InB w a len cap L) (hin1 : InB w a1 len1 cap1 L1) (W : List UInt8) (hW : dgs L = W) (wl : W.length ≤ 1100) (w0 : W ≠ []) (h1 : len ≤ 1100) (h10 : ¬ len = 0) (h2 : len1 ≤ 1100) (h3 : e ≤ 11000) (h20 : ¬ len1 = 0) (P : List UInt8) (hP : dgs L1 = P) (pl : P.length ≤ 1100) (T0 T1 : List UInt8) (hT0 : W ++ [46] = T0) (hT1 : T0 ++ P = T1) (h4 : 0 < e) (Q : List UInt8) (hQ : dig e.toNat = Q) (ql : Q.length ≤ 30) (q0 : Q ≠ []) (T2 T3 : List UInt8) (hT2 : T1 ++ [99] = T2) (hT3 : T2 ++ Q = T3) (h5 : 1000 < W.length + P.length) (hr : readO T3 = ⟨[], [], 0⟩) (he : errO T3 = 2) (ht : Tab w) :
    Calls Tryd.prog 4 #[.slice a len cap, .slice a1 len1 cap1, .bool true, .int .i64 e, .bool false] w fun x w' => x = .returned (.bool true) ∧ Below w.heap.size w w' := by
  have T0l : T0.length = W.length + 1 := by rw [← hT0]; simp
  have T1l : T1.length = W.length + 1 + P.length := by rw [← hT1, List.length_append, T0l]
  have SA0 : (⟨W.toArray⟩ : ByteArray) ++ (⟨#[46]⟩ : ByteArray) = ⟨T0.toArray⟩ := by rw [← hT0]; exact arr_append W [46]
  have SA1 : (⟨T0.toArray⟩ : ByteArray) ++ (⟨P.toArray⟩ : ByteArray) = ⟨T1.toArray⟩ := by rw [← hT1]; exact arr_append T0 P
  have cc0 : ¬ 9223372036854775807 < W.length + 1 := by omega
  have cc1 : ¬ 9223372036854775807 < T0.length + P.length := by omega
  have T1x : T1.length ≤ 2300 := by omega
  clear hT0 hT1 T1l
  have qe := empty_of (ne_empty q0)
  have qe2 := ne_empty q0
  have T2l : T2.length = T1.length + 1 := by rw [← hT2]; simp
  have T3l : T3.length = T1.length + 1 + Q.length := by rw [← hT3, List.length_append, T2l]
  have SA2 : (⟨T1.toArray⟩ : ByteArray) ++ (⟨#[99]⟩ : ByteArray) = ⟨T2.toArray⟩ := by rw [← hT2]; exact arr_append T1 [99]
  have SA3 : (⟨T2.toArray⟩ : ByteArray) ++ (⟨Q.toArray⟩ : ByteArray) = ⟨T3.toArray⟩ := by rw [← hT3]; exact arr_append T2 Q
  have cc2 : ¬ 9223372036854775807 < T1.length + 1 := by omega
  have cc3 : ¬ 9223372036854775807 < T2.length + Q.length := by omega
  have T3x : T3.length ≤ 3000 := by omega
  clear hT2 hT3 T3l
  have h5i : (1000 : Int) < (W.length : Int) + (P.length : Int) := by omega
  have bb1 : decide ((1100 : Int) < (len : Int)) = false := decide_eq_false (by omega)
  have bb2 : decide ((1100 : Int) < (len1 : Int)) = false := decide_eq_false (by omega)
  have bb3 : ((len : Int) == 0) = false := by simp; omega
  have bb4 : ((len1 : Int) == 0) = false := by simp; omega
  have bb5 : decide ((11000 : Int) < e) = false := decide_eq_false (by omega)
  have bb6 : decide ((1000 : Int) < (W.length : Int) + (P.length : Int)) = true := decide_eq_true (by omega)
  have HIN := Lib.hid hin
  have HIN1 := Lib.hid hin1
  have HW := Lib.hid hW
  have HR := Lib.hid hr
  have HE := Lib.hid he
  have HT := Lib.hid ht
  have HP := Lib.hid hP
  have HQ := Lib.hid hQ
  clear hin hin1 hW hr he ht hP hQ
  have h4g : (0 : Int) ≤ e := by omega
  go_enter Tryd.func4, Tryd.ntmps4
  go_wp2_with fail
  with_reducible refine (head5 _).mono ?_
  rintro x w1 ⟨rfl, hb⟩
  have H1 : Hid (HeldL w [] w1) := Lib.hid (HeldL.keep (HeldL.refl w) hb)
  clear hb
  go_wp2_with fail
  with_reducible refine (digits_is a len cap L _ (HIN.out.below H1.out.bel) (by omega) W HW.out).mono ?_
  rintro x w2 ⟨rfl, hb⟩
  have H2 : Hid (HeldL w [] w2) := Lib.hid (HeldL.keep H1.out hb)
  clear H1
  clear hb
  go_wp2_with fail
  with_reducible refine (digits_is a1 len1 cap1 L1 _ (HIN1.out.below (HeldL.alloc H2.out (w2.heap.size) #[.bool false, S W, .string ⟨#[]⟩] 25 (by simp)).bel) (by omega) P HP.out).mono ?_
  rintro x w3 ⟨rfl, hb⟩
  have H3 : Hid (HeldL w [(w2.heap.size, #[.bool false, S W, .string ⟨#[]⟩])] w3) := Lib.hid (HeldL.keep (HeldL.alloc H2.out (w2.heap.size) #[.bool false, S W, .string ⟨#[]⟩] 25 (by simp)) hb)
  clear H2
  clear hb
  have bv0 : w3.cell? ⟨w2.heap.size, 0, none⟩ = some (.bool false) := (H3.out.f (List.Mem.head _)).cell 0
  have bvz0 : w3.frozen? ⟨w2.heap.size, 0, none⟩ = false := (H3.out.f (List.Mem.head _)).frozen 0
  have bv1 : w3.cell? ⟨w2.heap.size, 1, none⟩ = some (S W) := (H3.out.f (List.Mem.head _)).cell 1
  have bvz1 : w3.frozen? ⟨w2.heap.size, 1, none⟩ = false := (H3.out.f (List.Mem.head _)).frozen 1
  have bv2 : w3.cell? ⟨w2.heap.size, 2, none⟩ = some (.string ⟨#[]⟩) := (H3.out.f (List.Mem.head _)).cell 2
  have bvz2 : w3.frozen? ⟨w2.heap.size, 2, none⟩ = false := (H3.out.f (List.Mem.head _)).frozen 2
  have bvl : w2.heap.size < w3.heap.size := (H3.out.f (List.Mem.head _)).lt
  go_wp2_with fail
  clear bv0 bvz0 bv1 bvz1 bv2 bvz2 bvl
  have H4 : Hid (HeldL w [(w2.heap.size, #[.bool false, S W, S P])] (w3.setCell ⟨w2.heap.size, 2, none⟩ (S P))) := Lib.hid (HeldL.set1 (L1 := []) (L2 := []) H3.out 2 (S P))
  generalize (w3.setCell ⟨w2.heap.size, 2, none⟩ (S P)) = w4 at *
  clear H3
  with_reducible refine (ofE_e _ e (by omega) (HT.out.below H4.out.bel) Q HQ.out).mono ?_
  rintro x w5 ⟨rfl, hb⟩
  have H5 : Hid (HeldL w [(w2.heap.size, #[.bool false, S W, S P])] w5) := Lib.hid (HeldL.keep H4.out hb)
  clear H4
  clear hb
  go_wp2_with fail
  with_reducible refine (read_as ⟨T3.toArray⟩ _ (by rw [arr_size]; omega) ⟨[], [], 0⟩ 2 (by rw [arr_list]; exact HR.out) (by rw [arr_list]; exact HE.out)).mono ?_
  rintro x w6 ⟨rfl, hb⟩
  have H6 : Hid (HeldL w [(w2.heap.size, #[.bool false, S W, S P])] w6) := Lib.hid (HeldL.keep H5.out hb)
  clear H5
  clear hb
  have bv0 : w6.cell? ⟨w2.heap.size, 0, none⟩ = some (.bool false) := (H6.out.f (List.Mem.head _)).cell 0
  have bv1 : w6.cell? ⟨w2.heap.size, 1, none⟩ = some (S W) := (H6.out.f (List.Mem.head _)).cell 1
  have bv2 : w6.cell? ⟨w2.heap.size, 2, none⟩ = some (S P) := (H6.out.f (List.Mem.head _)).cell 2
  have bvl : w2.heap.size < w6.heap.size := (H6.out.f (List.Mem.head _)).lt
  go_wp2
  go_ret
  exact ⟨rfl, (HeldL.alloc H6.out (w6.heap.size) #[.string ⟨#[]⟩, .string ⟨#[]⟩, .int .i64 0] 28 (by simp)).bel⟩

set_option maxRecDepth 100000 in
set_option maxHeartbeats 3200000 in
theorem reads_pc1_pow (a : Option Addr) (len cap : Nat) (L : List UInt8) (a1 : Option Addr) (len1 cap1 : Nat) (L1 : List UInt8) (e : Int) (w : World) (hin : InB w a len cap L) (hin1 : InB w a1 len1 cap1 L1) (W : List UInt8) (hW : dgs L = W) (wl : W.length ≤ 1100) (w0 : W ≠ []) (h1 : len ≤ 1100) (h10 : ¬ len = 0) (h2 : len1 ≤ 1100) (h3 : e ≤ 11000) (h20 : ¬ len1 = 0) (P : List UInt8) (hP : dgs L1 = P) (pl : P.length ≤ 1100) (T0 T1 : List UInt8) (hT0 : W ++ [46] = T0) (hT1 : T0 ++ P = T1) (h4 : 0 < e) (Q : List UInt8) (hQ : dig e.toNat = Q) (ql : Q.length ≤ 30) (q0 : Q ≠ []) (T2 T3 : List UInt8) (hT2 : T1 ++ [99] = T2) (hT3 : T2 ++ Q = T3) (h5 : ¬ 1000 < W.length + P.length) (h6 : 10000 < e) (hr : readO T3 = ⟨[], [], 0⟩) (he : errO T3 = 2) (ht : Tab w) :
    Calls Tryd.prog 4 #[.slice a len cap, .slice a1 len1 cap1, .bool true, .int .i64 e, .bool false] w fun x w' => x = .returned (.bool true) ∧ Below w.heap.size w w' := by
  have T0l : T0.length = W.length + 1 := by rw [← hT0]; simp
  have T1l : T1.length = W.length + 1 + P.length := by rw [← hT1, List.length_append, T0l]
  have SA0 : (⟨W.toArray⟩ : ByteArray) ++ (⟨#[46]⟩ : ByteArray) = ⟨T0.toArray⟩ := by rw [← hT0]; exact arr_append W [46]
  have SA1 : (⟨T0.toArray⟩ : ByteArray) ++ (⟨P.toArray⟩ : ByteArray) = ⟨T1.toArray⟩ := by rw [← hT1]; exact arr_append T0 P
  have cc0 : ¬ 9223372036854775807 < W.length + 1 := by omega
  have cc1 : ¬ 9223372036854775807 < T0.length + P.length := by omega
  have T1x : T1.length ≤ 2300 := by omega
  clear hT0 hT1 T1l
  have qe := empty_of (ne_empty q0)
  have qe2 := ne_empty q0
  have T2l : T2.length = T1.length + 1 := by rw [← hT2]; simp
  have T3l : T3.length = T1.length + 1 + Q.length := by rw [← hT3, List.length_append, T2l]
  have SA2 : (⟨T1.toArray⟩ : ByteArray) ++ (⟨#[99]⟩ : ByteArray) = ⟨T2.toArray⟩ := by rw [← hT2]; exact arr_append T1 [99]
  have SA3 : (⟨T2.toArray⟩ : ByteArray) ++ (⟨Q.toArray⟩ : ByteArray) = ⟨T3.toArray⟩ := by rw [← hT3]; exact arr_append T2 Q
  have cc2 : ¬ 9223372036854775807 < T1.length + 1 := by omega
  have cc3 : ¬ 9223372036854775807 < T2.length + Q.length := by omega
  have T3x : T3.length ≤ 3000 := by omega
  clear hT2 hT3 T3l
  have h5i : ¬ (1000 : Int) < (W.length : Int) + (P.length : Int) := by omega
  have bb1 : decide ((1100 : Int) < (len : Int)) = false := decide_eq_false (by omega)
  have bb2 : decide ((1100 : Int) < (len1 : Int)) = false := decide_eq_false (by omega)
  have bb3 : ((len : Int) == 0) = false := by simp; omega
  have bb4 : ((len1 : Int) == 0) = false := by simp; omega
  have bb5 : decide ((11000 : Int) < e) = false := decide_eq_false (by omega)
  have bb7 : decide ((10000 : Int) < e) = true := decide_eq_true (by omega)
  have bb6 : decide ((1000 : Int) < (W.length : Int) + (P.length : Int)) = false := decide_eq_false (by omega)
  have HIN := Lib.hid hin
  have HIN1 := Lib.hid hin1
  have HW := Lib.hid hW
  have HR := Lib.hid hr
  have HE := Lib.hid he
  have HT := Lib.hid ht
  have HP := Lib.hid hP
  have HQ := Lib.hid hQ
  clear hin hin1 hW hr he ht hP hQ
  have h4g : (0 : Int) ≤ e := by omega
  go_enter Tryd.func4, Tryd.ntmps4
  go_wp2_with fail
  with_reducible refine (head5 _).mono ?_
  rintro x w1 ⟨rfl, hb⟩
  have H1 : Hid (HeldL w [] w1) := Lib.hid (HeldL.keep (HeldL.refl w) hb)
  clear hb
  go_wp2_with fail
  with_reducible refine (digits_is a len cap L _ (HIN.out.below H1.out.bel) (by omega) W HW.out).mono ?_
  rintro x w2 ⟨rfl, hb⟩
  have H2 : Hid (HeldL w [] w2) := Lib.hid (HeldL.keep H1.out hb)
  clear H1
  clear hb
  go_wp2_with fail
  with_reducible refine (digits_is a1 len1 cap1 L1 _ (HIN1.out.below (HeldL.alloc H2.out (w2.heap.size) #[.bool false, S W, .string ⟨#[]⟩] 25 (by simp)).bel) (by omega) P HP.out).mono ?_
  rintro x w3 ⟨rfl, hb⟩
  have H3 : Hid (HeldL w [(w2.heap.size, #[.bool false, S W, .string ⟨#[]⟩])] w3) := Lib.hid (HeldL.keep (HeldL.alloc H2.out (w2.heap.size) #[.bool false, S W, .string ⟨#[]⟩] 25 (by simp)) hb)
  clear H2
  clear hb
  have bv0 : w3.cell? ⟨w2.heap.size, 0, none⟩ = some (.bool false) := (H3.out.f (List.Mem.head _)).cell 0
  have bvz0 : w3.frozen? ⟨w2.heap.size, 0, none⟩ = false := (H3.out.f (List.Mem.head _)).frozen 0
  have bv1 : w3.cell? ⟨w2.heap.size, 1, none⟩ = some (S W) := (H3.out.f (List.Mem.head _)).cell 1
  have bvz1 : w3.frozen? ⟨w2.heap.size, 1, none⟩ = false := (H3.out.f (List.Mem.head _)).frozen 1
  have bv2 : w3.cell? ⟨w2.heap.size, 2, none⟩ = some (.string ⟨#[]⟩) := (H3.out.f (List.Mem.head _)).cell 2
  have bvz2 : w3.frozen? ⟨w2.heap.size, 2, none⟩ = false := (H3.out.f (List.Mem.head _)).frozen 2
  have bvl : w2.heap.size < w3.heap.size := (H3.out.f (List.Mem.head _)).lt
  go_wp2_with fail
  clear bv0 bvz0 bv1 bvz1 bv2 bvz2 bvl
  have H4 : Hid (HeldL w [(w2.heap.size, #[.bool false, S W, S P])] (w3.setCell ⟨w2.heap.size, 2, none⟩ (S P))) := Lib.hid (HeldL.set1 (L1 := []) (L2 := []) H3.out 2 (S P))
  generalize (w3.setCell ⟨w2.heap.size, 2, none⟩ (S P)) = w4 at *
  clear H3
  with_reducible refine (ofE_e _ e (by omega) (HT.out.below H4.out.bel) Q HQ.out).mono ?_
  rintro x w5 ⟨rfl, hb⟩
  have H5 : Hid (HeldL w [(w2.heap.size, #[.bool false, S W, S P])] w5) := Lib.hid (HeldL.keep H4.out hb)
  clear H4
  clear hb
  go_wp2_with fail
  with_reducible refine (read_as ⟨T3.toArray⟩ _ (by rw [arr_size]; omega) ⟨[], [], 0⟩ 2 (by rw [arr_list]; exact HR.out) (by rw [arr_list]; exact HE.out)).mono ?_
  rintro x w6 ⟨rfl, hb⟩
  have H6 : Hid (HeldL w [(w2.heap.size, #[.bool false, S W, S P])] w6) := Lib.hid (HeldL.keep H5.out hb)
  clear H5
  clear hb
  have bv0 : w6.cell? ⟨w2.heap.size, 0, none⟩ = some (.bool false) := (H6.out.f (List.Mem.head _)).cell 0
  have bv1 : w6.cell? ⟨w2.heap.size, 1, none⟩ = some (S W) := (H6.out.f (List.Mem.head _)).cell 1
  have bv2 : w6.cell? ⟨w2.heap.size, 2, none⟩ = some (S P) := (H6.out.f (List.Mem.head _)).cell 2
  have bvl : w2.heap.size < w6.heap.size := (H6.out.f (List.Mem.head _)).lt
  go_wp2
  go_ret
  exact ⟨rfl, (HeldL.alloc H6.out (w6.heap.size) #[.string ⟨#[]⟩, .string ⟨#[]⟩, .int .i64 0] 28 (by simp)).bel⟩

set_option maxRecDepth 100000 in
set_option maxHeartbeats 3200000 in
theorem reads_pc1_ok (a : Option Addr) (len cap : Nat) (L : List UInt8) (a1 : Option Addr) (len1 cap1 : Nat) (L1 : List UInt8) (e : Int) (w : World) (hin : InB w a len cap L) (hin1 : InB w a1 len1 cap1 L1) (W : List UInt8) (hW : dgs L = W) (wl : W.length ≤ 1100) (w0 : W ≠ []) (h1 : len ≤ 1100) (h10 : ¬ len = 0) (h2 : len1 ≤ 1100) (h3 : e ≤ 11000) (h20 : ¬ len1 = 0) (P : List UInt8) (hP : dgs L1 = P) (pl : P.length ≤ 1100) (T0 T1 : List UInt8) (hT0 : W ++ [46] = T0) (hT1 : T0 ++ P = T1) (h4 : 0 < e) (Q : List UInt8) (hQ : dig e.toNat = Q) (ql : Q.length ≤ 30) (q0 : Q ≠ []) (T2 T3 : List UInt8) (hT2 : T1 ++ [99] = T2) (hT3 : T2 ++ Q = T3) (h5 : ¬ 1000 < W.length + P.length) (h6 : e ≤ 10000) (I F : List UInt8) (K : Int) (hr : readO T3 = ⟨I, F, K⟩) (he : errO T3 = 0) (ho : ofP ⟨false, W, P⟩ (max e 0) = ⟨I, F, K⟩) (ht : Tab w) :
    Calls Tryd.prog 4 #[.slice a len cap, .slice a1 len1 cap1, .bool true, .int .i64 e, .bool false] w fun x w' => x = .returned (.bool true) ∧ Below w.heap.size w w' := by
  have T0l : T0.length = W.length + 1 := by rw [← hT0]; simp
  have T1l : T1.length = W.length + 1 + P.length := by rw [← hT1, List.length_append, T0l]
  have SA0 : (⟨W.toArray⟩ : ByteArray) ++ (⟨#[46]⟩ : ByteArray) = ⟨T0.toArray⟩ := by rw [← hT0]; exact arr_append W [46]
  have SA1 : (⟨T0.toArray⟩ : ByteArray) ++ (⟨P.toArray⟩ : ByteArray) = ⟨T1.toArray⟩ := by rw [← hT1]; exact arr_append T0 P
  have cc0 : ¬ 9223372036854775807 < W.length + 1 := by omega
  have cc1 : ¬ 9223372036854775807 < T0.length + P.length := by omega
  have T1x : T1.length ≤ 2300 := by omega
  clear hT0 hT1 T1l
  have qe := empty_of (ne_empty q0)
  have qe2 := ne_empty q0
  have T2l : T2.length = T1.length + 1 := by rw [← hT2]; simp
  have T3l : T3.length = T1.length + 1 + Q.length := by rw [← hT3, List.length_append, T2l]
  have SA2 : (⟨T1.toArray⟩ : ByteArray) ++ (⟨#[99]⟩ : ByteArray) = ⟨T2.toArray⟩ := by rw [← hT2]; exact arr_append T1 [99]
  have SA3 : (⟨T2.toArray⟩ : ByteArray) ++ (⟨Q.toArray⟩ : ByteArray) = ⟨T3.toArray⟩ := by rw [← hT3]; exact arr_append T2 Q
  have cc2 : ¬ 9223372036854775807 < T1.length + 1 := by omega
  have cc3 : ¬ 9223372036854775807 < T2.length + Q.length := by omega
  have T3x : T3.length ≤ 3000 := by omega
  clear hT2 hT3 T3l
  have h5i : ¬ (1000 : Int) < (W.length : Int) + (P.length : Int) := by omega
  have bb1 : decide ((1100 : Int) < (len : Int)) = false := decide_eq_false (by omega)
  have bb2 : decide ((1100 : Int) < (len1 : Int)) = false := decide_eq_false (by omega)
  have bb3 : ((len : Int) == 0) = false := by simp; omega
  have bb4 : ((len1 : Int) == 0) = false := by simp; omega
  have bb5 : decide ((11000 : Int) < e) = false := decide_eq_false (by omega)
  have bb7 : decide ((10000 : Int) < e) = false := decide_eq_false (by omega)
  have bb6 : decide ((1000 : Int) < (W.length : Int) + (P.length : Int)) = false := decide_eq_false (by omega)
  have HIN := Lib.hid hin
  have HIN1 := Lib.hid hin1
  have HW := Lib.hid hW
  have HR := Lib.hid hr
  have HE := Lib.hid he
  have HT := Lib.hid ht
  have HP := Lib.hid hP
  have HQ := Lib.hid hQ
  have HO := Lib.hid ho
  clear hin hin1 hW hr he ht hP hQ ho
  have h4g : (0 : Int) ≤ e := by omega
  go_enter Tryd.func4, Tryd.ntmps4
  go_wp2_with fail
  with_reducible refine (head5 _).mono ?_
  rintro x w1 ⟨rfl, hb⟩
  have H1 : Hid (HeldL w [] w1) := Lib.hid (HeldL.keep (HeldL.refl w) hb)
  clear hb
  go_wp2_with fail
  with_reducible refine (digits_is a len cap L _ (HIN.out.below H1.out.bel) (by omega) W HW.out).mono ?_
  rintro x w2 ⟨rfl, hb⟩
  have H2 : Hid (HeldL w [] w2) := Lib.hid (HeldL.keep H1.out hb)
  clear H1
  clear hb
  go_wp2_with fail
  with_reducible refine (digits_is a1 len1 cap1 L1 _ (HIN1.out.below (HeldL.alloc H2.out (w2.heap.size) #[.bool false, S W, .string ⟨#[]⟩] 25 (by simp)).bel) (by omega) P HP.out).mono ?_
  rintro x w3 ⟨rfl, hb⟩
  have H3 : Hid (HeldL w [(w2.heap.size, #[.bool false, S W, .string ⟨#[]⟩])] w3) := Lib.hid (HeldL.keep (HeldL.alloc H2.out (w2.heap.size) #[.bool false, S W, .string ⟨#[]⟩] 25 (by simp)) hb)
  clear H2
  clear hb
  have bv0 : w3.cell? ⟨w2.heap.size, 0, none⟩ = some (.bool false) := (H3.out.f (List.Mem.head _)).cell 0
  have bvz0 : w3.frozen? ⟨w2.heap.size, 0, none⟩ = false := (H3.out.f (List.Mem.head _)).frozen 0
  have bv1 : w3.cell? ⟨w2.heap.size, 1, none⟩ = some (S W) := (H3.out.f (List.Mem.head _)).cell 1
  have bvz1 : w3.frozen? ⟨w2.heap.size, 1, none⟩ = false := (H3.out.f (List.Mem.head _)).frozen 1
  have bv2 : w3.cell? ⟨w2.heap.size, 2, none⟩ = some (.string ⟨#[]⟩) := (H3.out.f (List.Mem.head _)).cell 2
  have bvz2 : w3.frozen? ⟨w2.heap.size, 2, none⟩ = false := (H3.out.f (List.Mem.head _)).frozen 2
  have bvl : w2.heap.size < w3.heap.size := (H3.out.f (List.Mem.head _)).lt
  go_wp2_with fail
  clear bv0 bvz0 bv1 bvz1 bv2 bvz2 bvl
  have H4 : Hid (HeldL w [(w2.heap.size, #[.bool false, S W, S P])] (w3.setCell ⟨w2.heap.size, 2, none⟩ (S P))) := Lib.hid (HeldL.set1 (L1 := []) (L2 := []) H3.out 2 (S P))
  generalize (w3.setCell ⟨w2.heap.size, 2, none⟩ (S P)) = w4 at *
  clear H3
  with_reducible refine (ofE_e _ e (by omega) (HT.out.below H4.out.bel) Q HQ.out).mono ?_
  rintro x w5 ⟨rfl, hb⟩
  have H5 : Hid (HeldL w [(w2.heap.size, #[.bool false, S W, S P])] w5) := Lib.hid (HeldL.keep H4.out hb)
  clear H4
  clear hb
  go_wp2_with fail
  with_reducible refine (read_as ⟨T3.toArray⟩ _ (by rw [arr_size]; omega) ⟨I, F, K⟩ 0 (by rw [arr_list]; exact HR.out) (by rw [arr_list]; exact HE.out)).mono ?_
  rintro x w6 ⟨rfl, hb⟩
  have H6 : Hid (HeldL w [(w2.heap.size, #[.bool false, S W, S P])] w6) := Lib.hid (HeldL.keep H5.out hb)
  clear H5
  clear hb
  have bv0 : w6.cell? ⟨w2.heap.size, 0, none⟩ = some (.bool false) := (H6.out.f (List.Mem.head _)).cell 0
  have bv1 : w6.cell? ⟨w2.heap.size, 1, none⟩ = some (S W) := (H6.out.f (List.Mem.head _)).cell 1
  have bv2 : w6.cell? ⟨w2.heap.size, 2, none⟩ = some (S P) := (H6.out.f (List.Mem.head _)).cell 2
  have bvl : w2.heap.size < w6.heap.size := (H6.out.f (List.Mem.head _)).lt
  go_wp2_with fail
  have ALL1 : Hid (∀ w' : World, HeldL w [(w6.heap.size, #[S I, S F, .int .i64 K]), (w2.heap.size, #[.bool false, S W, S P])] w' → w'.cell? ⟨w2.heap.size, 0, none⟩ = some (.bool false) ∧ w'.cell? ⟨w2.heap.size, 1, none⟩ = some (S W) ∧ w'.cell? ⟨w2.heap.size, 2, none⟩ = some (S P) ∧ w'.cell? ⟨w6.heap.size, 0, none⟩ = some (S I) ∧ w'.cell? ⟨w6.heap.size, 1, none⟩ = some (S F) ∧ w'.cell? ⟨w6.heap.size, 2, none⟩ = some (.int .i64 K) ∧ HeldL w [(w6.heap.size, #[S I, S F, .int .i64 K]), (w2.heap.size, #[.bool false, S W, S P])] w') := Lib.hid (fun w' h => ⟨(h.f (List.Mem.tail _ (List.Mem.head _))).cell 0, (h.f (List.Mem.tail _ (List.Mem.head _))).cell 1, (h.f (List.Mem.tail _ (List.Mem.head _))).cell 2, (h.f (List.Mem.head _)).cell 0, (h.f (List.Mem.head _)).cell 1, (h.f (List.Mem.head _)).cell 2, h⟩)
  have KEEP1 : Hid (∀ w' w'' : World, (w'.cell? ⟨w2.heap.size, 0, none⟩ = some (.bool false) ∧ w'.cell? ⟨w2.heap.size, 1, none⟩ = some (S W) ∧ w'.cell? ⟨w2.heap.size, 2, none⟩ = some (S P) ∧ w'.cell? ⟨w6.heap.size, 0, none⟩ = some (S I) ∧ w'.cell? ⟨w6.heap.size, 1, none⟩ = some (S F) ∧ w'.cell? ⟨w6.heap.size, 2, none⟩ = some (.int .i64 K) ∧ HeldL w [(w6.heap.size, #[S I, S F, .int .i64 K]), (w2.heap.size, #[.bool false, S W, S P])] w') → Below w'.heap.size w' w'' → (w''.cell? ⟨w2.heap.size, 0, none⟩ = some (.bool false) ∧ w''.cell? ⟨w2.heap.size, 1, none⟩ = some (S W) ∧ w''.cell? ⟨w2.heap.size, 2, none⟩ = some (S P) ∧ w''.cell? ⟨w6.heap.size, 0, none⟩ = some (S I) ∧ w''.cell? ⟨w6.heap.size, 1, none⟩ = some (S F) ∧ w''.cell? ⟨w6.heap.size, 2, none⟩ = some (.int .i64 K) ∧ HeldL w [(w6.heap.size, #[S I, S F, .int .i64 K]), (w2.heap.size, #[.bool false, S W, S P])] w'')) := Lib.hid (fun w' w'' h hb => ALL1.out _ (HeldL.keep (h.2.2.2.2.2.2) hb))
  have HS1 : Hid (HeldL w [(w6.heap.size, #[S I, S F, .int .i64 K]), (w2.heap.size, #[.bool false, S W, S P])] _) := Lib.hid (HeldL.alloc H6.out (w6.heap.size) #[S I, S F, .int .i64 K] 28 (by simp))
  refine wp_region_held_drew (S := fun w' => w'.cell? ⟨w2.heap.size, 0, none⟩ = some (.bool false) ∧ w'.cell? ⟨w2.heap.size, 1, none⟩ = some (S W) ∧ w'.cell? ⟨w2.heap.size, 2, none⟩ = some (S P) ∧ w'.cell? ⟨w6.heap.size, 0, none⟩ = some (S I) ∧ w'.cell? ⟨w6.heap.size, 1, none⟩ = some (S F) ∧ w'.cell? ⟨w6.heap.size, 2, none⟩ = some (.int .i64 K) ∧ HeldL w [(w6.heap.size, #[S I, S F, .int .i64 K]), (w2.heap.size, #[.bool false, S W, S P])] w') (by kernel_rfl) (ALL1.out _ (HeldL.drew HS1.out)) (fun hHeld => ?_)
  refine wpAnyH_take (i := 0) (oi := { dst := some 94, op := Go.Op.move (Go.Operand.tmp 16), type := 37, pos := "law.go:108", after := #[], guard := none }) (v := ?_) rfl (by kernel_rfl) (by kernel_rfl) (by kernel_rfl) (fun _ _ _ h => h) (Or.inl ⟨by rfl, ?_⟩) hHeld ?_
  case refine_2 => (intro w hSw; (try dsimp only at hSw); go_simp <;> with_reducible rfl)
  try simp only [Act.put, List.setIfInBounds_toArray, List.set_cons_zero, List.set_cons_succ]
  refine wpAnyH_take (i := 1) (oi := { dst := some 95, op := Go.Op.binOp Go.BinOp.eql 37 (Go.Operand.tmp 94) (Go.Operand.const (Go.Value.int Go.IntKind.i64 0)) 37, type := 4, pos := "law.go:108", after := #[{ on := 0, ground := Go.Ground.data }], guard := none }) (v := ?_) rfl (by kernel_rfl) (by kernel_rfl) (by kernel_rfl) (fun _ _ _ h => h) (Or.inl ⟨by rfl, ?_⟩) hHeld ?_
  case refine_2 => (intro w hSw; (try dsimp only at hSw); go_simp <;> with_reducible rfl)
  try simp only [Act.put, List.setIfInBounds_toArray, List.set_cons_zero, List.set_cons_succ]
  refine wpAnyH_take (i := 2) (oi := { dst := some 96, op := Go.Op.move (Go.Operand.tmp 95), type := 4, pos := "law.go:108", after := #[{ on := 1, ground := Go.Ground.data }], guard := none }) (v := ?_) rfl (by kernel_rfl) (by kernel_rfl) (by kernel_rfl) (fun _ _ _ h => h) (Or.inl ⟨by rfl, ?_⟩) hHeld ?_
  case refine_2 => (intro w hSw; (try dsimp only at hSw); go_simp <;> with_reducible rfl)
  try simp only [Act.put, List.setIfInBounds_toArray, List.set_cons_zero, List.set_cons_succ]
  refine wpAnyH_take (i := 3) (oi := { dst := some 97, op := Go.Op.load 28 (Go.Operand.tmp 15), type := 28, pos := "law.go:108", after := #[{ on := 2, ground := Go.Ground.guard }], guard := some (2, true) }) (v := ?_) rfl (by kernel_rfl) (by kernel_rfl) (by kernel_rfl) (fun _ _ _ h => h) (Or.inl ⟨by rfl, ?_⟩) hHeld ?_
  case refine_2 => (intro w hSw; (try dsimp only at hSw); go_simp <;> with_reducible rfl)
  try simp only [Act.put, List.setIfInBounds_toArray, List.set_cons_zero, List.set_cons_succ]
  refine wpAnyH_take (i := 4) (oi := { dst := some 98, op := Go.Op.load 25 (Go.Operand.tmp 11), type := 25, pos := "law.go:108", after := #[{ on := 2, ground := Go.Ground.guard }], guard := some (2, true) }) (v := ?_) rfl (by kernel_rfl) (by kernel_rfl) (by kernel_rfl) (fun _ _ _ h => h) (Or.inl ⟨by rfl, ?_⟩) hHeld ?_
  case refine_2 => (intro w hSw; (try dsimp only at hSw); go_simp <;> with_reducible rfl)
  try simp only [Act.put, List.setIfInBounds_toArray, List.set_cons_zero, List.set_cons_succ]
  refine wpAnyH_take (i := 5) (oi := { dst := some 99, op := Go.Op.move (Go.Operand.tmp 3), type := 3, pos := "law.go:108", after := #[{ on := 2, ground := Go.Ground.guard }], guard := some (2, true) }) (v := ?_) rfl (by kernel_rfl) (by kernel_rfl) (by kernel_rfl) (fun _ _ _ h => h) (Or.inl ⟨by rfl, ?_⟩) hHeld ?_
  case refine_2 => (intro w hSw; (try dsimp only at hSw); go_simp <;> with_reducible rfl)
  try simp only [Act.put, List.setIfInBounds_toArray, List.set_cons_zero, List.set_cons_succ]
  refine wpAnyH_take (i := 6) (oi := { dst := some 100, op := Go.Op.call { callee := Go.Callee.builtin Go.Builtin.max, args := #[Go.Operand.tmp 99, Go.Operand.const (Go.Value.int Go.IntKind.i64 0)], argTypes := #[3, 3] }, type := 3, pos := "law.go:108", after := #[{ on := 5, ground := Go.Ground.data }, { on := 2, ground := Go.Ground.guard }], guard := some (2, true) }) (v := ?_) rfl (by kernel_rfl) (by kernel_rfl) (by kernel_rfl) (fun _ _ _ h => h) (Or.inl ⟨by rfl, ?_⟩) hHeld ?_
  case refine_2 => (intro w hSw; (try dsimp only at hSw); go_simp <;> with_reducible rfl)
  try simp only [Act.put, List.setIfInBounds_toArray, List.set_cons_zero, List.set_cons_succ]
  refine wpAnyH_ready (rs := [7]) (by kernel_rfl) (by simp) ?_
  refine AllReadyH.cons (o := { dst := some 101, op := Go.Op.call { callee := Go.Callee.value (Go.Operand.func 7), args := #[Go.Operand.tmp 98, Go.Operand.tmp 100], argTypes := #[25, 3] }, type := 28, pos := "law.go:108", after := #[{ on := 4, ground := Go.Ground.data }, { on := 6, ground := Go.Ground.data }, { on := 2, ground := Go.Ground.chain }, { on := 2, ground := Go.Ground.guard }], guard := some (2, true) }) rfl (fun KK hK => ?_) AllReadyH.nil
  go_simp
  with_reducible refine (of_as ⟨false, W, P⟩ (max e 0) _ (by show W.length ≤ 900000; omega) (by show (P : List UInt8).length ≤ 900000; omega) ⟨I, F, K⟩ HO.out).mono ?_
  rintro x wA ⟨rfl, hb⟩
  go_wp2_with fail
  refine hK.out _ _ (KEEP1.out _ _ hHeld hb) (fun hHeld2 => ?_)
  clear hK hHeld hb
  have hHeld := hHeld2
  clear hHeld2
  try simp only [Act.put, List.setIfInBounds_toArray, List.set_cons_zero, List.set_cons_succ]
  refine wpAnyH_take (i := 8) (oi := { dst := some 102, op := Go.Op.binOp Go.BinOp.eql 28 (Go.Operand.tmp 97) (Go.Operand.tmp 101) 28, type := 4, pos := "law.go:108", after := #[{ on := 3, ground := Go.Ground.data }, { on := 7, ground := Go.Ground.data }, { on := 2, ground := Go.Ground.guard }], guard := some (2, true) }) (v := ?_) rfl (by kernel_rfl) (by kernel_rfl) (by kernel_rfl) (fun _ _ _ h => h) (Or.inl ⟨by rfl, ?_⟩) hHeld ?_
  case refine_2 => (intro w hSw; (try dsimp only at hSw); go_simp <;> with_reducible rfl)
  try simp only [Act.put, List.setIfInBounds_toArray, List.set_cons_zero, List.set_cons_succ]
  refine wpAnyH_take (i := 9) (oi := { dst := some 103, op := Go.Op.pick (Go.Operand.tmp 96) (Go.Operand.tmp 102) (Go.Operand.const (Go.Value.bool false)), type := 4, pos := "law.go:108", after := #[{ on := 2, ground := Go.Ground.data }, { on := 8, ground := Go.Ground.data }], guard := none }) (v := ?_) rfl (by kernel_rfl) (by kernel_rfl) (by kernel_rfl) (fun _ _ _ h => h) (Or.inl ⟨by rfl, ?_⟩) hHeld ?_
  case refine_2 => (intro w hSw; (try dsimp only at hSw); go_simp <;> with_reducible rfl)
  try simp only [Act.put, List.setIfInBounds_toArray, List.set_cons_zero, List.set_cons_succ]
  refine wpAnyH_take (i := 10) (oi := { dst := some 10, op := Go.Op.assign (Go.Operand.tmp 103), type := 4, pos := "law.go:108", after := #[{ on := 9, ground := Go.Ground.data }, { on := 7, ground := Go.Ground.chain }, { on := 0, ground := Go.Ground.phase }, { on := 1, ground := Go.Ground.phase }, { on := 2, ground := Go.Ground.phase }, { on := 3, ground := Go.Ground.phase }, { on := 4, ground := Go.Ground.phase }, { on := 5, ground := Go.Ground.phase }, { on := 6, ground := Go.Ground.phase }, { on := 7, ground := Go.Ground.phase }, { on := 8, ground := Go.Ground.phase }, { on := 9, ground := Go.Ground.phase }], guard := none }) (v := ?_) rfl (by kernel_rfl) (by kernel_rfl) (by kernel_rfl) (fun _ _ _ h => h) (Or.inl ⟨by rfl, ?_⟩) hHeld ?_
  case refine_2 => (intro w hSw; (try dsimp only at hSw); go_simp <;> with_reducible rfl)
  try simp only [Act.put, List.setIfInBounds_toArray, List.set_cons_zero, List.set_cons_succ]
  refine wpAnyH_done (by kernel_rfl) ?_ _
  clear bv0 bv1 bv2 bvl
  have H7 : Hid (HeldL w [(w6.heap.size, #[S I, S F, .int .i64 K]), (w2.heap.size, #[.bool false, S W, S P])] wA) := Lib.hid (hHeld.2.2.2.2.2.2)
  clear hHeld ALL1 KEEP1 HS1 H6
  go_wp2
  go_ret
  exact ⟨rfl, H7.out.bel⟩

end Go.Proofs.YtjobccgpejbchaaDoor

namespace Go.Proofs.YtjobccgpejbchaaDoor
open Go.RowKit Florin
set_option linter.unusedVariables false
set_option linter.unusedSimpArgs false
attribute [local go_sem ↓] Go.wp_at_zero Go.wp_at_succ eq_OL

private theorem dz0_f : dig (Int.toNat 0) = [] := dig_zero
private theorem ofE_f (w : World) (n : Int) (h1 : n ≤ 9223372036854775807) (ht : Tab w) (q : List UInt8) (hq : dig n.toNat = q) :
    Calls Tryd.prog 17 #[.int .i64 n] w fun e w' => e = .returned (S q) ∧ Below w.heap.size w w' := by
  subst hq; exact of_any n w h1 ht
set_option maxRecDepth 100000 in
set_option maxHeartbeats 3200000 in
theorem reads_pe1_len (a : Option Addr) (len cap : Nat) (L : List UInt8) (a1 : Option Addr) (len1 cap1 : Nat) (L1 : List UInt8) (e : Int) (w : World) (hin : InB w a len cap L) (hin1 : InB w a1 len1 cap1 L1) (W : List UInt8) (hW : dgs L = W) (wl : W.length ≤ 1100) (w0 : W ≠ []) (h1 : len ≤ 1100) (h10 : ¬ len = 0) (h2 : len1 ≤ 1100) (h3 : e ≤ 11000) (h20 : ¬ len1 = 0) (P : List UInt8) (hP : dgs L1 = P) (pl : P.length ≤ 1100) (T0 T1 : List UInt8) (hT0 : W ++ [46] = T0) (hT1 : T0 ++ P = T1) (h4 : 0 < e) (Q : List UInt8) (hQ : dig e.toNat = Q) (ql : Q.length ≤ 30) (q0 : Q ≠ []) (T2 T3 : List UInt8) (hT2 : T1 ++ [101] = T2) (hT3 : T2 ++ Q = T3) (h5 : 1000 < W.length + P.length) (hr : readO T3 = ⟨[], [], 0⟩) (he : errO T3 = 2) (ht : Tab w) :
    Calls Tryd.prog 4 #[.slice a len cap, .slice a1 len1 cap1, .bool true, .int .i64 e, .bool true] w fun x w' => x = .returned (.bool true) ∧ Below w.heap.size w w' := by
  have T0l : T0.length = W.length + 1 := by rw [← hT0]; simp
  have T1l : T1.length = W.length + 1 + P.length := by rw [← hT1, List.length_append, T0l]
  have SA0 : (⟨W.toArray⟩ : ByteArray) ++ (⟨#[46]⟩ : ByteArray) = ⟨T0.toArray⟩ := by rw [← hT0]; exact arr_append W [46]
  have SA1 : (⟨T0.toArray⟩ : ByteArray) ++ (⟨P.toArray⟩ : ByteArray) = ⟨T1.toArray⟩ := by rw [← hT1]; exact arr_append T0 P
  have cc0 : ¬ 9223372036854775807 < W.length + 1 := by omega
  have cc1 : ¬ 9223372036854775807 < T0.length + P.length := by omega
  have T1x : T1.length ≤ 2300 := by omega
  clear hT0 hT1 T1l
  have qe := empty_of (ne_empty q0)
  have qe2 := ne_empty q0
  have T2l : T2.length = T1.length + 1 := by rw [← hT2]; simp
  have T3l : T3.length = T1.length + 1 + Q.length := by rw [← hT3, List.length_append, T2l]
  have SA2 : (⟨T1.toArray⟩ : ByteArray) ++ (⟨#[101]⟩ : ByteArray) = ⟨T2.toArray⟩ := by rw [← hT2]; exact arr_append T1 [101]
  have SA3 : (⟨T2.toArray⟩ : ByteArray) ++ (⟨Q.toArray⟩ : ByteArray) = ⟨T3.toArray⟩ := by rw [← hT3]; exact arr_append T2 Q
  have cc2 : ¬ 9223372036854775807 < T1.length + 1 := by omega
  have cc3 : ¬ 9223372036854775807 < T2.length + Q.length := by omega
  have T3x : T3.length ≤ 3000 := by omega
  clear hT2 hT3 T3l
  have h5i : (1000 : Int) < (W.length : Int) + (P.length : Int) := by omega
  have bb1 : decide ((1100 : Int) < (len : Int)) = false := decide_eq_false (by omega)
  have bb2 : decide ((1100 : Int) < (len1 : Int)) = false := decide_eq_false (by omega)
  have bb3 : ((len : Int) == 0) = false := by simp; omega
  have bb4 : ((len1 : Int) == 0) = false := by simp; omega
  have bb5 : decide ((11000 : Int) < e) = false := decide_eq_false (by omega)
  have bb6 : decide ((1000 : Int) < (W.length : Int) + (P.length : Int)) = true := decide_eq_true (by omega)
  have HIN := Lib.hid hin
  have HIN1 := Lib.hid hin1
  have HW := Lib.hid hW
  have HR := Lib.hid hr
  have HE := Lib.hid he
  have HT := Lib.hid ht
  have HP := Lib.hid hP
  have HQ := Lib.hid hQ
  clear hin hin1 hW hr he ht hP hQ
  have h4g : (0 : Int) ≤ e := by omega
  go_enter Tryd.func4, Tryd.ntmps4
  go_wp2_with fail
  with_reducible refine (head5 _).mono ?_
  rintro x w1 ⟨rfl, hb⟩
  have H1 : Hid (HeldL w [] w1) := Lib.hid (HeldL.keep (HeldL.refl w) hb)
  clear hb
  go_wp2_with fail
  with_reducible refine (digits_is a len cap L _ (HIN.out.below H1.out.bel) (by omega) W HW.out).mono ?_
  rintro x w2 ⟨rfl, hb⟩
  have H2 : Hid (HeldL w [] w2) := Lib.hid (HeldL.keep H1.out hb)
  clear H1
  clear hb
  go_wp2_with fail
  with_reducible refine (digits_is a1 len1 cap1 L1 _ (HIN1.out.below (HeldL.alloc H2.out (w2.heap.size) #[.bool false, S W, .string ⟨#[]⟩] 25 (by simp)).bel) (by omega) P HP.out).mono ?_
  rintro x w3 ⟨rfl, hb⟩
  have H3 : Hid (HeldL w [(w2.heap.size, #[.bool false, S W, .string ⟨#[]⟩])] w3) := Lib.hid (HeldL.keep (HeldL.alloc H2.out (w2.heap.size) #[.bool false, S W, .string ⟨#[]⟩] 25 (by simp)) hb)
  clear H2
  clear hb
  have bv0 : w3.cell? ⟨w2.heap.size, 0, none⟩ = some (.bool false) := (H3.out.f (List.Mem.head _)).cell 0
  have bvz0 : w3.frozen? ⟨w2.heap.size, 0, none⟩ = false := (H3.out.f (List.Mem.head _)).frozen 0
  have bv1 : w3.cell? ⟨w2.heap.size, 1, none⟩ = some (S W) := (H3.out.f (List.Mem.head _)).cell 1
  have bvz1 : w3.frozen? ⟨w2.heap.size, 1, none⟩ = false := (H3.out.f (List.Mem.head _)).frozen 1
  have bv2 : w3.cell? ⟨w2.heap.size, 2, none⟩ = some (.string ⟨#[]⟩) := (H3.out.f (List.Mem.head _)).cell 2
  have bvz2 : w3.frozen? ⟨w2.heap.size, 2, none⟩ = false := (H3.out.f (List.Mem.head _)).frozen 2
  have bvl : w2.heap.size < w3.heap.size := (H3.out.f (List.Mem.head _)).lt
  go_wp2_with fail
  clear bv0 bvz0 bv1 bvz1 bv2 bvz2 bvl
  have H4 : Hid (HeldL w [(w2.heap.size, #[.bool false, S W, S P])] (w3.setCell ⟨w2.heap.size, 2, none⟩ (S P))) := Lib.hid (HeldL.set1 (L1 := []) (L2 := []) H3.out 2 (S P))
  generalize (w3.setCell ⟨w2.heap.size, 2, none⟩ (S P)) = w4 at *
  clear H3
  with_reducible refine (ofE_f _ e (by omega) (HT.out.below H4.out.bel) Q HQ.out).mono ?_
  rintro x w5 ⟨rfl, hb⟩
  have H5 : Hid (HeldL w [(w2.heap.size, #[.bool false, S W, S P])] w5) := Lib.hid (HeldL.keep H4.out hb)
  clear H4
  clear hb
  go_wp2_with fail
  with_reducible refine (read_as ⟨T3.toArray⟩ _ (by rw [arr_size]; omega) ⟨[], [], 0⟩ 2 (by rw [arr_list]; exact HR.out) (by rw [arr_list]; exact HE.out)).mono ?_
  rintro x w6 ⟨rfl, hb⟩
  have H6 : Hid (HeldL w [(w2.heap.size, #[.bool false, S W, S P])] w6) := Lib.hid (HeldL.keep H5.out hb)
  clear H5
  clear hb
  have bv0 : w6.cell? ⟨w2.heap.size, 0, none⟩ = some (.bool false) := (H6.out.f (List.Mem.head _)).cell 0
  have bv1 : w6.cell? ⟨w2.heap.size, 1, none⟩ = some (S W) := (H6.out.f (List.Mem.head _)).cell 1
  have bv2 : w6.cell? ⟨w2.heap.size, 2, none⟩ = some (S P) := (H6.out.f (List.Mem.head _)).cell 2
  have bvl : w2.heap.size < w6.heap.size := (H6.out.f (List.Mem.head _)).lt
  go_wp2
  go_ret
  exact ⟨rfl, (HeldL.alloc H6.out (w6.heap.size) #[.string ⟨#[]⟩, .string ⟨#[]⟩, .int .i64 0] 28 (by simp)).bel⟩

set_option maxRecDepth 100000 in
set_option maxHeartbeats 3200000 in
theorem reads_pe1_pow (a : Option Addr) (len cap : Nat) (L : List UInt8) (a1 : Option Addr) (len1 cap1 : Nat) (L1 : List UInt8) (e : Int) (w : World) (hin : InB w a len cap L) (hin1 : InB w a1 len1 cap1 L1) (W : List UInt8) (hW : dgs L = W) (wl : W.length ≤ 1100) (w0 : W ≠ []) (h1 : len ≤ 1100) (h10 : ¬ len = 0) (h2 : len1 ≤ 1100) (h3 : e ≤ 11000) (h20 : ¬ len1 = 0) (P : List UInt8) (hP : dgs L1 = P) (pl : P.length ≤ 1100) (T0 T1 : List UInt8) (hT0 : W ++ [46] = T0) (hT1 : T0 ++ P = T1) (h4 : 0 < e) (Q : List UInt8) (hQ : dig e.toNat = Q) (ql : Q.length ≤ 30) (q0 : Q ≠ []) (T2 T3 : List UInt8) (hT2 : T1 ++ [101] = T2) (hT3 : T2 ++ Q = T3) (h5 : ¬ 1000 < W.length + P.length) (h6 : 10000 < e) (hr : readO T3 = ⟨[], [], 0⟩) (he : errO T3 = 2) (ht : Tab w) :
    Calls Tryd.prog 4 #[.slice a len cap, .slice a1 len1 cap1, .bool true, .int .i64 e, .bool true] w fun x w' => x = .returned (.bool true) ∧ Below w.heap.size w w' := by
  have T0l : T0.length = W.length + 1 := by rw [← hT0]; simp
  have T1l : T1.length = W.length + 1 + P.length := by rw [← hT1, List.length_append, T0l]
  have SA0 : (⟨W.toArray⟩ : ByteArray) ++ (⟨#[46]⟩ : ByteArray) = ⟨T0.toArray⟩ := by rw [← hT0]; exact arr_append W [46]
  have SA1 : (⟨T0.toArray⟩ : ByteArray) ++ (⟨P.toArray⟩ : ByteArray) = ⟨T1.toArray⟩ := by rw [← hT1]; exact arr_append T0 P
  have cc0 : ¬ 9223372036854775807 < W.length + 1 := by omega
  have cc1 : ¬ 9223372036854775807 < T0.length + P.length := by omega
  have T1x : T1.length ≤ 2300 := by omega
  clear hT0 hT1 T1l
  have qe := empty_of (ne_empty q0)
  have qe2 := ne_empty q0
  have T2l : T2.length = T1.length + 1 := by rw [← hT2]; simp
  have T3l : T3.length = T1.length + 1 + Q.length := by rw [← hT3, List.length_append, T2l]
  have SA2 : (⟨T1.toArray⟩ : ByteArray) ++ (⟨#[101]⟩ : ByteArray) = ⟨T2.toArray⟩ := by rw [← hT2]; exact arr_append T1 [101]
  have SA3 : (⟨T2.toArray⟩ : ByteArray) ++ (⟨Q.toArray⟩ : ByteArray) = ⟨T3.toArray⟩ := by rw [← hT3]; exact arr_append T2 Q
  have cc2 : ¬ 9223372036854775807 < T1.length + 1 := by omega
  have cc3 : ¬ 9223372036854775807 < T2.length + Q.length := by omega
  have T3x : T3.length ≤ 3000 := by omega
  clear hT2 hT3 T3l
  have h5i : ¬ (1000 : Int) < (W.length : Int) + (P.length : Int) := by omega
  have bb1 : decide ((1100 : Int) < (len : Int)) = false := decide_eq_false (by omega)
  have bb2 : decide ((1100 : Int) < (len1 : Int)) = false := decide_eq_false (by omega)
  have bb3 : ((len : Int) == 0) = false := by simp; omega
  have bb4 : ((len1 : Int) == 0) = false := by simp; omega
  have bb5 : decide ((11000 : Int) < e) = false := decide_eq_false (by omega)
  have bb7 : decide ((10000 : Int) < e) = true := decide_eq_true (by omega)
  have bb6 : decide ((1000 : Int) < (W.length : Int) + (P.length : Int)) = false := decide_eq_false (by omega)
  have HIN := Lib.hid hin
  have HIN1 := Lib.hid hin1
  have HW := Lib.hid hW
  have HR := Lib.hid hr
  have HE := Lib.hid he
  have HT := Lib.hid ht
  have HP := Lib.hid hP
  have HQ := Lib.hid hQ
  clear hin hin1 hW hr he ht hP hQ
  have h4g : (0 : Int) ≤ e := by omega
  go_enter Tryd.func4, Tryd.ntmps4
  go_wp2_with fail
  with_reducible refine (head5 _).mono ?_
  rintro x w1 ⟨rfl, hb⟩
  have H1 : Hid (HeldL w [] w1) := Lib.hid (HeldL.keep (HeldL.refl w) hb)
  clear hb
  go_wp2_with fail
  with_reducible refine (digits_is a len cap L _ (HIN.out.below H1.out.bel) (by omega) W HW.out).mono ?_
  rintro x w2 ⟨rfl, hb⟩
  have H2 : Hid (HeldL w [] w2) := Lib.hid (HeldL.keep H1.out hb)
  clear H1
  clear hb
  go_wp2_with fail
  with_reducible refine (digits_is a1 len1 cap1 L1 _ (HIN1.out.below (HeldL.alloc H2.out (w2.heap.size) #[.bool false, S W, .string ⟨#[]⟩] 25 (by simp)).bel) (by omega) P HP.out).mono ?_
  rintro x w3 ⟨rfl, hb⟩
  have H3 : Hid (HeldL w [(w2.heap.size, #[.bool false, S W, .string ⟨#[]⟩])] w3) := Lib.hid (HeldL.keep (HeldL.alloc H2.out (w2.heap.size) #[.bool false, S W, .string ⟨#[]⟩] 25 (by simp)) hb)
  clear H2
  clear hb
  have bv0 : w3.cell? ⟨w2.heap.size, 0, none⟩ = some (.bool false) := (H3.out.f (List.Mem.head _)).cell 0
  have bvz0 : w3.frozen? ⟨w2.heap.size, 0, none⟩ = false := (H3.out.f (List.Mem.head _)).frozen 0
  have bv1 : w3.cell? ⟨w2.heap.size, 1, none⟩ = some (S W) := (H3.out.f (List.Mem.head _)).cell 1
  have bvz1 : w3.frozen? ⟨w2.heap.size, 1, none⟩ = false := (H3.out.f (List.Mem.head _)).frozen 1
  have bv2 : w3.cell? ⟨w2.heap.size, 2, none⟩ = some (.string ⟨#[]⟩) := (H3.out.f (List.Mem.head _)).cell 2
  have bvz2 : w3.frozen? ⟨w2.heap.size, 2, none⟩ = false := (H3.out.f (List.Mem.head _)).frozen 2
  have bvl : w2.heap.size < w3.heap.size := (H3.out.f (List.Mem.head _)).lt
  go_wp2_with fail
  clear bv0 bvz0 bv1 bvz1 bv2 bvz2 bvl
  have H4 : Hid (HeldL w [(w2.heap.size, #[.bool false, S W, S P])] (w3.setCell ⟨w2.heap.size, 2, none⟩ (S P))) := Lib.hid (HeldL.set1 (L1 := []) (L2 := []) H3.out 2 (S P))
  generalize (w3.setCell ⟨w2.heap.size, 2, none⟩ (S P)) = w4 at *
  clear H3
  with_reducible refine (ofE_f _ e (by omega) (HT.out.below H4.out.bel) Q HQ.out).mono ?_
  rintro x w5 ⟨rfl, hb⟩
  have H5 : Hid (HeldL w [(w2.heap.size, #[.bool false, S W, S P])] w5) := Lib.hid (HeldL.keep H4.out hb)
  clear H4
  clear hb
  go_wp2_with fail
  with_reducible refine (read_as ⟨T3.toArray⟩ _ (by rw [arr_size]; omega) ⟨[], [], 0⟩ 2 (by rw [arr_list]; exact HR.out) (by rw [arr_list]; exact HE.out)).mono ?_
  rintro x w6 ⟨rfl, hb⟩
  have H6 : Hid (HeldL w [(w2.heap.size, #[.bool false, S W, S P])] w6) := Lib.hid (HeldL.keep H5.out hb)
  clear H5
  clear hb
  have bv0 : w6.cell? ⟨w2.heap.size, 0, none⟩ = some (.bool false) := (H6.out.f (List.Mem.head _)).cell 0
  have bv1 : w6.cell? ⟨w2.heap.size, 1, none⟩ = some (S W) := (H6.out.f (List.Mem.head _)).cell 1
  have bv2 : w6.cell? ⟨w2.heap.size, 2, none⟩ = some (S P) := (H6.out.f (List.Mem.head _)).cell 2
  have bvl : w2.heap.size < w6.heap.size := (H6.out.f (List.Mem.head _)).lt
  go_wp2
  go_ret
  exact ⟨rfl, (HeldL.alloc H6.out (w6.heap.size) #[.string ⟨#[]⟩, .string ⟨#[]⟩, .int .i64 0] 28 (by simp)).bel⟩

set_option maxRecDepth 100000 in
set_option maxHeartbeats 3200000 in
theorem reads_pe1_ok (a : Option Addr) (len cap : Nat) (L : List UInt8) (a1 : Option Addr) (len1 cap1 : Nat) (L1 : List UInt8) (e : Int) (w : World) (hin : InB w a len cap L) (hin1 : InB w a1 len1 cap1 L1) (W : List UInt8) (hW : dgs L = W) (wl : W.length ≤ 1100) (w0 : W ≠ []) (h1 : len ≤ 1100) (h10 : ¬ len = 0) (h2 : len1 ≤ 1100) (h3 : e ≤ 11000) (h20 : ¬ len1 = 0) (P : List UInt8) (hP : dgs L1 = P) (pl : P.length ≤ 1100) (T0 T1 : List UInt8) (hT0 : W ++ [46] = T0) (hT1 : T0 ++ P = T1) (h4 : 0 < e) (Q : List UInt8) (hQ : dig e.toNat = Q) (ql : Q.length ≤ 30) (q0 : Q ≠ []) (T2 T3 : List UInt8) (hT2 : T1 ++ [101] = T2) (hT3 : T2 ++ Q = T3) (h5 : ¬ 1000 < W.length + P.length) (h6 : e ≤ 10000) (I F : List UInt8) (K : Int) (hr : readO T3 = ⟨I, F, K⟩) (he : errO T3 = 0) (ho : ofP ⟨false, W, P⟩ (max e 0) = ⟨I, F, K⟩) (ht : Tab w) :
    Calls Tryd.prog 4 #[.slice a len cap, .slice a1 len1 cap1, .bool true, .int .i64 e, .bool true] w fun x w' => x = .returned (.bool true) ∧ Below w.heap.size w w' := by
  have T0l : T0.length = W.length + 1 := by rw [← hT0]; simp
  have T1l : T1.length = W.length + 1 + P.length := by rw [← hT1, List.length_append, T0l]
  have SA0 : (⟨W.toArray⟩ : ByteArray) ++ (⟨#[46]⟩ : ByteArray) = ⟨T0.toArray⟩ := by rw [← hT0]; exact arr_append W [46]
  have SA1 : (⟨T0.toArray⟩ : ByteArray) ++ (⟨P.toArray⟩ : ByteArray) = ⟨T1.toArray⟩ := by rw [← hT1]; exact arr_append T0 P
  have cc0 : ¬ 9223372036854775807 < W.length + 1 := by omega
  have cc1 : ¬ 9223372036854775807 < T0.length + P.length := by omega
  have T1x : T1.length ≤ 2300 := by omega
  clear hT0 hT1 T1l
  have qe := empty_of (ne_empty q0)
  have qe2 := ne_empty q0
  have T2l : T2.length = T1.length + 1 := by rw [← hT2]; simp
  have T3l : T3.length = T1.length + 1 + Q.length := by rw [← hT3, List.length_append, T2l]
  have SA2 : (⟨T1.toArray⟩ : ByteArray) ++ (⟨#[101]⟩ : ByteArray) = ⟨T2.toArray⟩ := by rw [← hT2]; exact arr_append T1 [101]
  have SA3 : (⟨T2.toArray⟩ : ByteArray) ++ (⟨Q.toArray⟩ : ByteArray) = ⟨T3.toArray⟩ := by rw [← hT3]; exact arr_append T2 Q
  have cc2 : ¬ 9223372036854775807 < T1.length + 1 := by omega
  have cc3 : ¬ 9223372036854775807 < T2.length + Q.length := by omega
  have T3x : T3.length ≤ 3000 := by omega
  clear hT2 hT3 T3l
  have h5i : ¬ (1000 : Int) < (W.length : Int) + (P.length : Int) := by omega
  have bb1 : decide ((1100 : Int) < (len : Int)) = false := decide_eq_false (by omega)
  have bb2 : decide ((1100 : Int) < (len1 : Int)) = false := decide_eq_false (by omega)
  have bb3 : ((len : Int) == 0) = false := by simp; omega
  have bb4 : ((len1 : Int) == 0) = false := by simp; omega
  have bb5 : decide ((11000 : Int) < e) = false := decide_eq_false (by omega)
  have bb7 : decide ((10000 : Int) < e) = false := decide_eq_false (by omega)
  have bb6 : decide ((1000 : Int) < (W.length : Int) + (P.length : Int)) = false := decide_eq_false (by omega)
  have HIN := Lib.hid hin
  have HIN1 := Lib.hid hin1
  have HW := Lib.hid hW
  have HR := Lib.hid hr
  have HE := Lib.hid he
  have HT := Lib.hid ht
  have HP := Lib.hid hP
  have HQ := Lib.hid hQ
  have HO := Lib.hid ho
  clear hin hin1 hW hr he ht hP hQ ho
  have h4g : (0 : Int) ≤ e := by omega
  go_enter Tryd.func4, Tryd.ntmps4
  go_wp2_with fail
  with_reducible refine (head5 _).mono ?_
  rintro x w1 ⟨rfl, hb⟩
  have H1 : Hid (HeldL w [] w1) := Lib.hid (HeldL.keep (HeldL.refl w) hb)
  clear hb
  go_wp2_with fail
  with_reducible refine (digits_is a len cap L _ (HIN.out.below H1.out.bel) (by omega) W HW.out).mono ?_
  rintro x w2 ⟨rfl, hb⟩
  have H2 : Hid (HeldL w [] w2) := Lib.hid (HeldL.keep H1.out hb)
  clear H1
  clear hb
  go_wp2_with fail
  with_reducible refine (digits_is a1 len1 cap1 L1 _ (HIN1.out.below (HeldL.alloc H2.out (w2.heap.size) #[.bool false, S W, .string ⟨#[]⟩] 25 (by simp)).bel) (by omega) P HP.out).mono ?_
  rintro x w3 ⟨rfl, hb⟩
  have H3 : Hid (HeldL w [(w2.heap.size, #[.bool false, S W, .string ⟨#[]⟩])] w3) := Lib.hid (HeldL.keep (HeldL.alloc H2.out (w2.heap.size) #[.bool false, S W, .string ⟨#[]⟩] 25 (by simp)) hb)
  clear H2
  clear hb
  have bv0 : w3.cell? ⟨w2.heap.size, 0, none⟩ = some (.bool false) := (H3.out.f (List.Mem.head _)).cell 0
  have bvz0 : w3.frozen? ⟨w2.heap.size, 0, none⟩ = false := (H3.out.f (List.Mem.head _)).frozen 0
  have bv1 : w3.cell? ⟨w2.heap.size, 1, none⟩ = some (S W) := (H3.out.f (List.Mem.head _)).cell 1
  have bvz1 : w3.frozen? ⟨w2.heap.size, 1, none⟩ = false := (H3.out.f (List.Mem.head _)).frozen 1
  have bv2 : w3.cell? ⟨w2.heap.size, 2, none⟩ = some (.string ⟨#[]⟩) := (H3.out.f (List.Mem.head _)).cell 2
  have bvz2 : w3.frozen? ⟨w2.heap.size, 2, none⟩ = false := (H3.out.f (List.Mem.head _)).frozen 2
  have bvl : w2.heap.size < w3.heap.size := (H3.out.f (List.Mem.head _)).lt
  go_wp2_with fail
  clear bv0 bvz0 bv1 bvz1 bv2 bvz2 bvl
  have H4 : Hid (HeldL w [(w2.heap.size, #[.bool false, S W, S P])] (w3.setCell ⟨w2.heap.size, 2, none⟩ (S P))) := Lib.hid (HeldL.set1 (L1 := []) (L2 := []) H3.out 2 (S P))
  generalize (w3.setCell ⟨w2.heap.size, 2, none⟩ (S P)) = w4 at *
  clear H3
  with_reducible refine (ofE_f _ e (by omega) (HT.out.below H4.out.bel) Q HQ.out).mono ?_
  rintro x w5 ⟨rfl, hb⟩
  have H5 : Hid (HeldL w [(w2.heap.size, #[.bool false, S W, S P])] w5) := Lib.hid (HeldL.keep H4.out hb)
  clear H4
  clear hb
  go_wp2_with fail
  with_reducible refine (read_as ⟨T3.toArray⟩ _ (by rw [arr_size]; omega) ⟨I, F, K⟩ 0 (by rw [arr_list]; exact HR.out) (by rw [arr_list]; exact HE.out)).mono ?_
  rintro x w6 ⟨rfl, hb⟩
  have H6 : Hid (HeldL w [(w2.heap.size, #[.bool false, S W, S P])] w6) := Lib.hid (HeldL.keep H5.out hb)
  clear H5
  clear hb
  have bv0 : w6.cell? ⟨w2.heap.size, 0, none⟩ = some (.bool false) := (H6.out.f (List.Mem.head _)).cell 0
  have bv1 : w6.cell? ⟨w2.heap.size, 1, none⟩ = some (S W) := (H6.out.f (List.Mem.head _)).cell 1
  have bv2 : w6.cell? ⟨w2.heap.size, 2, none⟩ = some (S P) := (H6.out.f (List.Mem.head _)).cell 2
  have bvl : w2.heap.size < w6.heap.size := (H6.out.f (List.Mem.head _)).lt
  go_wp2_with fail
  have ALL1 : Hid (∀ w' : World, HeldL w [(w6.heap.size, #[S I, S F, .int .i64 K]), (w2.heap.size, #[.bool false, S W, S P])] w' → w'.cell? ⟨w2.heap.size, 0, none⟩ = some (.bool false) ∧ w'.cell? ⟨w2.heap.size, 1, none⟩ = some (S W) ∧ w'.cell? ⟨w2.heap.size, 2, none⟩ = some (S P) ∧ w'.cell? ⟨w6.heap.size, 0, none⟩ = some (S I) ∧ w'.cell? ⟨w6.heap.size, 1, none⟩ = some (S F) ∧ w'.cell? ⟨w6.heap.size, 2, none⟩ = some (.int .i64 K) ∧ HeldL w [(w6.heap.size, #[S I, S F, .int .i64 K]), (w2.heap.size, #[.bool false, S W, S P])] w') := Lib.hid (fun w' h => ⟨(h.f (List.Mem.tail _ (List.Mem.head _))).cell 0, (h.f (List.Mem.tail _ (List.Mem.head _))).cell 1, (h.f (List.Mem.tail _ (List.Mem.head _))).cell 2, (h.f (List.Mem.head _)).cell 0, (h.f (List.Mem.head _)).cell 1, (h.f (List.Mem.head _)).cell 2, h⟩)
  have KEEP1 : Hid (∀ w' w'' : World, (w'.cell? ⟨w2.heap.size, 0, none⟩ = some (.bool false) ∧ w'.cell? ⟨w2.heap.size, 1, none⟩ = some (S W) ∧ w'.cell? ⟨w2.heap.size, 2, none⟩ = some (S P) ∧ w'.cell? ⟨w6.heap.size, 0, none⟩ = some (S I) ∧ w'.cell? ⟨w6.heap.size, 1, none⟩ = some (S F) ∧ w'.cell? ⟨w6.heap.size, 2, none⟩ = some (.int .i64 K) ∧ HeldL w [(w6.heap.size, #[S I, S F, .int .i64 K]), (w2.heap.size, #[.bool false, S W, S P])] w') → Below w'.heap.size w' w'' → (w''.cell? ⟨w2.heap.size, 0, none⟩ = some (.bool false) ∧ w''.cell? ⟨w2.heap.size, 1, none⟩ = some (S W) ∧ w''.cell? ⟨w2.heap.size, 2, none⟩ = some (S P) ∧ w''.cell? ⟨w6.heap.size, 0, none⟩ = some (S I) ∧ w''.cell? ⟨w6.heap.size, 1, none⟩ = some (S F) ∧ w''.cell? ⟨w6.heap.size, 2, none⟩ = some (.int .i64 K) ∧ HeldL w [(w6.heap.size, #[S I, S F, .int .i64 K]), (w2.heap.size, #[.bool false, S W, S P])] w'')) := Lib.hid (fun w' w'' h hb => ALL1.out _ (HeldL.keep (h.2.2.2.2.2.2) hb))
  have HS1 : Hid (HeldL w [(w6.heap.size, #[S I, S F, .int .i64 K]), (w2.heap.size, #[.bool false, S W, S P])] _) := Lib.hid (HeldL.alloc H6.out (w6.heap.size) #[S I, S F, .int .i64 K] 28 (by simp))
  refine wp_region_held_drew (S := fun w' => w'.cell? ⟨w2.heap.size, 0, none⟩ = some (.bool false) ∧ w'.cell? ⟨w2.heap.size, 1, none⟩ = some (S W) ∧ w'.cell? ⟨w2.heap.size, 2, none⟩ = some (S P) ∧ w'.cell? ⟨w6.heap.size, 0, none⟩ = some (S I) ∧ w'.cell? ⟨w6.heap.size, 1, none⟩ = some (S F) ∧ w'.cell? ⟨w6.heap.size, 2, none⟩ = some (.int .i64 K) ∧ HeldL w [(w6.heap.size, #[S I, S F, .int .i64 K]), (w2.heap.size, #[.bool false, S W, S P])] w') (by kernel_rfl) (ALL1.out _ (HeldL.drew HS1.out)) (fun hHeld => ?_)
  refine wpAnyH_take (i := 0) (oi := { dst := some 94, op := Go.Op.move (Go.Operand.tmp 16), type := 37, pos := "law.go:108", after := #[], guard := none }) (v := ?_) rfl (by kernel_rfl) (by kernel_rfl) (by kernel_rfl) (fun _ _ _ h => h) (Or.inl ⟨by rfl, ?_⟩) hHeld ?_
  case refine_2 => (intro w hSw; (try dsimp only at hSw); go_simp <;> with_reducible rfl)
  try simp only [Act.put, List.setIfInBounds_toArray, List.set_cons_zero, List.set_cons_succ]
  refine wpAnyH_take (i := 1) (oi := { dst := some 95, op := Go.Op.binOp Go.BinOp.eql 37 (Go.Operand.tmp 94) (Go.Operand.const (Go.Value.int Go.IntKind.i64 0)) 37, type := 4, pos := "law.go:108", after := #[{ on := 0, ground := Go.Ground.data }], guard := none }) (v := ?_) rfl (by kernel_rfl) (by kernel_rfl) (by kernel_rfl) (fun _ _ _ h => h) (Or.inl ⟨by rfl, ?_⟩) hHeld ?_
  case refine_2 => (intro w hSw; (try dsimp only at hSw); go_simp <;> with_reducible rfl)
  try simp only [Act.put, List.setIfInBounds_toArray, List.set_cons_zero, List.set_cons_succ]
  refine wpAnyH_take (i := 2) (oi := { dst := some 96, op := Go.Op.move (Go.Operand.tmp 95), type := 4, pos := "law.go:108", after := #[{ on := 1, ground := Go.Ground.data }], guard := none }) (v := ?_) rfl (by kernel_rfl) (by kernel_rfl) (by kernel_rfl) (fun _ _ _ h => h) (Or.inl ⟨by rfl, ?_⟩) hHeld ?_
  case refine_2 => (intro w hSw; (try dsimp only at hSw); go_simp <;> with_reducible rfl)
  try simp only [Act.put, List.setIfInBounds_toArray, List.set_cons_zero, List.set_cons_succ]
  refine wpAnyH_take (i := 3) (oi := { dst := some 97, op := Go.Op.load 28 (Go.Operand.tmp 15), type := 28, pos := "law.go:108", after := #[{ on := 2, ground := Go.Ground.guard }], guard := some (2, true) }) (v := ?_) rfl (by kernel_rfl) (by kernel_rfl) (by kernel_rfl) (fun _ _ _ h => h) (Or.inl ⟨by rfl, ?_⟩) hHeld ?_
  case refine_2 => (intro w hSw; (try dsimp only at hSw); go_simp <;> with_reducible rfl)
  try simp only [Act.put, List.setIfInBounds_toArray, List.set_cons_zero, List.set_cons_succ]
  refine wpAnyH_take (i := 4) (oi := { dst := some 98, op := Go.Op.load 25 (Go.Operand.tmp 11), type := 25, pos := "law.go:108", after := #[{ on := 2, ground := Go.Ground.guard }], guard := some (2, true) }) (v := ?_) rfl (by kernel_rfl) (by kernel_rfl) (by kernel_rfl) (fun _ _ _ h => h) (Or.inl ⟨by rfl, ?_⟩) hHeld ?_
  case refine_2 => (intro w hSw; (try dsimp only at hSw); go_simp <;> with_reducible rfl)
  try simp only [Act.put, List.setIfInBounds_toArray, List.set_cons_zero, List.set_cons_succ]
  refine wpAnyH_take (i := 5) (oi := { dst := some 99, op := Go.Op.move (Go.Operand.tmp 3), type := 3, pos := "law.go:108", after := #[{ on := 2, ground := Go.Ground.guard }], guard := some (2, true) }) (v := ?_) rfl (by kernel_rfl) (by kernel_rfl) (by kernel_rfl) (fun _ _ _ h => h) (Or.inl ⟨by rfl, ?_⟩) hHeld ?_
  case refine_2 => (intro w hSw; (try dsimp only at hSw); go_simp <;> with_reducible rfl)
  try simp only [Act.put, List.setIfInBounds_toArray, List.set_cons_zero, List.set_cons_succ]
  refine wpAnyH_take (i := 6) (oi := { dst := some 100, op := Go.Op.call { callee := Go.Callee.builtin Go.Builtin.max, args := #[Go.Operand.tmp 99, Go.Operand.const (Go.Value.int Go.IntKind.i64 0)], argTypes := #[3, 3] }, type := 3, pos := "law.go:108", after := #[{ on := 5, ground := Go.Ground.data }, { on := 2, ground := Go.Ground.guard }], guard := some (2, true) }) (v := ?_) rfl (by kernel_rfl) (by kernel_rfl) (by kernel_rfl) (fun _ _ _ h => h) (Or.inl ⟨by rfl, ?_⟩) hHeld ?_
  case refine_2 => (intro w hSw; (try dsimp only at hSw); go_simp <;> with_reducible rfl)
  try simp only [Act.put, List.setIfInBounds_toArray, List.set_cons_zero, List.set_cons_succ]
  refine wpAnyH_ready (rs := [7]) (by kernel_rfl) (by simp) ?_
  refine AllReadyH.cons (o := { dst := some 101, op := Go.Op.call { callee := Go.Callee.value (Go.Operand.func 7), args := #[Go.Operand.tmp 98, Go.Operand.tmp 100], argTypes := #[25, 3] }, type := 28, pos := "law.go:108", after := #[{ on := 4, ground := Go.Ground.data }, { on := 6, ground := Go.Ground.data }, { on := 2, ground := Go.Ground.chain }, { on := 2, ground := Go.Ground.guard }], guard := some (2, true) }) rfl (fun KK hK => ?_) AllReadyH.nil
  go_simp
  with_reducible refine (of_as ⟨false, W, P⟩ (max e 0) _ (by show W.length ≤ 900000; omega) (by show (P : List UInt8).length ≤ 900000; omega) ⟨I, F, K⟩ HO.out).mono ?_
  rintro x wA ⟨rfl, hb⟩
  go_wp2_with fail
  refine hK.out _ _ (KEEP1.out _ _ hHeld hb) (fun hHeld2 => ?_)
  clear hK hHeld hb
  have hHeld := hHeld2
  clear hHeld2
  try simp only [Act.put, List.setIfInBounds_toArray, List.set_cons_zero, List.set_cons_succ]
  refine wpAnyH_take (i := 8) (oi := { dst := some 102, op := Go.Op.binOp Go.BinOp.eql 28 (Go.Operand.tmp 97) (Go.Operand.tmp 101) 28, type := 4, pos := "law.go:108", after := #[{ on := 3, ground := Go.Ground.data }, { on := 7, ground := Go.Ground.data }, { on := 2, ground := Go.Ground.guard }], guard := some (2, true) }) (v := ?_) rfl (by kernel_rfl) (by kernel_rfl) (by kernel_rfl) (fun _ _ _ h => h) (Or.inl ⟨by rfl, ?_⟩) hHeld ?_
  case refine_2 => (intro w hSw; (try dsimp only at hSw); go_simp <;> with_reducible rfl)
  try simp only [Act.put, List.setIfInBounds_toArray, List.set_cons_zero, List.set_cons_succ]
  refine wpAnyH_take (i := 9) (oi := { dst := some 103, op := Go.Op.pick (Go.Operand.tmp 96) (Go.Operand.tmp 102) (Go.Operand.const (Go.Value.bool false)), type := 4, pos := "law.go:108", after := #[{ on := 2, ground := Go.Ground.data }, { on := 8, ground := Go.Ground.data }], guard := none }) (v := ?_) rfl (by kernel_rfl) (by kernel_rfl) (by kernel_rfl) (fun _ _ _ h => h) (Or.inl ⟨by rfl, ?_⟩) hHeld ?_
  case refine_2 => (intro w hSw; (try dsimp only at hSw); go_simp <;> with_reducible rfl)
  try simp only [Act.put, List.setIfInBounds_toArray, List.set_cons_zero, List.set_cons_succ]
  refine wpAnyH_take (i := 10) (oi := { dst := some 10, op := Go.Op.assign (Go.Operand.tmp 103), type := 4, pos := "law.go:108", after := #[{ on := 9, ground := Go.Ground.data }, { on := 7, ground := Go.Ground.chain }, { on := 0, ground := Go.Ground.phase }, { on := 1, ground := Go.Ground.phase }, { on := 2, ground := Go.Ground.phase }, { on := 3, ground := Go.Ground.phase }, { on := 4, ground := Go.Ground.phase }, { on := 5, ground := Go.Ground.phase }, { on := 6, ground := Go.Ground.phase }, { on := 7, ground := Go.Ground.phase }, { on := 8, ground := Go.Ground.phase }, { on := 9, ground := Go.Ground.phase }], guard := none }) (v := ?_) rfl (by kernel_rfl) (by kernel_rfl) (by kernel_rfl) (fun _ _ _ h => h) (Or.inl ⟨by rfl, ?_⟩) hHeld ?_
  case refine_2 => (intro w hSw; (try dsimp only at hSw); go_simp <;> with_reducible rfl)
  try simp only [Act.put, List.setIfInBounds_toArray, List.set_cons_zero, List.set_cons_succ]
  refine wpAnyH_done (by kernel_rfl) ?_ _
  clear bv0 bv1 bv2 bvl
  have H7 : Hid (HeldL w [(w6.heap.size, #[S I, S F, .int .i64 K]), (w2.heap.size, #[.bool false, S W, S P])] wA) := Lib.hid (hHeld.2.2.2.2.2.2)
  clear hHeld ALL1 KEEP1 HS1 H6
  go_wp2
  go_ret
  exact ⟨rfl, H7.out.bel⟩

end Go.Proofs.YtjobccgpejbchaaDoor

namespace Go.Proofs.YtjobccgpejbchaaDoor
open Go.RowKit Florin
set_option linter.unusedVariables false
set_option linter.unusedSimpArgs false
attribute [local go_sem ↓] Go.wp_at_zero Go.wp_at_succ

set_option maxHeartbeats 800000 in
theorem reads_n0 (a : Option Addr) (len cap : Nat) (L : List UInt8) (a1 : Option Addr) (len1 cap1 : Nat) (L1 : List UInt8) (pt : Bool) (e : Int) (lt : Bool) (w : World) (h1 : 1100 < len) :
    Calls Tryd.prog 4 #[.slice a len cap, .slice a1 len1 cap1, .bool pt, .int .i64 e, .bool lt] w fun x w' => x = .returned (.bool true) ∧ Below w.heap.size w w' := by
  have blen : decide ((1100 : Int) < (len : Int)) = true := decide_eq_true (by omega)
  go_enter Tryd.func4, Tryd.ntmps4
  go_wp2_with fail
  with_reducible refine (head5 _).mono ?_
  rintro x w1 ⟨rfl, hb⟩
  have HB := Lib.hid hb
  clear hb
  go_wp2
  go_ret
  exact ⟨rfl, HB.out⟩

set_option maxHeartbeats 800000 in
theorem reads_n1 (a : Option Addr) (len cap : Nat) (L : List UInt8) (a1 : Option Addr) (len1 cap1 : Nat) (L1 : List UInt8) (pt : Bool) (e : Int) (lt : Bool) (w : World) (h1 : len ≤ 1100) (h2 : 1100 < len1) :
    Calls Tryd.prog 4 #[.slice a len cap, .slice a1 len1 cap1, .bool pt, .int .i64 e, .bool lt] w fun x w' => x = .returned (.bool true) ∧ Below w.heap.size w w' := by
  have blen : decide ((1100 : Int) < (len : Int)) = false := decide_eq_false (by omega)
  have blen1 : decide ((1100 : Int) < (len1 : Int)) = true := decide_eq_true (by omega)
  go_enter Tryd.func4, Tryd.ntmps4
  go_wp2_with fail
  with_reducible refine (head5 _).mono ?_
  rintro x w1 ⟨rfl, hb⟩
  have HB := Lib.hid hb
  clear hb
  go_wp2
  go_ret
  exact ⟨rfl, HB.out⟩

set_option maxHeartbeats 800000 in
theorem reads_n2 (a : Option Addr) (len cap : Nat) (L : List UInt8) (a1 : Option Addr) (len1 cap1 : Nat) (L1 : List UInt8) (pt : Bool) (e : Int) (lt : Bool) (w : World) (h1 : len ≤ 1100) (h2 : len1 ≤ 1100) (h3 : len = 0) :
    Calls Tryd.prog 4 #[.slice a len cap, .slice a1 len1 cap1, .bool pt, .int .i64 e, .bool lt] w fun x w' => x = .returned (.bool true) ∧ Below w.heap.size w w' := by
  have blen : decide ((1100 : Int) < (len : Int)) = false := decide_eq_false (by omega)
  have blen1 : decide ((1100 : Int) < (len1 : Int)) = false := decide_eq_false (by omega)
  have zlen : ((len : Int) == 0) = true := by simp; omega
  clear h3
  go_enter Tryd.func4, Tryd.ntmps4
  go_wp2_with fail
  with_reducible refine (head5 _).mono ?_
  rintro x w1 ⟨rfl, hb⟩
  have HB := Lib.hid hb
  clear hb
  go_wp2
  go_ret
  exact ⟨rfl, HB.out⟩

set_option maxHeartbeats 800000 in
theorem reads_n3 (a : Option Addr) (len cap : Nat) (L : List UInt8) (a1 : Option Addr) (len1 cap1 : Nat) (L1 : List UInt8) (e : Int) (lt : Bool) (w : World) (h1 : len ≤ 1100) (h2 : len1 ≤ 1100) (h3 : ¬ len = 0) (h4 : len1 = 0) :
    Calls Tryd.prog 4 #[.slice a len cap, .slice a1 len1 cap1, .bool true, .int .i64 e, .bool lt] w fun x w' => x = .returned (.bool true) ∧ Below w.heap.size w w' := by
  have blen : decide ((1100 : Int) < (len : Int)) = false := decide_eq_false (by omega)
  have blen1 : decide ((1100 : Int) < (len1 : Int)) = false := decide_eq_false (by omega)
  have zlen : ((len : Int) == 0) = false := by simp; omega
  have zlen1 : ((len1 : Int) == 0) = true := by simp; omega
  clear h4
  go_enter Tryd.func4, Tryd.ntmps4
  go_wp2_with fail
  with_reducible refine (head5 _).mono ?_
  rintro x w1 ⟨rfl, hb⟩
  have HB := Lib.hid hb
  clear hb
  go_wp2
  go_ret
  exact ⟨rfl, HB.out⟩

set_option maxHeartbeats 800000 in
theorem reads_n4t (a : Option Addr) (len cap : Nat) (L : List UInt8) (a1 : Option Addr) (len1 cap1 : Nat) (L1 : List UInt8) (e : Int) (lt : Bool) (w : World) (h1 : len ≤ 1100) (h2 : len1 ≤ 1100) (h3 : ¬ len = 0) (h4 : ¬ len1 = 0) (h5 : 11000 < e) :
    Calls Tryd.prog 4 #[.slice a len cap, .slice a1 len1 cap1, .bool true, .int .i64 e, .bool lt] w fun x w' => x = .returned (.bool true) ∧ Below w.heap.size w w' := by
  have blen : decide ((1100 : Int) < (len : Int)) = false := decide_eq_false (by omega)
  have blen1 : decide ((1100 : Int) < (len1 : Int)) = false := decide_eq_false (by omega)
  have zlen : ((len : Int) == 0) = false := by simp; omega
  have zlen1 : ((len1 : Int) == 0) = false := by simp; omega
  have b5 : decide ((11000 : Int) < e) = true := decide_eq_true (by omega)
  go_enter Tryd.func4, Tryd.ntmps4
  go_wp2_with fail
  with_reducible refine (head5 _).mono ?_
  rintro x w1 ⟨rfl, hb⟩
  have HB := Lib.hid hb
  clear hb
  go_wp2
  go_ret
  exact ⟨rfl, HB.out⟩

set_option maxHeartbeats 800000 in
theorem reads_n4f (a : Option Addr) (len cap : Nat) (L : List UInt8) (a1 : Option Addr) (len1 cap1 : Nat) (L1 : List UInt8) (e : Int) (lt : Bool) (w : World) (h1 : len ≤ 1100) (h2 : len1 ≤ 1100) (h3 : ¬ len = 0) (h5 : 11000 < e) :
    Calls Tryd.prog 4 #[.slice a len cap, .slice a1 len1 cap1, .bool false, .int .i64 e, .bool lt] w fun x w' => x = .returned (.bool true) ∧ Below w.heap.size w w' := by
  have blen : decide ((1100 : Int) < (len : Int)) = false := decide_eq_false (by omega)
  have blen1 : decide ((1100 : Int) < (len1 : Int)) = false := decide_eq_false (by omega)
  have zlen : ((len : Int) == 0) = false := by simp; omega
  have b5 : decide ((11000 : Int) < e) = true := decide_eq_true (by omega)
  go_enter Tryd.func4, Tryd.ntmps4
  go_wp2_with fail
  with_reducible refine (head5 _).mono ?_
  rintro x w1 ⟨rfl, hb⟩
  have HB := Lib.hid hb
  clear hb
  go_wp2
  go_ret
  exact ⟨rfl, HB.out⟩

theorem reads_qn (a : Option Addr) (len cap : Nat) (L : List UInt8) (a1 : Option Addr) (len1 cap1 : Nat) (L1 : List UInt8) (e : Int) (lt : Bool) (w : World) (hin : InB w a len cap L) (hin1 : InB w a1 len1 cap1 L1) (h1 : len ≤ 1100) (h10 : ¬ len = 0) (h2 : len1 ≤ 1100) (h3 : e ≤ 11000) (h4 : e < 0) (ht : Tab w) :
    Calls Tryd.prog 4 #[.slice a len cap, .slice a1 len1 cap1, .bool false, .int .i64 e, .bool lt] w fun x w' => x = .returned (.bool true) ∧ Below w.heap.size w w' := by
  obtain ⟨W, hW⟩ : ∃ W, dgs L = W := ⟨_, rfl⟩
  have dW : isDig W = true := by rw [← hW]; exact isDig_dgs L
  have wl : W.length = len := by rw [← hW, dgs_length, hin.1]
  have w0 : W ≠ [] := by intro h; rw [h] at wl; simp at wl; omega
  have hT : W = rendO W false [] false 99 [] := by unfold rendO; simp
  obtain ⟨hE, hR⟩ := rend_read W false [] false 99 [] dW w0 rfl (fun h => by cases h) (by decide) (fun h => by cases h) (0) rfl [] rfl
  rw [← hT] at hE hR
  by_cases h5 : 1000 < W.length
  · have hc : 10000 < 0 ∨ 1000 < W.length + ([] : List UInt8).length := Or.inr (by simpa using h5)
    rw [if_pos hc] at hE hR
    exact reads_qn_len a len cap L a1 len1 cap1 L1 e lt w hin hin1 W hW (by omega) w0 h1 h10 h2 h3 h4 h5 hR hE ht
  · have hc : ¬ (10000 < 0 ∨ 1000 < W.length + ([] : List UInt8).length) := by rintro (h | h); omega; exact h5 (by simpa using h)
    rw [if_neg hc] at hE hR
    obtain ⟨⟨I, F, K⟩, hO⟩ : ∃ o, ofP ⟨false, W, []⟩ (0 : Nat) = o := ⟨_, rfl⟩
    rw [hO] at hR
    exact reads_qn_ok a len cap L a1 len1 cap1 L1 e lt w hin hin1 W hW (by omega) w0 h1 h10 h2 h3 h4 h5 (by omega) I F K hR hE (by rw [show max e 0 = ((0 : Nat) : Int) by omega]; exact hO) ht

theorem reads_qc0 (a : Option Addr) (len cap : Nat) (L : List UInt8) (a1 : Option Addr) (len1 cap1 : Nat) (L1 : List UInt8) (e : Int) (lt : Bool) (w : World) (hin : InB w a len cap L) (hin1 : InB w a1 len1 cap1 L1) (h1 : len ≤ 1100) (h10 : ¬ len = 0) (h2 : len1 ≤ 1100) (h3 : e ≤ 11000) (h4 : e = 0) (ht : Tab w) :
    Calls Tryd.prog 4 #[.slice a len cap, .slice a1 len1 cap1, .bool false, .int .i64 e, .bool false] w fun x w' => x = .returned (.bool true) ∧ Below w.heap.size w w' := by
  obtain ⟨W, hW⟩ : ∃ W, dgs L = W := ⟨_, rfl⟩
  have dW : isDig W = true := by rw [← hW]; exact isDig_dgs L
  have wl : W.length = len := by rw [← hW, dgs_length, hin.1]
  have w0 : W ≠ [] := by intro h; rw [h] at wl; simp at wl; omega
  have hT : (W ++ [99] ++ [48]) = rendO W false [] true 99 [48] := by unfold rendO; simp
  obtain ⟨hE, hR⟩ := rend_read W false [] true 99 [48] dW w0 rfl (fun h => by cases h) (by decide) (fun _ => by decide) (0) (by decide) [] rfl
  rw [← hT] at hE hR
  by_cases h5 : 1000 < W.length
  · have hc : 10000 < 0 ∨ 1000 < W.length + ([] : List UInt8).length := Or.inr (by simpa using h5)
    rw [if_pos hc] at hE hR
    exact reads_qc0_len a len cap L a1 len1 cap1 L1 e w hin hin1 W hW (by omega) w0 h1 h10 h2 h3 h4 _ _ rfl rfl h5 hR hE ht
  · have hc : ¬ (10000 < 0 ∨ 1000 < W.length + ([] : List UInt8).length) := by rintro (h | h); omega; exact h5 (by simpa using h)
    rw [if_neg hc] at hE hR
    obtain ⟨⟨I, F, K⟩, hO⟩ : ∃ o, ofP ⟨false, W, []⟩ (0 : Nat) = o := ⟨_, rfl⟩
    rw [hO] at hR
    exact reads_qc0_ok a len cap L a1 len1 cap1 L1 e w hin hin1 W hW (by omega) w0 h1 h10 h2 h3 h4 _ _ rfl rfl h5 (by omega) I F K hR hE (hO) ht

theorem reads_qc1 (a : Option Addr) (len cap : Nat) (L : List UInt8) (a1 : Option Addr) (len1 cap1 : Nat) (L1 : List UInt8) (e : Int) (lt : Bool) (w : World) (hin : InB w a len cap L) (hin1 : InB w a1 len1 cap1 L1) (h1 : len ≤ 1100) (h10 : ¬ len = 0) (h2 : len1 ≤ 1100) (h3 : e ≤ 11000) (h4 : 0 < e) (ht : Tab w) :
    Calls Tryd.prog 4 #[.slice a len cap, .slice a1 len1 cap1, .bool false, .int .i64 e, .bool false] w fun x w' => x = .returned (.bool true) ∧ Below w.heap.size w w' := by
  obtain ⟨W, hW⟩ : ∃ W, dgs L = W := ⟨_, rfl⟩
  have dW : isDig W = true := by rw [← hW]; exact isDig_dgs L
  have wl : W.length = len := by rw [← hW, dgs_length, hin.1]
  have w0 : W ≠ [] := by intro h; rw [h] at wl; simp at wl; omega
  obtain ⟨Q, hQ⟩ : ∃ Q, dig e.toNat = Q := ⟨_, rfl⟩
  have ql : Q.length ≤ 30 := by
    rw [← hQ, dig_length_le]
    exact Nat.lt_of_le_of_lt (show e.toNat ≤ 11000 by omega) (by decide)
  have q0 : Q ≠ [] := by rw [← hQ]; intro h; have := (dig_eq_nil _).1 h; omega
  have hT : (W ++ [99] ++ Q) = rendO W false [] true 99 Q := by unfold rendO; simp
  obtain ⟨hE, hR⟩ := rend_read W false [] true 99 Q dW w0 rfl (fun h => by cases h) (by decide) (fun _ => (sdig_iff Q).2 ⟨q0, by rw [← hQ]; exact isDig_dig _⟩) (e.toNat) (by rw [← hQ]; exact val_dig _) [] rfl
  rw [← hT] at hE hR
  by_cases h5 : 1000 < W.length
  · have hc : 10000 < e.toNat ∨ 1000 < W.length + ([] : List UInt8).length := Or.inr (by simpa using h5)
    rw [if_pos hc] at hE hR
    exact reads_qc1_len a len cap L a1 len1 cap1 L1 e w hin hin1 W hW (by omega) w0 h1 h10 h2 h3 h4 Q hQ ql q0 _ _ rfl rfl h5 hR hE ht
  · by_cases h6 : 10000 < e
    · have hc : 10000 < e.toNat ∨ 1000 < W.length + ([] : List UInt8).length := Or.inl (by omega)
      rw [if_pos hc] at hE hR
      exact reads_qc1_pow a len cap L a1 len1 cap1 L1 e w hin hin1 W hW (by omega) w0 h1 h10 h2 h3 h4 Q hQ ql q0 _ _ rfl rfl h5 h6 hR hE ht
    · have hc : ¬ (10000 < e.toNat ∨ 1000 < W.length + ([] : List UInt8).length) := by rintro (h | h); omega; exact h5 (by simpa using h)
      rw [if_neg hc] at hE hR
      obtain ⟨⟨I, F, K⟩, hO⟩ : ∃ o, ofP ⟨false, W, []⟩ (e.toNat : Nat) = o := ⟨_, rfl⟩
      rw [hO] at hR
      exact reads_qc1_ok a len cap L a1 len1 cap1 L1 e w hin hin1 W hW (by omega) w0 h1 h10 h2 h3 h4 Q hQ ql q0 _ _ rfl rfl h5 (by omega) I F K hR hE (by rw [show max e 0 = ((e.toNat : Nat) : Int) by omega]; exact hO) ht

theorem reads_qe0 (a : Option Addr) (len cap : Nat) (L : List UInt8) (a1 : Option Addr) (len1 cap1 : Nat) (L1 : List UInt8) (e : Int) (lt : Bool) (w : World) (hin : InB w a len cap L) (hin1 : InB w a1 len1 cap1 L1) (h1 : len ≤ 1100) (h10 : ¬ len = 0) (h2 : len1 ≤ 1100) (h3 : e ≤ 11000) (h4 : e = 0) (ht : Tab w) :
    Calls Tryd.prog 4 #[.slice a len cap, .slice a1 len1 cap1, .bool false, .int .i64 e, .bool true] w fun x w' => x = .returned (.bool true) ∧ Below w.heap.size w w' := by
  obtain ⟨W, hW⟩ : ∃ W, dgs L = W := ⟨_, rfl⟩
  have dW : isDig W = true := by rw [← hW]; exact isDig_dgs L
  have wl : W.length = len := by rw [← hW, dgs_length, hin.1]
  have w0 : W ≠ [] := by intro h; rw [h] at wl; simp at wl; omega
  have hT : (W ++ [101] ++ [48]) = rendO W false [] true 101 [48] := by unfold rendO; simp
  obtain ⟨hE, hR⟩ := rend_read W false [] true 101 [48] dW w0 rfl (fun h => by cases h) (by decide) (fun _ => by decide) (0) (by decide) [] rfl
  rw [← hT] at hE hR
  by_cases h5 : 1000 < W.length
  · have hc : 10000 < 0 ∨ 1000 < W.length + ([] : List UInt8).length := Or.inr (by simpa using h5)
    rw [if_pos hc] at hE hR
    exact reads_qe0_len a len cap L a1 len1 cap1 L1 e w hin hin1 W hW (by omega) w0 h1 h10 h2 h3 h4 _ _ rfl rfl h5 hR hE ht
  · have hc : ¬ (10000 < 0 ∨ 1000 < W.length + ([] : List UInt8).length) := by rintro (h | h); omega; exact h5 (by simpa using h)
    rw [if_neg hc] at hE hR
    obtain ⟨⟨I, F, K⟩, hO⟩ : ∃ o, ofP ⟨false, W, []⟩ (0 : Nat) = o := ⟨_, rfl⟩
    rw [hO] at hR
    exact reads_qe0_ok a len cap L a1 len1 cap1 L1 e w hin hin1 W hW (by omega) w0 h1 h10 h2 h3 h4 _ _ rfl rfl h5 (by omega) I F K hR hE (hO) ht

theorem reads_qe1 (a : Option Addr) (len cap : Nat) (L : List UInt8) (a1 : Option Addr) (len1 cap1 : Nat) (L1 : List UInt8) (e : Int) (lt : Bool) (w : World) (hin : InB w a len cap L) (hin1 : InB w a1 len1 cap1 L1) (h1 : len ≤ 1100) (h10 : ¬ len = 0) (h2 : len1 ≤ 1100) (h3 : e ≤ 11000) (h4 : 0 < e) (ht : Tab w) :
    Calls Tryd.prog 4 #[.slice a len cap, .slice a1 len1 cap1, .bool false, .int .i64 e, .bool true] w fun x w' => x = .returned (.bool true) ∧ Below w.heap.size w w' := by
  obtain ⟨W, hW⟩ : ∃ W, dgs L = W := ⟨_, rfl⟩
  have dW : isDig W = true := by rw [← hW]; exact isDig_dgs L
  have wl : W.length = len := by rw [← hW, dgs_length, hin.1]
  have w0 : W ≠ [] := by intro h; rw [h] at wl; simp at wl; omega
  obtain ⟨Q, hQ⟩ : ∃ Q, dig e.toNat = Q := ⟨_, rfl⟩
  have ql : Q.length ≤ 30 := by
    rw [← hQ, dig_length_le]
    exact Nat.lt_of_le_of_lt (show e.toNat ≤ 11000 by omega) (by decide)
  have q0 : Q ≠ [] := by rw [← hQ]; intro h; have := (dig_eq_nil _).1 h; omega
  have hT : (W ++ [101] ++ Q) = rendO W false [] true 101 Q := by unfold rendO; simp
  obtain ⟨hE, hR⟩ := rend_read W false [] true 101 Q dW w0 rfl (fun h => by cases h) (by decide) (fun _ => (sdig_iff Q).2 ⟨q0, by rw [← hQ]; exact isDig_dig _⟩) (e.toNat) (by rw [← hQ]; exact val_dig _) [] rfl
  rw [← hT] at hE hR
  by_cases h5 : 1000 < W.length
  · have hc : 10000 < e.toNat ∨ 1000 < W.length + ([] : List UInt8).length := Or.inr (by simpa using h5)
    rw [if_pos hc] at hE hR
    exact reads_qe1_len a len cap L a1 len1 cap1 L1 e w hin hin1 W hW (by omega) w0 h1 h10 h2 h3 h4 Q hQ ql q0 _ _ rfl rfl h5 hR hE ht
  · by_cases h6 : 10000 < e
    · have hc : 10000 < e.toNat ∨ 1000 < W.length + ([] : List UInt8).length := Or.inl (by omega)
      rw [if_pos hc] at hE hR
      exact reads_qe1_pow a len cap L a1 len1 cap1 L1 e w hin hin1 W hW (by omega) w0 h1 h10 h2 h3 h4 Q hQ ql q0 _ _ rfl rfl h5 h6 hR hE ht
    · have hc : ¬ (10000 < e.toNat ∨ 1000 < W.length + ([] : List UInt8).length) := by rintro (h | h); omega; exact h5 (by simpa using h)
      rw [if_neg hc] at hE hR
      obtain ⟨⟨I, F, K⟩, hO⟩ : ∃ o, ofP ⟨false, W, []⟩ (e.toNat : Nat) = o := ⟨_, rfl⟩
      rw [hO] at hR
      exact reads_qe1_ok a len cap L a1 len1 cap1 L1 e w hin hin1 W hW (by omega) w0 h1 h10 h2 h3 h4 Q hQ ql q0 _ _ rfl rfl h5 (by omega) I F K hR hE (by rw [show max e 0 = ((e.toNat : Nat) : Int) by omega]; exact hO) ht

theorem reads_pn (a : Option Addr) (len cap : Nat) (L : List UInt8) (a1 : Option Addr) (len1 cap1 : Nat) (L1 : List UInt8) (e : Int) (lt : Bool) (w : World) (hin : InB w a len cap L) (hin1 : InB w a1 len1 cap1 L1) (h1 : len ≤ 1100) (h10 : ¬ len = 0) (h2 : len1 ≤ 1100) (h3 : e ≤ 11000) (h20 : ¬ len1 = 0) (h4 : e < 0) (ht : Tab w) :
    Calls Tryd.prog 4 #[.slice a len cap, .slice a1 len1 cap1, .bool true, .int .i64 e, .bool lt] w fun x w' => x = .returned (.bool true) ∧ Below w.heap.size w w' := by
  obtain ⟨W, hW⟩ : ∃ W, dgs L = W := ⟨_, rfl⟩
  have dW : isDig W = true := by rw [← hW]; exact isDig_dgs L
  have wl : W.length = len := by rw [← hW, dgs_length, hin.1]
  have w0 : W ≠ [] := by intro h; rw [h] at wl; simp at wl; omega
  obtain ⟨P, hP⟩ : ∃ P, dgs L1 = P := ⟨_, rfl⟩
  have dP : isDig P = true := by rw [← hP]; exact isDig_dgs L1
  have pl : P.length = len1 := by rw [← hP, dgs_length, hin1.1]
  have p0 : P ≠ [] := by intro h; rw [h] at pl; simp at pl; omega
  have hT : (W ++ [46] ++ P) = rendO W true P false 99 [] := by unfold rendO; simp
  obtain ⟨hE, hR⟩ := rend_read W true P false 99 [] dW w0 dP (fun _ => p0) (by decide) (fun h => by cases h) (0) rfl P rfl
  rw [← hT] at hE hR
  by_cases h5 : 1000 < W.length + P.length
  · have hc : 10000 < 0 ∨ 1000 < W.length + (P : List UInt8).length := Or.inr (by exact h5)
    rw [if_pos hc] at hE hR
    exact reads_pn_len a len cap L a1 len1 cap1 L1 e lt w hin hin1 W hW (by omega) w0 h1 h10 h2 h3 h20 P hP (by omega) _ _ rfl rfl h4 h5 hR hE ht
  · have hc : ¬ (10000 < 0 ∨ 1000 < W.length + (P : List UInt8).length) := by rintro (h | h); omega; exact h5 (by exact h)
    rw [if_neg hc] at hE hR
    obtain ⟨⟨I, F, K⟩, hO⟩ : ∃ o, ofP ⟨false, W, P⟩ (0 : Nat) = o := ⟨_, rfl⟩
    rw [hO] at hR
    exact reads_pn_ok a len cap L a1 len1 cap1 L1 e lt w hin hin1 W hW (by omega) w0 h1 h10 h2 h3 h20 P hP (by omega) _ _ rfl rfl h4 h5 (by omega) I F K hR hE (by rw [show max e 0 = ((0 : Nat) : Int) by omega]; exact hO) ht

theorem reads_pc0 (a : Option Addr) (len cap : Nat) (L : List UInt8) (a1 : Option Addr) (len1 cap1 : Nat) (L1 : List UInt8) (e : Int) (lt : Bool) (w : World) (hin : InB w a len cap L) (hin1 : InB w a1 len1 cap1 L1) (h1 : len ≤ 1100) (h10 : ¬ len = 0) (h2 : len1 ≤ 1100) (h3 : e ≤ 11000) (h20 : ¬ len1 = 0) (h4 : e = 0) (ht : Tab w) :
    Calls Tryd.prog 4 #[.slice a len cap, .slice a1 len1 cap1, .bool true, .int .i64 e, .bool false] w fun x w' => x = .returned (.bool true) ∧ Below w.heap.size w w' := by
  obtain ⟨W, hW⟩ : ∃ W, dgs L = W := ⟨_, rfl⟩
  have dW : isDig W = true := by rw [← hW]; exact isDig_dgs L
  have wl : W.length = len := by rw [← hW, dgs_length, hin.1]
  have w0 : W ≠ [] := by intro h; rw [h] at wl; simp at wl; omega
  obtain ⟨P, hP⟩ : ∃ P, dgs L1 = P := ⟨_, rfl⟩
  have dP : isDig P = true := by rw [← hP]; exact isDig_dgs L1
  have pl : P.length = len1 := by rw [← hP, dgs_length, hin1.1]
  have p0 : P ≠ [] := by intro h; rw [h] at pl; simp at pl; omega
  have hT : ((W ++ [46] ++ P) ++ [99] ++ [48]) = rendO W true P true 99 [48] := by unfold rendO; simp
  obtain ⟨hE, hR⟩ := rend_read W true P true 99 [48] dW w0 dP (fun _ => p0) (by decide) (fun _ => by decide) (0) (by decide) P rfl
  rw [← hT] at hE hR
  by_cases h5 : 1000 < W.length + P.length
  · have hc : 10000 < 0 ∨ 1000 < W.length + (P : List UInt8).length := Or.inr (by exact h5)
    rw [if_pos hc] at hE hR
    exact reads_pc0_len a len cap L a1 len1 cap1 L1 e w hin hin1 W hW (by omega) w0 h1 h10 h2 h3 h20 P hP (by omega) _ _ rfl rfl h4 _ _ rfl rfl h5 hR hE ht
  · have hc : ¬ (10000 < 0 ∨ 1000 < W.length + (P : List UInt8).length) := by rintro (h | h); omega; exact h5 (by exact h)
    rw [if_neg hc] at hE hR
    obtain ⟨⟨I, F, K⟩, hO⟩ : ∃ o, ofP ⟨false, W, P⟩ (0 : Nat) = o := ⟨_, rfl⟩
    rw [hO] at hR
    exact reads_pc0_ok a len cap L a1 len1 cap1 L1 e w hin hin1 W hW (by omega) w0 h1 h10 h2 h3 h20 P hP (by omega) _ _ rfl rfl h4 _ _ rfl rfl h5 (by omega) I F K hR hE (hO) ht

theorem reads_pc1 (a : Option Addr) (len cap : Nat) (L : List UInt8) (a1 : Option Addr) (len1 cap1 : Nat) (L1 : List UInt8) (e : Int) (lt : Bool) (w : World) (hin : InB w a len cap L) (hin1 : InB w a1 len1 cap1 L1) (h1 : len ≤ 1100) (h10 : ¬ len = 0) (h2 : len1 ≤ 1100) (h3 : e ≤ 11000) (h20 : ¬ len1 = 0) (h4 : 0 < e) (ht : Tab w) :
    Calls Tryd.prog 4 #[.slice a len cap, .slice a1 len1 cap1, .bool true, .int .i64 e, .bool false] w fun x w' => x = .returned (.bool true) ∧ Below w.heap.size w w' := by
  obtain ⟨W, hW⟩ : ∃ W, dgs L = W := ⟨_, rfl⟩
  have dW : isDig W = true := by rw [← hW]; exact isDig_dgs L
  have wl : W.length = len := by rw [← hW, dgs_length, hin.1]
  have w0 : W ≠ [] := by intro h; rw [h] at wl; simp at wl; omega
  obtain ⟨P, hP⟩ : ∃ P, dgs L1 = P := ⟨_, rfl⟩
  have dP : isDig P = true := by rw [← hP]; exact isDig_dgs L1
  have pl : P.length = len1 := by rw [← hP, dgs_length, hin1.1]
  have p0 : P ≠ [] := by intro h; rw [h] at pl; simp at pl; omega
  obtain ⟨Q, hQ⟩ : ∃ Q, dig e.toNat = Q := ⟨_, rfl⟩
  have ql : Q.length ≤ 30 := by
    rw [← hQ, dig_length_le]
    exact Nat.lt_of_le_of_lt (show e.toNat ≤ 11000 by omega) (by decide)
  have q0 : Q ≠ [] := by rw [← hQ]; intro h; have := (dig_eq_nil _).1 h; omega
  have hT : ((W ++ [46] ++ P) ++ [99] ++ Q) = rendO W true P true 99 Q := by unfold rendO; simp
  obtain ⟨hE, hR⟩ := rend_read W true P true 99 Q dW w0 dP (fun _ => p0) (by decide) (fun _ => (sdig_iff Q).2 ⟨q0, by rw [← hQ]; exact isDig_dig _⟩) (e.toNat) (by rw [← hQ]; exact val_dig _) P rfl
  rw [← hT] at hE hR
  by_cases h5 : 1000 < W.length + P.length
  · have hc : 10000 < e.toNat ∨ 1000 < W.length + (P : List UInt8).length := Or.inr (by exact h5)
    rw [if_pos hc] at hE hR
    exact reads_pc1_len a len cap L a1 len1 cap1 L1 e w hin hin1 W hW (by omega) w0 h1 h10 h2 h3 h20 P hP (by omega) _ _ rfl rfl h4 Q hQ ql q0 _ _ rfl rfl h5 hR hE ht
  · by_cases h6 : 10000 < e
    · have hc : 10000 < e.toNat ∨ 1000 < W.length + (P : List UInt8).length := Or.inl (by omega)
      rw [if_pos hc] at hE hR
      exact reads_pc1_pow a len cap L a1 len1 cap1 L1 e w hin hin1 W hW (by omega) w0 h1 h10 h2 h3 h20 P hP (by omega) _ _ rfl rfl h4 Q hQ ql q0 _ _ rfl rfl h5 h6 hR hE ht
    · have hc : ¬ (10000 < e.toNat ∨ 1000 < W.length + (P : List UInt8).length) := by rintro (h | h); omega; exact h5 (by exact h)
      rw [if_neg hc] at hE hR
      obtain ⟨⟨I, F, K⟩, hO⟩ : ∃ o, ofP ⟨false, W, P⟩ (e.toNat : Nat) = o := ⟨_, rfl⟩
      rw [hO] at hR
      exact reads_pc1_ok a len cap L a1 len1 cap1 L1 e w hin hin1 W hW (by omega) w0 h1 h10 h2 h3 h20 P hP (by omega) _ _ rfl rfl h4 Q hQ ql q0 _ _ rfl rfl h5 (by omega) I F K hR hE (by rw [show max e 0 = ((e.toNat : Nat) : Int) by omega]; exact hO) ht

theorem reads_pe0 (a : Option Addr) (len cap : Nat) (L : List UInt8) (a1 : Option Addr) (len1 cap1 : Nat) (L1 : List UInt8) (e : Int) (lt : Bool) (w : World) (hin : InB w a len cap L) (hin1 : InB w a1 len1 cap1 L1) (h1 : len ≤ 1100) (h10 : ¬ len = 0) (h2 : len1 ≤ 1100) (h3 : e ≤ 11000) (h20 : ¬ len1 = 0) (h4 : e = 0) (ht : Tab w) :
    Calls Tryd.prog 4 #[.slice a len cap, .slice a1 len1 cap1, .bool true, .int .i64 e, .bool true] w fun x w' => x = .returned (.bool true) ∧ Below w.heap.size w w' := by
  obtain ⟨W, hW⟩ : ∃ W, dgs L = W := ⟨_, rfl⟩
  have dW : isDig W = true := by rw [← hW]; exact isDig_dgs L
  have wl : W.length = len := by rw [← hW, dgs_length, hin.1]
  have w0 : W ≠ [] := by intro h; rw [h] at wl; simp at wl; omega
  obtain ⟨P, hP⟩ : ∃ P, dgs L1 = P := ⟨_, rfl⟩
  have dP : isDig P = true := by rw [← hP]; exact isDig_dgs L1
  have pl : P.length = len1 := by rw [← hP, dgs_length, hin1.1]
  have p0 : P ≠ [] := by intro h; rw [h] at pl; simp at pl; omega
  have hT : ((W ++ [46] ++ P) ++ [101] ++ [48]) = rendO W true P true 101 [48] := by unfold rendO; simp
  obtain ⟨hE, hR⟩ := rend_read W true P true 101 [48] dW w0 dP (fun _ => p0) (by decide) (fun _ => by decide) (0) (by decide) P rfl
  rw [← hT] at hE hR
  by_cases h5 : 1000 < W.length + P.length
  · have hc : 10000 < 0 ∨ 1000 < W.length + (P : List UInt8).length := Or.inr (by exact h5)
    rw [if_pos hc] at hE hR
    exact reads_pe0_len a len cap L a1 len1 cap1 L1 e w hin hin1 W hW (by omega) w0 h1 h10 h2 h3 h20 P hP (by omega) _ _ rfl rfl h4 _ _ rfl rfl h5 hR hE ht
  · have hc : ¬ (10000 < 0 ∨ 1000 < W.length + (P : List UInt8).length) := by rintro (h | h); omega; exact h5 (by exact h)
    rw [if_neg hc] at hE hR
    obtain ⟨⟨I, F, K⟩, hO⟩ : ∃ o, ofP ⟨false, W, P⟩ (0 : Nat) = o := ⟨_, rfl⟩
    rw [hO] at hR
    exact reads_pe0_ok a len cap L a1 len1 cap1 L1 e w hin hin1 W hW (by omega) w0 h1 h10 h2 h3 h20 P hP (by omega) _ _ rfl rfl h4 _ _ rfl rfl h5 (by omega) I F K hR hE (hO) ht

theorem reads_pe1 (a : Option Addr) (len cap : Nat) (L : List UInt8) (a1 : Option Addr) (len1 cap1 : Nat) (L1 : List UInt8) (e : Int) (lt : Bool) (w : World) (hin : InB w a len cap L) (hin1 : InB w a1 len1 cap1 L1) (h1 : len ≤ 1100) (h10 : ¬ len = 0) (h2 : len1 ≤ 1100) (h3 : e ≤ 11000) (h20 : ¬ len1 = 0) (h4 : 0 < e) (ht : Tab w) :
    Calls Tryd.prog 4 #[.slice a len cap, .slice a1 len1 cap1, .bool true, .int .i64 e, .bool true] w fun x w' => x = .returned (.bool true) ∧ Below w.heap.size w w' := by
  obtain ⟨W, hW⟩ : ∃ W, dgs L = W := ⟨_, rfl⟩
  have dW : isDig W = true := by rw [← hW]; exact isDig_dgs L
  have wl : W.length = len := by rw [← hW, dgs_length, hin.1]
  have w0 : W ≠ [] := by intro h; rw [h] at wl; simp at wl; omega
  obtain ⟨P, hP⟩ : ∃ P, dgs L1 = P := ⟨_, rfl⟩
  have dP : isDig P = true := by rw [← hP]; exact isDig_dgs L1
  have pl : P.length = len1 := by rw [← hP, dgs_length, hin1.1]
  have p0 : P ≠ [] := by intro h; rw [h] at pl; simp at pl; omega
  obtain ⟨Q, hQ⟩ : ∃ Q, dig e.toNat = Q := ⟨_, rfl⟩
  have ql : Q.length ≤ 30 := by
    rw [← hQ, dig_length_le]
    exact Nat.lt_of_le_of_lt (show e.toNat ≤ 11000 by omega) (by decide)
  have q0 : Q ≠ [] := by rw [← hQ]; intro h; have := (dig_eq_nil _).1 h; omega
  have hT : ((W ++ [46] ++ P) ++ [101] ++ Q) = rendO W true P true 101 Q := by unfold rendO; simp
  obtain ⟨hE, hR⟩ := rend_read W true P true 101 Q dW w0 dP (fun _ => p0) (by decide) (fun _ => (sdig_iff Q).2 ⟨q0, by rw [← hQ]; exact isDig_dig _⟩) (e.toNat) (by rw [← hQ]; exact val_dig _) P rfl
  rw [← hT] at hE hR
  by_cases h5 : 1000 < W.length + P.length
  · have hc : 10000 < e.toNat ∨ 1000 < W.length + (P : List UInt8).length := Or.inr (by exact h5)
    rw [if_pos hc] at hE hR
    exact reads_pe1_len a len cap L a1 len1 cap1 L1 e w hin hin1 W hW (by omega) w0 h1 h10 h2 h3 h20 P hP (by omega) _ _ rfl rfl h4 Q hQ ql q0 _ _ rfl rfl h5 hR hE ht
  · by_cases h6 : 10000 < e
    · have hc : 10000 < e.toNat ∨ 1000 < W.length + (P : List UInt8).length := Or.inl (by omega)
      rw [if_pos hc] at hE hR
      exact reads_pe1_pow a len cap L a1 len1 cap1 L1 e w hin hin1 W hW (by omega) w0 h1 h10 h2 h3 h20 P hP (by omega) _ _ rfl rfl h4 Q hQ ql q0 _ _ rfl rfl h5 h6 hR hE ht
    · have hc : ¬ (10000 < e.toNat ∨ 1000 < W.length + (P : List UInt8).length) := by rintro (h | h); omega; exact h5 (by exact h)
      rw [if_neg hc] at hE hR
      obtain ⟨⟨I, F, K⟩, hO⟩ : ∃ o, ofP ⟨false, W, P⟩ (e.toNat : Nat) = o := ⟨_, rfl⟩
      rw [hO] at hR
      exact reads_pe1_ok a len cap L a1 len1 cap1 L1 e w hin hin1 W hW (by omega) w0 h1 h10 h2 h3 h20 P hP (by omega) _ _ rfl rfl h4 Q hQ ql q0 _ _ rfl rfl h5 (by omega) I F K hR hE (by rw [show max e 0 = ((e.toNat : Nat) : Int) by omega]; exact hO) ht

theorem operandReads_walk (a : Option Addr) (len cap : Nat) (L : List UInt8) (a1 : Option Addr) (len1 cap1 : Nat) (L1 : List UInt8) (pt : Bool) (e : Int) (lt : Bool) (w : World) (hin : InB w a len cap L) (hin1 : InB w a1 len1 cap1 L1) (_he : (Lit.int .i64 e).wf = true) (ht : Tab w) :
    Calls Tryd.prog 4 #[.slice a len cap, .slice a1 len1 cap1, .bool pt, .int .i64 e, .bool lt] w fun x w' => x = .returned (.bool true) ∧ Below w.heap.size w w' := by
  by_cases h1 : len ≤ 1100
  case neg => exact reads_n0 a len cap L a1 len1 cap1 L1 pt e lt w (by omega)
  by_cases h2 : len1 ≤ 1100
  case neg => exact reads_n1 a len cap L a1 len1 cap1 L1 pt e lt w h1 (by omega)
  by_cases h10 : len = 0
  case pos => exact reads_n2 a len cap L a1 len1 cap1 L1 pt e lt w h1 h2 h10
  cases pt with
  | true =>
    by_cases h20 : len1 = 0
    case pos => exact reads_n3 a len cap L a1 len1 cap1 L1 e lt w h1 h2 h10 h20
    by_cases h3 : e ≤ 11000
    case neg => exact reads_n4t a len cap L a1 len1 cap1 L1 e lt w h1 h2 h10 h20 (by omega)
    by_cases hn : e < 0
    · exact reads_pn a len cap L a1 len1 cap1 L1 e lt w hin hin1 h1 h10 h2 h3 h20 hn ht
    · by_cases hz : e = 0
      · cases lt with
        | true => exact reads_pe0 a len cap L a1 len1 cap1 L1 e true w hin hin1 h1 h10 h2 h3 h20 hz ht
        | false => exact reads_pc0 a len cap L a1 len1 cap1 L1 e false w hin hin1 h1 h10 h2 h3 h20 hz ht
      · cases lt with
        | true => exact reads_pe1 a len cap L a1 len1 cap1 L1 e true w hin hin1 h1 h10 h2 h3 h20 (by omega) ht
        | false => exact reads_pc1 a len cap L a1 len1 cap1 L1 e false w hin hin1 h1 h10 h2 h3 h20 (by omega) ht
  | false =>
    by_cases h3 : e ≤ 11000
    case neg => exact reads_n4f a len cap L a1 len1 cap1 L1 e lt w h1 h2 h10 (by omega)
    by_cases hn : e < 0
    · exact reads_qn a len cap L a1 len1 cap1 L1 e lt w hin hin1 h1 h10 h2 h3 hn ht
    · by_cases hz : e = 0
      · cases lt with
        | true => exact reads_qe0 a len cap L a1 len1 cap1 L1 e true w hin hin1 h1 h10 h2 h3 hz ht
        | false => exact reads_qc0 a len cap L a1 len1 cap1 L1 e false w hin hin1 h1 h10 h2 h3 hz ht
      · cases lt with
        | true => exact reads_qe1 a len cap L a1 len1 cap1 L1 e true w hin hin1 h1 h10 h2 h3 (by omega) ht
        | false => exact reads_qc1 a len cap L a1 len1 cap1 L1 e false w hin hin1 h1 h10 h2 h3 (by omega) ht
end Go.Proofs.YtjobccgpejbchaaDoor
