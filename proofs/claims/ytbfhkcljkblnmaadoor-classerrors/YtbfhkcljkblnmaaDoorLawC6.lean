/- The walk of the law ClassErrors. -/
import Derived.Test.YtbfhkcljkblnmaaDoorCrL
namespace Florin
def tsT : List (List UInt8 × Nat) := [([], 0), ([97], 0), ([91], 1), ([91, 97], 2), ([91, 93, 93], 2), ([91, 93, 32, 97], 3), ([91, 98, 45, 97, 93], 3), ([91, 45, 97, 93], 1), ([91, 97, 45, 93], 3), ([91, 97, 94, 93], 2), ([91, 91, 93], 1), ([91, 92, 120, 93], 1), ([91, 92, 117, 123, 125, 93], 1), ([91, 92, 117, 123, 49, 49, 48, 48, 48, 48, 125, 93], 1), ([91, 92, 117, 123, 49, 50, 51, 52, 53, 54, 55, 125, 93], 1), ([91, 92, 117, 123, 65, 125, 93], 1), ([91, 92, 117, 123, 54, 49, 93], 1), ([91, 255, 93], 1), ([91, 97, 32, 45, 32, 98, 32, 45, 32, 99, 93], 7), ([91, 98, 32, 45, 32, 97, 93], 5), ([91, 94, 94, 93], 2), ([91, 92], 1)]
def tsB (i : Nat) : List UInt8 := (tsT.getD i ([], 0)).1
def tsA (i : Nat) : Nat := (tsT.getD i ([], 0)).2
def chk (i : Nat) : Bool := !(classP (tsB i)).2.2.1 && ((tsB i).length - (classP (tsB i)).2.2.2.length == tsA i) && decide ((classP (tsB i)).2.2.2.length ≤ (tsB i).length) && decide ((tsB i).length ≤ 40)
theorem chk_all : ((List.range 22).all chk) = true := by kernel_rfl
theorem blanks_bl (l : List UInt8) : ∀ K, bl (List.replicate K 32 ++ l) = bl l
  | 0 => rfl
  | K + 1 => by rw [List.replicate_succ, List.cons_append]; exact blanks_bl l K
theorem class_bl {l m : List UInt8} (h : bl l = bl m) : classP l = classP m := by
  have h1 : ∀ g, ctk g l = ctk g m := fun g => by unfold ctk; rw [h]
  have h2 : ∀ g, ctkR g l = ctkR g m := fun g => by unfold ctkR; rw [h1, h]
  unfold classP inP
  rw [h1, h2, h]
theorem chk_one {K i : Nat} (hi : i < 22) : (classP (List.replicate K 32 ++ tsB i)).2.2.1 = false ∧ (List.replicate K 32 ++ tsB i).length - (classP (List.replicate K 32 ++ tsB i)).2.2.2.length = K + tsA i ∧ (tsB i).length ≤ 40 := by
  have h := List.all_eq_true.1 chk_all i (List.mem_range.2 hi)
  unfold chk at h
  simp only [Bool.and_eq_true, beq_iff_eq, decide_eq_true_eq] at h
  obtain ⟨⟨⟨h1, h2⟩, h3⟩, h4⟩ := h
  rw [class_bl (blanks_bl (tsB i) K), List.length_append, List.length_replicate]
  refine ⟨?_, by omega, h4⟩
  revert h1
  cases (classP (tsB i)).2.2.1 <;> simp
theorem tsA_len : ((List.range 22).all fun i => decide (tsA i ≤ 1000)) = true := by kernel_rfl
end Florin
namespace Go.Proofs.YtbfhkcljkblnmaaDoor
open Go.RowKit Florin
set_option linter.unusedVariables false
set_option linter.unusedSimpArgs false
attribute [local go_sem ↓] Go.wp_at_zero Go.wp_at_succ
theorem u64_modE (n : Int) (k : Int) (hk : 0 < k) (h9 : k ≤ 1000) : 0 ≤ wrap64 ((IntKind.u64.wrap n).tmod k) ∧ wrap64 ((IntKind.u64.wrap n).tmod k) < k := by
  have h0 : 0 ≤ IntKind.u64.wrap n := by
    show 0 ≤ n % _
    exact Int.emod_nonneg _ (by decide)
  have h1 := Int.tmod_lt_of_pos (IntKind.u64.wrap n) hk
  have h2 := Int.tmod_nonneg k h0
  generalize (IntKind.u64.wrap n).tmod k = t at *
  have : wrap64 t = t := by unfold wrap64; omega
  rw [this]; exact ⟨h2, h1⟩
theorem and_mask (n : Int) (M : Nat) (hM : M ≤ 9223372036854775807) : ∃ k : Nat, k ≤ M ∧ bits .and .i64 n (M : Int) = (k : Int) := by
  have hx : (BitVec.ofInt 64 n &&& BitVec.ofInt 64 (M : Int)).toNat ≤ M := by
    rw [BitVec.toNat_and, ofInt_u64 M (by omega)]
    exact Nat.and_le_right
  refine ⟨(BitVec.ofInt 64 n &&& BitVec.ofInt 64 (M : Int)).toNat, hx, ?_⟩
  show IntKind.i64.wrap ((BitVec.ofInt 64 n &&& BitVec.ofInt 64 (M : Int)).toNat : Int) = _
  rw [IntKind.wrap_i64]
  omega
abbrev tstC : Array Value := #[.string ⟨#[]⟩, .int .i64 0, .string ⟨#[97]⟩, .int .i64 0, .string ⟨#[91]⟩, .int .i64 1, .string ⟨#[91, 97]⟩, .int .i64 2, .string ⟨#[91, 93, 93]⟩, .int .i64 2, .string ⟨#[91, 93, 32, 97]⟩, .int .i64 3, .string ⟨#[91, 98, 45, 97, 93]⟩, .int .i64 3, .string ⟨#[91, 45, 97, 93]⟩, .int .i64 1, .string ⟨#[91, 97, 45, 93]⟩, .int .i64 3, .string ⟨#[91, 97, 94, 93]⟩, .int .i64 2, .string ⟨#[91, 91, 93]⟩, .int .i64 1, .string ⟨#[91, 92, 120, 93]⟩, .int .i64 1, .string ⟨#[91, 92, 117, 123, 125, 93]⟩, .int .i64 1, .string ⟨#[91, 92, 117, 123, 49, 49, 48, 48, 48, 48, 125, 93]⟩, .int .i64 1, .string ⟨#[91, 92, 117, 123, 49, 50, 51, 52, 53, 54, 55, 125, 93]⟩, .int .i64 1, .string ⟨#[91, 92, 117, 123, 65, 125, 93]⟩, .int .i64 1, .string ⟨#[91, 92, 117, 123, 54, 49, 93]⟩, .int .i64 1, .string ⟨#[91, 255, 93]⟩, .int .i64 1, .string ⟨#[91, 97, 32, 45, 32, 98, 32, 45, 32, 99, 93]⟩, .int .i64 7, .string ⟨#[91, 98, 32, 45, 32, 97, 93]⟩, .int .i64 5, .string ⟨#[91, 94, 94, 93]⟩, .int .i64 2, .string ⟨#[91, 92]⟩, .int .i64 1]
theorem tst_cells : ∀ i, i < 22 → tstC[i * 2]? = some (S (tsB i)) ∧ tstC[i * 2 + 1]? = some (.int .i64 ((tsA i : Nat) : Int)) := by
  intro i hi
  rcases (show i = 0 ∨ i = 1 ∨ i = 2 ∨ i = 3 ∨ i = 4 ∨ i = 5 ∨ i = 6 ∨ i = 7 ∨ i = 8 ∨ i = 9 ∨ i = 10 ∨ i = 11 ∨ i = 12 ∨ i = 13 ∨ i = 14 ∨ i = 15 ∨ i = 16 ∨ i = 17 ∨ i = 18 ∨ i = 19 ∨ i = 20 ∨ i = 21 by omega) with rfl | rfl | rfl | rfl | rfl | rfl | rfl | rfl | rfl | rfl | rfl | rfl | rfl | rfl | rfl | rfl | rfl | rfl | rfl | rfl | rfl | rfl
  all_goals exact ⟨rfl, rfl⟩
theorem parseE (l : List UInt8) (w : World) (hT : Tabs w) (hl : l.length ≤ 1000000) (P : Int) (hr : (classP l).2.2.1 = false) (hP : ((l.length - (classP l).2.2.2.length : Nat) : Int) = P) :
    Calls Tryd.prog 23 #[S l] w fun e w' => e = .returned (.tuple #[.slice none 0 0, .int .i64 1, .int .i64 P]) ∧ Below w.heap.size w w' := by
  subst hP
  have h := parse_as ⟨l.toArray⟩ w (by rw [arr_size]; exact hl) hT
  refine h.mono ?_
  intro e w' hp
  unfold ParTold at hp
  rw [arr_list, if_neg (by rw [hr]; decide), arr_size] at hp
  exact hp
set_option maxRecDepth 100000 in
set_option maxHeartbeats 6400000 in
theorem errs_w (m n : Int) (w : World) (hT : Tabs w) (hD : Deb w) (K : Nat) (hK : K ≤ 7) (hand : bits .and .i64 n 7 = (K : Int)) (i : Nat) (hi : i < 22) (hmod : wrap64 ((IntKind.u64.wrap m).tmod 22) = (i : Int)) (Bl : Nat → List UInt8) (hb0 : Bl 0 = []) (hbs : ∀ k, Bl (k + 1) = Bl k ++ [32]) (hbl : ∀ k, k ≤ 7 → (Bl k).length = k)
    (ts : List UInt8) (ta : Nat) (tl : ts.length ≤ 40) (tal : ta ≤ 1000) (hc0 : tstC[i * 2]? = some (S ts)) (hc1 : tstC[i * 2 + 1]? = some (.int .i64 ((ta : Nat) : Int))) (fl : List UInt8) (hf : Bl K ++ ts = fl) (hp : (classP fl).2.2.1 = false ∧ fl.length - (classP fl).2.2.2.length = K + ta) :
    Calls Tryd.prog 8 #[.int .i64 m, .int .i64 n] w fun x w' => x = .returned (.bool true) ∧ Below w.heap.size w w' := by
  have HT := Lib.hid hT
  have HD := Lib.hid hD
  have HB0 := Lib.hid hb0
  have HBS := Lib.hid hbs
  have HBL := Lib.hid hbl
  have HP := Lib.hid hp
  have HF := Lib.hid hf
  have HC0 := Lib.hid hc0
  have HC1 := Lib.hid hc1
  have SAf : (⟨(Bl K).toArray⟩ : ByteArray) ++ (⟨ts.toArray⟩ : ByteArray) = ⟨fl.toArray⟩ := by rw [← hf]; exact arr_append (Bl K) ts
  have lK : (Bl K).length = K := hbl K (by omega)
  have ccf : ¬ 9223372036854775807 < (Bl K).length + ts.length := by rw [lK]; omega
  have hfl : fl.length ≤ 1000000 := by rw [← hf, List.length_append, lK]; omega
  have hix : (0 : Int) ≤ (i : Int) := by omega
  have hix2 : (i : Int) < 22 := by omega
  have HLK := Lib.hid lK
  clear lK hT hD hb0 hbs hbl hp hf hc0 hc1
  go_enter Tryd.func8, Tryd.ntmps8
  go_wp2_with fail
  with_reducible refine (head10 _ HT.out HD.out).mono ?_
  rintro x w1 ⟨rfl, hb⟩
  have B1 := Lib.hid hb
  have T1 := Lib.hid (HT.out.below hb)
  clear hb
  go_wp2_with fail
  go_loop [5, 6] (fun a i => ∃ k : Nat, k ≤ K ∧ i = .int .i64 k ∧ a = S (Bl k)) (fun _ i => K - (intOf i).toNat)
  case atStart => exact ⟨0, Nat.zero_le _, rfl, by rw [HB0.out]⟩
  case round =>
    obtain ⟨k, hk, rfl, rfl⟩ := hrel
    by_cases hkz : k < K
    · have hki : (k : Int) < (K : Int) := by omega
      have SA : (⟨(Bl k).toArray⟩ : ByteArray) ++ (⟨#[32]⟩ : ByteArray) = ⟨(Bl (k + 1)).toArray⟩ := by rw [HBS.out k]; exact arr_append (Bl k) [32]
      have cc : ¬ 9223372036854775807 < (Bl k).length + 1 := by have := HBL.out k (by omega); omega
      go_wp2
      go_round
      case rel => exact ⟨k + 1, by omega, by go_num, rfl⟩
      case measure => simp [intOf]; omega
    · obtain rfl : k = K := by omega
      have hkn : ¬ ((k : Int) < (k : Int)) := by omega
      go_upto_region 9 with fail
      have H2 : Hid (BoxT (w1.alloc (.cells #[.string ⟨#[]⟩, .int .i64 0, .string ⟨#[97]⟩, .int .i64 0, .string ⟨#[91]⟩, .int .i64 1, .string ⟨#[91, 97]⟩, .int .i64 2, .string ⟨#[91, 93, 93]⟩, .int .i64 2, .string ⟨#[91, 93, 32, 97]⟩, .int .i64 3, .string ⟨#[91, 98, 45, 97, 93]⟩, .int .i64 3, .string ⟨#[91, 45, 97, 93]⟩, .int .i64 1, .string ⟨#[91, 97, 45, 93]⟩, .int .i64 3, .string ⟨#[91, 97, 94, 93]⟩, .int .i64 2, .string ⟨#[91, 91, 93]⟩, .int .i64 1, .string ⟨#[91, 92, 120, 93]⟩, .int .i64 1, .string ⟨#[91, 92, 117, 123, 125, 93]⟩, .int .i64 1, .string ⟨#[91, 92, 117, 123, 49, 49, 48, 48, 48, 48, 125, 93]⟩, .int .i64 1, .string ⟨#[91, 92, 117, 123, 49, 50, 51, 52, 53, 54, 55, 125, 93]⟩, .int .i64 1, .string ⟨#[91, 92, 117, 123, 65, 125, 93]⟩, .int .i64 1, .string ⟨#[91, 92, 117, 123, 54, 49, 93]⟩, .int .i64 1, .string ⟨#[91, 255, 93]⟩, .int .i64 1, .string ⟨#[91, 97, 32, 45, 32, 98, 32, 45, 32, 99, 93]⟩, .int .i64 7, .string ⟨#[91, 98, 32, 45, 32, 97, 93]⟩, .int .i64 5, .string ⟨#[91, 94, 94, 93]⟩, .int .i64 2, .string ⟨#[91, 92]⟩, .int .i64 1] 49)) w1.heap.size tstC 49) := Lib.hid (BoxT.new w1 tstC _)
      have B2 : Hid (Below w.heap.size w (w1.alloc (.cells #[.string ⟨#[]⟩, .int .i64 0, .string ⟨#[97]⟩, .int .i64 0, .string ⟨#[91]⟩, .int .i64 1, .string ⟨#[91, 97]⟩, .int .i64 2, .string ⟨#[91, 93, 93]⟩, .int .i64 2, .string ⟨#[91, 93, 32, 97]⟩, .int .i64 3, .string ⟨#[91, 98, 45, 97, 93]⟩, .int .i64 3, .string ⟨#[91, 45, 97, 93]⟩, .int .i64 1, .string ⟨#[91, 97, 45, 93]⟩, .int .i64 3, .string ⟨#[91, 97, 94, 93]⟩, .int .i64 2, .string ⟨#[91, 91, 93]⟩, .int .i64 1, .string ⟨#[91, 92, 120, 93]⟩, .int .i64 1, .string ⟨#[91, 92, 117, 123, 125, 93]⟩, .int .i64 1, .string ⟨#[91, 92, 117, 123, 49, 49, 48, 48, 48, 48, 125, 93]⟩, .int .i64 1, .string ⟨#[91, 92, 117, 123, 49, 50, 51, 52, 53, 54, 55, 125, 93]⟩, .int .i64 1, .string ⟨#[91, 92, 117, 123, 65, 125, 93]⟩, .int .i64 1, .string ⟨#[91, 92, 117, 123, 54, 49, 93]⟩, .int .i64 1, .string ⟨#[91, 255, 93]⟩, .int .i64 1, .string ⟨#[91, 97, 32, 45, 32, 98, 32, 45, 32, 99, 93]⟩, .int .i64 7, .string ⟨#[91, 98, 32, 45, 32, 97, 93]⟩, .int .i64 5, .string ⟨#[91, 94, 94, 93]⟩, .int .i64 2, .string ⟨#[91, 92]⟩, .int .i64 1] 49))) := Lib.hid (B1.out.alloc B1.out.size _)
      have T2 : Hid (Tabs (w1.alloc (.cells #[.string ⟨#[]⟩, .int .i64 0, .string ⟨#[97]⟩, .int .i64 0, .string ⟨#[91]⟩, .int .i64 1, .string ⟨#[91, 97]⟩, .int .i64 2, .string ⟨#[91, 93, 93]⟩, .int .i64 2, .string ⟨#[91, 93, 32, 97]⟩, .int .i64 3, .string ⟨#[91, 98, 45, 97, 93]⟩, .int .i64 3, .string ⟨#[91, 45, 97, 93]⟩, .int .i64 1, .string ⟨#[91, 97, 45, 93]⟩, .int .i64 3, .string ⟨#[91, 97, 94, 93]⟩, .int .i64 2, .string ⟨#[91, 91, 93]⟩, .int .i64 1, .string ⟨#[91, 92, 120, 93]⟩, .int .i64 1, .string ⟨#[91, 92, 117, 123, 125, 93]⟩, .int .i64 1, .string ⟨#[91, 92, 117, 123, 49, 49, 48, 48, 48, 48, 125, 93]⟩, .int .i64 1, .string ⟨#[91, 92, 117, 123, 49, 50, 51, 52, 53, 54, 55, 125, 93]⟩, .int .i64 1, .string ⟨#[91, 92, 117, 123, 65, 125, 93]⟩, .int .i64 1, .string ⟨#[91, 92, 117, 123, 54, 49, 93]⟩, .int .i64 1, .string ⟨#[91, 255, 93]⟩, .int .i64 1, .string ⟨#[91, 97, 32, 45, 32, 98, 32, 45, 32, 99, 93]⟩, .int .i64 7, .string ⟨#[91, 98, 32, 45, 32, 97, 93]⟩, .int .i64 5, .string ⟨#[91, 94, 94, 93]⟩, .int .i64 2, .string ⟨#[91, 92]⟩, .int .i64 1] 49))) := Lib.hid (T1.out.below ((Below.refl _ _).alloc (Nat.le_refl _) _))
      generalize (w1.alloc (.cells #[.string ⟨#[]⟩, .int .i64 0, .string ⟨#[97]⟩, .int .i64 0, .string ⟨#[91]⟩, .int .i64 1, .string ⟨#[91, 97]⟩, .int .i64 2, .string ⟨#[91, 93, 93]⟩, .int .i64 2, .string ⟨#[91, 93, 32, 97]⟩, .int .i64 3, .string ⟨#[91, 98, 45, 97, 93]⟩, .int .i64 3, .string ⟨#[91, 45, 97, 93]⟩, .int .i64 1, .string ⟨#[91, 97, 45, 93]⟩, .int .i64 3, .string ⟨#[91, 97, 94, 93]⟩, .int .i64 2, .string ⟨#[91, 91, 93]⟩, .int .i64 1, .string ⟨#[91, 92, 120, 93]⟩, .int .i64 1, .string ⟨#[91, 92, 117, 123, 125, 93]⟩, .int .i64 1, .string ⟨#[91, 92, 117, 123, 49, 49, 48, 48, 48, 48, 125, 93]⟩, .int .i64 1, .string ⟨#[91, 92, 117, 123, 49, 50, 51, 52, 53, 54, 55, 125, 93]⟩, .int .i64 1, .string ⟨#[91, 92, 117, 123, 65, 125, 93]⟩, .int .i64 1, .string ⟨#[91, 92, 117, 123, 54, 49, 93]⟩, .int .i64 1, .string ⟨#[91, 255, 93]⟩, .int .i64 1, .string ⟨#[91, 97, 32, 45, 32, 98, 32, 45, 32, 99, 93]⟩, .int .i64 7, .string ⟨#[91, 98, 32, 45, 32, 97, 93]⟩, .int .i64 5, .string ⟨#[91, 94, 94, 93]⟩, .int .i64 2, .string ⟨#[91, 92]⟩, .int .i64 1] 49)) = w2 at *
      have e0 : w2.cell? ⟨w1.heap.size, i * 2, none⟩ = some (S ts) := (H2.out.cell _).trans HC0.out
      have e1 : w2.cell? ⟨w1.heap.size, i * 2 + 1, none⟩ = some (.int .i64 ((ta : Nat) : Int)) := (H2.out.cell _).trans HC1.out
      have el := H2.out.lt
      have XB : Hid (BoxT (w2.alloc (.cells #[S ts, .int .i64 ((ta : Nat) : Int)] 49)) w2.heap.size #[S ts, .int .i64 ((ta : Nat) : Int)] 49) := Lib.hid (BoxT.new w2 _ _)
      have B3 : Hid (Below w.heap.size w (w2.alloc (.cells #[S ts, .int .i64 ((ta : Nat) : Int)] 49))) := Lib.hid (B2.out.alloc B2.out.size _)
      have T3 : Hid (Tabs (w2.alloc (.cells #[S ts, .int .i64 ((ta : Nat) : Int)] 49))) := Lib.hid (T2.out.below ((Below.refl _ _).alloc (Nat.le_refl _) _))
      go_wp2_with fail
      with_reducible refine (parseE fl _ T3.out hfl (((Bl k).length : Int) + ((ta : Nat) : Int)) HP.out.1 (by rw [HP.out.2, HLK.out]; omega)).mono ?_
      rintro x w3 ⟨rfl, hb⟩
      have B4 := Lib.hid (B3.out.trans (hb.mono B3.out.size))
      have XB4 := XB.out.below hb
      have r0 := XB4.cell 0
      have r1 := XB4.cell 1
      have rl := XB4.lt
      simp at r0 r1
      have lk8 : (Bl k).length ≤ 7 := by have := HBL.out k (by omega); omega
      clear hb
      go_wp2
      go_ret
      exact ⟨rfl, B4.out⟩
theorem classErrors_walk (m n : Int) (w : World) (_hm : (Lit.int .i64 m).wf = true) (_hn : (Lit.int .i64 n).wf = true) (hTD : Tabs w ∧ Deb w) :
    Calls Tryd.prog 8 #[.int .i64 m, .int .i64 n] w fun x w' => x = .returned (.bool true) ∧ Below w.heap.size w w' := by
  obtain ⟨K, hK, hand⟩ : ∃ k : Nat, k ≤ 7 ∧ bits .and .i64 n 7 = (k : Int) := and_mask n 7 (by decide)
  obtain ⟨h1, h2⟩ := u64_modE m 22 (by decide) (by decide)
  obtain ⟨i, hi⟩ : ∃ i : Nat, wrap64 ((IntKind.u64.wrap m).tmod 22) = (i : Int) := ⟨_, (Int.toNat_of_nonneg h1).symm⟩
  have hi22 : i < 22 := by omega
  obtain ⟨c0, c1⟩ := tst_cells i hi22
  obtain ⟨p1, p2, p3⟩ := chk_one (K := K) hi22
  have ha : tsA i ≤ 1000 := by have h := List.all_eq_true.1 tsA_len i (List.mem_range.2 hi22); simpa using h
  exact errs_w m n w hTD.1 hTD.2 K hK hand i hi22 hi (fun k => List.replicate k 32) rfl (fun k => List.replicate_succ') (fun k _ => List.length_replicate) (tsB i) (tsA i) p3 ha c0 c1 _ rfl ⟨p1, p2⟩
end Go.Proofs.YtbfhkcljkblnmaaDoor
