/- The walk of the law RuleErrors. -/
import Derived.Test.YtcobokfccfeonaaGreatDoorMSt
namespace Florin
def tsT : List (List UInt8 × Int × Nat) := [([111, 110, 101], 1, 3), ([115, 111, 109, 101, 58, 32, 110, 32, 61, 32, 49], 1, 0), ([111, 110, 101, 58, 32, 110, 32, 61, 32, 49, 59, 32, 111, 110, 101, 58, 32, 110, 32, 61, 32, 50], 7, 12), ([111, 110, 101, 58, 32, 120, 32, 61, 32, 49], 1, 5), ([111, 110, 101, 58, 32, 110, 110, 32, 61, 32, 49], 1, 5), ([111, 110, 101, 58, 32, 110, 32, 49], 1, 7), ([111, 110, 101, 58, 32, 110, 32, 61, 32], 1, 9), ([111, 110, 101, 58, 32, 110, 32, 61, 32, 48, 49], 1, 9), ([111, 110, 101, 58, 32, 110, 32, 61, 32, 49, 50, 51, 52, 53, 54, 55, 56, 57, 48], 2, 9), ([111, 110, 101, 58, 32, 110, 32, 37, 32, 48, 32, 61, 32, 49], 3, 9), ([111, 110, 101, 58, 32, 110, 32, 61, 32, 51, 46, 46, 50], 3, 12), ([111, 110, 101, 58, 32, 110, 32, 61, 32, 49, 32, 97, 110, 100], 1, 14), ([111, 110, 101, 58, 32, 110, 32, 61, 32, 49, 32, 111, 114, 32, 111, 114], 1, 14), ([111, 110, 101, 58], 1, 4), ([111, 116, 104, 101, 114, 58, 32, 110, 32, 61, 32, 49], 1, 7), ([111, 110, 101, 58, 32, 110, 32, 61, 32, 49, 32, 120], 1, 11), ([111, 110, 101, 58, 32, 110, 32, 61, 32, 49, 44], 1, 11), ([111, 110, 101, 58, 32, 110, 32, 61, 32, 49, 46, 46], 1, 12), ([111, 110, 101, 58, 32, 110, 32, 33, 32, 61, 32, 49], 1, 7), ([59], 1, 0), ([111, 110, 101, 58, 32, 110, 32, 61, 32, 49, 59, 59], 1, 11), ([111, 116, 104, 101, 114, 58, 32, 64, 97, 59, 32, 111, 116, 104, 101, 114, 58], 7, 11), ([111, 110, 101, 58, 32, 110, 32, 61, 32, 49, 32, 97, 110, 100, 118, 32, 61, 32, 48], 1, 11), ([122, 101, 114, 111, 32, 110, 32, 61, 32, 49], 1, 5), ([111, 110, 101, 58, 32, 110, 32, 61, 32, 45, 49], 1, 9), ([111, 110, 101, 58, 32, 110, 32, 37, 32, 49, 48], 1, 11)]
def tsB (i : Nat) : List UInt8 := (tsT.getD i ([], 0, 0)).1
def tsE (i : Nat) : Int := (tsT.getD i ([], 0, 0)).2.1
def tsA (i : Nat) : Nat := (tsT.getD i ([], 0, 0)).2.2
def chk (K i : Nat) : Bool :=
  match rulesP (List.replicate K 32 ++ tsB i) with
  | .bad e r => e == tsE i && ((List.replicate K 32 ++ tsB i).length - r.length == K + tsA i)
  | .ok _ _ => false
theorem chk_all : ((List.range 8).all fun K => (List.range 26).all fun i => chk K i) = true := by kernel_rfl
theorem chk_one {K i : Nat} (hK : K ≤ 7) (hi : i < 26) : ∃ r, rulesP (List.replicate K 32 ++ tsB i) = .bad (tsE i) r ∧ (List.replicate K 32 ++ tsB i).length - r.length = K + tsA i := by
  have h := List.all_eq_true.1 (List.all_eq_true.1 chk_all K (List.mem_range.2 (by omega))) i (List.mem_range.2 hi)
  unfold chk at h
  split at h
  · rename_i e r hr
    simp only [Bool.and_eq_true, beq_iff_eq] at h
    exact ⟨r, by rw [hr, h.1], h.2⟩
  · cases h
theorem tsB_len : ((List.range 26).all fun i => decide ((tsB i).length ≤ 40)) = true := by kernel_rfl
theorem tsB_le {i : Nat} (hi : i < 26) : (tsB i).length ≤ 40 := by
  have h := List.all_eq_true.1 tsB_len i (List.mem_range.2 hi)
  simpa using h
end Florin
namespace Go.Proofs.YtcobokfccfeonaaGreatDoor
open Go.RowKit Florin
set_option linter.unusedVariables false
set_option linter.unusedSimpArgs false
attribute [local go_sem ↓] Go.wp_at_zero Go.wp_at_succ

theorem u64_modE (n : Int) (k : Int) (hk : 0 < k) (h9 : k ≤ 1000) : 0 ≤ wrap64 ((IntKind.u64.wrap n).tmod k) ∧ wrap64 ((IntKind.u64.wrap n).tmod k) < k := by
  have h0 : 0 ≤ IntKind.u64.wrap n := by
    show 0 ≤ n % _
    exact Int.emod_nonneg _ (by decide)
  have h1 := Int.tmod_lt_of_pos (IntKind.u64.wrap n) hk
  have h2 := Int.tmod_nonneg k h0
  generalize (IntKind.u64.wrap n).tmod k = t at *
  have : wrap64 t = t := by unfold wrap64; omega
  rw [this]; exact ⟨h2, h1⟩
abbrev tstC : Array Value := #[.string ⟨#[111, 110, 101]⟩, .int .i64 1, .int .i64 3, .string ⟨#[115, 111, 109, 101, 58, 32, 110, 32, 61, 32, 49]⟩, .int .i64 1, .int .i64 0, .string ⟨#[111, 110, 101, 58, 32, 110, 32, 61, 32, 49, 59, 32, 111, 110, 101, 58, 32, 110, 32, 61, 32, 50]⟩, .int .i64 7, .int .i64 12, .string ⟨#[111, 110, 101, 58, 32, 120, 32, 61, 32, 49]⟩, .int .i64 1, .int .i64 5, .string ⟨#[111, 110, 101, 58, 32, 110, 110, 32, 61, 32, 49]⟩, .int .i64 1, .int .i64 5, .string ⟨#[111, 110, 101, 58, 32, 110, 32, 49]⟩, .int .i64 1, .int .i64 7, .string ⟨#[111, 110, 101, 58, 32, 110, 32, 61, 32]⟩, .int .i64 1, .int .i64 9, .string ⟨#[111, 110, 101, 58, 32, 110, 32, 61, 32, 48, 49]⟩, .int .i64 1, .int .i64 9, .string ⟨#[111, 110, 101, 58, 32, 110, 32, 61, 32, 49, 50, 51, 52, 53, 54, 55, 56, 57, 48]⟩, .int .i64 2, .int .i64 9, .string ⟨#[111, 110, 101, 58, 32, 110, 32, 37, 32, 48, 32, 61, 32, 49]⟩, .int .i64 3, .int .i64 9, .string ⟨#[111, 110, 101, 58, 32, 110, 32, 61, 32, 51, 46, 46, 50]⟩, .int .i64 3, .int .i64 12, .string ⟨#[111, 110, 101, 58, 32, 110, 32, 61, 32, 49, 32, 97, 110, 100]⟩, .int .i64 1, .int .i64 14, .string ⟨#[111, 110, 101, 58, 32, 110, 32, 61, 32, 49, 32, 111, 114, 32, 111, 114]⟩, .int .i64 1, .int .i64 14, .string ⟨#[111, 110, 101, 58]⟩, .int .i64 1, .int .i64 4, .string ⟨#[111, 116, 104, 101, 114, 58, 32, 110, 32, 61, 32, 49]⟩, .int .i64 1, .int .i64 7, .string ⟨#[111, 110, 101, 58, 32, 110, 32, 61, 32, 49, 32, 120]⟩, .int .i64 1, .int .i64 11, .string ⟨#[111, 110, 101, 58, 32, 110, 32, 61, 32, 49, 44]⟩, .int .i64 1, .int .i64 11, .string ⟨#[111, 110, 101, 58, 32, 110, 32, 61, 32, 49, 46, 46]⟩, .int .i64 1, .int .i64 12, .string ⟨#[111, 110, 101, 58, 32, 110, 32, 33, 32, 61, 32, 49]⟩, .int .i64 1, .int .i64 7, .string ⟨#[59]⟩, .int .i64 1, .int .i64 0, .string ⟨#[111, 110, 101, 58, 32, 110, 32, 61, 32, 49, 59, 59]⟩, .int .i64 1, .int .i64 11, .string ⟨#[111, 116, 104, 101, 114, 58, 32, 64, 97, 59, 32, 111, 116, 104, 101, 114, 58]⟩, .int .i64 7, .int .i64 11, .string ⟨#[111, 110, 101, 58, 32, 110, 32, 61, 32, 49, 32, 97, 110, 100, 118, 32, 61, 32, 48]⟩, .int .i64 1, .int .i64 11, .string ⟨#[122, 101, 114, 111, 32, 110, 32, 61, 32, 49]⟩, .int .i64 1, .int .i64 5, .string ⟨#[111, 110, 101, 58, 32, 110, 32, 61, 32, 45, 49]⟩, .int .i64 1, .int .i64 9, .string ⟨#[111, 110, 101, 58, 32, 110, 32, 37, 32, 49, 48]⟩, .int .i64 1, .int .i64 11]
theorem tst_cells : ∀ i, i < 26 → tstC[i * 3]? = some (S (tsB i)) ∧ tstC[i * 3 + 1]? = some (.int .i64 (tsE i)) ∧ tstC[i * 3 + 2]? = some (.int .i64 ((tsA i : Nat) : Int)) := by
  intro i hi
  rcases (show i = 0 ∨ i = 1 ∨ i = 2 ∨ i = 3 ∨ i = 4 ∨ i = 5 ∨ i = 6 ∨ i = 7 ∨ i = 8 ∨ i = 9 ∨ i = 10 ∨ i = 11 ∨ i = 12 ∨ i = 13 ∨ i = 14 ∨ i = 15 ∨ i = 16 ∨ i = 17 ∨ i = 18 ∨ i = 19 ∨ i = 20 ∨ i = 21 ∨ i = 22 ∨ i = 23 ∨ i = 24 ∨ i = 25 by omega) with rfl | rfl | rfl | rfl | rfl | rfl | rfl | rfl | rfl | rfl | rfl | rfl | rfl | rfl | rfl | rfl | rfl | rfl | rfl | rfl | rfl | rfl | rfl | rfl | rfl | rfl
  all_goals exact ⟨rfl, rfl, rfl⟩
theorem parseE (l r : List UInt8) (w : World) (hw : Wds w) (hl : l.length ≤ 4000) (c : Int) (P : Int) (hr : rulesP l = .bad c r) (hP : ((l.length - r.length : Nat) : Int) = P) :
    Calls Tryz.prog 10 #[S l] w fun e w' => e = .returned (.tuple #[.slice none 0 0, .int .i64 c, .int .i64 P]) ∧ Below w.heap.size w w' := by
  subst hP
  have h := parse_bad ⟨l.toArray⟩ w (by rw [arr_size]; exact hl) c r hw (by rw [arr_list]; exact hr)
  rw [arr_size] at h
  exact h

set_option maxRecDepth 100000 in
set_option maxHeartbeats 6400000 in
theorem errs_w (m n : Int) (w : World) (ht : Tab w) (hw : Wds w) (K : Nat) (hK : K ≤ 7) (hand : bits .and .i64 n 7 = (K : Int)) (i : Nat) (hi : i < 26) (hmod : wrap64 ((IntKind.u64.wrap m).tmod 26) = (i : Int)) (Bl : Nat → List UInt8) (hb0 : Bl 0 = []) (hbs : ∀ k, Bl (k + 1) = Bl k ++ [32]) (hbl : ∀ k, k ≤ 7 → (Bl k).length = k)
    (ts : List UInt8) (te : Int) (ta : Nat) (tl : ts.length ≤ 40) (tal : ta ≤ 1000) (hc0 : tstC[i * 3]? = some (S ts)) (hc1 : tstC[i * 3 + 1]? = some (.int .i64 te)) (hc2 : tstC[i * 3 + 2]? = some (.int .i64 ((ta : Nat) : Int))) (fl r : List UInt8) (hf : Bl K ++ ts = fl) (hp : rulesP fl = .bad te r ∧ ((fl.length - r.length : Nat) : Int) = ((Bl K).length : Int) + ((ta : Nat) : Int)) :
    Calls Tryz.prog 4 #[.int .i64 m, .int .i64 n] w fun x w' => x = .returned (.bool true) ∧ Below w.heap.size w w' := by
  have HT := Lib.hid ht
  have HW := Lib.hid hw
  have HB0 := Lib.hid hb0
  have HBS := Lib.hid hbs
  have HBL := Lib.hid hbl
  have HP := Lib.hid hp
  have HF := Lib.hid hf
  have HC0 := Lib.hid hc0
  have HC1 := Lib.hid hc1
  have HC2 := Lib.hid hc2
  have SAf : (⟨(Bl K).toArray⟩ : ByteArray) ++ (⟨ts.toArray⟩ : ByteArray) = ⟨fl.toArray⟩ := by rw [← hf]; exact arr_append (Bl K) ts
  have lK : (Bl K).length = K := hbl K (by omega)
  have HLK := Lib.hid lK
  have ccf : ¬ 9223372036854775807 < (Bl K).length + ts.length := by rw [lK]; omega
  have hfl : fl.length ≤ 4000 := by rw [← hf, List.length_append, lK]; omega
  have hix : (0 : Int) ≤ (i : Int) := by omega
  have hix2 : (i : Int) < 26 := by omega
  clear lK ht hw hb0 hbs hbl hp hf hc0 hc1 hc2
  go_enter Tryz.func4, Tryz.ntmps4
  go_wp2_with fail
  with_reducible refine (head6 _ HT.out HW.out).mono ?_
  rintro x w1 ⟨rfl, hb⟩
  have H1 : Hid (HeldL w [] w1) := Lib.hid (HeldL.keep (HeldL.refl w) hb)
  clear hb
  go_wp2_with fail
  go_loop [5, 6] (fun a i => ∃ k : Nat, k ≤ K ∧ i = .int .i64 k ∧ a = S (Bl k)) (fun _ i => K - (intOf i).toNat)
  case atStart => exact ⟨0, Nat.zero_le _, rfl, by rw [HB0.out]⟩
  case round =>
    obtain ⟨k, hk, rfl, rfl⟩ := hrel
    by_cases hkz : k < K
    · have hki : (k : Int) < (K : Int) := by omega
      have SA : (⟨(Bl k).toArray⟩ : ByteArray) ++ (⟨#[32]⟩ : ByteArray) = ⟨(Bl (k + 1)).toArray⟩ := by rw [HBS.out k]; exact arr_append (Bl k) [32]
      have cc : ¬ 9223372036854775807 < (Bl k).length + 1 := by have := HBL.out k (by omega); omega
      go_wp2
      go_round
      case rel => exact ⟨k + 1, by omega, by go_num, rfl⟩
      case measure => simp [intOf]; omega
    · obtain rfl : k = K := by omega
      have hkn : ¬ ((k : Int) < (k : Int)) := by omega
      go_upto_region 9 with fail
      have H2 : Hid (HeldL w [(w1.heap.size, tstC)] (w1.alloc (.cells #[.string ⟨#[111, 110, 101]⟩, .int .i64 1, .int .i64 3, .string ⟨#[115, 111, 109, 101, 58, 32, 110, 32, 61, 32, 49]⟩, .int .i64 1, .int .i64 0, .string ⟨#[111, 110, 101, 58, 32, 110, 32, 61, 32, 49, 59, 32, 111, 110, 101, 58, 32, 110, 32, 61, 32, 50]⟩, .int .i64 7, .int .i64 12, .string ⟨#[111, 110, 101, 58, 32, 120, 32, 61, 32, 49]⟩, .int .i64 1, .int .i64 5, .string ⟨#[111, 110, 101, 58, 32, 110, 110, 32, 61, 32, 49]⟩, .int .i64 1, .int .i64 5, .string ⟨#[111, 110, 101, 58, 32, 110, 32, 49]⟩, .int .i64 1, .int .i64 7, .string ⟨#[111, 110, 101, 58, 32, 110, 32, 61, 32]⟩, .int .i64 1, .int .i64 9, .string ⟨#[111, 110, 101, 58, 32, 110, 32, 61, 32, 48, 49]⟩, .int .i64 1, .int .i64 9, .string ⟨#[111, 110, 101, 58, 32, 110, 32, 61, 32, 49, 50, 51, 52, 53, 54, 55, 56, 57, 48]⟩, .int .i64 2, .int .i64 9, .string ⟨#[111, 110, 101, 58, 32, 110, 32, 37, 32, 48, 32, 61, 32, 49]⟩, .int .i64 3, .int .i64 9, .string ⟨#[111, 110, 101, 58, 32, 110, 32, 61, 32, 51, 46, 46, 50]⟩, .int .i64 3, .int .i64 12, .string ⟨#[111, 110, 101, 58, 32, 110, 32, 61, 32, 49, 32, 97, 110, 100]⟩, .int .i64 1, .int .i64 14, .string ⟨#[111, 110, 101, 58, 32, 110, 32, 61, 32, 49, 32, 111, 114, 32, 111, 114]⟩, .int .i64 1, .int .i64 14, .string ⟨#[111, 110, 101, 58]⟩, .int .i64 1, .int .i64 4, .string ⟨#[111, 116, 104, 101, 114, 58, 32, 110, 32, 61, 32, 49]⟩, .int .i64 1, .int .i64 7, .string ⟨#[111, 110, 101, 58, 32, 110, 32, 61, 32, 49, 32, 120]⟩, .int .i64 1, .int .i64 11, .string ⟨#[111, 110, 101, 58, 32, 110, 32, 61, 32, 49, 44]⟩, .int .i64 1, .int .i64 11, .string ⟨#[111, 110, 101, 58, 32, 110, 32, 61, 32, 49, 46, 46]⟩, .int .i64 1, .int .i64 12, .string ⟨#[111, 110, 101, 58, 32, 110, 32, 33, 32, 61, 32, 49]⟩, .int .i64 1, .int .i64 7, .string ⟨#[59]⟩, .int .i64 1, .int .i64 0, .string ⟨#[111, 110, 101, 58, 32, 110, 32, 61, 32, 49, 59, 59]⟩, .int .i64 1, .int .i64 11, .string ⟨#[111, 116, 104, 101, 114, 58, 32, 64, 97, 59, 32, 111, 116, 104, 101, 114, 58]⟩, .int .i64 7, .int .i64 11, .string ⟨#[111, 110, 101, 58, 32, 110, 32, 61, 32, 49, 32, 97, 110, 100, 118, 32, 61, 32, 48]⟩, .int .i64 1, .int .i64 11, .string ⟨#[122, 101, 114, 111, 32, 110, 32, 61, 32, 49]⟩, .int .i64 1, .int .i64 5, .string ⟨#[111, 110, 101, 58, 32, 110, 32, 61, 32, 45, 49]⟩, .int .i64 1, .int .i64 9, .string ⟨#[111, 110, 101, 58, 32, 110, 32, 37, 32, 49, 48]⟩, .int .i64 1, .int .i64 11] 30))) := Lib.hid (HeldL.alloc H1.out (w1.heap.size) tstC 30 rfl)
      generalize (w1.alloc (.cells #[.string ⟨#[111, 110, 101]⟩, .int .i64 1, .int .i64 3, .string ⟨#[115, 111, 109, 101, 58, 32, 110, 32, 61, 32, 49]⟩, .int .i64 1, .int .i64 0, .string ⟨#[111, 110, 101, 58, 32, 110, 32, 61, 32, 49, 59, 32, 111, 110, 101, 58, 32, 110, 32, 61, 32, 50]⟩, .int .i64 7, .int .i64 12, .string ⟨#[111, 110, 101, 58, 32, 120, 32, 61, 32, 49]⟩, .int .i64 1, .int .i64 5, .string ⟨#[111, 110, 101, 58, 32, 110, 110, 32, 61, 32, 49]⟩, .int .i64 1, .int .i64 5, .string ⟨#[111, 110, 101, 58, 32, 110, 32, 49]⟩, .int .i64 1, .int .i64 7, .string ⟨#[111, 110, 101, 58, 32, 110, 32, 61, 32]⟩, .int .i64 1, .int .i64 9, .string ⟨#[111, 110, 101, 58, 32, 110, 32, 61, 32, 48, 49]⟩, .int .i64 1, .int .i64 9, .string ⟨#[111, 110, 101, 58, 32, 110, 32, 61, 32, 49, 50, 51, 52, 53, 54, 55, 56, 57, 48]⟩, .int .i64 2, .int .i64 9, .string ⟨#[111, 110, 101, 58, 32, 110, 32, 37, 32, 48, 32, 61, 32, 49]⟩, .int .i64 3, .int .i64 9, .string ⟨#[111, 110, 101, 58, 32, 110, 32, 61, 32, 51, 46, 46, 50]⟩, .int .i64 3, .int .i64 12, .string ⟨#[111, 110, 101, 58, 32, 110, 32, 61, 32, 49, 32, 97, 110, 100]⟩, .int .i64 1, .int .i64 14, .string ⟨#[111, 110, 101, 58, 32, 110, 32, 61, 32, 49, 32, 111, 114, 32, 111, 114]⟩, .int .i64 1, .int .i64 14, .string ⟨#[111, 110, 101, 58]⟩, .int .i64 1, .int .i64 4, .string ⟨#[111, 116, 104, 101, 114, 58, 32, 110, 32, 61, 32, 49]⟩, .int .i64 1, .int .i64 7, .string ⟨#[111, 110, 101, 58, 32, 110, 32, 61, 32, 49, 32, 120]⟩, .int .i64 1, .int .i64 11, .string ⟨#[111, 110, 101, 58, 32, 110, 32, 61, 32, 49, 44]⟩, .int .i64 1, .int .i64 11, .string ⟨#[111, 110, 101, 58, 32, 110, 32, 61, 32, 49, 46, 46]⟩, .int .i64 1, .int .i64 12, .string ⟨#[111, 110, 101, 58, 32, 110, 32, 33, 32, 61, 32, 49]⟩, .int .i64 1, .int .i64 7, .string ⟨#[59]⟩, .int .i64 1, .int .i64 0, .string ⟨#[111, 110, 101, 58, 32, 110, 32, 61, 32, 49, 59, 59]⟩, .int .i64 1, .int .i64 11, .string ⟨#[111, 116, 104, 101, 114, 58, 32, 64, 97, 59, 32, 111, 116, 104, 101, 114, 58]⟩, .int .i64 7, .int .i64 11, .string ⟨#[111, 110, 101, 58, 32, 110, 32, 61, 32, 49, 32, 97, 110, 100, 118, 32, 61, 32, 48]⟩, .int .i64 1, .int .i64 11, .string ⟨#[122, 101, 114, 111, 32, 110, 32, 61, 32, 49]⟩, .int .i64 1, .int .i64 5, .string ⟨#[111, 110, 101, 58, 32, 110, 32, 61, 32, 45, 49]⟩, .int .i64 1, .int .i64 9, .string ⟨#[111, 110, 101, 58, 32, 110, 32, 37, 32, 49, 48]⟩, .int .i64 1, .int .i64 11] 30)) = w2 at *
      clear H1
      have e0 : w2.cell? ⟨w1.heap.size, i * 3, none⟩ = some (S ts) := ((H2.out.f (List.Mem.head _)).cell _).trans HC0.out
      have e1 : w2.cell? ⟨w1.heap.size, i * 3 + 1, none⟩ = some (.int .i64 te) := ((H2.out.f (List.Mem.head _)).cell _).trans HC1.out
      have e2 : w2.cell? ⟨w1.heap.size, i * 3 + 2, none⟩ = some (.int .i64 ((ta : Nat) : Int)) := ((H2.out.f (List.Mem.head _)).cell _).trans HC2.out
      have el := (H2.out.f (List.Mem.head _)).lt
      go_wp2_with fail
      with_reducible refine (parseE fl r _ (HW.out.below (HeldL.alloc H2.out (w2.heap.size) #[S ts, .int .i64 te, .int .i64 ((ta : Nat) : Int)] 30 (by simp)).bel) hfl te (((Bl k).length : Int) + ((ta : Nat) : Int)) HP.out.1 HP.out.2).mono ?_
      rintro x w3 ⟨rfl, hb⟩
      have H3 : Hid (HeldL w [(w2.heap.size, #[S ts, .int .i64 te, .int .i64 ((ta : Nat) : Int)]), (w1.heap.size, tstC)] w3) := Lib.hid (HeldL.keep (HeldL.alloc H2.out (w2.heap.size) #[S ts, .int .i64 te, .int .i64 ((ta : Nat) : Int)] 30 (by simp)) hb)
      clear H2
      clear hb
      have bx0 : w3.cell? ⟨w2.heap.size, 0, none⟩ = some (S ts) := (H3.out.f (List.Mem.head _)).cell 0
      have bx1 : w3.cell? ⟨w2.heap.size, 1, none⟩ = some (.int .i64 te) := (H3.out.f (List.Mem.head _)).cell 1
      have bx2 : w3.cell? ⟨w2.heap.size, 2, none⟩ = some (.int .i64 ((ta : Nat) : Int)) := (H3.out.f (List.Mem.head _)).cell 2
      have bxl : w2.heap.size < w3.heap.size := (H3.out.f (List.Mem.head _)).lt
      have lk8 : (Bl k).length ≤ 7 := by have := HBL.out k (by omega); omega
      go_wp2
      go_ret
      exact ⟨rfl, H3.out.bel⟩

theorem tsA_len : ((List.range 26).all fun i => decide (tsA i ≤ 1000)) = true := by kernel_rfl
theorem ruleErrors_walk (m n : Int) (w : World) (_hm : (Lit.int .i64 m).wf = true) (_hn : (Lit.int .i64 n).wf = true) (ht : Tab w) (hw : Wds w) :
    Calls Tryz.prog 4 #[.int .i64 m, .int .i64 n] w fun x w' => x = .returned (.bool true) ∧ Below w.heap.size w w' := by
  obtain ⟨K, hK, hand⟩ : ∃ k : Nat, k ≤ 7 ∧ bits .and .i64 n 7 = (k : Int) := and_mask n 7 (by decide)
  obtain ⟨h1, h2⟩ := u64_modE m 26 (by decide) (by decide)
  obtain ⟨i, hi⟩ : ∃ i : Nat, wrap64 ((IntKind.u64.wrap m).tmod 26) = (i : Int) := ⟨_, (Int.toNat_of_nonneg h1).symm⟩
  have hi26 : i < 26 := by omega
  obtain ⟨c0, c1, c2⟩ := tst_cells i hi26
  obtain ⟨r, p1, p2⟩ := chk_one hK hi26
  have ha : tsA i ≤ 1000 := by have h := List.all_eq_true.1 tsA_len i (List.mem_range.2 hi26); simpa using h
  exact errs_w m n w ht hw K hK hand i hi26 hi (fun k => List.replicate k 32) rfl (fun k => List.replicate_succ') (fun k _ => List.length_replicate) (tsB i) (tsE i) (tsA i) (tsB_le hi26) ha c0 c1 c2 _ r rfl ⟨p1, by rw [p2, List.length_replicate]; simp⟩
end Go.Proofs.YtcobokfccfeonaaGreatDoor
