/- Plain facts for the law EvalEnglish. -/
import Derived.Test.YtlambjglikdmcaaGreatDoorHd7
import Derived.Deep.Cut
namespace Go.Proofs.YtlambjglikdmcaaGreatDoor
open Go.RowKit Florin
set_option linter.unusedVariables false
set_option linter.unusedSimpArgs false
attribute [local go_sem ↓] Go.wp_at_zero Go.wp_at_succ

set_option maxRecDepth 100000 in
theorem pol_read : rulesP [111, 110, 101, 58, 32, 105, 32, 61, 32, 49, 32, 97, 110, 100, 32, 118, 32, 61, 32, 48, 59, 32, 102, 101, 119, 58, 32, 118, 32, 61, 32, 48, 32, 97, 110, 100, 32, 105, 32, 37, 32, 49, 48, 32, 61, 32, 50, 46, 46, 52, 32, 97, 110, 100, 32, 105, 32, 37, 32, 49, 48, 48, 32, 33, 61, 32, 49, 50, 46, 46, 49, 52, 59, 32, 109, 97, 110, 121, 58, 32, 118, 32, 61, 32, 48, 32, 97, 110, 100, 32, 105, 32, 33, 61, 32, 49, 32, 97, 110, 100, 32, 105, 32, 37, 32, 49, 48, 32, 61, 32, 48, 46, 46, 49, 32, 111, 114, 32, 118, 32, 61, 32, 48, 32, 97, 110, 100, 32, 105, 32, 37, 32, 49, 48, 32, 61, 32, 53, 46, 46, 57, 32, 111, 114, 32, 118, 32, 61, 32, 48, 32, 97, 110, 100, 32, 105, 32, 37, 32, 49, 48, 48, 32, 61, 32, 49, 50, 46, 46, 49, 52] = .ok polX [] := by kernel_rfl
set_option maxRecDepth 100000 in
theorem ara_read : rulesP [122, 101, 114, 111, 58, 32, 110, 32, 61, 32, 48, 59, 32, 111, 110, 101, 58, 32, 110, 32, 61, 32, 49, 59, 32, 116, 119, 111, 58, 32, 110, 32, 61, 32, 50, 59, 32, 102, 101, 119, 58, 32, 110, 32, 37, 32, 49, 48, 48, 32, 61, 32, 51, 46, 46, 49, 48, 59, 32, 109, 97, 110, 121, 58, 32, 110, 32, 37, 32, 49, 48, 48, 32, 61, 32, 49, 49, 46, 46, 57, 57] = .ok araX [] := by kernel_rfl
theorem of_nought7 (I F : List UInt8) : ofP ⟨false, I, F⟩ 0 = ⟨bare I, F, 0⟩ := by
  unfold ofP
  rw [show kOf 0 = 0 from rfl]
  simp [zs]
theorem dv_b (k : Nat) (h : k < 10) : dv (db (UInt8.ofNat k).toNat) = k := by
  unfold dv
  rw [db_nat, UInt8.toNat_ofNat']
  omega
theorem u8_of (k : Nat) (h : k < 10) : Value.int .u8 (k : Int) = bv (UInt8.ofNat k) := by
  show Value.int .u8 (k : Int) = Value.int .u8 ((UInt8.ofNat k).toNat : Int)
  rw [UInt8.toNat_ofNat', Nat.mod_eq_of_lt (by omega)]
def d4 (M : Nat) : List UInt8 := [UInt8.ofNat (M / 1000), UInt8.ofNat (M / 100 % 10), UInt8.ofNat (M / 10 % 10), UInt8.ofNat (M % 10)]
theorem val_d4 (M : Nat) (h : M ≤ 1023) : val (dgs (d4 M)) = M := by
  unfold d4 dgs
  simp only [List.map, val_cons, List.length, show val [] = 0 from rfl, dv_b (M / 1000) (by omega), dv_b (M / 100 % 10) (by omega), dv_b (M / 10 % 10) (by omega), dv_b (M % 10) (by omega)]
  omega
/-- The number of these digits, with those behind the point. -/
theorem num_of {M : Nat} (hM : M ≤ 1023) (L1 : List UInt8) (hl : L1.length ≤ 2) {F : Nat} (hF : val (dgs L1) = F) {z : Bool} (hz : decide (F = 0) = z) :
    shP (d4 M) L1 = ⟨false, dgs (d4 M), dgs L1⟩ ∧ ∃ o, ofP ⟨false, dgs (d4 M), dgs L1⟩ 0 = o ∧ OgB o ∧ Num3 o M L1.length z := by
  refine ⟨by unfold shP; rw [if_neg (fun h => by simp [d4] at h)], _, rfl, ?_⟩
  rw [of_nought7]
  have h4 : (d4 M).length = 4 := rfl
  have h5 := bare_length_le (dgs (d4 M))
  rw [dgs_length] at h5
  have h18 : (10 : Nat) ^ 18 = 1000000000000000000 := by decide
  have hb : OgB ⟨bare (dgs (d4 M)), dgs L1, 0⟩ := by
    refine ⟨?_, ?_, Int.le_refl 0, ?_, bare_isDig (isDig_dgs _), isDig_dgs _⟩
    · show (bare (dgs (d4 M))).length ≤ 900000; omega
    · show (dgs L1).length ≤ 900000; rw [dgs_length]; omega
    · show (0 : Int) ≤ 10000; omega
  have hv : val (bare (dgs (d4 M))) = M := by rw [val_bare (isDig_dgs _)]; exact val_d4 M hM
  exact ⟨hb, num3_of (o := ⟨bare (dgs (d4 M)), dgs L1, 0⟩) hb hv (by omega) (dgs_length L1) (by show decide (val (dgs L1) = 0) = z; rw [hF]; exact hz)⟩
theorem num_any {M : Nat} (hM : M ≤ 1023) (L1 : List UInt8) (hl : L1.length ≤ 2) {F : Nat} (hF : val (dgs L1) = F) {z : Bool} (hz : decide (F = 0) = z) :
    ∃ v : Vs, shP (d4 M) L1 = v ∧ v.i.length ≤ 900000 ∧ v.f.length ≤ 900000 ∧ ∃ o, ofP v 0 = o ∧ OgB o ∧ Num3 o M L1.length z := by
  obtain ⟨h1, o, h2, h3, h4⟩ := num_of hM L1 hl hF hz
  refine ⟨_, h1, ?_, ?_, o, h2, h3, h4⟩
  · show (dgs (d4 M)).length ≤ 900000; rw [dgs_length, show (d4 M).length = 4 from rfl]; omega
  · show (dgs L1).length ≤ 900000; rw [dgs_length]; omega
theorem inb4 {W w : World} {g : Nat} {L : List (Nat × Array Value)} (h : HeldL w L W) (M : Nat) (hM : M ≤ 1023) (hm : (g, #[.int .u8 ((M : Int) / 1000), .int .u8 ((M : Int) / 100 % 10), .int .u8 ((M : Int) / 10 % 10), .int .u8 ((M : Int) % 10)]) ∈ L) : InB W (some ⟨g, 0, none⟩) 4 4 (d4 M) := by
  refine ⟨rfl, Nat.le_refl _, by unfold maxLen; omega, fun _ => ⟨g, 0, rfl, (h.f hm).lt, fun i hi => ?_⟩⟩
  have hi4 : i < 4 := hi
  have hc := (h.f hm).cell i
  rw [Nat.zero_add, hc]
  have hs : i = 0 ∨ i = 1 ∨ i = 2 ∨ i = 3 := by omega
  rcases hs with rfl | rfl | rfl | rfl
  · exact congrArg some (u8_of (M / 1000) (by omega))
  · exact congrArg some (u8_of (M / 100 % 10) (by omega))
  · exact congrArg some (u8_of (M / 10 % 10) (by omega))
  · exact congrArg some (u8_of (M % 10) (by omega))
theorem inb2 {W w : World} {g cap : Nat} {L : List (Nat × Array Value)} {X : Array Value} (h : HeldL w L W) (F0 : Nat) (hm : (g, #[.int .u8 ((F0 : Int) % 100 / 10), .int .u8 ((F0 : Int) % 10)] ++ X) ∈ L) (h1 : 2 ≤ cap) (h2 : cap ≤ maxLen) : InB W (some ⟨g, 0, none⟩) 2 cap [UInt8.ofNat (F0 % 100 / 10), UInt8.ofNat (F0 % 10)] := by
  refine ⟨rfl, h1, h2, fun _ => ⟨g, 0, rfl, (h.f hm).lt, fun i hi => ?_⟩⟩
  have hi4 : i < 2 := hi
  have hc := (h.f hm).cell i
  rw [Nat.zero_add, hc]
  have hs : i = 0 ∨ i = 1 := by omega
  rcases hs with rfl | rfl
  · simp only [Array.getElem?_append, List.size_toArray, List.length]; exact congrArg some (u8_of (F0 % 100 / 10) (by omega))
  · simp only [Array.getElem?_append, List.size_toArray, List.length]; exact congrArg some (u8_of (F0 % 10) (by omega))
theorem inb1 {W w : World} {g cap : Nat} {L : List (Nat × Array Value)} {X : Array Value} (h : HeldL w L W) (F0 : Nat) (hm : (g, #[.int .u8 ((F0 : Int) % 10)] ++ X) ∈ L) (h1 : 1 ≤ cap) (h2 : cap ≤ maxLen) : InB W (some ⟨g, 0, none⟩) 1 cap [UInt8.ofNat (F0 % 10)] := by
  refine ⟨rfl, h1, h2, fun _ => ⟨g, 0, rfl, (h.f hm).lt, fun i hi => ?_⟩⟩
  have hi4 : i < 1 := hi
  have hc := (h.f hm).cell i
  rw [Nat.zero_add, hc]
  obtain rfl : i = 0 := by omega
  simp only [Array.getElem?_append, List.size_toArray, List.length]; exact congrArg some (u8_of (F0 % 10) (by omega))
theorem inb0 (W : World) (a : Option Addr) : InB W a 0 0 [] := ⟨rfl, Nat.le_refl _, by unfold maxLen; omega, fun h => absurd h (by omega)⟩
theorem cap_of (n t : Nat) (e : TypeId) (hn : n ≤ 2) : n ≤ (Question.appendCap n 0 e).cut t ∧ (Question.appendCap n 0 e).cut t ≤ maxLen := by
  have h1 : (Question.appendCap n 0 e).cut t = n + t % (2 ^ 63 - n) := rfl
  have h2 := Nat.mod_lt t (show 0 < 2 ^ 63 - n by omega)
  rw [h1]; unfold maxLen; omega
end Go.Proofs.YtlambjglikdmcaaGreatDoor
