/- The contracts of num and of the laws' helpers once more, over texts given as lists of bytes and over the digits of numbers. -/
import Derived.Test.YtkjhdehpcanciaaGreatDoorNumI
import Derived.Laws.BitsAllLaws
namespace Go.Proofs.YtkjhdehpcanciaaGreatDoor
open Go.RowKit Florin

theorem and_mask (n : Int) (M : Nat) (hM : M ≤ 9223372036854775807) : ∃ k : Nat, k ≤ M ∧ bits .and .i64 n (M : Int) = (k : Int) := by
  have hx : (BitVec.ofInt 64 n &&& BitVec.ofInt 64 (M : Int)).toNat ≤ M := by
    rw [BitVec.toNat_and, ofInt_u64 M (by omega)]
    exact Nat.and_le_right
  refine ⟨(BitVec.ofInt 64 n &&& BitVec.ofInt 64 (M : Int)).toNat, hx, ?_⟩
  show IntKind.i64.wrap ((BitVec.ofInt 64 n &&& BitVec.ofInt 64 (M : Int)).toNat : Int) = _
  rw [IntKind.wrap_i64]
  omega

theorem isS (l : List UInt8) (w : World) (hl : l.length ≤ 1000000) (hd : isDig l = true) :
    Calls Tryz.prog 53 #[S l] w fun e w' => e = .returned (.bool true) ∧ w = w' :=
  is_yes ⟨l.toArray⟩ w (by rw [arr_size]; unfold maxLen; omega) (arr_dig l hd)
theorem addS (a b : List UInt8) (w : World) (ha : a.length ≤ 1000000) (hb : b.length ≤ 1000000) (da : isDig a = true) (db : isDig b = true) :
    Calls Tryz.prog 26 #[S a, S b] w fun e w' => e = .returned (S (dig (val a + val b))) ∧ Below w.heap.size w w' :=
  (add_yes ⟨a.toArray⟩ ⟨b.toArray⟩ w (by rw [arr_size]; exact ha) (by rw [arr_size]; exact hb) (arr_dig a da) (arr_dig b db)).mono fun e w' ⟨he, hw⟩ => ⟨by rw [he, arr_list, arr_list], hw⟩
theorem addN (m n : Nat) (w : World) (ha : (dig m).length ≤ 1000000) (hb : (dig n).length ≤ 1000000) :
    Calls Tryz.prog 26 #[S (dig m), S (dig n)] w fun e w' => e = .returned (S (dig (m + n))) ∧ Below w.heap.size w w' :=
  (addS (dig m) (dig n) w ha hb (isDig_dig m) (isDig_dig n)).mono fun e w' ⟨he, hw⟩ => ⟨by rw [he, val_dig, val_dig], hw⟩
theorem subS (a b : List UInt8) (w : World) (ha : a.length ≤ 1000000) (hb : b.length ≤ 1000000) (da : isDig a = true) (db : isDig b = true) (h : val b ≤ val a) :
    Calls Tryz.prog 97 #[S a, S b] w fun e w' => e = .returned (.tuple #[S (dig (val a - val b)), .bool true]) ∧ Below w.heap.size w w' :=
  (sub_yes ⟨a.toArray⟩ ⟨b.toArray⟩ w (by rw [arr_size]; exact ha) (by rw [arr_size]; exact hb) (arr_dig a da) (arr_dig b db) (by rw [arr_list, arr_list]; exact h)).mono fun e w' ⟨he, hw⟩ => ⟨by rw [he, arr_list, arr_list], hw⟩
theorem subS_less (a b : List UInt8) (w : World) (ha : a.length ≤ 1000000) (hb : b.length ≤ 1000000) (da : isDig a = true) (db : isDig b = true) (h : val a < val b) :
    Calls Tryz.prog 97 #[S a, S b] w fun e w' => e = .returned (.tuple #[S [], .bool false]) ∧ Below w.heap.size w w' :=
  sub_less ⟨a.toArray⟩ ⟨b.toArray⟩ w (by rw [arr_size]; unfold maxLen; omega) (by rw [arr_size]; unfold maxLen; omega) (arr_dig a da) (arr_dig b db) (by rw [arr_list, arr_list]; exact h)
theorem cmpS (a b : List UInt8) (w : World) (ha : a.length ≤ 1000000) (hb : b.length ≤ 1000000) (da : isDig a = true) (db : isDig b = true) :
    Calls Tryz.prog 73 #[S a, S b] w fun e w' => e = .returned (.int .i64 (Lib.compareInt (val a) (val b))) ∧ Below w.heap.size w w' :=
  (cmp_any ⟨a.toArray⟩ ⟨b.toArray⟩ w (by rw [arr_size]; unfold maxLen; omega) (by rw [arr_size]; unfold maxLen; omega)).mono fun e w' ⟨he, hw⟩ => ⟨by rw [he, arr_list, arr_list, cmpv_yes (by rw [da, db]; rfl)], hw⟩
theorem timesS (a : List UInt8) (m : Nat) (w : World) (ha : a.length ≤ 1000000) (da : isDig a = true) (hm : m ≤ 1000000000) (ht : Tab w) :
    Calls Tryz.prog 27 #[S a, .int .i64 m] w fun e w' => e = .returned (S (dig (val a * m))) ∧ Below w.heap.size w w' :=
  (times_yes ⟨a.toArray⟩ m w (by rw [arr_size]; exact ha) (arr_dig a da) hm ht).mono fun e w' ⟨he, hw⟩ => ⟨by rw [he, arr_list], hw⟩
theorem timesN (n m : Nat) (w : World) (ha : (dig n).length ≤ 1000000) (hm : m ≤ 1000000000) (ht : Tab w) :
    Calls Tryz.prog 27 #[S (dig n), .int .i64 m] w fun e w' => e = .returned (S (dig (n * m))) ∧ Below w.heap.size w w' :=
  (timesS (dig n) m w ha (isDig_dig n) hm ht).mono fun e w' ⟨he, hw⟩ => ⟨by rw [he, val_dig], hw⟩
theorem timesS_out (a : List UInt8) (m : Int) (w : World) (ha : a.length ≤ 1000000) (da : isDig a = true) (hm : m < 0 ∨ 1000000000 < m) :
    Calls Tryz.prog 27 #[S a, .int .i64 m] w fun e w' => e = .returned (S []) ∧ w = w' :=
  times_out ⟨a.toArray⟩ m w (by rw [arr_size]; unfold maxLen; omega) (arr_dig a da) hm
theorem divS (a : List UInt8) (m : Nat) (w : World) (ha : a.length ≤ 1000000) (da : isDig a = true) (h1 : 1 ≤ m) (hm : m ≤ 1000000000) :
    Calls Tryz.prog 67 #[S a, .int .i64 m] w fun e w' => e = .returned (.tuple #[S (dig (val a / m)), .int .i64 ((val a % m : Nat) : Int)]) ∧ Below w.heap.size w w' :=
  (div_yes ⟨a.toArray⟩ m w (by rw [arr_size]; exact ha) (arr_dig a da) h1 hm).mono fun e w' ⟨he, hw⟩ => ⟨by rw [he, arr_list], hw⟩
theorem divS_out (a : List UInt8) (m : Int) (w : World) (ha : a.length ≤ 1000000) (da : isDig a = true) (hm : m < 1 ∨ 1000000000 < m) :
    Calls Tryz.prog 67 #[S a, .int .i64 m] w fun e w' => e = .returned (.tuple #[S [], .int .i64 0]) ∧ w = w' :=
  div_out ⟨a.toArray⟩ m w (by rw [arr_size]; unfold maxLen; omega) (arr_dig a da) hm
theorem intS (a : List UInt8) (w : World) (ha : a.length ≤ 1000000) (da : isDig a = true) (h : (dig (val a)).length ≤ 18) :
    Calls Tryz.prog 63 #[S a] w fun e w' => e = .returned (.tuple #[.int .i64 (val a), .bool true]) ∧ w = w' :=
  (int_yes ⟨a.toArray⟩ w (by rw [arr_size]; unfold maxLen; omega) (arr_dig a da) (by rw [arr_list, ← dig_val da]; exact h)).mono fun e w' ⟨he, hw⟩ => ⟨by rw [he, arr_list], hw⟩
theorem intS_big (a : List UInt8) (w : World) (ha : a.length ≤ 1000000) (da : isDig a = true) (h : 18 < (dig (val a)).length) :
    Calls Tryz.prog 63 #[S a] w fun e w' => e = .returned (.tuple #[.int .i64 0, .bool false]) ∧ w = w' :=
  int_big ⟨a.toArray⟩ w (by rw [arr_size]; unfold maxLen; omega) (arr_dig a da) (by rw [arr_list, ← dig_val da]; exact h)
theorem ofN (n : Nat) (w : World) (h : n ≤ 9223372036854775807) (ht : Tab w) :
    Calls Tryz.prog 28 #[.int .i64 n] w fun e w' => e = .returned (S (dig n)) ∧ Below w.heap.size w w' :=
  (of_any n w (by omega) ht).mono fun e w' ⟨he, hw⟩ => ⟨by rw [he]; rfl, hw⟩
theorem dig_len {n k : Nat} (h : n < 10 ^ k) (hk : k ≤ 1000000) : (dig n).length ≤ 1000000 := Nat.le_trans ((dig_length_le n k).2 h) hk
theorem val_dgs_lt (L : List UInt8) {k : Nat} (h : L.length ≤ k) : val (dgs L) < 10 ^ k := by
  have := val_lt _ (isDig_dgs L)
  rw [dgs_length] at this
  exact Nat.lt_of_lt_of_le this (Nat.pow_le_pow_right (by decide) h)
theorem inB_nil (w : World) : InB w none 0 0 [] := ⟨rfl, Nat.le_refl _, Nat.zero_le _, fun h => absurd h (by omega)⟩
theorem inB_of (w : World) {x : Addr} {len cap : Nat} {zs : List Int} (hl : len ≤ cap) (hm : cap ≤ maxLen) (hz : zs.length = cap)
    (hcell : ∀ i, i < zs.length → w.cell? (x.add i) = some (.int .u8 (zs.getD i 0))) (hwz : ∀ n ∈ zs, (Lit.int .u8 n).wf = true) : ∃ L, InB w (some x) len cap L := by
  refine ⟨(zs.take len).map fun z => UInt8.ofNat z.toNat, by simp; omega, hl, hm, fun h => ?_⟩
  obtain ⟨b, off, spot⟩ := x
  have h0 := hcell 0 (by omega)
  have hs : spot = none := by simpa [Addr.add] using World.cell?_spot h0
  subst hs
  have hb : b < w.heap.size := World.block_lt_of_cell? w _ (by simpa [Addr.add] using h0)
  refine ⟨b, off, rfl, hb, fun i hi => ?_⟩
  have hi' : i < zs.length := by simp at hi; omega
  have h1 := hcell i hi'
  have e : (⟨b, off, none⟩ : Addr).add i = ⟨b, off + i, none⟩ := by unfold Addr.add; split <;> simp_all
  rw [e] at h1
  rw [h1]
  simp only [List.getElem_map, List.getElem_take]
  have hz2 := hwz zs[i] (List.getElem_mem _)
  have hz3 : 0 ≤ zs[i] ∧ zs[i] ≤ 255 := by
    simp [Lit.wf, IntKind.min, IntKind.max, IntKind.signed, IntKind.bits] at hz2
    omega
  rw [List.getD, List.getElem?_eq_getElem hi']
  congr 2
  simp [UInt8.toNat_ofNat']
  omega
end Go.Proofs.YtkjhdehpcanciaaGreatDoor
