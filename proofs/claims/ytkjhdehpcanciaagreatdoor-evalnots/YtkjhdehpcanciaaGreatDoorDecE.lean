/- What Parts and Plain of dec return, at any world. -/
import Derived.Test.YtkjhdehpcanciaaGreatDoorDecD
import Derived.Deep.QuietTactic
import Derived.BigQuiet
namespace Go.Proofs.YtkjhdehpcanciaaGreatDoor
open Go.RowKit Florin

theorem zeros_as (n : Int) (w : World) (h : n ≤ 60000) :
    Calls Tryz.prog 40 #[.int .i64 n] w fun x w' => x = .returned (S (zs n.toNat)) ∧ Below w.heap.size w w' :=
  (zeros_any n w).mono fun x w' ⟨hx, hb⟩ => ⟨by rw [hx, show min n.toNat 60000 = n.toNat by omega]; rfl, hb⟩
theorem ret_cat2 {a b : List UInt8} {v : Value} : Ending.returned (.tuple #[.string ((⟨a.toArray⟩ : ByteArray) ++ (⟨b.toArray⟩ : ByteArray)), v]) = .returned (.tuple #[S (a ++ b), v]) := by rw [arr_append]
theorem ret_cat2' {a b : List UInt8} {v : Value} : Ending.returned (.tuple #[v, .string ((⟨a.toArray⟩ : ByteArray) ++ (⟨b.toArray⟩ : ByteArray))]) = .returned (.tuple #[v, S (a ++ b)]) := by rw [arr_append]
theorem cut_arr (l : List UInt8) (a b : Nat) : (⟨l.toArray⟩ : ByteArray).extract a b = ⟨((l.drop a).take (b - a)).toArray⟩ := by
  have h := Lib.extract_data (⟨l.toArray⟩ : ByteArray) a b
  have e : ∀ x : ByteArray, x = ⟨x.data.toList.toArray⟩ := fun x => (back_data x).symm
  rw [e ((⟨l.toArray⟩ : ByteArray).extract a b), h]

theorem ret_parts (l : List UInt8) (q : Int) (p : Nat) (h : q.toNat = p) : Ending.returned (.tuple #[.string ((⟨l.toArray⟩ : ByteArray).extract 0 q.toNat), .string ((⟨l.toArray⟩ : ByteArray).extract q.toNat l.length)]) = .returned (.tuple #[S (l.take p), S (l.drop p)]) := by
  rw [h, cut_arr, cut_arr, List.drop_zero, Nat.sub_zero, List.take_of_length_le (l := l.drop p) (by simp)]

set_option maxRecDepth 100000 in
set_option maxHeartbeats 3200000 in
theorem parts_up (neg : Bool) (s : ByteArray) (e : Int) (w : World) (hs : s.size ≤ 1000000) (d : Tri) (hd : made neg s.data.toList e = d) (he : 0 ≤ d.e) :
    Calls Tryz.prog 46 #[.agg #[.bool neg, .string s, .int .i64 e]] w fun x w' => x = .returned (.tuple #[S (d.l ++ zs d.e.toNat), S []]) ∧ Below w.heap.size w w' := by
  have b2 : d.e ≤ 30000 := by rw [← hd]; exact (made_exp _ _ _).2
  have b3 : d.l.length ≤ 1000000 := by rw [← hd]; have := made_length neg s.data.toList e; rw [size_list] at this; omega
  have hz : (zs d.e.toNat).length ≤ 30000 := by rw [zs_length]; omega
  have hcat : ¬ 9223372036854775807 < d.l.length + (zs d.e.toNat).length := by omega
  have HD := Lib.hid hd
  clear hd
  go_enter Tryz.func46, Tryz.ntmps46
  go_wp2_with fail
  with_reducible refine (norm_as neg s e _ hs d HD.out).mono ?_
  rintro x w1 ⟨rfl, hb⟩
  have HB := Lib.hid ((below_alloc w _).trans (hb.mono (B' := w.heap.size) (by simp)))
  clear hb
  go_wp2_with fail
  go_region_held3 (fun w' => w'.cell? ⟨w1.heap.size, 0, none⟩ = some (.bool d.neg) ∧ w'.cell? ⟨w1.heap.size, 1, none⟩ = some (S d.l) ∧ w'.cell? ⟨w1.heap.size, 2, none⟩ = some (.int .i64 d.e))
    (first | go_keep | exact ⟨(hb.cell (p := ⟨w1.heap.size, 0, none⟩) (by simp)).trans (by simp [*]), (hb.cell (p := ⟨w1.heap.size, 1, none⟩) (by simp)).trans (by simp [*]), (hb.cell (p := ⟨w1.heap.size, 2, none⟩) (by simp)).trans (by simp [*])⟩)
    (first | (go_at_call 40; refine (zeros_as d.e _ (by omega)).mono ?_; rintro e w3 ⟨rfl, hb⟩))
  have HB3 := Lib.hid ((HB.out.alloc HB.out.size _).trans ((below_drew' hb).mono (B' := w.heap.size) (by have := HB.out.size; simp; omega)))
  clear hb
  go_wp2
  go_ret2
  exact ⟨ret_cat2, HB3.out⟩

set_option maxRecDepth 100000 in
set_option maxHeartbeats 3200000 in
theorem parts_down (neg : Bool) (s : ByteArray) (e : Int) (w : World) (hs : s.size ≤ 1000000) (d : Tri) (hd : made neg s.data.toList e = d) (he : d.e < 0) (hp : (d.l.length : Int) + d.e ≤ 0) :
    Calls Tryz.prog 46 #[.agg #[.bool neg, .string s, .int .i64 e]] w fun x w' => x = .returned (.tuple #[S [], S (zs (-((d.l.length : Int) + d.e)).toNat ++ d.l)]) ∧ Below w.heap.size w w' := by
  have b1 : -30000 ≤ d.e := by rw [← hd]; exact (made_exp _ _ _).1
  have b3 : d.l.length ≤ 1000000 := by rw [← hd]; have := made_length neg s.data.toList e; rw [size_list] at this; omega
  have hz : (zs (-((d.l.length : Int) + d.e)).toNat).length ≤ 30000 := by rw [zs_length]; omega
  have hcat : ¬ 9223372036854775807 < (zs (-((d.l.length : Int) + d.e)).toNat).length + d.l.length := by omega
  have HW : Hid (IntKind.i64.wrap (-((d.l.length : Int) + d.e)) = -((d.l.length : Int) + d.e)) := Lib.hid (by rw [IntKind.wrap_i64]; omega)
  have HD := Lib.hid hd
  clear hd
  go_enter Tryz.func46, Tryz.ntmps46
  go_wp2_with fail
  with_reducible refine (norm_as neg s e _ hs d HD.out).mono ?_
  rintro x w1 ⟨rfl, hb⟩
  have HB := Lib.hid ((below_alloc w _).trans (hb.mono (B' := w.heap.size) (by simp)))
  clear hb
  go_wp2_with fail
  go_region_held3 (fun w' => w'.cell? ⟨w1.heap.size, 0, none⟩ = some (.bool d.neg) ∧ w'.cell? ⟨w1.heap.size, 1, none⟩ = some (S d.l) ∧ w'.cell? ⟨w1.heap.size, 2, none⟩ = some (.int .i64 d.e))
    (first | go_keep | exact ⟨(hb.cell (p := ⟨w1.heap.size, 0, none⟩) (by simp)).trans (by simp [*]), (hb.cell (p := ⟨w1.heap.size, 1, none⟩) (by simp)).trans (by simp [*]), (hb.cell (p := ⟨w1.heap.size, 2, none⟩) (by simp)).trans (by simp [*])⟩)
    (first | (go_at_call 40; rw [HW.out]; refine (zeros_as (-((d.l.length : Int) + d.e)) _ (by omega)).mono ?_; rintro e w3 ⟨rfl, hb⟩))
  have HB3 := Lib.hid ((HB.out.alloc HB.out.size _).trans ((below_drew' hb).mono (B' := w.heap.size) (by have := HB.out.size; simp; omega)))
  clear hb
  go_wp2
  go_ret2
  exact ⟨ret_cat2', HB3.out⟩

set_option maxRecDepth 100000 in
set_option maxHeartbeats 3200000 in
theorem parts_mid (neg : Bool) (s : ByteArray) (e : Int) (w : World) (hs : s.size ≤ 1000000) (d : Tri) (hd : made neg s.data.toList e = d) (p : Nat) (he : d.e < 0) (hp : (d.l.length : Int) + d.e = p) (h0 : 0 < p) :
    Calls Tryz.prog 46 #[.agg #[.bool neg, .string s, .int .i64 e]] w fun x w' => x = .returned (.tuple #[S (d.l.take p), S (d.l.drop p)]) ∧ Below w.heap.size w w' := by
  have b1 : -30000 ≤ d.e := by rw [← hd]; exact (made_exp _ _ _).1
  have b3 : d.l.length ≤ 1000000 := by rw [← hd]; have := made_length neg s.data.toList e; rw [size_list] at this; omega
  have c0 : (0 : Int) < (d.l.length : Int) + d.e := by omega
  have c1 : (0 : Int) ≤ (d.l.length : Int) + d.e := by omega
  have c2 : (d.l.length : Int) + d.e ≤ (d.l.length : Int) := by omega
  have HD := Lib.hid hd
  have HP := Lib.hid hp
  clear hd hp
  go_enter Tryz.func46, Tryz.ntmps46
  go_wp2_with fail
  with_reducible refine (norm_as neg s e _ hs d HD.out).mono ?_
  rintro x w1 ⟨rfl, hb⟩
  have HB := Lib.hid ((below_alloc w _).trans (hb.mono (B' := w.heap.size) (by simp)))
  clear hb
  go_wp2_with fail
  go_quiet (fail)
  go_wp2
  go_ret2
  exact ⟨ret_parts _ _ _ (by have := HP.out; omega), (HB.out.alloc HB.out.size _).trans (Joins.below_draws _ _ _)⟩

/-- The digits ahead of the point, and those behind it. -/
def partsT (d : Tri) : List UInt8 × List UInt8 :=
  if 0 ≤ d.e then (d.l ++ zs d.e.toNat, []) else if (d.l.length : Int) + d.e ≤ 0 then ([], zs (-((d.l.length : Int) + d.e)).toNat ++ d.l) else (d.l.take ((d.l.length : Int) + d.e).toNat, d.l.drop ((d.l.length : Int) + d.e).toNat)
theorem parts_as (neg : Bool) (s : ByteArray) (e : Int) (w : World) (hs : s.size ≤ 1000000) (d : Tri) (hd : made neg s.data.toList e = d) (a b : List UInt8) (hp : partsT d = (a, b)) :
    Calls Tryz.prog 46 #[.agg #[.bool neg, .string s, .int .i64 e]] w fun x w' => x = .returned (.tuple #[S a, S b]) ∧ Below w.heap.size w w' := by
  unfold partsT at hp
  by_cases h : 0 ≤ d.e
  · rw [if_pos h] at hp
    simp only [Prod.mk.injEq] at hp
    rw [← hp.1, ← hp.2]
    exact parts_up neg s e w hs d hd h
  · rw [if_neg h] at hp
    by_cases h2 : (d.l.length : Int) + d.e ≤ 0
    · rw [if_pos h2] at hp
      simp only [Prod.mk.injEq] at hp
      rw [← hp.1, ← hp.2]
      exact parts_down neg s e w hs d hd (by omega) h2
    · rw [if_neg h2] at hp
      simp only [Prod.mk.injEq] at hp
      rw [← hp.1, ← hp.2]
      exact parts_mid neg s e w hs d hd _ (by omega) (by omega) (by omega)
def plainT (d : Tri) : List UInt8 := signL d.neg ++ (if (partsT d).1 = [] then [48] else (partsT d).1) ++ (if (partsT d).2 = [] then [] else 46 :: (partsT d).2)
theorem partsT_len (d : Tri) (h1 : d.l.length ≤ 1000000) (h2 : -30000 ≤ d.e) (h3 : d.e ≤ 30000) : (partsT d).1.length ≤ 1030000 ∧ (partsT d).2.length ≤ 1030000 := by
  unfold partsT
  split
  · simp [zs_length]; omega
  · split
    · simp [zs_length]; omega
    · simp; omega
theorem ret_cat3' (a b c : List UInt8) : Ending.returned (.string ((⟨a.toArray⟩ : ByteArray) ++ (⟨b.toArray⟩ : ByteArray) ++ ((⟨#[46]⟩ : ByteArray) ++ (⟨c.toArray⟩ : ByteArray)))) = .returned (S (a ++ b ++ 46 :: c)) := by
  rw [arr_append, show (⟨#[46]⟩ : ByteArray) = ⟨[46].toArray⟩ from rfl, arr_append, arr_append]; rfl
theorem ret_cat48 (a c : List UInt8) : Ending.returned (.string ((⟨a.toArray⟩ : ByteArray) ++ (⟨#[48]⟩ : ByteArray) ++ ((⟨#[46]⟩ : ByteArray) ++ (⟨c.toArray⟩ : ByteArray)))) = .returned (S (a ++ [48] ++ 46 :: c)) := ret_cat3' a [48] c
theorem ret_3 (a b c : List UInt8) : Ending.returned (.string ((⟨a.toArray⟩ : ByteArray) ++ (⟨b.toArray⟩ : ByteArray) ++ (⟨c.toArray⟩ : ByteArray))) = .returned (S (a ++ b ++ c)) := by
  rw [arr_append, arr_append]

end Go.Proofs.YtkjhdehpcanciaaGreatDoor
