/- What String of dec returns, at any world in which the library's table of powers of ten stands. -/
import Derived.Test.YtkjhdehpcanciaaGreatDoorDecC
import Derived.Test.YtkjhdehpcanciaaGreatDoorDText
import Derived.Deep.RegionHeld3
namespace Go.Proofs.YtkjhdehpcanciaaGreatDoor
open Go.RowKit Florin

def signL (n : Bool) : List UInt8 := if n then [45] else []
theorem sign_as (n : Bool) (s : ByteArray) (e : Int) (w : World) : Calls Tryz.prog 199 #[.agg #[.bool n, .string s, .int .i64 e]] w fun x w' => x = .returned (S (signL n)) ∧ Below w.heap.size w w' := sign_any n s e w

theorem ret_cat (a b : List UInt8) : Ending.returned (.string ((⟨a.toArray⟩ : ByteArray) ++ (⟨b.toArray⟩ : ByteArray))) = .returned (S (a ++ b)) := by rw [arr_append]
theorem ret_cat3 (a b c : List UInt8) : Ending.returned (.string ((⟨a.toArray⟩ : ByteArray) ++ (⟨b.toArray⟩ : ByteArray) ++ ((⟨#[101]⟩ : ByteArray) ++ (⟨c.toArray⟩ : ByteArray)))) = .returned (S (a ++ b ++ 101 :: c)) := by
  rw [arr_append, show (⟨#[101]⟩ : ByteArray) = ⟨[101].toArray⟩ from rfl, arr_append, arr_append]; rfl
theorem below_drew' {B : Nat} {w w' : World} (h : Below B w.drew w') : Below B w w' := ⟨h.os, h.tape, h.output, h.size, h.block⟩
/-- The decimal digits of an int that isn't 0, with its sign. -/
def numT (n : Int) : List UInt8 := signL (decide (n < 0)) ++ dig n.natAbs
theorem itoa_numT (n : Int) (h : n ≠ 0) : Lib.itoa n = numT n := by
  unfold numT signL
  by_cases hn : n < 0
  · unfold Lib.itoa
    rw [if_pos hn, decDigits_dig _ (by omega)]; simp [hn]
  · rw [itoa_dig n (by omega)]
    simp [hn]
    congr 1; omega
theorem itoa_as (n : Int) (w : World) (h : n ≠ 0) (h0 : -30000 ≤ n) (h1 : n ≤ 30000) (ht : Tab w) :
    Calls Tryz.prog 54 #[.int .i64 n] w fun x w' => x = .returned (S (numT n)) ∧ Below w.heap.size w w' := by
  refine (Tryz.strconv_Itoa n (by omega) (by omega) w ht).mono ?_
  rintro e w' ⟨rfl, k, os, rfl⟩
  exact ⟨by rw [itoa_numT n h], below_grow' _ _ _⟩
theorem numT_len (n : Int) (h0 : -30000 ≤ n) (h1 : n ≤ 30000) : (numT n).length ≤ 6 := by
  unfold numT signL
  have : (dig n.natAbs).length ≤ 5 := (dig_length_le _ _).2 (by have : (10 : Nat) ^ 5 = 100000 := by decide
                                                                omega)
  rw [List.length_append]
  split <;> simp <;> omega

set_option maxRecDepth 100000 in
set_option maxHeartbeats 3200000 in
theorem string_int (neg : Bool) (s : ByteArray) (e : Int) (w : World) (hs : s.size ≤ 1000000) (d : Tri) (hd : made neg s.data.toList e = d) (hn : d.l ≠ []) (hid : made d.neg d.l d.e = d) (he : d.e = 0) :
    Calls Tryz.prog 197 #[.agg #[.bool neg, .string s, .int .i64 e]] w fun x w' => x = .returned (S (signL d.neg ++ d.l)) ∧ Below w.heap.size w w' := by
  have b3 : d.l.length ≤ 1000000 := by rw [← hd]; have := made_length neg s.data.toList e; rw [size_list] at this; omega
  have HD := Lib.hid hd
  have HN := Lib.hid hn
  have HI := Lib.hid hid
  have ht : (d.e != 0) = false := by simp [he]
  clear hd hn hid he
  have hsl : (signL d.neg).length ≤ 1 := by unfold signL; split <;> simp
  have hcat : ¬ 9223372036854775807 < (signL d.neg).length + d.l.length := by omega
  go_enter Tryz.func197, Tryz.ntmps197
  go_wp2_with fail
  with_reducible refine (norm_as neg s e _ hs d HD.out).mono ?_
  rintro x w1 ⟨rfl, hb⟩
  have HB := Lib.hid ((below_alloc w _).trans (hb.mono (B' := w.heap.size) (by simp)))
  clear hb
  go_wp2_with fail
  with_reducible refine (zero_as d.neg ⟨d.l.toArray⟩ d.e _ (by rw [arr_size]; exact b3) d (by rw [arr_list]; exact HI.out) false (ne_empty HN.out)).mono ?_
  rintro x w2 ⟨rfl, hb⟩
  have B1 := Lib.hid ((Box.new w1 #[.bool d.neg, S d.l, .int .i64 d.e] 90).below hb (by simp))
  have HB2 := Lib.hid ((HB.out.alloc HB.out.size _).trans (hb.mono (B' := w.heap.size) (by have := HB.out.size; simp; omega)))
  obtain ⟨q0, q1, q2, f0, f1, f2, lt⟩ := B1.out.three
  clear hb HB
  go_wp2_with fail
  go_region_held3 (fun w' => w'.cell? ⟨w1.heap.size, 0, none⟩ = some (.bool d.neg) ∧ w'.cell? ⟨w1.heap.size, 1, none⟩ = some (S d.l) ∧ w'.cell? ⟨w1.heap.size, 2, none⟩ = some (.int .i64 d.e))
    (first | go_keep | exact ⟨(hb.cell (p := ⟨w1.heap.size, 0, none⟩) (by simp; omega)).trans (by simp [*]), (hb.cell (p := ⟨w1.heap.size, 1, none⟩) (by simp; omega)).trans (by simp [*]), (hb.cell (p := ⟨w1.heap.size, 2, none⟩) (by simp; omega)).trans (by simp [*])⟩)
    (first | (go_at_call 199; refine (sign_as d.neg ⟨d.l.toArray⟩ d.e _).mono ?_; rintro e w3 ⟨rfl, hb⟩))
  have HB3 := Lib.hid (HB2.out.trans ((below_drew' hb).mono (B' := w.heap.size) HB2.out.size))
  obtain ⟨p0, p1, p2⟩ := ‹w3.cell? ⟨w1.heap.size, 0, none⟩ = some (.bool d.neg) ∧ _ ∧ _›
  clear hb q0 q1 q2 f0 f1 f2
  go_wp2
  go_ret
  exact ⟨ret_cat _ _, HB3.out⟩

set_option maxRecDepth 100000 in
set_option maxHeartbeats 3200000 in
theorem string_exp (neg : Bool) (s : ByteArray) (e : Int) (w : World) (hs : s.size ≤ 1000000) (d : Tri) (hd : made neg s.data.toList e = d) (hn : d.l ≠ []) (hid : made d.neg d.l d.e = d) (he : d.e ≠ 0) (htab : Tab w) :
    Calls Tryz.prog 197 #[.agg #[.bool neg, .string s, .int .i64 e]] w fun x w' => x = .returned (S (signL d.neg ++ d.l ++ 101 :: numT d.e)) ∧ Below w.heap.size w w' := by
  have b1 : -30000 ≤ d.e := by rw [← hd]; exact (made_exp _ _ _).1
  have b2 : d.e ≤ 30000 := by rw [← hd]; exact (made_exp _ _ _).2
  have b3 : d.l.length ≤ 1000000 := by rw [← hd]; have := made_length neg s.data.toList e; rw [size_list] at this; omega
  have b4 := numT_len d.e b1 b2
  have HT := Lib.hid htab
  have HD := Lib.hid hd
  have HN := Lib.hid hn
  have HI := Lib.hid hid
  have HE := Lib.hid he
  have ht : (d.e != 0) = true := by simp [he]
  clear hd hn hid he htab
  have hsl : (signL d.neg).length ≤ 1 := by unfold signL; split <;> simp
  have hcat : ¬ 9223372036854775807 < (signL d.neg).length + d.l.length := by omega
  go_enter Tryz.func197, Tryz.ntmps197
  go_wp2_with fail
  with_reducible refine (norm_as neg s e _ hs d HD.out).mono ?_
  rintro x w1 ⟨rfl, hb⟩
  have HB := Lib.hid ((below_alloc w _).trans (hb.mono (B' := w.heap.size) (by simp)))
  clear hb
  go_wp2_with fail
  with_reducible refine (zero_as d.neg ⟨d.l.toArray⟩ d.e _ (by rw [arr_size]; exact b3) d (by rw [arr_list]; exact HI.out) false (ne_empty HN.out)).mono ?_
  rintro x w2 ⟨rfl, hb⟩
  have B1 := Lib.hid ((Box.new w1 #[.bool d.neg, S d.l, .int .i64 d.e] 90).below hb (by simp))
  have HB2 := Lib.hid ((HB.out.alloc HB.out.size _).trans (hb.mono (B' := w.heap.size) (by have := HB.out.size; simp; omega)))
  obtain ⟨q0, q1, q2, f0, f1, f2, lt⟩ := B1.out.three
  clear hb HB
  go_wp2_with fail
  go_region_held3 (fun w' => w'.cell? ⟨w1.heap.size, 0, none⟩ = some (.bool d.neg) ∧ w'.cell? ⟨w1.heap.size, 1, none⟩ = some (S d.l) ∧ w'.cell? ⟨w1.heap.size, 2, none⟩ = some (.int .i64 d.e))
    (first | go_keep | exact ⟨(hb.cell (p := ⟨w1.heap.size, 0, none⟩) (by simp; omega)).trans (by simp [*]), (hb.cell (p := ⟨w1.heap.size, 1, none⟩) (by simp; omega)).trans (by simp [*]), (hb.cell (p := ⟨w1.heap.size, 2, none⟩) (by simp; omega)).trans (by simp [*])⟩)
    (first | (go_at_call 199; refine (sign_as d.neg ⟨d.l.toArray⟩ d.e _).mono ?_; rintro e w3 ⟨rfl, hb⟩))
  have HB3 := Lib.hid (HB2.out.trans ((below_drew' hb).mono (B' := w.heap.size) HB2.out.size))
  obtain ⟨p0, p1, p2⟩ := ‹w3.cell? ⟨w1.heap.size, 0, none⟩ = some (.bool d.neg) ∧ _ ∧ _›
  clear hb q0 q1 q2 f0 f1 f2
  go_wp2_with fail
  with_reducible refine (itoa_as d.e _ HE.out b1 b2 (HT.out.below HB3.out)).mono ?_
  rintro x w4 ⟨rfl, hb⟩
  have HB4 := Lib.hid (HB3.out.trans (hb.mono (B' := w.heap.size) HB3.out.size))
  clear hb p0 p1 p2
  go_wp2
  go_ret
  exact ⟨ret_cat3 _ _ _, HB4.out⟩

set_option maxRecDepth 100000 in
set_option maxHeartbeats 800000 in
theorem string_zero (neg : Bool) (s : ByteArray) (e : Int) (w : World) (hs : s.size ≤ 1000000) (hd : made neg s.data.toList e = zero) :
    Calls Tryz.prog 197 #[.agg #[.bool neg, .string s, .int .i64 e]] w fun x w' => x = .returned (S [48]) ∧ Below w.heap.size w w' := by
  have HD := Lib.hid hd
  clear hd
  go_enter Tryz.func197, Tryz.ntmps197
  go_wp2_with fail
  with_reducible refine (norm_as neg s e _ hs zero HD.out).mono ?_
  rintro x w1 ⟨rfl, hb⟩
  have HB := Lib.hid ((below_alloc w _).trans (hb.mono (B' := w.heap.size) (by simp)))
  clear hb
  go_wp2_with fail
  with_reducible refine (zero_as zero.neg ⟨zero.l.toArray⟩ zero.e _ (by decide) zero rfl true rfl).mono ?_
  rintro x w2 ⟨rfl, hb⟩
  have HB2 := Lib.hid ((HB.out.alloc HB.out.size _).trans (hb.mono (B' := w.heap.size) (by have := HB.out.size; simp; omega)))
  clear hb
  go_wp2
  go_ret
  exact ⟨rfl, HB2.out⟩
/-- The text of a decimal. -/
def textT (d : Tri) : List UInt8 := if d.l = [] then [48] else signL d.neg ++ d.l ++ (if d.e = 0 then [] else 101 :: numT d.e)
theorem string_as (neg : Bool) (s : ByteArray) (e : Int) (w : World) (hs : s.size ≤ 1000000) (d : Tri) (hd : made neg s.data.toList e = d) (hid : made d.neg d.l d.e = d) (htab : Tab w) :
    Calls Tryz.prog 197 #[.agg #[.bool neg, .string s, .int .i64 e]] w fun x w' => x = .returned (S (textT d)) ∧ Below w.heap.size w w' := by
  unfold textT
  by_cases h : d.l = []
  · have hz : d = zero := by rw [← hid]; exact made_zero _ _ (by rw [h]; rfl)
    rw [if_pos h]
    exact string_zero neg s e w hs (hd.trans hz)
  · rw [if_neg h]
    by_cases he : d.e = 0
    · rw [if_pos he, List.append_nil]
      exact string_int neg s e w hs d hd h hid he
    · rw [if_neg he]
      exact string_exp neg s e w hs d hd h hid he htab
end Go.Proofs.YtkjhdehpcanciaaGreatDoor
