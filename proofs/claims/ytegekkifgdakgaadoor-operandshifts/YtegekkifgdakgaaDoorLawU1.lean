/- The walk of the law OperandShifts. -/
import Derived.Test.YtegekkifgdakgaaDoorMOpr
namespace Go.Proofs.YtegekkifgdakgaaDoor
open Go.RowKit Florin
set_option linter.unusedVariables false
set_option linter.unusedSimpArgs false

theorem trim_app (A B : List UInt8) : trim (trim A ++ B) = trim (A ++ B) := by
  induction A with
  | nil => rfl
  | cons c t ih =>
    by_cases h : c = 48
    · subst h; rw [trim_cons_zero, ih, List.cons_append, trim_cons_zero]
    · rw [trim_cons t h]
theorem bare_app {A B : List UInt8} (hA : isDig A = true) (hB : isDig B = true) : bare (bare A ++ B) = bare (A ++ B) := by
  have h1 : isDig (A ++ B) = true := by rw [isDig_append, hA, hB]; rfl
  have h2 : isDig (trim A ++ B) = true := by rw [isDig_append, isDig_trim A hA, hB]; rfl
  unfold bare
  rw [if_pos hA, if_pos h2, if_pos h1, trim_app]
theorem isDig_part {l : List UInt8} (h : isDig l = true) (q : Nat) : isDig (l.take q) = true ∧ isDig (l.drop q) = true := by
  have hs : l = l.take q ++ l.drop q := (List.take_append_drop _ _).symm
  rw [hs, isDig_append] at h
  simpa using h
theorem kOf_nat (j : Nat) (h : j ≤ 10000) : kOf (j : Int) = j := by unfold kOf; omega
/-- The point moved twice. -/
theorem of_of (b : Bool) (i f : List UInt8) (hi : isDig i = true) (hf : isDig f = true) (j k : Nat) (h : j + k ≤ 10000) :
    (ofP ⟨false, (ofP ⟨b, i, f⟩ (j : Int)).i, (ofP ⟨b, i, f⟩ (j : Int)).f⟩ (k : Int)).i = (ofP ⟨b, i, f⟩ ((j : Int) + k)).i ∧ (ofP ⟨false, (ofP ⟨b, i, f⟩ (j : Int)).i, (ofP ⟨b, i, f⟩ (j : Int)).f⟩ (k : Int)).f = (ofP ⟨b, i, f⟩ ((j : Int) + k)).f := by
  have e : ((j : Int) + k) = ((j + k : Nat) : Int) := by omega
  rw [e]
  unfold ofP
  simp only [kOf_nat j (by omega), kOf_nat k (by omega), kOf_nat (j + k) h]
  refine ⟨?_, by rw [List.drop_drop]⟩
  have d1 : isDig (i ++ f.take j ++ zs (j - f.length)) = true := by rw [isDig_append, isDig_append, hi, (isDig_part hf j).1, isDig_zs]; rfl
  have d2 : isDig ((f.drop j).take k ++ zs (k - (f.drop j).length)) = true := by rw [isDig_append, (isDig_part (isDig_part hf j).2 k).1, isDig_zs]; rfl
  rw [List.append_assoc, bare_app d1 d2]
  congr 1
  simp only [List.append_assoc]
  congr 1
  rw [List.length_drop]
  by_cases hj : j ≤ f.length
  · rw [show j - f.length = 0 by omega, zs_zero, List.nil_append, List.take_add, List.append_assoc, show k - (f.length - j) = j + k - f.length by omega]
  · rw [List.drop_of_length_le (by omega), List.take_nil, List.nil_append, List.take_of_length_le (by omega), List.take_of_length_le (by omega), show k - (f.length - j) = k by omega]
    congr 1
    unfold zs
    rw [List.replicate_append_replicate]
    congr 1
    omega
theorem shP_dig (L M : List UInt8) : isDig (shP L M).i = true ∧ isDig (shP L M).f = true := by
  unfold shP
  split
  · exact ⟨by decide, by decide⟩
  · exact ⟨isDig_dgs L, isDig_dgs M⟩
theorem shP_len (L M : List UInt8) : (shP L M).i.length ≤ L.length + 1 ∧ (shP L M).f.length = M.length ∧ (shP L M).neg = false := by
  unfold shP
  split
  · rename_i h; rw [h.2]; exact ⟨by simp, rfl, rfl⟩
  · exact ⟨by simp only; rw [dgs_length]; omega, dgs_length M, rfl⟩
theorem bare_len (l : List UInt8) : (bare l).length ≤ l.length := by
  unfold bare; split
  · exact trim_length_le l
  · simp
set_option maxRecDepth 100000 in
set_option maxHeartbeats 3200000 in
theorem shifts_w (a : Option Addr) (len cap : Nat) (L : List UInt8) (a1 : Option Addr) (len1 cap1 : Nat) (L1 : List UInt8) (e f : Int) (w : World) (hin : InB w a len cap L) (hin1 : InB w a1 len1 cap1 L1) (h1 : len ≤ 60) (h2 : len1 ≤ 60) (j k : Nat) (hj : bits .and .i64 e 15 = (j : Int)) (hk : bits .and .i64 f 15 = (k : Int)) (lj : j ≤ 15) (lk : k ≤ 15) (v : Vs) (hv : shP L L1 = v) (il : v.i.length ≤ 900000) (fl : v.f.length ≤ 900000) (I1 F1 I2 F2 : List UInt8) (il1 : I1.length ≤ 900000) (fl1 : F1.length ≤ 900000) (ho1 : ofP v j = ⟨I1, F1, j⟩) (ho2 : ofP ⟨false, I1, F1⟩ k = ⟨I2, F2, k⟩) (ho3 : ofP v ((j : Int) + k) = ⟨I2, F2, (j : Int) + k⟩) :
    Calls Tryd.prog 9 #[.slice a len cap, .slice a1 len1 cap1, .int .i64 e, .int .i64 f] w fun x w' => x = .returned (.bool true) ∧ Below w.heap.size w w' := by
  have HIN := Lib.hid hin
  have HIN1 := Lib.hid hin1
  have HV := Lib.hid hv
  have HO1 := Lib.hid ho1
  have HO2 := Lib.hid ho2
  have HO3 := Lib.hid ho3
  clear hin hin1 hv ho1 ho2 ho3
  go_enter Tryd.func9, Tryd.ntmps9
  go_wp2_with fail
  with_reducible refine (head5 _).mono ?_
  rintro x w1 ⟨rfl, hb⟩
  have H1 : Hid (HeldL w [] w1) := Lib.hid (HeldL.keep (HeldL.refl w) hb)
  clear hb
  go_wp2_with fail
  with_reducible refine (shown_as a len cap L a1 len1 cap1 L1 _ (HIN.out.below H1.out.bel) (HIN1.out.below H1.out.bel) (by omega) (by omega) v HV.out).mono ?_
  rintro x w2 ⟨rfl, hb⟩
  have H2 : Hid (HeldL w [] w2) := Lib.hid (HeldL.keep H1.out hb)
  clear H1
  clear hb
  go_wp2_with fail
  with_reducible refine (of_as v j _ il fl ⟨I1, F1, j⟩ HO1.out).mono ?_
  rintro x w3 ⟨rfl, hb⟩
  have H3 : Hid (HeldL w [(w2.heap.size, #[.bool v.neg, S v.i, S v.f])] w3) := Lib.hid (HeldL.keep (HeldL.alloc H2.out (w2.heap.size) #[.bool v.neg, S v.i, S v.f] 37 (by simp)) hb)
  clear H2
  clear hb
  have bv0 : w3.cell? ⟨w2.heap.size, 0, none⟩ = some (.bool v.neg) := (H3.out.f (List.Mem.head _)).cell 0
  have bv1 : w3.cell? ⟨w2.heap.size, 1, none⟩ = some (S v.i) := (H3.out.f (List.Mem.head _)).cell 1
  have bv2 : w3.cell? ⟨w2.heap.size, 2, none⟩ = some (S v.f) := (H3.out.f (List.Mem.head _)).cell 2
  have bvl : w2.heap.size < w3.heap.size := (H3.out.f (List.Mem.head _)).lt
  go_wp2_with fail
  with_reducible refine (of_as ⟨false, I1, F1⟩ k _ il1 fl1 ⟨I2, F2, k⟩ HO2.out).mono ?_
  rintro x w4 ⟨rfl, hb⟩
  clear bv0 bv1 bv2 bvl
  have H4 : Hid (HeldL w [(w3.heap.size, #[S I1, S F1, .int .i64 j]), (w2.heap.size, #[.bool v.neg, S v.i, S v.f])] w4) := Lib.hid (HeldL.keep (HeldL.alloc H3.out (w3.heap.size) #[S I1, S F1, .int .i64 j] 48 (by simp)) hb)
  clear H3
  clear hb
  have bv0 : w4.cell? ⟨w2.heap.size, 0, none⟩ = some (.bool v.neg) := (H4.out.f (List.Mem.tail _ (List.Mem.head _))).cell 0
  have bv1 : w4.cell? ⟨w2.heap.size, 1, none⟩ = some (S v.i) := (H4.out.f (List.Mem.tail _ (List.Mem.head _))).cell 1
  have bv2 : w4.cell? ⟨w2.heap.size, 2, none⟩ = some (S v.f) := (H4.out.f (List.Mem.tail _ (List.Mem.head _))).cell 2
  have bvl : w2.heap.size < w4.heap.size := (H4.out.f (List.Mem.tail _ (List.Mem.head _))).lt
  have bx0 : w4.cell? ⟨w3.heap.size, 0, none⟩ = some (S I1) := (H4.out.f (List.Mem.head _)).cell 0
  have bx1 : w4.cell? ⟨w3.heap.size, 1, none⟩ = some (S F1) := (H4.out.f (List.Mem.head _)).cell 1
  have bx2 : w4.cell? ⟨w3.heap.size, 2, none⟩ = some (.int .i64 j) := (H4.out.f (List.Mem.head _)).cell 2
  have bxl : w3.heap.size < w4.heap.size := (H4.out.f (List.Mem.head _)).lt
  go_wp2_with fail
  with_reducible refine (of_as v ((j : Int) + k) _ il fl ⟨I2, F2, (j : Int) + k⟩ HO3.out).mono ?_
  rintro x w5 ⟨rfl, hb⟩
  clear bv0 bv1 bv2 bvl bx0 bx1 bx2 bxl
  have H5 : Hid (HeldL w [(w4.heap.size, #[S I2, S F2, .int .i64 k]), (w3.heap.size, #[S I1, S F1, .int .i64 j]), (w2.heap.size, #[.bool v.neg, S v.i, S v.f])] w5) := Lib.hid (HeldL.keep (HeldL.alloc H4.out (w4.heap.size) #[S I2, S F2, .int .i64 k] 48 (by simp)) hb)
  clear H4
  clear hb
  have bv0 : w5.cell? ⟨w2.heap.size, 0, none⟩ = some (.bool v.neg) := (H5.out.f (List.Mem.tail _ (List.Mem.tail _ (List.Mem.head _)))).cell 0
  have bv1 : w5.cell? ⟨w2.heap.size, 1, none⟩ = some (S v.i) := (H5.out.f (List.Mem.tail _ (List.Mem.tail _ (List.Mem.head _)))).cell 1
  have bv2 : w5.cell? ⟨w2.heap.size, 2, none⟩ = some (S v.f) := (H5.out.f (List.Mem.tail _ (List.Mem.tail _ (List.Mem.head _)))).cell 2
  have bvl : w2.heap.size < w5.heap.size := (H5.out.f (List.Mem.tail _ (List.Mem.tail _ (List.Mem.head _)))).lt
  have bx0 : w5.cell? ⟨w3.heap.size, 0, none⟩ = some (S I1) := (H5.out.f (List.Mem.tail _ (List.Mem.head _))).cell 0
  have bx1 : w5.cell? ⟨w3.heap.size, 1, none⟩ = some (S F1) := (H5.out.f (List.Mem.tail _ (List.Mem.head _))).cell 1
  have bx2 : w5.cell? ⟨w3.heap.size, 2, none⟩ = some (.int .i64 j) := (H5.out.f (List.Mem.tail _ (List.Mem.head _))).cell 2
  have bxl : w3.heap.size < w5.heap.size := (H5.out.f (List.Mem.tail _ (List.Mem.head _))).lt
  have by0 : w5.cell? ⟨w4.heap.size, 0, none⟩ = some (S I2) := (H5.out.f (List.Mem.head _)).cell 0
  have by1 : w5.cell? ⟨w4.heap.size, 1, none⟩ = some (S F2) := (H5.out.f (List.Mem.head _)).cell 1
  have by2 : w5.cell? ⟨w4.heap.size, 2, none⟩ = some (.int .i64 k) := (H5.out.f (List.Mem.head _)).cell 2
  have byl : w4.heap.size < w5.heap.size := (H5.out.f (List.Mem.head _)).lt
  go_wp2
  go_ret
  exact ⟨rfl, (HeldL.alloc H5.out (w5.heap.size) #[S I2, S F2, .int .i64 ((j : Int) + k)] 48 (by simp)).bel⟩

set_option maxHeartbeats 800000 in
theorem shifts_n0 (a : Option Addr) (len cap : Nat) (L : List UInt8) (a1 : Option Addr) (len1 cap1 : Nat) (L1 : List UInt8) (e f : Int) (w : World) (h1 : 60 < len) :
    Calls Tryd.prog 9 #[.slice a len cap, .slice a1 len1 cap1, .int .i64 e, .int .i64 f] w fun x w' => x = .returned (.bool true) ∧ Below w.heap.size w w' := by
  go_enter Tryd.func9, Tryd.ntmps9
  go_wp2_with fail
  with_reducible refine (head5 _).mono ?_
  rintro x w1 ⟨rfl, hb⟩
  have H1 : Hid (HeldL w [] w1) := Lib.hid (HeldL.keep (HeldL.refl w) hb)
  clear hb
  go_wp2
  go_ret
  exact ⟨rfl, H1.out.bel⟩

set_option maxHeartbeats 800000 in
theorem shifts_n1 (a : Option Addr) (len cap : Nat) (L : List UInt8) (a1 : Option Addr) (len1 cap1 : Nat) (L1 : List UInt8) (e f : Int) (w : World) (h1 : len ≤ 60) (h2 : 60 < len1) :
    Calls Tryd.prog 9 #[.slice a len cap, .slice a1 len1 cap1, .int .i64 e, .int .i64 f] w fun x w' => x = .returned (.bool true) ∧ Below w.heap.size w w' := by
  go_enter Tryd.func9, Tryd.ntmps9
  go_wp2_with fail
  with_reducible refine (head5 _).mono ?_
  rintro x w1 ⟨rfl, hb⟩
  have H1 : Hid (HeldL w [] w1) := Lib.hid (HeldL.keep (HeldL.refl w) hb)
  clear hb
  go_wp2
  go_ret
  exact ⟨rfl, H1.out.bel⟩

theorem operandShifts_walk (a : Option Addr) (len cap : Nat) (L : List UInt8) (a1 : Option Addr) (len1 cap1 : Nat) (L1 : List UInt8) (e f : Int) (w : World) (hin : InB w a len cap L) (hin1 : InB w a1 len1 cap1 L1) (_he : (Lit.int .i64 e).wf = true) (_hf : (Lit.int .i64 f).wf = true) :
    Calls Tryd.prog 9 #[.slice a len cap, .slice a1 len1 cap1, .int .i64 e, .int .i64 f] w fun x w' => x = .returned (.bool true) ∧ Below w.heap.size w w' := by
  by_cases h1 : len ≤ 60
  · by_cases h2 : len1 ≤ 60
    · obtain ⟨j, lj, hj⟩ := and_mask e 15 (by decide)
      obtain ⟨k, lk, hk⟩ := and_mask f 15 (by decide)
      obtain ⟨d1, d2⟩ := shP_dig L L1
      obtain ⟨n1, n2, n3⟩ := shP_len L L1
      rw [hin.1] at n1
      rw [hin1.1] at n2
      obtain ⟨v, hv⟩ : ∃ v, shP L L1 = v := ⟨_, rfl⟩
      rw [hv] at d1 d2 n1 n2 n3
      have oo := of_of v.neg v.i v.f d1 d2 j k (by omega)
      have ej : (kOf (j : Int) : Int) = j := by rw [kOf_nat j (by omega)]
      have ek : (kOf (k : Int) : Int) = k := by rw [kOf_nat k (by omega)]
      have ejk : (kOf ((j : Int) + k) : Int) = (j : Int) + k := by rw [show ((j : Int) + k) = ((j + k : Nat) : Int) by omega, kOf_nat (j + k) (by omega)]
      have l1 : (ofP v (j : Int)).i.length ≤ 900000 := by
        unfold ofP; simp only
        refine Nat.le_trans (bare_len _) ?_
        rw [List.length_append, List.length_append, List.length_take, zs_length, kOf_nat j (by omega)]; omega
      have l2 : (ofP v (j : Int)).f.length ≤ 900000 := by
        unfold ofP; simp only; rw [List.length_drop]; omega
      refine shifts_w a len cap L a1 len1 cap1 L1 e f w hin hin1 h1 h2 j k hj hk lj lk v hv (by omega) (by omega) (ofP v (j : Int)).i (ofP v (j : Int)).f (ofP v ((j : Int) + k)).i (ofP v ((j : Int) + k)).f l1 l2 ?_ ?_ ?_
      · show ofP v (j : Int) = ⟨_, _, (j : Int)⟩
        rw [← ej]; simp only [ej]; unfold ofP; rw [ej]
      · rw [← oo.1, ← oo.2]
        show ofP _ (k : Int) = ⟨_, _, (k : Int)⟩
        unfold ofP; rw [ek]
      · show ofP v ((j : Int) + k) = ⟨_, _, (j : Int) + k⟩
        unfold ofP; rw [ejk]
    · exact shifts_n1 a len cap L a1 len1 cap1 L1 e f w h1 (by omega)
  · exact shifts_n0 a len cap L a1 len1 cap1 L1 e f w (by omega)
end Go.Proofs.YtegekkifgdakgaaDoor
