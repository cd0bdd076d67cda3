/- The walk of the law DecTexts. -/
import Derived.Test.YtlppofjmkepceaaDoorDecL
namespace Go.Proofs.YtlppofjmkepceaaDoor
open Go.RowKit Florin
set_option linter.unusedVariables false

theorem cat2 (a b : List UInt8) : (⟨a.toArray⟩ : ByteArray) ++ (⟨b.toArray⟩ : ByteArray) = ⟨(a ++ b).toArray⟩ := arr_append a b
theorem dig3 {k : Nat} (h : k < 1000) : (dig k).length ≤ 3 := (dig_length_le k 3).2 h
theorem numT_pos (k : Nat) : numT (k : Int) = dig k := by
  unfold numT signL
  rw [show decide ((k : Int) < 0) = false by simp]; rfl
theorem numT_neg (k : Nat) (h : 0 < k) : numT (-(k : Int)) = 45 :: dig k := by
  unfold numT signL
  rw [show decide (-(k : Int) < 0) = true by simp; omega]
  simp

set_option maxRecDepth 100000 in
set_option maxHeartbeats 3200000 in
theorem texts_z (n : Bool) (a : Option Addr) (len cap : Nat) (L : List UInt8) (e : Int) (w : World) (hin : InB w a len cap L) (htab : Tab w) (h1 : len ≤ 60) (h2 : -60 ≤ e) (h3 : e ≤ 60) (hd : made n (dgs L) e = ⟨false, [], 0⟩) :
    Calls Tryd.prog 10 #[RV n a len cap e] w fun x w' => x = .returned (.bool true) ∧ Below w.heap.size w w' := by
  have LL : (dgs L).length ≤ 60 := by rw [dgs_length, hin.1]; exact h1
  have HD := Lib.hid hd
  have HI := Lib.hid (idem_of hd)
  clear hd
  have HT := Lib.hid htab
  have HIN := Lib.hid hin
  have hc1 := hin.2.1
  have hm1 := hin.2.2.1
  clear htab hin
  go_enter Tryd.func10, Tryd.ntmps10
  go_wp2_with fail
  with_reducible refine (headD _ (HT.out.below ((Below.refl w.heap.size w).alloc (by simp <;> omega) _))).mono ?_
  rintro x w1 ⟨rfl, hb⟩
  have Cr := Lib.hid (((Box.new w #[.bool n, .slice a len cap, .int .i64 e] 24).at (b' := w.heap.size) (by simp)).below hb (by simp <;> omega))
  have b1 := Lib.hid (((Below.refl w.heap.size w).alloc (by simp <;> omega) _).trans (hb.mono (B' := w.heap.size) (by simp <;> omega)))
  clear hb
  have Br : Hid (Box w1 (w.heap.size) #[.bool n, .slice a len cap, .int .i64 e]) := Cr
  clear Cr
  obtain ⟨r0, r1, r2, r3, r4, r5, r6⟩ := Br.out.three
  go_wp2_with fail
  with_reducible refine (few_yes n a len cap e 60 _ hc1 hm1 (by decide) (by decide) (by omega) h2 h3).mono ?_
  rintro x w2 ⟨rfl, hb⟩
  have Cr := Lib.hid (Br.out.below hb (by have := Br.out.lt; simp <;> omega))
  have b2 := Lib.hid (b1.out.trans (hb.mono (B' := w.heap.size) (by have := b1.out.size; simp <;> omega)))
  clear r0 r1 r2 r3 r4 r5 r6
  clear hb Br
  have Br : Hid (Box w2 (w.heap.size) #[.bool n, .slice a len cap, .int .i64 e]) := Cr
  clear Cr
  obtain ⟨r0, r1, r2, r3, r4, r5, r6⟩ := Br.out.three
  go_wp2_with fail
  with_reducible refine (make_as n a len cap L e _ (HIN.out.below b2.out) (by omega)).mono ?_
  rintro x w3 ⟨rfl, hb⟩
  have Cr := Lib.hid (Br.out.below hb (by have := Br.out.lt; simp <;> omega))
  have b3 := Lib.hid (b2.out.trans (hb.mono (B' := w.heap.size) (by have := b2.out.size; simp <;> omega)))
  clear r0 r1 r2 r3 r4 r5 r6
  clear hb Br
  have Br : Hid (Box w3 (w.heap.size) #[.bool n, .slice a len cap, .int .i64 e]) := Cr
  clear Cr
  obtain ⟨r0, r1, r2, r3, r4, r5, r6⟩ := Br.out.three
  go_wp2_with fail
  with_reducible refine (norm_as n ⟨(dgs L).toArray⟩ e _ (by rw [arr_size]; omega) ⟨false, [], 0⟩ (by rw [arr_list]; exact HD.out)).mono ?_
  rintro x w4 ⟨rfl, hb⟩
  have Cr := Lib.hid (Br.out.below hb (by have := Br.out.lt; simp <;> omega))
  have b4 := Lib.hid (b3.out.trans (hb.mono (B' := w.heap.size) (by have := b3.out.size; simp <;> omega)))
  clear r0 r1 r2 r3 r4 r5 r6
  clear hb Br
  have Br : Hid (Box w4 (w.heap.size) #[.bool n, .slice a len cap, .int .i64 e]) := Cr
  clear Cr
  obtain ⟨r0, r1, r2, r3, r4, r5, r6⟩ := Br.out.three
  go_wp2_with fail
  with_reducible refine (zero_as false ⟨#[]⟩ 0 _ (by decide) ⟨false, [], 0⟩ (by exact HI.out) true rfl).mono ?_
  rintro x w5 ⟨rfl, hb⟩
  have Cr := Lib.hid ((Br.out.alloc (.cells #[.bool false, .string ⟨#[]⟩, .int .i64 0] 28)).below hb (by have := Br.out.lt; simp <;> omega))
  have Cd := Lib.hid (((Box.new w4 #[.bool false, .string ⟨#[]⟩, .int .i64 0] 28).at (b' := w4.heap.size) (by simp)).below hb (by simp <;> omega))
  have b5 := Lib.hid ((b4.out.alloc (by have := b4.out.size; simp <;> omega) _).trans (hb.mono (B' := w.heap.size) (by have := b4.out.size; simp <;> omega)))
  clear r0 r1 r2 r3 r4 r5 r6
  clear hb Br
  have Br : Hid (Box w5 (w.heap.size) #[.bool n, .slice a len cap, .int .i64 e]) := Cr
  have Bd : Hid (Box w5 (w4.heap.size) #[.bool false, .string ⟨#[]⟩, .int .i64 0]) := Cd
  clear Cr Cd
  obtain ⟨r0, r1, r2, r3, r4, r5, r6⟩ := Br.out.three
  obtain ⟨d0, d1, d2, d3, d4, d5, d6⟩ := Bd.out.three
  go_wp2_with fail
  with_reducible refine (make_as n a len cap L e _ (HIN.out.below b5.out) (by omega)).mono ?_
  rintro x w6 ⟨rfl, hb⟩
  have Cr := Lib.hid (Br.out.below hb (by have := Br.out.lt; simp <;> omega))
  have Cd := Lib.hid (Bd.out.below hb (by have := Bd.out.lt; simp <;> omega))
  have b6 := Lib.hid (b5.out.trans (hb.mono (B' := w.heap.size) (by have := b5.out.size; simp <;> omega)))
  clear r0 r1 r2 r3 r4 r5 r6 d0 d1 d2 d3 d4 d5 d6
  clear hb Br Bd
  have Br : Hid (Box w6 (w.heap.size) #[.bool n, .slice a len cap, .int .i64 e]) := Cr
  have Bd : Hid (Box w6 (w4.heap.size) #[.bool false, .string ⟨#[]⟩, .int .i64 0]) := Cd
  clear Cr Cd
  obtain ⟨r0, r1, r2, r3, r4, r5, r6⟩ := Br.out.three
  obtain ⟨d0, d1, d2, d3, d4, d5, d6⟩ := Bd.out.three
  go_wp2_with fail
  with_reducible refine (string_as n ⟨(dgs L).toArray⟩ e _ (by rw [arr_size]; omega) ⟨false, [], 0⟩ (by rw [arr_list]; exact HD.out) HI.out (HT.out.below b6.out)).mono ?_
  rintro x w7 ⟨rfl, hb⟩
  have Cr := Lib.hid (Br.out.below hb (by have := Br.out.lt; simp <;> omega))
  have Cd := Lib.hid (Bd.out.below hb (by have := Bd.out.lt; simp <;> omega))
  have b7 := Lib.hid (b6.out.trans (hb.mono (B' := w.heap.size) (by have := b6.out.size; simp <;> omega)))
  clear r0 r1 r2 r3 r4 r5 r6 d0 d1 d2 d3 d4 d5 d6
  clear hb Br Bd
  have Br : Hid (Box w7 (w.heap.size) #[.bool n, .slice a len cap, .int .i64 e]) := Cr
  have Bd : Hid (Box w7 (w4.heap.size) #[.bool false, .string ⟨#[]⟩, .int .i64 0]) := Cd
  clear Cr Cd
  obtain ⟨r0, r1, r2, r3, r4, r5, r6⟩ := Br.out.three
  obtain ⟨d0, d1, d2, d3, d4, d5, d6⟩ := Bd.out.three
  go_wp2
  go_ret
  exact ⟨rfl, b7.out⟩

set_option maxRecDepth 100000 in
set_option maxHeartbeats 3200000 in
theorem texts_n0 (n : Bool) (a : Option Addr) (len cap : Nat) (L : List UInt8) (e : Int) (w : World) (hin : InB w a len cap L) (htab : Tab w) (h1 : len ≤ 60) (h2 : -60 ≤ e) (h3 : e ≤ 60) (dl : List UInt8) (hne : dl ≠ []) (hl : dl.length ≤ 60) (hd : made n (dgs L) e = ⟨true, dl, 0⟩) :
    Calls Tryd.prog 10 #[RV n a len cap e] w fun x w' => x = .returned (.bool true) ∧ Below w.heap.size w w' := by
  have LL : (dgs L).length ≤ 60 := by rw [dgs_length, hin.1]; exact h1
  have HD := Lib.hid hd
  have HI := Lib.hid (idem_of hd)
  have HNE := Lib.hid hne
  have HW : Hid (((⟨#[45]⟩ : ByteArray) ++ (⟨dl.toArray⟩ : ByteArray)) = (⟨(textT ⟨true, dl, 0⟩).toArray⟩ : ByteArray)) := Lib.hid (by show ((⟨[45].toArray⟩ : ByteArray) ++ (⟨dl.toArray⟩ : ByteArray)) = _; rw [cat2]; unfold textT; rw [if_neg hne]; simp [signL])
  clear hd hne
  have HT := Lib.hid htab
  have HIN := Lib.hid hin
  have hc1 := hin.2.1
  have hm1 := hin.2.2.1
  clear htab hin
  go_enter Tryd.func10, Tryd.ntmps10
  go_wp2_with fail
  with_reducible refine (headD _ (HT.out.below ((Below.refl w.heap.size w).alloc (by simp <;> omega) _))).mono ?_
  rintro x w1 ⟨rfl, hb⟩
  have Cr := Lib.hid (((Box.new w #[.bool n, .slice a len cap, .int .i64 e] 24).at (b' := w.heap.size) (by simp)).below hb (by simp <;> omega))
  have b1 := Lib.hid (((Below.refl w.heap.size w).alloc (by simp <;> omega) _).trans (hb.mono (B' := w.heap.size) (by simp <;> omega)))
  clear hb
  have Br : Hid (Box w1 (w.heap.size) #[.bool n, .slice a len cap, .int .i64 e]) := Cr
  clear Cr
  obtain ⟨r0, r1, r2, r3, r4, r5, r6⟩ := Br.out.three
  go_wp2_with fail
  with_reducible refine (few_yes n a len cap e 60 _ hc1 hm1 (by decide) (by decide) (by omega) h2 h3).mono ?_
  rintro x w2 ⟨rfl, hb⟩
  have Cr := Lib.hid (Br.out.below hb (by have := Br.out.lt; simp <;> omega))
  have b2 := Lib.hid (b1.out.trans (hb.mono (B' := w.heap.size) (by have := b1.out.size; simp <;> omega)))
  clear r0 r1 r2 r3 r4 r5 r6
  clear hb Br
  have Br : Hid (Box w2 (w.heap.size) #[.bool n, .slice a len cap, .int .i64 e]) := Cr
  clear Cr
  obtain ⟨r0, r1, r2, r3, r4, r5, r6⟩ := Br.out.three
  go_wp2_with fail
  with_reducible refine (make_as n a len cap L e _ (HIN.out.below b2.out) (by omega)).mono ?_
  rintro x w3 ⟨rfl, hb⟩
  have Cr := Lib.hid (Br.out.below hb (by have := Br.out.lt; simp <;> omega))
  have b3 := Lib.hid (b2.out.trans (hb.mono (B' := w.heap.size) (by have := b2.out.size; simp <;> omega)))
  clear r0 r1 r2 r3 r4 r5 r6
  clear hb Br
  have Br : Hid (Box w3 (w.heap.size) #[.bool n, .slice a len cap, .int .i64 e]) := Cr
  clear Cr
  obtain ⟨r0, r1, r2, r3, r4, r5, r6⟩ := Br.out.three
  go_wp2_with fail
  with_reducible refine (norm_as n ⟨(dgs L).toArray⟩ e _ (by rw [arr_size]; omega) ⟨true, dl, 0⟩ (by rw [arr_list]; exact HD.out)).mono ?_
  rintro x w4 ⟨rfl, hb⟩
  have Cr := Lib.hid (Br.out.below hb (by have := Br.out.lt; simp <;> omega))
  have b4 := Lib.hid (b3.out.trans (hb.mono (B' := w.heap.size) (by have := b3.out.size; simp <;> omega)))
  clear r0 r1 r2 r3 r4 r5 r6
  clear hb Br
  have Br : Hid (Box w4 (w.heap.size) #[.bool n, .slice a len cap, .int .i64 e]) := Cr
  clear Cr
  obtain ⟨r0, r1, r2, r3, r4, r5, r6⟩ := Br.out.three
  go_wp2_with fail
  with_reducible refine (zero_as true ⟨dl.toArray⟩ 0 _ (by rw [arr_size]; omega) ⟨true, dl, 0⟩ (by rw [arr_list]; exact HI.out) false (ne_empty HNE.out)).mono ?_
  rintro x w5 ⟨rfl, hb⟩
  have Cr := Lib.hid ((Br.out.alloc (.cells #[.bool true, S dl, .int .i64 0] 28)).below hb (by have := Br.out.lt; simp <;> omega))
  have Cd := Lib.hid (((Box.new w4 #[.bool true, S dl, .int .i64 0] 28).at (b' := w4.heap.size) (by simp)).below hb (by simp <;> omega))
  have b5 := Lib.hid ((b4.out.alloc (by have := b4.out.size; simp <;> omega) _).trans (hb.mono (B' := w.heap.size) (by have := b4.out.size; simp <;> omega)))
  clear r0 r1 r2 r3 r4 r5 r6
  clear hb Br
  have Br : Hid (Box w5 (w.heap.size) #[.bool n, .slice a len cap, .int .i64 e]) := Cr
  have Bd : Hid (Box w5 (w4.heap.size) #[.bool true, S dl, .int .i64 0]) := Cd
  clear Cr Cd
  obtain ⟨r0, r1, r2, r3, r4, r5, r6⟩ := Br.out.three
  obtain ⟨d0, d1, d2, d3, d4, d5, d6⟩ := Bd.out.three
  go_wp2_with fail
  with_reducible refine (make_as n a len cap L e _ (HIN.out.below b5.out) (by omega)).mono ?_
  rintro x w6 ⟨rfl, hb⟩
  have Cr := Lib.hid (Br.out.below hb (by have := Br.out.lt; simp <;> omega))
  have Cd := Lib.hid (Bd.out.below hb (by have := Bd.out.lt; simp <;> omega))
  have b6 := Lib.hid (b5.out.trans (hb.mono (B' := w.heap.size) (by have := b5.out.size; simp <;> omega)))
  clear r0 r1 r2 r3 r4 r5 r6 d0 d1 d2 d3 d4 d5 d6
  clear hb Br Bd
  have Br : Hid (Box w6 (w.heap.size) #[.bool n, .slice a len cap, .int .i64 e]) := Cr
  have Bd : Hid (Box w6 (w4.heap.size) #[.bool true, S dl, .int .i64 0]) := Cd
  clear Cr Cd
  obtain ⟨r0, r1, r2, r3, r4, r5, r6⟩ := Br.out.three
  obtain ⟨d0, d1, d2, d3, d4, d5, d6⟩ := Bd.out.three
  go_wp2_with fail
  rw [HW.out]
  with_reducible refine (string_as n ⟨(dgs L).toArray⟩ e _ (by rw [arr_size]; omega) ⟨true, dl, 0⟩ (by rw [arr_list]; exact HD.out) HI.out (HT.out.below b6.out)).mono ?_
  rintro x w7 ⟨rfl, hb⟩
  have Cr := Lib.hid (Br.out.below hb (by have := Br.out.lt; simp <;> omega))
  have Cd := Lib.hid (Bd.out.below hb (by have := Bd.out.lt; simp <;> omega))
  have b7 := Lib.hid (b6.out.trans (hb.mono (B' := w.heap.size) (by have := b6.out.size; simp <;> omega)))
  clear r0 r1 r2 r3 r4 r5 r6 d0 d1 d2 d3 d4 d5 d6
  clear hb Br Bd
  have Br : Hid (Box w7 (w.heap.size) #[.bool n, .slice a len cap, .int .i64 e]) := Cr
  have Bd : Hid (Box w7 (w4.heap.size) #[.bool true, S dl, .int .i64 0]) := Cd
  clear Cr Cd
  obtain ⟨r0, r1, r2, r3, r4, r5, r6⟩ := Br.out.three
  obtain ⟨d0, d1, d2, d3, d4, d5, d6⟩ := Bd.out.three
  go_wp2
  go_ret
  exact ⟨rfl, b7.out⟩

set_option maxRecDepth 100000 in
set_option maxHeartbeats 3200000 in
theorem texts_np (n : Bool) (a : Option Addr) (len cap : Nat) (L : List UInt8) (e : Int) (w : World) (hin : InB w a len cap L) (htab : Tab w) (h1 : len ≤ 60) (h2 : -60 ≤ e) (h3 : e ≤ 60) (dl : List UInt8) (hne : dl ≠ []) (hl : dl.length ≤ 60) (k : Nat) (hk0 : 0 < k) (hk : k ≤ 200) (hd : made n (dgs L) e = ⟨true, dl, (k : Int)⟩) :
    Calls Tryd.prog 10 #[RV n a len cap e] w fun x w' => x = .returned (.bool true) ∧ Below w.heap.size w w' := by
  have LL : (dgs L).length ≤ 60 := by rw [dgs_length, hin.1]; exact h1
  have HD := Lib.hid hd
  have HI := Lib.hid (idem_of hd)
  have HNE := Lib.hid hne
  have HW : Hid ((((⟨#[45]⟩ : ByteArray) ++ (⟨dl.toArray⟩ : ByteArray)) ++ (⟨#[101]⟩ : ByteArray) ++ (⟨(dig k).toArray⟩ : ByteArray)) = (⟨(textT ⟨true, dl, (k : Int)⟩).toArray⟩ : ByteArray)) := Lib.hid (by show (((⟨[45].toArray⟩ : ByteArray) ++ (⟨dl.toArray⟩ : ByteArray)) ++ (⟨[101].toArray⟩ : ByteArray) ++ (⟨(dig k).toArray⟩ : ByteArray)) = _; rw [cat2, cat2, cat2]; unfold textT; rw [if_neg hne]; rw [if_neg (by simp; omega), numT_pos]; simp [signL])
  have gk : (dig k).length ≤ 3 := dig3 (by omega)
  clear hd hne
  have HT := Lib.hid htab
  have HIN := Lib.hid hin
  have hc1 := hin.2.1
  have hm1 := hin.2.2.1
  clear htab hin
  go_enter Tryd.func10, Tryd.ntmps10
  go_wp2_with fail
  with_reducible refine (headD _ (HT.out.below ((Below.refl w.heap.size w).alloc (by simp <;> omega) _))).mono ?_
  rintro x w1 ⟨rfl, hb⟩
  have Cr := Lib.hid (((Box.new w #[.bool n, .slice a len cap, .int .i64 e] 24).at (b' := w.heap.size) (by simp)).below hb (by simp <;> omega))
  have b1 := Lib.hid (((Below.refl w.heap.size w).alloc (by simp <;> omega) _).trans (hb.mono (B' := w.heap.size) (by simp <;> omega)))
  clear hb
  have Br : Hid (Box w1 (w.heap.size) #[.bool n, .slice a len cap, .int .i64 e]) := Cr
  clear Cr
  obtain ⟨r0, r1, r2, r3, r4, r5, r6⟩ := Br.out.three
  go_wp2_with fail
  with_reducible refine (few_yes n a len cap e 60 _ hc1 hm1 (by decide) (by decide) (by omega) h2 h3).mono ?_
  rintro x w2 ⟨rfl, hb⟩
  have Cr := Lib.hid (Br.out.below hb (by have := Br.out.lt; simp <;> omega))
  have b2 := Lib.hid (b1.out.trans (hb.mono (B' := w.heap.size) (by have := b1.out.size; simp <;> omega)))
  clear r0 r1 r2 r3 r4 r5 r6
  clear hb Br
  have Br : Hid (Box w2 (w.heap.size) #[.bool n, .slice a len cap, .int .i64 e]) := Cr
  clear Cr
  obtain ⟨r0, r1, r2, r3, r4, r5, r6⟩ := Br.out.three
  go_wp2_with fail
  with_reducible refine (make_as n a len cap L e _ (HIN.out.below b2.out) (by omega)).mono ?_
  rintro x w3 ⟨rfl, hb⟩
  have Cr := Lib.hid (Br.out.below hb (by have := Br.out.lt; simp <;> omega))
  have b3 := Lib.hid (b2.out.trans (hb.mono (B' := w.heap.size) (by have := b2.out.size; simp <;> omega)))
  clear r0 r1 r2 r3 r4 r5 r6
  clear hb Br
  have Br : Hid (Box w3 (w.heap.size) #[.bool n, .slice a len cap, .int .i64 e]) := Cr
  clear Cr
  obtain ⟨r0, r1, r2, r3, r4, r5, r6⟩ := Br.out.three
  go_wp2_with fail
  with_reducible refine (norm_as n ⟨(dgs L).toArray⟩ e _ (by rw [arr_size]; omega) ⟨true, dl, (k : Int)⟩ (by rw [arr_list]; exact HD.out)).mono ?_
  rintro x w4 ⟨rfl, hb⟩
  have Cr := Lib.hid (Br.out.below hb (by have := Br.out.lt; simp <;> omega))
  have b4 := Lib.hid (b3.out.trans (hb.mono (B' := w.heap.size) (by have := b3.out.size; simp <;> omega)))
  clear r0 r1 r2 r3 r4 r5 r6
  clear hb Br
  have Br : Hid (Box w4 (w.heap.size) #[.bool n, .slice a len cap, .int .i64 e]) := Cr
  clear Cr
  obtain ⟨r0, r1, r2, r3, r4, r5, r6⟩ := Br.out.three
  go_wp2_with fail
  with_reducible refine (zero_as true ⟨dl.toArray⟩ (k : Int) _ (by rw [arr_size]; omega) ⟨true, dl, (k : Int)⟩ (by rw [arr_list]; exact HI.out) false (ne_empty HNE.out)).mono ?_
  rintro x w5 ⟨rfl, hb⟩
  have Cr := Lib.hid ((Br.out.alloc (.cells #[.bool true, S dl, .int .i64 (k : Int)] 28)).below hb (by have := Br.out.lt; simp <;> omega))
  have Cd := Lib.hid (((Box.new w4 #[.bool true, S dl, .int .i64 (k : Int)] 28).at (b' := w4.heap.size) (by simp)).below hb (by simp <;> omega))
  have b5 := Lib.hid ((b4.out.alloc (by have := b4.out.size; simp <;> omega) _).trans (hb.mono (B' := w.heap.size) (by have := b4.out.size; simp <;> omega)))
  clear r0 r1 r2 r3 r4 r5 r6
  clear hb Br
  have Br : Hid (Box w5 (w.heap.size) #[.bool n, .slice a len cap, .int .i64 e]) := Cr
  have Bd : Hid (Box w5 (w4.heap.size) #[.bool true, S dl, .int .i64 (k : Int)]) := Cd
  clear Cr Cd
  obtain ⟨r0, r1, r2, r3, r4, r5, r6⟩ := Br.out.three
  obtain ⟨d0, d1, d2, d3, d4, d5, d6⟩ := Bd.out.three
  go_wp2_with fail
  with_reducible refine (ofN k _ (by omega) (HT.out.below b5.out)).mono ?_
  rintro x w6 ⟨rfl, hb⟩
  have Cr := Lib.hid (Br.out.below hb (by have := Br.out.lt; simp <;> omega))
  have Cd := Lib.hid (Bd.out.below hb (by have := Bd.out.lt; simp <;> omega))
  have b6 := Lib.hid (b5.out.trans (hb.mono (B' := w.heap.size) (by have := b5.out.size; simp <;> omega)))
  clear r0 r1 r2 r3 r4 r5 r6 d0 d1 d2 d3 d4 d5 d6
  clear hb Br Bd
  have Br : Hid (Box w6 (w.heap.size) #[.bool n, .slice a len cap, .int .i64 e]) := Cr
  have Bd : Hid (Box w6 (w4.heap.size) #[.bool true, S dl, .int .i64 (k : Int)]) := Cd
  clear Cr Cd
  obtain ⟨r0, r1, r2, r3, r4, r5, r6⟩ := Br.out.three
  obtain ⟨d0, d1, d2, d3, d4, d5, d6⟩ := Bd.out.three
  go_wp2_with fail
  with_reducible refine (make_as n a len cap L e _ (HIN.out.below b6.out) (by omega)).mono ?_
  rintro x w7 ⟨rfl, hb⟩
  have Cr := Lib.hid (Br.out.below hb (by have := Br.out.lt; simp <;> omega))
  have Cd := Lib.hid (Bd.out.below hb (by have := Bd.out.lt; simp <;> omega))
  have b7 := Lib.hid (b6.out.trans (hb.mono (B' := w.heap.size) (by have := b6.out.size; simp <;> omega)))
  clear r0 r1 r2 r3 r4 r5 r6 d0 d1 d2 d3 d4 d5 d6
  clear hb Br Bd
  have Br : Hid (Box w7 (w.heap.size) #[.bool n, .slice a len cap, .int .i64 e]) := Cr
  have Bd : Hid (Box w7 (w4.heap.size) #[.bool true, S dl, .int .i64 (k : Int)]) := Cd
  clear Cr Cd
  obtain ⟨r0, r1, r2, r3, r4, r5, r6⟩ := Br.out.three
  obtain ⟨d0, d1, d2, d3, d4, d5, d6⟩ := Bd.out.three
  go_wp2_with fail
  rw [HW.out]
  with_reducible refine (string_as n ⟨(dgs L).toArray⟩ e _ (by rw [arr_size]; omega) ⟨true, dl, (k : Int)⟩ (by rw [arr_list]; exact HD.out) HI.out (HT.out.below b7.out)).mono ?_
  rintro x w8 ⟨rfl, hb⟩
  have Cr := Lib.hid (Br.out.below hb (by have := Br.out.lt; simp <;> omega))
  have Cd := Lib.hid (Bd.out.below hb (by have := Bd.out.lt; simp <;> omega))
  have b8 := Lib.hid (b7.out.trans (hb.mono (B' := w.heap.size) (by have := b7.out.size; simp <;> omega)))
  clear r0 r1 r2 r3 r4 r5 r6 d0 d1 d2 d3 d4 d5 d6
  clear hb Br Bd
  have Br : Hid (Box w8 (w.heap.size) #[.bool n, .slice a len cap, .int .i64 e]) := Cr
  have Bd : Hid (Box w8 (w4.heap.size) #[.bool true, S dl, .int .i64 (k : Int)]) := Cd
  clear Cr Cd
  obtain ⟨r0, r1, r2, r3, r4, r5, r6⟩ := Br.out.three
  obtain ⟨d0, d1, d2, d3, d4, d5, d6⟩ := Bd.out.three
  go_wp2
  go_ret
  exact ⟨rfl, b8.out⟩

set_option maxRecDepth 100000 in
set_option maxHeartbeats 3200000 in
theorem texts_nm (n : Bool) (a : Option Addr) (len cap : Nat) (L : List UInt8) (e : Int) (w : World) (hin : InB w a len cap L) (htab : Tab w) (h1 : len ≤ 60) (h2 : -60 ≤ e) (h3 : e ≤ 60) (dl : List UInt8) (hne : dl ≠ []) (hl : dl.length ≤ 60) (k : Nat) (hk0 : 0 < k) (hk : k ≤ 200) (hd : made n (dgs L) e = ⟨true, dl, (-(k : Int))⟩) :
    Calls Tryd.prog 10 #[RV n a len cap e] w fun x w' => x = .returned (.bool true) ∧ Below w.heap.size w w' := by
  have LL : (dgs L).length ≤ 60 := by rw [dgs_length, hin.1]; exact h1
  have HD := Lib.hid hd
  have HI := Lib.hid (idem_of hd)
  have HNE := Lib.hid hne
  have HW : Hid ((((⟨#[45]⟩ : ByteArray) ++ (⟨dl.toArray⟩ : ByteArray)) ++ (⟨#[101, 45]⟩ : ByteArray) ++ (⟨(dig k).toArray⟩ : ByteArray)) = (⟨(textT ⟨true, dl, (-(k : Int))⟩).toArray⟩ : ByteArray)) := Lib.hid (by show (((⟨[45].toArray⟩ : ByteArray) ++ (⟨dl.toArray⟩ : ByteArray)) ++ (⟨[101, 45].toArray⟩ : ByteArray) ++ (⟨(dig k).toArray⟩ : ByteArray)) = _; rw [cat2, cat2, cat2]; unfold textT; rw [if_neg hne]; rw [if_neg (by simp; omega), numT_neg k hk0]; simp [signL])
  have gk : (dig k).length ≤ 3 := dig3 (by omega)
  clear hd hne
  have HT := Lib.hid htab
  have HIN := Lib.hid hin
  have hc1 := hin.2.1
  have hm1 := hin.2.2.1
  clear htab hin
  go_enter Tryd.func10, Tryd.ntmps10
  go_wp2_with fail
  with_reducible refine (headD _ (HT.out.below ((Below.refl w.heap.size w).alloc (by simp <;> omega) _))).mono ?_
  rintro x w1 ⟨rfl, hb⟩
  have Cr := Lib.hid (((Box.new w #[.bool n, .slice a len cap, .int .i64 e] 24).at (b' := w.heap.size) (by simp)).below hb (by simp <;> omega))
  have b1 := Lib.hid (((Below.refl w.heap.size w).alloc (by simp <;> omega) _).trans (hb.mono (B' := w.heap.size) (by simp <;> omega)))
  clear hb
  have Br : Hid (Box w1 (w.heap.size) #[.bool n, .slice a len cap, .int .i64 e]) := Cr
  clear Cr
  obtain ⟨r0, r1, r2, r3, r4, r5, r6⟩ := Br.out.three
  go_wp2_with fail
  with_reducible refine (few_yes n a len cap e 60 _ hc1 hm1 (by decide) (by decide) (by omega) h2 h3).mono ?_
  rintro x w2 ⟨rfl, hb⟩
  have Cr := Lib.hid (Br.out.below hb (by have := Br.out.lt; simp <;> omega))
  have b2 := Lib.hid (b1.out.trans (hb.mono (B' := w.heap.size) (by have := b1.out.size; simp <;> omega)))
  clear r0 r1 r2 r3 r4 r5 r6
  clear hb Br
  have Br : Hid (Box w2 (w.heap.size) #[.bool n, .slice a len cap, .int .i64 e]) := Cr
  clear Cr
  obtain ⟨r0, r1, r2, r3, r4, r5, r6⟩ := Br.out.three
  go_wp2_with fail
  with_reducible refine (make_as n a len cap L e _ (HIN.out.below b2.out) (by omega)).mono ?_
  rintro x w3 ⟨rfl, hb⟩
  have Cr := Lib.hid (Br.out.below hb (by have := Br.out.lt; simp <;> omega))
  have b3 := Lib.hid (b2.out.trans (hb.mono (B' := w.heap.size) (by have := b2.out.size; simp <;> omega)))
  clear r0 r1 r2 r3 r4 r5 r6
  clear hb Br
  have Br : Hid (Box w3 (w.heap.size) #[.bool n, .slice a len cap, .int .i64 e]) := Cr
  clear Cr
  obtain ⟨r0, r1, r2, r3, r4, r5, r6⟩ := Br.out.three
  go_wp2_with fail
  with_reducible refine (norm_as n ⟨(dgs L).toArray⟩ e _ (by rw [arr_size]; omega) ⟨true, dl, (-(k : Int))⟩ (by rw [arr_list]; exact HD.out)).mono ?_
  rintro x w4 ⟨rfl, hb⟩
  have Cr := Lib.hid (Br.out.below hb (by have := Br.out.lt; simp <;> omega))
  have b4 := Lib.hid (b3.out.trans (hb.mono (B' := w.heap.size) (by have := b3.out.size; simp <;> omega)))
  clear r0 r1 r2 r3 r4 r5 r6
  clear hb Br
  have Br : Hid (Box w4 (w.heap.size) #[.bool n, .slice a len cap, .int .i64 e]) := Cr
  clear Cr
  obtain ⟨r0, r1, r2, r3, r4, r5, r6⟩ := Br.out.three
  go_wp2_with fail
  with_reducible refine (zero_as true ⟨dl.toArray⟩ (-(k : Int)) _ (by rw [arr_size]; omega) ⟨true, dl, (-(k : Int))⟩ (by rw [arr_list]; exact HI.out) false (ne_empty HNE.out)).mono ?_
  rintro x w5 ⟨rfl, hb⟩
  have Cr := Lib.hid ((Br.out.alloc (.cells #[.bool true, S dl, .int .i64 (-(k : Int))] 28)).below hb (by have := Br.out.lt; simp <;> omega))
  have Cd := Lib.hid (((Box.new w4 #[.bool true, S dl, .int .i64 (-(k : Int))] 28).at (b' := w4.heap.size) (by simp)).below hb (by simp <;> omega))
  have b5 := Lib.hid ((b4.out.alloc (by have := b4.out.size; simp <;> omega) _).trans (hb.mono (B' := w.heap.size) (by have := b4.out.size; simp <;> omega)))
  clear r0 r1 r2 r3 r4 r5 r6
  clear hb Br
  have Br : Hid (Box w5 (w.heap.size) #[.bool n, .slice a len cap, .int .i64 e]) := Cr
  have Bd : Hid (Box w5 (w4.heap.size) #[.bool true, S dl, .int .i64 (-(k : Int))]) := Cd
  clear Cr Cd
  obtain ⟨r0, r1, r2, r3, r4, r5, r6⟩ := Br.out.three
  obtain ⟨d0, d1, d2, d3, d4, d5, d6⟩ := Bd.out.three
  go_wp2_with fail
  with_reducible refine (ofN k _ (by omega) (HT.out.below b5.out)).mono ?_
  rintro x w6 ⟨rfl, hb⟩
  have Cr := Lib.hid (Br.out.below hb (by have := Br.out.lt; simp <;> omega))
  have Cd := Lib.hid (Bd.out.below hb (by have := Bd.out.lt; simp <;> omega))
  have b6 := Lib.hid (b5.out.trans (hb.mono (B' := w.heap.size) (by have := b5.out.size; simp <;> omega)))
  clear r0 r1 r2 r3 r4 r5 r6 d0 d1 d2 d3 d4 d5 d6
  clear hb Br Bd
  have Br : Hid (Box w6 (w.heap.size) #[.bool n, .slice a len cap, .int .i64 e]) := Cr
  have Bd : Hid (Box w6 (w4.heap.size) #[.bool true, S dl, .int .i64 (-(k : Int))]) := Cd
  clear Cr Cd
  obtain ⟨r0, r1, r2, r3, r4, r5, r6⟩ := Br.out.three
  obtain ⟨d0, d1, d2, d3, d4, d5, d6⟩ := Bd.out.three
  go_wp2_with fail
  with_reducible refine (make_as n a len cap L e _ (HIN.out.below b6.out) (by omega)).mono ?_
  rintro x w7 ⟨rfl, hb⟩
  have Cr := Lib.hid (Br.out.below hb (by have := Br.out.lt; simp <;> omega))
  have Cd := Lib.hid (Bd.out.below hb (by have := Bd.out.lt; simp <;> omega))
  have b7 := Lib.hid (b6.out.trans (hb.mono (B' := w.heap.size) (by have := b6.out.size; simp <;> omega)))
  clear r0 r1 r2 r3 r4 r5 r6 d0 d1 d2 d3 d4 d5 d6
  clear hb Br Bd
  have Br : Hid (Box w7 (w.heap.size) #[.bool n, .slice a len cap, .int .i64 e]) := Cr
  have Bd : Hid (Box w7 (w4.heap.size) #[.bool true, S dl, .int .i64 (-(k : Int))]) := Cd
  clear Cr Cd
  obtain ⟨r0, r1, r2, r3, r4, r5, r6⟩ := Br.out.three
  obtain ⟨d0, d1, d2, d3, d4, d5, d6⟩ := Bd.out.three
  go_wp2_with fail
  rw [HW.out]
  with_reducible refine (string_as n ⟨(dgs L).toArray⟩ e _ (by rw [arr_size]; omega) ⟨true, dl, (-(k : Int))⟩ (by rw [arr_list]; exact HD.out) HI.out (HT.out.below b7.out)).mono ?_
  rintro x w8 ⟨rfl, hb⟩
  have Cr := Lib.hid (Br.out.below hb (by have := Br.out.lt; simp <;> omega))
  have Cd := Lib.hid (Bd.out.below hb (by have := Bd.out.lt; simp <;> omega))
  have b8 := Lib.hid (b7.out.trans (hb.mono (B' := w.heap.size) (by have := b7.out.size; simp <;> omega)))
  clear r0 r1 r2 r3 r4 r5 r6 d0 d1 d2 d3 d4 d5 d6
  clear hb Br Bd
  have Br : Hid (Box w8 (w.heap.size) #[.bool n, .slice a len cap, .int .i64 e]) := Cr
  have Bd : Hid (Box w8 (w4.heap.size) #[.bool true, S dl, .int .i64 (-(k : Int))]) := Cd
  clear Cr Cd
  obtain ⟨r0, r1, r2, r3, r4, r5, r6⟩ := Br.out.three
  obtain ⟨d0, d1, d2, d3, d4, d5, d6⟩ := Bd.out.three
  go_wp2
  go_ret
  exact ⟨rfl, b8.out⟩

set_option maxRecDepth 100000 in
set_option maxHeartbeats 3200000 in
theorem texts_p0 (n : Bool) (a : Option Addr) (len cap : Nat) (L : List UInt8) (e : Int) (w : World) (hin : InB w a len cap L) (htab : Tab w) (h1 : len ≤ 60) (h2 : -60 ≤ e) (h3 : e ≤ 60) (dl : List UInt8) (hne : dl ≠ []) (hl : dl.length ≤ 60) (hd : made n (dgs L) e = ⟨false, dl, 0⟩) :
    Calls Tryd.prog 10 #[RV n a len cap e] w fun x w' => x = .returned (.bool true) ∧ Below w.heap.size w w' := by
  have LL : (dgs L).length ≤ 60 := by rw [dgs_length, hin.1]; exact h1
  have HD := Lib.hid hd
  have HI := Lib.hid (idem_of hd)
  have HNE := Lib.hid hne
  have HW : Hid ((⟨dl.toArray⟩ : ByteArray) = (⟨(textT ⟨false, dl, 0⟩).toArray⟩ : ByteArray)) := Lib.hid (by show (⟨dl.toArray⟩ : ByteArray) = _; unfold textT; rw [if_neg hne]; simp [signL])
  have HV : Hid (textT ⟨false, dl, 0⟩ = dl) := Lib.hid (by unfold textT; rw [if_neg hne]; simp [signL])
  clear hd hne
  have HT := Lib.hid htab
  have HIN := Lib.hid hin
  have hc1 := hin.2.1
  have hm1 := hin.2.2.1
  clear htab hin
  go_enter Tryd.func10, Tryd.ntmps10
  go_wp2_with fail
  with_reducible refine (headD _ (HT.out.below ((Below.refl w.heap.size w).alloc (by simp <;> omega) _))).mono ?_
  rintro x w1 ⟨rfl, hb⟩
  have Cr := Lib.hid (((Box.new w #[.bool n, .slice a len cap, .int .i64 e] 24).at (b' := w.heap.size) (by simp)).below hb (by simp <;> omega))
  have b1 := Lib.hid (((Below.refl w.heap.size w).alloc (by simp <;> omega) _).trans (hb.mono (B' := w.heap.size) (by simp <;> omega)))
  clear hb
  have Br : Hid (Box w1 (w.heap.size) #[.bool n, .slice a len cap, .int .i64 e]) := Cr
  clear Cr
  obtain ⟨r0, r1, r2, r3, r4, r5, r6⟩ := Br.out.three
  go_wp2_with fail
  with_reducible refine (few_yes n a len cap e 60 _ hc1 hm1 (by decide) (by decide) (by omega) h2 h3).mono ?_
  rintro x w2 ⟨rfl, hb⟩
  have Cr := Lib.hid (Br.out.below hb (by have := Br.out.lt; simp <;> omega))
  have b2 := Lib.hid (b1.out.trans (hb.mono (B' := w.heap.size) (by have := b1.out.size; simp <;> omega)))
  clear r0 r1 r2 r3 r4 r5 r6
  clear hb Br
  have Br : Hid (Box w2 (w.heap.size) #[.bool n, .slice a len cap, .int .i64 e]) := Cr
  clear Cr
  obtain ⟨r0, r1, r2, r3, r4, r5, r6⟩ := Br.out.three
  go_wp2_with fail
  with_reducible refine (make_as n a len cap L e _ (HIN.out.below b2.out) (by omega)).mono ?_
  rintro x w3 ⟨rfl, hb⟩
  have Cr := Lib.hid (Br.out.below hb (by have := Br.out.lt; simp <;> omega))
  have b3 := Lib.hid (b2.out.trans (hb.mono (B' := w.heap.size) (by have := b2.out.size; simp <;> omega)))
  clear r0 r1 r2 r3 r4 r5 r6
  clear hb Br
  have Br : Hid (Box w3 (w.heap.size) #[.bool n, .slice a len cap, .int .i64 e]) := Cr
  clear Cr
  obtain ⟨r0, r1, r2, r3, r4, r5, r6⟩ := Br.out.three
  go_wp2_with fail
  with_reducible refine (norm_as n ⟨(dgs L).toArray⟩ e _ (by rw [arr_size]; omega) ⟨false, dl, 0⟩ (by rw [arr_list]; exact HD.out)).mono ?_
  rintro x w4 ⟨rfl, hb⟩
  have Cr := Lib.hid (Br.out.below hb (by have := Br.out.lt; simp <;> omega))
  have b4 := Lib.hid (b3.out.trans (hb.mono (B' := w.heap.size) (by have := b3.out.size; simp <;> omega)))
  clear r0 r1 r2 r3 r4 r5 r6
  clear hb Br
  have Br : Hid (Box w4 (w.heap.size) #[.bool n, .slice a len cap, .int .i64 e]) := Cr
  clear Cr
  obtain ⟨r0, r1, r2, r3, r4, r5, r6⟩ := Br.out.three
  go_wp2_with fail
  with_reducible refine (zero_as false ⟨dl.toArray⟩ 0 _ (by rw [arr_size]; omega) ⟨false, dl, 0⟩ (by rw [arr_list]; exact HI.out) false (ne_empty HNE.out)).mono ?_
  rintro x w5 ⟨rfl, hb⟩
  have Cr := Lib.hid ((Br.out.alloc (.cells #[.bool false, S dl, .int .i64 0] 28)).below hb (by have := Br.out.lt; simp <;> omega))
  have Cd := Lib.hid (((Box.new w4 #[.bool false, S dl, .int .i64 0] 28).at (b' := w4.heap.size) (by simp)).below hb (by simp <;> omega))
  have b5 := Lib.hid ((b4.out.alloc (by have := b4.out.size; simp <;> omega) _).trans (hb.mono (B' := w.heap.size) (by have := b4.out.size; simp <;> omega)))
  clear r0 r1 r2 r3 r4 r5 r6
  clear hb Br
  have Br : Hid (Box w5 (w.heap.size) #[.bool n, .slice a len cap, .int .i64 e]) := Cr
  have Bd : Hid (Box w5 (w4.heap.size) #[.bool false, S dl, .int .i64 0]) := Cd
  clear Cr Cd
  obtain ⟨r0, r1, r2, r3, r4, r5, r6⟩ := Br.out.three
  obtain ⟨d0, d1, d2, d3, d4, d5, d6⟩ := Bd.out.three
  go_wp2_with fail
  with_reducible refine (make_as n a len cap L e _ (HIN.out.below b5.out) (by omega)).mono ?_
  rintro x w6 ⟨rfl, hb⟩
  have Cr := Lib.hid (Br.out.below hb (by have := Br.out.lt; simp <;> omega))
  have Cd := Lib.hid (Bd.out.below hb (by have := Bd.out.lt; simp <;> omega))
  have b6 := Lib.hid (b5.out.trans (hb.mono (B' := w.heap.size) (by have := b5.out.size; simp <;> omega)))
  clear r0 r1 r2 r3 r4 r5 r6 d0 d1 d2 d3 d4 d5 d6
  clear hb Br Bd
  have Br : Hid (Box w6 (w.heap.size) #[.bool n, .slice a len cap, .int .i64 e]) := Cr
  have Bd : Hid (Box w6 (w4.heap.size) #[.bool false, S dl, .int .i64 0]) := Cd
  clear Cr Cd
  obtain ⟨r0, r1, r2, r3, r4, r5, r6⟩ := Br.out.three
  obtain ⟨d0, d1, d2, d3, d4, d5, d6⟩ := Bd.out.three
  go_wp2_with fail
  with_reducible refine (string_as n ⟨(dgs L).toArray⟩ e _ (by rw [arr_size]; omega) ⟨false, dl, 0⟩ (by rw [arr_list]; exact HD.out) HI.out (HT.out.below b6.out)).mono ?_
  rintro x w7 ⟨rfl, hb⟩
  have Cr := Lib.hid (Br.out.below hb (by have := Br.out.lt; simp <;> omega))
  have Cd := Lib.hid (Bd.out.below hb (by have := Bd.out.lt; simp <;> omega))
  have b7 := Lib.hid (b6.out.trans (hb.mono (B' := w.heap.size) (by have := b6.out.size; simp <;> omega)))
  clear r0 r1 r2 r3 r4 r5 r6 d0 d1 d2 d3 d4 d5 d6
  clear hb Br Bd
  have Br : Hid (Box w7 (w.heap.size) #[.bool n, .slice a len cap, .int .i64 e]) := Cr
  have Bd : Hid (Box w7 (w4.heap.size) #[.bool false, S dl, .int .i64 0]) := Cd
  clear Cr Cd
  obtain ⟨r0, r1, r2, r3, r4, r5, r6⟩ := Br.out.three
  obtain ⟨d0, d1, d2, d3, d4, d5, d6⟩ := Bd.out.three
  rw [HV.out]
  go_wp2
  go_ret
  exact ⟨rfl, b7.out⟩

set_option maxRecDepth 100000 in
set_option maxHeartbeats 3200000 in
theorem texts_pp (n : Bool) (a : Option Addr) (len cap : Nat) (L : List UInt8) (e : Int) (w : World) (hin : InB w a len cap L) (htab : Tab w) (h1 : len ≤ 60) (h2 : -60 ≤ e) (h3 : e ≤ 60) (dl : List UInt8) (hne : dl ≠ []) (hl : dl.length ≤ 60) (k : Nat) (hk0 : 0 < k) (hk : k ≤ 200) (hd : made n (dgs L) e = ⟨false, dl, (k : Int)⟩) :
    Calls Tryd.prog 10 #[RV n a len cap e] w fun x w' => x = .returned (.bool true) ∧ Below w.heap.size w w' := by
  have LL : (dgs L).length ≤ 60 := by rw [dgs_length, hin.1]; exact h1
  have HD := Lib.hid hd
  have HI := Lib.hid (idem_of hd)
  have HNE := Lib.hid hne
  have HW : Hid (((⟨dl.toArray⟩ : ByteArray) ++ (⟨#[101]⟩ : ByteArray) ++ (⟨(dig k).toArray⟩ : ByteArray)) = (⟨(textT ⟨false, dl, (k : Int)⟩).toArray⟩ : ByteArray)) := Lib.hid (by show ((⟨dl.toArray⟩ : ByteArray) ++ (⟨[101].toArray⟩ : ByteArray) ++ (⟨(dig k).toArray⟩ : ByteArray)) = _; rw [cat2, cat2]; unfold textT; rw [if_neg hne]; rw [if_neg (by simp; omega), numT_pos]; simp [signL])
  have gk : (dig k).length ≤ 3 := dig3 (by omega)
  clear hd hne
  have HT := Lib.hid htab
  have HIN := Lib.hid hin
  have hc1 := hin.2.1
  have hm1 := hin.2.2.1
  clear htab hin
  go_enter Tryd.func10, Tryd.ntmps10
  go_wp2_with fail
  with_reducible refine (headD _ (HT.out.below ((Below.refl w.heap.size w).alloc (by simp <;> omega) _))).mono ?_
  rintro x w1 ⟨rfl, hb⟩
  have Cr := Lib.hid (((Box.new w #[.bool n, .slice a len cap, .int .i64 e] 24).at (b' := w.heap.size) (by simp)).below hb (by simp <;> omega))
  have b1 := Lib.hid (((Below.refl w.heap.size w).alloc (by simp <;> omega) _).trans (hb.mono (B' := w.heap.size) (by simp <;> omega)))
  clear hb
  have Br : Hid (Box w1 (w.heap.size) #[.bool n, .slice a len cap, .int .i64 e]) := Cr
  clear Cr
  obtain ⟨r0, r1, r2, r3, r4, r5, r6⟩ := Br.out.three
  go_wp2_with fail
  with_reducible refine (few_yes n a len cap e 60 _ hc1 hm1 (by decide) (by decide) (by omega) h2 h3).mono ?_
  rintro x w2 ⟨rfl, hb⟩
  have Cr := Lib.hid (Br.out.below hb (by have := Br.out.lt; simp <;> omega))
  have b2 := Lib.hid (b1.out.trans (hb.mono (B' := w.heap.size) (by have := b1.out.size; simp <;> omega)))
  clear r0 r1 r2 r3 r4 r5 r6
  clear hb Br
  have Br : Hid (Box w2 (w.heap.size) #[.bool n, .slice a len cap, .int .i64 e]) := Cr
  clear Cr
  obtain ⟨r0, r1, r2, r3, r4, r5, r6⟩ := Br.out.three
  go_wp2_with fail
  with_reducible refine (make_as n a len cap L e _ (HIN.out.below b2.out) (by omega)).mono ?_
  rintro x w3 ⟨rfl, hb⟩
  have Cr := Lib.hid (Br.out.below hb (by have := Br.out.lt; simp <;> omega))
  have b3 := Lib.hid (b2.out.trans (hb.mono (B' := w.heap.size) (by have := b2.out.size; simp <;> omega)))
  clear r0 r1 r2 r3 r4 r5 r6
  clear hb Br
  have Br : Hid (Box w3 (w.heap.size) #[.bool n, .slice a len cap, .int .i64 e]) := Cr
  clear Cr
  obtain ⟨r0, r1, r2, r3, r4, r5, r6⟩ := Br.out.three
  go_wp2_with fail
  with_reducible refine (norm_as n ⟨(dgs L).toArray⟩ e _ (by rw [arr_size]; omega) ⟨false, dl, (k : Int)⟩ (by rw [arr_list]; exact HD.out)).mono ?_
  rintro x w4 ⟨rfl, hb⟩
  have Cr := Lib.hid (Br.out.below hb (by have := Br.out.lt; simp <;> omega))
  have b4 := Lib.hid (b3.out.trans (hb.mono (B' := w.heap.size) (by have := b3.out.size; simp <;> omega)))
  clear r0 r1 r2 r3 r4 r5 r6
  clear hb Br
  have Br : Hid (Box w4 (w.heap.size) #[.bool n, .slice a len cap, .int .i64 e]) := Cr
  clear Cr
  obtain ⟨r0, r1, r2, r3, r4, r5, r6⟩ := Br.out.three
  go_wp2_with fail
  with_reducible refine (zero_as false ⟨dl.toArray⟩ (k : Int) _ (by rw [arr_size]; omega) ⟨false, dl, (k : Int)⟩ (by rw [arr_list]; exact HI.out) false (ne_empty HNE.out)).mono ?_
  rintro x w5 ⟨rfl, hb⟩
  have Cr := Lib.hid ((Br.out.alloc (.cells #[.bool false, S dl, .int .i64 (k : Int)] 28)).below hb (by have := Br.out.lt; simp <;> omega))
  have Cd := Lib.hid (((Box.new w4 #[.bool false, S dl, .int .i64 (k : Int)] 28).at (b' := w4.heap.size) (by simp)).below hb (by simp <;> omega))
  have b5 := Lib.hid ((b4.out.alloc (by have := b4.out.size; simp <;> omega) _).trans (hb.mono (B' := w.heap.size) (by have := b4.out.size; simp <;> omega)))
  clear r0 r1 r2 r3 r4 r5 r6
  clear hb Br
  have Br : Hid (Box w5 (w.heap.size) #[.bool n, .slice a len cap, .int .i64 e]) := Cr
  have Bd : Hid (Box w5 (w4.heap.size) #[.bool false, S dl, .int .i64 (k : Int)]) := Cd
  clear Cr Cd
  obtain ⟨r0, r1, r2, r3, r4, r5, r6⟩ := Br.out.three
  obtain ⟨d0, d1, d2, d3, d4, d5, d6⟩ := Bd.out.three
  go_wp2_with fail
  with_reducible refine (ofN k _ (by omega) (HT.out.below b5.out)).mono ?_
  rintro x w6 ⟨rfl, hb⟩
  have Cr := Lib.hid (Br.out.below hb (by have := Br.out.lt; simp <;> omega))
  have Cd := Lib.hid (Bd.out.below hb (by have := Bd.out.lt; simp <;> omega))
  have b6 := Lib.hid (b5.out.trans (hb.mono (B' := w.heap.size) (by have := b5.out.size; simp <;> omega)))
  clear r0 r1 r2 r3 r4 r5 r6 d0 d1 d2 d3 d4 d5 d6
  clear hb Br Bd
  have Br : Hid (Box w6 (w.heap.size) #[.bool n, .slice a len cap, .int .i64 e]) := Cr
  have Bd : Hid (Box w6 (w4.heap.size) #[.bool false, S dl, .int .i64 (k : Int)]) := Cd
  clear Cr Cd
  obtain ⟨r0, r1, r2, r3, r4, r5, r6⟩ := Br.out.three
  obtain ⟨d0, d1, d2, d3, d4, d5, d6⟩ := Bd.out.three
  go_wp2_with fail
  with_reducible refine (make_as n a len cap L e _ (HIN.out.below b6.out) (by omega)).mono ?_
  rintro x w7 ⟨rfl, hb⟩
  have Cr := Lib.hid (Br.out.below hb (by have := Br.out.lt; simp <;> omega))
  have Cd := Lib.hid (Bd.out.below hb (by have := Bd.out.lt; simp <;> omega))
  have b7 := Lib.hid (b6.out.trans (hb.mono (B' := w.heap.size) (by have := b6.out.size; simp <;> omega)))
  clear r0 r1 r2 r3 r4 r5 r6 d0 d1 d2 d3 d4 d5 d6
  clear hb Br Bd
  have Br : Hid (Box w7 (w.heap.size) #[.bool n, .slice a len cap, .int .i64 e]) := Cr
  have Bd : Hid (Box w7 (w4.heap.size) #[.bool false, S dl, .int .i64 (k : Int)]) := Cd
  clear Cr Cd
  obtain ⟨r0, r1, r2, r3, r4, r5, r6⟩ := Br.out.three
  obtain ⟨d0, d1, d2, d3, d4, d5, d6⟩ := Bd.out.three
  go_wp2_with fail
  rw [HW.out]
  with_reducible refine (string_as n ⟨(dgs L).toArray⟩ e _ (by rw [arr_size]; omega) ⟨false, dl, (k : Int)⟩ (by rw [arr_list]; exact HD.out) HI.out (HT.out.below b7.out)).mono ?_
  rintro x w8 ⟨rfl, hb⟩
  have Cr := Lib.hid (Br.out.below hb (by have := Br.out.lt; simp <;> omega))
  have Cd := Lib.hid (Bd.out.below hb (by have := Bd.out.lt; simp <;> omega))
  have b8 := Lib.hid (b7.out.trans (hb.mono (B' := w.heap.size) (by have := b7.out.size; simp <;> omega)))
  clear r0 r1 r2 r3 r4 r5 r6 d0 d1 d2 d3 d4 d5 d6
  clear hb Br Bd
  have Br : Hid (Box w8 (w.heap.size) #[.bool n, .slice a len cap, .int .i64 e]) := Cr
  have Bd : Hid (Box w8 (w4.heap.size) #[.bool false, S dl, .int .i64 (k : Int)]) := Cd
  clear Cr Cd
  obtain ⟨r0, r1, r2, r3, r4, r5, r6⟩ := Br.out.three
  obtain ⟨d0, d1, d2, d3, d4, d5, d6⟩ := Bd.out.three
  go_wp2
  go_ret
  exact ⟨rfl, b8.out⟩

set_option maxRecDepth 100000 in
set_option maxHeartbeats 3200000 in
theorem texts_pm (n : Bool) (a : Option Addr) (len cap : Nat) (L : List UInt8) (e : Int) (w : World) (hin : InB w a len cap L) (htab : Tab w) (h1 : len ≤ 60) (h2 : -60 ≤ e) (h3 : e ≤ 60) (dl : List UInt8) (hne : dl ≠ []) (hl : dl.length ≤ 60) (k : Nat) (hk0 : 0 < k) (hk : k ≤ 200) (hd : made n (dgs L) e = ⟨false, dl, (-(k : Int))⟩) :
    Calls Tryd.prog 10 #[RV n a len cap e] w fun x w' => x = .returned (.bool true) ∧ Below w.heap.size w w' := by
  have LL : (dgs L).length ≤ 60 := by rw [dgs_length, hin.1]; exact h1
  have HD := Lib.hid hd
  have HI := Lib.hid (idem_of hd)
  have HNE := Lib.hid hne
  have HW : Hid (((⟨dl.toArray⟩ : ByteArray) ++ (⟨#[101, 45]⟩ : ByteArray) ++ (⟨(dig k).toArray⟩ : ByteArray)) = (⟨(textT ⟨false, dl, (-(k : Int))⟩).toArray⟩ : ByteArray)) := Lib.hid (by show ((⟨dl.toArray⟩ : ByteArray) ++ (⟨[101, 45].toArray⟩ : ByteArray) ++ (⟨(dig k).toArray⟩ : ByteArray)) = _; rw [cat2, cat2]; unfold textT; rw [if_neg hne]; rw [if_neg (by simp; omega), numT_neg k hk0]; simp [signL])
  have gk : (dig k).length ≤ 3 := dig3 (by omega)
  clear hd hne
  have HT := Lib.hid htab
  have HIN := Lib.hid hin
  have hc1 := hin.2.1
  have hm1 := hin.2.2.1
  clear htab hin
  go_enter Tryd.func10, Tryd.ntmps10
  go_wp2_with fail
  with_reducible refine (headD _ (HT.out.below ((Below.refl w.heap.size w).alloc (by simp <;> omega) _))).mono ?_
  rintro x w1 ⟨rfl, hb⟩
  have Cr := Lib.hid (((Box.new w #[.bool n, .slice a len cap, .int .i64 e] 24).at (b' := w.heap.size) (by simp)).below hb (by simp <;> omega))
  have b1 := Lib.hid (((Below.refl w.heap.size w).alloc (by simp <;> omega) _).trans (hb.mono (B' := w.heap.size) (by simp <;> omega)))
  clear hb
  have Br : Hid (Box w1 (w.heap.size) #[.bool n, .slice a len cap, .int .i64 e]) := Cr
  clear Cr
  obtain ⟨r0, r1, r2, r3, r4, r5, r6⟩ := Br.out.three
  go_wp2_with fail
  with_reducible refine (few_yes n a len cap e 60 _ hc1 hm1 (by decide) (by decide) (by omega) h2 h3).mono ?_
  rintro x w2 ⟨rfl, hb⟩
  have Cr := Lib.hid (Br.out.below hb (by have := Br.out.lt; simp <;> omega))
  have b2 := Lib.hid (b1.out.trans (hb.mono (B' := w.heap.size) (by have := b1.out.size; simp <;> omega)))
  clear r0 r1 r2 r3 r4 r5 r6
  clear hb Br
  have Br : Hid (Box w2 (w.heap.size) #[.bool n, .slice a len cap, .int .i64 e]) := Cr
  clear Cr
  obtain ⟨r0, r1, r2, r3, r4, r5, r6⟩ := Br.out.three
  go_wp2_with fail
  with_reducible refine (make_as n a len cap L e _ (HIN.out.below b2.out) (by omega)).mono ?_
  rintro x w3 ⟨rfl, hb⟩
  have Cr := Lib.hid (Br.out.below hb (by have := Br.out.lt; simp <;> omega))
  have b3 := Lib.hid (b2.out.trans (hb.mono (B' := w.heap.size) (by have := b2.out.size; simp <;> omega)))
  clear r0 r1 r2 r3 r4 r5 r6
  clear hb Br
  have Br : Hid (Box w3 (w.heap.size) #[.bool n, .slice a len cap, .int .i64 e]) := Cr
  clear Cr
  obtain ⟨r0, r1, r2, r3, r4, r5, r6⟩ := Br.out.three
  go_wp2_with fail
  with_reducible refine (norm_as n ⟨(dgs L).toArray⟩ e _ (by rw [arr_size]; omega) ⟨false, dl, (-(k : Int))⟩ (by rw [arr_list]; exact HD.out)).mono ?_
  rintro x w4 ⟨rfl, hb⟩
  have Cr := Lib.hid (Br.out.below hb (by have := Br.out.lt; simp <;> omega))
  have b4 := Lib.hid (b3.out.trans (hb.mono (B' := w.heap.size) (by have := b3.out.size; simp <;> omega)))
  clear r0 r1 r2 r3 r4 r5 r6
  clear hb Br
  have Br : Hid (Box w4 (w.heap.size) #[.bool n, .slice a len cap, .int .i64 e]) := Cr
  clear Cr
  obtain ⟨r0, r1, r2, r3, r4, r5, r6⟩ := Br.out.three
  go_wp2_with fail
  with_reducible refine (zero_as false ⟨dl.toArray⟩ (-(k : Int)) _ (by rw [arr_size]; omega) ⟨false, dl, (-(k : Int))⟩ (by rw [arr_list]; exact HI.out) false (ne_empty HNE.out)).mono ?_
  rintro x w5 ⟨rfl, hb⟩
  have Cr := Lib.hid ((Br.out.alloc (.cells #[.bool false, S dl, .int .i64 (-(k : Int))] 28)).below hb (by have := Br.out.lt; simp <;> omega))
  have Cd := Lib.hid (((Box.new w4 #[.bool false, S dl, .int .i64 (-(k : Int))] 28).at (b' := w4.heap.size) (by simp)).below hb (by simp <;> omega))
  have b5 := Lib.hid ((b4.out.alloc (by have := b4.out.size; simp <;> omega) _).trans (hb.mono (B' := w.heap.size) (by have := b4.out.size; simp <;> omega)))
  clear r0 r1 r2 r3 r4 r5 r6
  clear hb Br
  have Br : Hid (Box w5 (w.heap.size) #[.bool n, .slice a len cap, .int .i64 e]) := Cr
  have Bd : Hid (Box w5 (w4.heap.size) #[.bool false, S dl, .int .i64 (-(k : Int))]) := Cd
  clear Cr Cd
  obtain ⟨r0, r1, r2, r3, r4, r5, r6⟩ := Br.out.three
  obtain ⟨d0, d1, d2, d3, d4, d5, d6⟩ := Bd.out.three
  go_wp2_with fail
  with_reducible refine (ofN k _ (by omega) (HT.out.below b5.out)).mono ?_
  rintro x w6 ⟨rfl, hb⟩
  have Cr := Lib.hid (Br.out.below hb (by have := Br.out.lt; simp <;> omega))
  have Cd := Lib.hid (Bd.out.below hb (by have := Bd.out.lt; simp <;> omega))
  have b6 := Lib.hid (b5.out.trans (hb.mono (B' := w.heap.size) (by have := b5.out.size; simp <;> omega)))
  clear r0 r1 r2 r3 r4 r5 r6 d0 d1 d2 d3 d4 d5 d6
  clear hb Br Bd
  have Br : Hid (Box w6 (w.heap.size) #[.bool n, .slice a len cap, .int .i64 e]) := Cr
  have Bd : Hid (Box w6 (w4.heap.size) #[.bool false, S dl, .int .i64 (-(k : Int))]) := Cd
  clear Cr Cd
  obtain ⟨r0, r1, r2, r3, r4, r5, r6⟩ := Br.out.three
  obtain ⟨d0, d1, d2, d3, d4, d5, d6⟩ := Bd.out.three
  go_wp2_with fail
  with_reducible refine (make_as n a len cap L e _ (HIN.out.below b6.out) (by omega)).mono ?_
  rintro x w7 ⟨rfl, hb⟩
  have Cr := Lib.hid (Br.out.below hb (by have := Br.out.lt; simp <;> omega))
  have Cd := Lib.hid (Bd.out.below hb (by have := Bd.out.lt; simp <;> omega))
  have b7 := Lib.hid (b6.out.trans (hb.mono (B' := w.heap.size) (by have := b6.out.size; simp <;> omega)))
  clear r0 r1 r2 r3 r4 r5 r6 d0 d1 d2 d3 d4 d5 d6
  clear hb Br Bd
  have Br : Hid (Box w7 (w.heap.size) #[.bool n, .slice a len cap, .int .i64 e]) := Cr
  have Bd : Hid (Box w7 (w4.heap.size) #[.bool false, S dl, .int .i64 (-(k : Int))]) := Cd
  clear Cr Cd
  obtain ⟨r0, r1, r2, r3, r4, r5, r6⟩ := Br.out.three
  obtain ⟨d0, d1, d2, d3, d4, d5, d6⟩ := Bd.out.three
  go_wp2_with fail
  rw [HW.out]
  with_reducible refine (string_as n ⟨(dgs L).toArray⟩ e _ (by rw [arr_size]; omega) ⟨false, dl, (-(k : Int))⟩ (by rw [arr_list]; exact HD.out) HI.out (HT.out.below b7.out)).mono ?_
  rintro x w8 ⟨rfl, hb⟩
  have Cr := Lib.hid (Br.out.below hb (by have := Br.out.lt; simp <;> omega))
  have Cd := Lib.hid (Bd.out.below hb (by have := Bd.out.lt; simp <;> omega))
  have b8 := Lib.hid (b7.out.trans (hb.mono (B' := w.heap.size) (by have := b7.out.size; simp <;> omega)))
  clear r0 r1 r2 r3 r4 r5 r6 d0 d1 d2 d3 d4 d5 d6
  clear hb Br Bd
  have Br : Hid (Box w8 (w.heap.size) #[.bool n, .slice a len cap, .int .i64 e]) := Cr
  have Bd : Hid (Box w8 (w4.heap.size) #[.bool false, S dl, .int .i64 (-(k : Int))]) := Cd
  clear Cr Cd
  obtain ⟨r0, r1, r2, r3, r4, r5, r6⟩ := Br.out.three
  obtain ⟨d0, d1, d2, d3, d4, d5, d6⟩ := Bd.out.three
  go_wp2
  go_ret
  exact ⟨rfl, b8.out⟩

end Go.Proofs.YtlppofjmkepceaaDoor
