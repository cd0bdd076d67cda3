/- What dec.split returns: the pieces of a decimal's text. -/
import Derived.Test.YtfbfjkacaadbpaaGreatDoorDecF
namespace Go.Proofs.YtfbfjkacaadbpaaGreatDoor
open Go.RowKit Florin

abbrev zw : Array Value := #[.bool false, .string ⟨#[]⟩, .string ⟨#[]⟩, .bool false, .string ⟨#[]⟩]
theorem Box.five {w : World} {b : Nat} {v0 v1 v2 v3 v4 : Value} (h : Box w b #[v0, v1, v2, v3, v4]) : w.cell? ⟨b, 0, none⟩ = some v0 ∧ w.cell? ⟨b, 1, none⟩ = some v1 ∧ w.cell? ⟨b, 2, none⟩ = some v2 ∧ w.cell? ⟨b, 3, none⟩ = some v3 ∧ w.cell? ⟨b, 4, none⟩ = some v4 ∧
    w.frozen? ⟨b, 0, none⟩ = false ∧ w.frozen? ⟨b, 1, none⟩ = false ∧ w.frozen? ⟨b, 2, none⟩ = false ∧ w.frozen? ⟨b, 3, none⟩ = false ∧ w.frozen? ⟨b, 4, none⟩ = false ∧ b < w.heap.size :=
  ⟨h.cell 0, h.cell 1, h.cell 2, h.cell 3, h.cell 4, h.frozen 0, h.frozen 1, h.frozen 2, h.frozen 3, h.frozen 4, h.lt⟩
theorem below_store5 {B : Nat} {W w : World} {b : Nat} (h : Below B W w) (hb : B ≤ b) (x0 x1 x2 x3 x4 : Value) :
    Below B W (((((w.setCell ⟨b, 0, none⟩ x0).setCell ⟨b, 1, none⟩ x1).setCell ⟨b, 2, none⟩ x2).setCell ⟨b, 3, none⟩ x3).setCell ⟨b, 4, none⟩ x4) :=
  ((((h.setCell hb x0).setCell hb x1).setCell hb x2).setCell hb x3).setCell hb x4
theorem ext_take' (p : List UInt8) (k : Nat) : (⟨p.toArray⟩ : ByteArray).extract 0 k = ⟨(p.take k).toArray⟩ := by rw [cut_arr]; simp
theorem ext_drop' (p : List UInt8) (k : Nat) : (⟨p.toArray⟩ : ByteArray).extract k p.length = ⟨(p.drop k).toArray⟩ := by
  rw [cut_arr, List.take_of_length_le (by rw [List.length_drop]; omega)]

set_option maxRecDepth 100000 in
set_option maxHeartbeats 3200000 in
theorem split_0w (s : ByteArray) (w : World) (hs : s.size ≤ 1000000) (p : List UInt8) (m : Bool) (hp : less s.data.toList = p) (hm : minus s.data.toList = m) (hix : IxOK ⟨p.toArray⟩) (hk : Lib.indexAny p [101, 69] = -1) (a : List UInt8) (ha : (p).takeWhile (fun c => c != 46) = a) (hw : sdig a = false) (f : List UInt8) (hf : ((p).dropWhile (fun c => c != 46)).tail = f) (hz : ((p).dropWhile (fun c => c != 46)).isEmpty = !false) :
    Calls Tryz.prog 53 #[.string s] w fun x w' => x = .returned (.tuple #[.agg zw, .bool false]) ∧ Below w.heap.size w w' := by
  have pl : p.length ≤ 1000000 := by rw [← hp]; unfold less; split <;> simp <;> omega
  have al : a.length ≤ 1000000 := by rw [← ha]; have h1 := (List.takeWhile_sublist (p := fun c : UInt8 => c != 46) (l := p)).length_le; omega
  have fl : f.length ≤ 1000000 := by rw [← hf]; have h1 := (List.dropWhile_sublist (p := fun c : UInt8 => c != 46) (l := p)).length_le; rw [List.length_tail]; omega
  have HP' := Lib.hid hp
  have HM' := Lib.hid hm
  have HIX' := Lib.hid hix
  have HK' := Lib.hid hk
  have HA' := Lib.hid ha
  have HW' := Lib.hid hw
  have HF' := Lib.hid hf
  have HZ' := Lib.hid hz
  clear hp hm hix hk ha hw hf hz
  go_enter Tryz.func53, Tryz.ntmps53
  go_wp2_with fail
  with_reducible refine (cutPrefix_minus s _ p m HP'.out HM'.out).mono ?_
  rintro x w' ⟨rfl, rfl⟩
  go_wp2_with fail
  with_reducible refine (ix_as HIX'.out _ (-1) (by rw [arr_list]; exact HK'.out)).mono ?_
  rintro x w1 ⟨rfl, hb⟩
  have R1 := Lib.hid (((Box.new w zw 79).alloc _).below hb (by simp <;> omega))
  have T1 := Lib.hid (((Box.new (w.alloc (.cells zw 79)) #[.bool m, .string ⟨#[]⟩, .string ⟨#[]⟩, .bool false, .string ⟨#[]⟩] 79).at (b' := w.heap.size + 1) (by simp)).below hb (by simp))
  have HB1 := Lib.hid ((below_alloc2 w (.cells zw 79) (.cells #[.bool m, .string ⟨#[]⟩, .string ⟨#[]⟩, .bool false, .string ⟨#[]⟩] 79)).trans (hb.mono (B' := w.heap.size) (by simp; omega)))
  clear hb
  go_wp2_with fail
  with_reducible refine (cut_as _ _ (by rw [arr_size]; exact pl) a f false (by rw [arr_list]; exact HA'.out) (by rw [arr_list]; exact HF'.out) (by rw [arr_list]; exact HZ'.out)).mono ?_
  rintro x w2 ⟨rfl, hb⟩
  have R2 := Lib.hid (R1.out.below hb R1.out.lt)
  have T2 := Lib.hid (T1.out.below hb T1.out.lt)
  have HB2 := Lib.hid (HB1.out.trans (hb.mono (B' := w.heap.size) HB1.out.size))
  clear hb R1 T1 HB1
  obtain ⟨r0, r1, r2, r3, r4, g0, g1, g2, g3, g4, lr⟩ := R2.out.five
  obtain ⟨t0, t1, t2, t3, t4, u0, u1, u2, u3, u4, lt⟩ := T2.out.five
  go_wp2_with fail
  with_reducible refine (someDigits_as _ _ (by rw [arr_size]; unfold maxLen; omega) false (by rw [arr_list]; exact HW'.out)).mono ?_
  rintro x w' ⟨rfl, rfl⟩
  go_wp2
  refine bodyPost_ret (v := .tuple #[.agg zw, .bool false]) (by simp [results, Tryz.results53, go_sem, r0, r1, r2, r3, r4]) rfl ⟨rfl, ?_⟩
  exact below_store5 HB2.out (Nat.le_refl _) _ _ _ _ _

set_option maxRecDepth 100000 in
set_option maxHeartbeats 3200000 in
theorem split_0v (s : ByteArray) (w : World) (hs : s.size ≤ 1000000) (p : List UInt8) (m : Bool) (hp : less s.data.toList = p) (hm : minus s.data.toList = m) (hix : IxOK ⟨p.toArray⟩) (hk : Lib.indexAny p [101, 69] = -1) (a : List UInt8) (ha : (p).takeWhile (fun c => c != 46) = a) (hw : sdig a = false) (f : List UInt8) (hf : ((p).dropWhile (fun c => c != 46)).tail = f) (hz : ((p).dropWhile (fun c => c != 46)).isEmpty = !true) :
    Calls Tryz.prog 53 #[.string s] w fun x w' => x = .returned (.tuple #[.agg zw, .bool false]) ∧ Below w.heap.size w w' := by
  have pl : p.length ≤ 1000000 := by rw [← hp]; unfold less; split <;> simp <;> omega
  have al : a.length ≤ 1000000 := by rw [← ha]; have h1 := (List.takeWhile_sublist (p := fun c : UInt8 => c != 46) (l := p)).length_le; omega
  have fl : f.length ≤ 1000000 := by rw [← hf]; have h1 := (List.dropWhile_sublist (p := fun c : UInt8 => c != 46) (l := p)).length_le; rw [List.length_tail]; omega
  have HP' := Lib.hid hp
  have HM' := Lib.hid hm
  have HIX' := Lib.hid hix
  have HK' := Lib.hid hk
  have HA' := Lib.hid ha
  have HW' := Lib.hid hw
  have HF' := Lib.hid hf
  have HZ' := Lib.hid hz
  clear hp hm hix hk ha hw hf hz
  go_enter Tryz.func53, Tryz.ntmps53
  go_wp2_with fail
  with_reducible refine (cutPrefix_minus s _ p m HP'.out HM'.out).mono ?_
  rintro x w' ⟨rfl, rfl⟩
  go_wp2_with fail
  with_reducible refine (ix_as HIX'.out _ (-1) (by rw [arr_list]; exact HK'.out)).mono ?_
  rintro x w1 ⟨rfl, hb⟩
  have R1 := Lib.hid (((Box.new w zw 79).alloc _).below hb (by simp <;> omega))
  have T1 := Lib.hid (((Box.new (w.alloc (.cells zw 79)) #[.bool m, .string ⟨#[]⟩, .string ⟨#[]⟩, .bool false, .string ⟨#[]⟩] 79).at (b' := w.heap.size + 1) (by simp)).below hb (by simp))
  have HB1 := Lib.hid ((below_alloc2 w (.cells zw 79) (.cells #[.bool m, .string ⟨#[]⟩, .string ⟨#[]⟩, .bool false, .string ⟨#[]⟩] 79)).trans (hb.mono (B' := w.heap.size) (by simp; omega)))
  clear hb
  go_wp2_with fail
  with_reducible refine (cut_as _ _ (by rw [arr_size]; exact pl) a f true (by rw [arr_list]; exact HA'.out) (by rw [arr_list]; exact HF'.out) (by rw [arr_list]; exact HZ'.out)).mono ?_
  rintro x w2 ⟨rfl, hb⟩
  have R2 := Lib.hid (R1.out.below hb R1.out.lt)
  have T2 := Lib.hid (T1.out.below hb T1.out.lt)
  have HB2 := Lib.hid (HB1.out.trans (hb.mono (B' := w.heap.size) HB1.out.size))
  clear hb R1 T1 HB1
  obtain ⟨r0, r1, r2, r3, r4, g0, g1, g2, g3, g4, lr⟩ := R2.out.five
  obtain ⟨t0, t1, t2, t3, t4, u0, u1, u2, u3, u4, lt⟩ := T2.out.five
  go_wp2_with fail
  with_reducible refine (someDigits_as _ _ (by rw [arr_size]; unfold maxLen; omega) false (by rw [arr_list]; exact HW'.out)).mono ?_
  rintro x w' ⟨rfl, rfl⟩
  go_wp2
  refine bodyPost_ret (v := .tuple #[.agg zw, .bool false]) (by simp [results, Tryz.results53, go_sem, r0, r1, r2, r3, r4]) rfl ⟨rfl, ?_⟩
  exact below_store5 HB2.out (Nat.le_refl _) _ _ _ _ _

set_option maxRecDepth 100000 in
set_option maxHeartbeats 3200000 in
theorem split_0n (s : ByteArray) (w : World) (hs : s.size ≤ 1000000) (p : List UInt8) (m : Bool) (hp : less s.data.toList = p) (hm : minus s.data.toList = m) (hix : IxOK ⟨p.toArray⟩) (hk : Lib.indexAny p [101, 69] = -1) (a : List UInt8) (ha : (p).takeWhile (fun c => c != 46) = a) (hw : sdig a = true) (f : List UInt8) (hf : ((p).dropWhile (fun c => c != 46)).tail = f) (hz : ((p).dropWhile (fun c => c != 46)).isEmpty = !false) :
    Calls Tryz.prog 53 #[.string s] w fun x w' => x = .returned (.tuple #[.agg #[.bool m, S a, S f, .bool false, S []], .bool true]) ∧ Below w.heap.size w w' := by
  have pl : p.length ≤ 1000000 := by rw [← hp]; unfold less; split <;> simp <;> omega
  have al : a.length ≤ 1000000 := by rw [← ha]; have h1 := (List.takeWhile_sublist (p := fun c : UInt8 => c != 46) (l := p)).length_le; omega
  have fl : f.length ≤ 1000000 := by rw [← hf]; have h1 := (List.dropWhile_sublist (p := fun c : UInt8 => c != 46) (l := p)).length_le; rw [List.length_tail]; omega
  have HP' := Lib.hid hp
  have HM' := Lib.hid hm
  have HIX' := Lib.hid hix
  have HK' := Lib.hid hk
  have HA' := Lib.hid ha
  have HW' := Lib.hid hw
  have HF' := Lib.hid hf
  have HZ' := Lib.hid hz
  clear hp hm hix hk ha hw hf hz
  go_enter Tryz.func53, Tryz.ntmps53
  go_wp2_with fail
  with_reducible refine (cutPrefix_minus s _ p m HP'.out HM'.out).mono ?_
  rintro x w' ⟨rfl, rfl⟩
  go_wp2_with fail
  with_reducible refine (ix_as HIX'.out _ (-1) (by rw [arr_list]; exact HK'.out)).mono ?_
  rintro x w1 ⟨rfl, hb⟩
  have R1 := Lib.hid (((Box.new w zw 79).alloc _).below hb (by simp <;> omega))
  have T1 := Lib.hid (((Box.new (w.alloc (.cells zw 79)) #[.bool m, .string ⟨#[]⟩, .string ⟨#[]⟩, .bool false, .string ⟨#[]⟩] 79).at (b' := w.heap.size + 1) (by simp)).below hb (by simp))
  have HB1 := Lib.hid ((below_alloc2 w (.cells zw 79) (.cells #[.bool m, .string ⟨#[]⟩, .string ⟨#[]⟩, .bool false, .string ⟨#[]⟩] 79)).trans (hb.mono (B' := w.heap.size) (by simp; omega)))
  clear hb
  go_wp2_with fail
  with_reducible refine (cut_as _ _ (by rw [arr_size]; exact pl) a f false (by rw [arr_list]; exact HA'.out) (by rw [arr_list]; exact HF'.out) (by rw [arr_list]; exact HZ'.out)).mono ?_
  rintro x w2 ⟨rfl, hb⟩
  have R2 := Lib.hid (R1.out.below hb R1.out.lt)
  have T2 := Lib.hid (T1.out.below hb T1.out.lt)
  have HB2 := Lib.hid (HB1.out.trans (hb.mono (B' := w.heap.size) HB1.out.size))
  clear hb R1 T1 HB1
  obtain ⟨r0, r1, r2, r3, r4, g0, g1, g2, g3, g4, lr⟩ := R2.out.five
  obtain ⟨t0, t1, t2, t3, t4, u0, u1, u2, u3, u4, lt⟩ := T2.out.five
  go_wp2_with fail
  with_reducible refine (someDigits_as _ _ (by rw [arr_size]; unfold maxLen; omega) true (by rw [arr_list]; exact HW'.out)).mono ?_
  rintro x w' ⟨rfl, rfl⟩
  go_wp2
  refine bodyPost_ret (v := .tuple #[.agg #[.bool m, S a, S f, .bool false, S []], .bool true]) (by simp [results, Tryz.results53, go_sem, r0, r1, r2, r3, r4]) rfl ⟨rfl, ?_⟩
  refine below_store5 ((HB2.out.setCell ?_ _).setCell ?_ _) (Nat.le_refl _) _ _ _ _ _ <;> simp

set_option maxRecDepth 100000 in
set_option maxHeartbeats 3200000 in
theorem split_0f (s : ByteArray) (w : World) (hs : s.size ≤ 1000000) (p : List UInt8) (m : Bool) (hp : less s.data.toList = p) (hm : minus s.data.toList = m) (hix : IxOK ⟨p.toArray⟩) (hk : Lib.indexAny p [101, 69] = -1) (a : List UInt8) (ha : (p).takeWhile (fun c => c != 46) = a) (hw : sdig a = true) (f : List UInt8) (hf : ((p).dropWhile (fun c => c != 46)).tail = f) (hz : ((p).dropWhile (fun c => c != 46)).isEmpty = !true) (hfd : sdig f = false) :
    Calls Tryz.prog 53 #[.string s] w fun x w' => x = .returned (.tuple #[.agg zw, .bool false]) ∧ Below w.heap.size w w' := by
  have pl : p.length ≤ 1000000 := by rw [← hp]; unfold less; split <;> simp <;> omega
  have al : a.length ≤ 1000000 := by rw [← ha]; have h1 := (List.takeWhile_sublist (p := fun c : UInt8 => c != 46) (l := p)).length_le; omega
  have fl : f.length ≤ 1000000 := by rw [← hf]; have h1 := (List.dropWhile_sublist (p := fun c : UInt8 => c != 46) (l := p)).length_le; rw [List.length_tail]; omega
  have HP' := Lib.hid hp
  have HM' := Lib.hid hm
  have HIX' := Lib.hid hix
  have HK' := Lib.hid hk
  have HA' := Lib.hid ha
  have HW' := Lib.hid hw
  have HF' := Lib.hid hf
  have HZ' := Lib.hid hz
  have HFD' := Lib.hid hfd
  clear hp hm hix hk ha hw hf hz hfd
  go_enter Tryz.func53, Tryz.ntmps53
  go_wp2_with fail
  with_reducible refine (cutPrefix_minus s _ p m HP'.out HM'.out).mono ?_
  rintro x w' ⟨rfl, rfl⟩
  go_wp2_with fail
  with_reducible refine (ix_as HIX'.out _ (-1) (by rw [arr_list]; exact HK'.out)).mono ?_
  rintro x w1 ⟨rfl, hb⟩
  have R1 := Lib.hid (((Box.new w zw 79).alloc _).below hb (by simp <;> omega))
  have T1 := Lib.hid (((Box.new (w.alloc (.cells zw 79)) #[.bool m, .string ⟨#[]⟩, .string ⟨#[]⟩, .bool false, .string ⟨#[]⟩] 79).at (b' := w.heap.size + 1) (by simp)).below hb (by simp))
  have HB1 := Lib.hid ((below_alloc2 w (.cells zw 79) (.cells #[.bool m, .string ⟨#[]⟩, .string ⟨#[]⟩, .bool false, .string ⟨#[]⟩] 79)).trans (hb.mono (B' := w.heap.size) (by simp; omega)))
  clear hb
  go_wp2_with fail
  with_reducible refine (cut_as _ _ (by rw [arr_size]; exact pl) a f true (by rw [arr_list]; exact HA'.out) (by rw [arr_list]; exact HF'.out) (by rw [arr_list]; exact HZ'.out)).mono ?_
  rintro x w2 ⟨rfl, hb⟩
  have R2 := Lib.hid (R1.out.below hb R1.out.lt)
  have T2 := Lib.hid (T1.out.below hb T1.out.lt)
  have HB2 := Lib.hid (HB1.out.trans (hb.mono (B' := w.heap.size) HB1.out.size))
  clear hb R1 T1 HB1
  obtain ⟨r0, r1, r2, r3, r4, g0, g1, g2, g3, g4, lr⟩ := R2.out.five
  obtain ⟨t0, t1, t2, t3, t4, u0, u1, u2, u3, u4, lt⟩ := T2.out.five
  go_wp2_with fail
  with_reducible refine (someDigits_as _ _ (by rw [arr_size]; unfold maxLen; omega) true (by rw [arr_list]; exact HW'.out)).mono ?_
  rintro x w' ⟨rfl, rfl⟩
  go_wp2_with fail
  with_reducible refine (someDigits_as _ _ (by rw [arr_size]; unfold maxLen; omega) false (by rw [arr_list]; exact HFD'.out)).mono ?_
  rintro x w' ⟨rfl, rfl⟩
  go_wp2
  refine bodyPost_ret (v := .tuple #[.agg zw, .bool false]) (by simp [results, Tryz.results53, go_sem, r0, r1, r2, r3, r4]) rfl ⟨rfl, ?_⟩
  exact below_store5 HB2.out (Nat.le_refl _) _ _ _ _ _

set_option maxRecDepth 100000 in
set_option maxHeartbeats 3200000 in
theorem split_0y (s : ByteArray) (w : World) (hs : s.size ≤ 1000000) (p : List UInt8) (m : Bool) (hp : less s.data.toList = p) (hm : minus s.data.toList = m) (hix : IxOK ⟨p.toArray⟩) (hk : Lib.indexAny p [101, 69] = -1) (a : List UInt8) (ha : (p).takeWhile (fun c => c != 46) = a) (hw : sdig a = true) (f : List UInt8) (hf : ((p).dropWhile (fun c => c != 46)).tail = f) (hz : ((p).dropWhile (fun c => c != 46)).isEmpty = !true) (hfd : sdig f = true) :
    Calls Tryz.prog 53 #[.string s] w fun x w' => x = .returned (.tuple #[.agg #[.bool m, S a, S f, .bool false, S []], .bool true]) ∧ Below w.heap.size w w' := by
  have pl : p.length ≤ 1000000 := by rw [← hp]; unfold less; split <;> simp <;> omega
  have al : a.length ≤ 1000000 := by rw [← ha]; have h1 := (List.takeWhile_sublist (p := fun c : UInt8 => c != 46) (l := p)).length_le; omega
  have fl : f.length ≤ 1000000 := by rw [← hf]; have h1 := (List.dropWhile_sublist (p := fun c : UInt8 => c != 46) (l := p)).length_le; rw [List.length_tail]; omega
  have HP' := Lib.hid hp
  have HM' := Lib.hid hm
  have HIX' := Lib.hid hix
  have HK' := Lib.hid hk
  have HA' := Lib.hid ha
  have HW' := Lib.hid hw
  have HF' := Lib.hid hf
  have HZ' := Lib.hid hz
  have HFD' := Lib.hid hfd
  clear hp hm hix hk ha hw hf hz hfd
  go_enter Tryz.func53, Tryz.ntmps53
  go_wp2_with fail
  with_reducible refine (cutPrefix_minus s _ p m HP'.out HM'.out).mono ?_
  rintro x w' ⟨rfl, rfl⟩
  go_wp2_with fail
  with_reducible refine (ix_as HIX'.out _ (-1) (by rw [arr_list]; exact HK'.out)).mono ?_
  rintro x w1 ⟨rfl, hb⟩
  have R1 := Lib.hid (((Box.new w zw 79).alloc _).below hb (by simp <;> omega))
  have T1 := Lib.hid (((Box.new (w.alloc (.cells zw 79)) #[.bool m, .string ⟨#[]⟩, .string ⟨#[]⟩, .bool false, .string ⟨#[]⟩] 79).at (b' := w.heap.size + 1) (by simp)).below hb (by simp))
  have HB1 := Lib.hid ((below_alloc2 w (.cells zw 79) (.cells #[.bool m, .string ⟨#[]⟩, .string ⟨#[]⟩, .bool false, .string ⟨#[]⟩] 79)).trans (hb.mono (B' := w.heap.size) (by simp; omega)))
  clear hb
  go_wp2_with fail
  with_reducible refine (cut_as _ _ (by rw [arr_size]; exact pl) a f true (by rw [arr_list]; exact HA'.out) (by rw [arr_list]; exact HF'.out) (by rw [arr_list]; exact HZ'.out)).mono ?_
  rintro x w2 ⟨rfl, hb⟩
  have R2 := Lib.hid (R1.out.below hb R1.out.lt)
  have T2 := Lib.hid (T1.out.below hb T1.out.lt)
  have HB2 := Lib.hid (HB1.out.trans (hb.mono (B' := w.heap.size) HB1.out.size))
  clear hb R1 T1 HB1
  obtain ⟨r0, r1, r2, r3, r4, g0, g1, g2, g3, g4, lr⟩ := R2.out.five
  obtain ⟨t0, t1, t2, t3, t4, u0, u1, u2, u3, u4, lt⟩ := T2.out.five
  go_wp2_with fail
  with_reducible refine (someDigits_as _ _ (by rw [arr_size]; unfold maxLen; omega) true (by rw [arr_list]; exact HW'.out)).mono ?_
  rintro x w' ⟨rfl, rfl⟩
  go_wp2_with fail
  with_reducible refine (someDigits_as _ _ (by rw [arr_size]; unfold maxLen; omega) true (by rw [arr_list]; exact HFD'.out)).mono ?_
  rintro x w' ⟨rfl, rfl⟩
  go_wp2
  refine bodyPost_ret (v := .tuple #[.agg #[.bool m, S a, S f, .bool false, S []], .bool true]) (by simp [results, Tryz.results53, go_sem, r0, r1, r2, r3, r4]) rfl ⟨rfl, ?_⟩
  refine below_store5 ((HB2.out.setCell ?_ _).setCell ?_ _) (Nat.le_refl _) _ _ _ _ _ <;> simp

set_option maxRecDepth 100000 in
set_option maxHeartbeats 3200000 in
theorem split_1p (s : ByteArray) (w : World) (hs : s.size ≤ 1000000) (p : List UInt8) (m : Bool) (hp : less s.data.toList = p) (hm : minus s.data.toList = m) (hix : IxOK ⟨p.toArray⟩) (k : Nat) (hk : Lib.indexAny p [101, 69] = k) (hkl : k < p.length) (q : List UInt8) (n : Bool) (hq : bareP (p.drop (k + 1)) = q) (hn : minus (p.drop (k + 1)) = n) (hpd : sdig q = false) :
    Calls Tryz.prog 53 #[.string s] w fun x w' => x = .returned (.tuple #[.agg zw, .bool false]) ∧ Below w.heap.size w w' := by
  have pl : p.length ≤ 1000000 := by rw [← hp]; unfold less; split <;> simp <;> omega
  have ql : q.length ≤ 1000000 := by rw [← hq]; unfold bareP; split <;> (try split) <;> simp <;> omega
  have HP' := Lib.hid hp
  have HM' := Lib.hid hm
  have HIX' := Lib.hid hix
  have HK' := Lib.hid hk
  have HQ' := Lib.hid hq
  have HN' := Lib.hid hn
  have HPD' := Lib.hid hpd
  clear hp hm hix hk hq hn hpd
  have c1 : (0 : Int) ≤ (k : Int) := by omega
  have c2 : (k : Int) ≤ (p.length : Int) := by omega
  have c3 : (k : Int) + 1 ≤ (p.length : Int) := by omega
  go_enter Tryz.func53, Tryz.ntmps53
  go_wp2_with fail
  with_reducible refine (cutPrefix_minus s _ p m HP'.out HM'.out).mono ?_
  rintro x w' ⟨rfl, rfl⟩
  go_wp2_with fail
  with_reducible refine (ix_as HIX'.out _ k (by rw [arr_list]; exact HK'.out)).mono ?_
  rintro x w1 ⟨rfl, hb⟩
  have R1 := Lib.hid (((Box.new w zw 79).alloc _).below hb (by simp <;> omega))
  have T1 := Lib.hid (((Box.new (w.alloc (.cells zw 79)) #[.bool m, .string ⟨#[]⟩, .string ⟨#[]⟩, .bool false, .string ⟨#[]⟩] 79).at (b' := w.heap.size + 1) (by simp)).below hb (by simp))
  have HB1 := Lib.hid ((below_alloc2 w (.cells zw 79) (.cells #[.bool m, .string ⟨#[]⟩, .string ⟨#[]⟩, .bool false, .string ⟨#[]⟩] 79)).trans (hb.mono (B' := w.heap.size) (by simp; omega)))
  clear hb
  obtain ⟨r0, r1, r2, r3, r4, g0, g1, g2, g3, g4, lr⟩ := R1.out.five
  obtain ⟨t0, t1, t2, t3, t4, u0, u1, u2, u3, u4, lt⟩ := T1.out.five
  go_wp2_with fail
  with_reducible refine (cutSign_as _ _ q n (by rw [ext_drop', arr_list]; exact HQ'.out) (by rw [ext_drop', arr_list]; exact HN'.out)).mono ?_
  rintro x w' ⟨rfl, rfl⟩
  go_wp2_with fail
  with_reducible refine (someDigits_as _ _ (by rw [arr_size]; unfold maxLen; omega) false (by rw [arr_list]; exact HPD'.out)).mono ?_
  rintro x w' ⟨rfl, rfl⟩
  go_wp2
  refine bodyPost_ret (v := .tuple #[.agg zw, .bool false]) (by simp [results, Tryz.results53, go_sem, r0, r1, r2, r3, r4]) rfl ⟨rfl, ?_⟩
  refine below_store5 ((HB1.out.setCell ?_ _).setCell ?_ _) (Nat.le_refl _) _ _ _ _ _ <;> simp

set_option maxRecDepth 100000 in
set_option maxHeartbeats 3200000 in
theorem split_1w (s : ByteArray) (w : World) (hs : s.size ≤ 1000000) (p : List UInt8) (m : Bool) (hp : less s.data.toList = p) (hm : minus s.data.toList = m) (hix : IxOK ⟨p.toArray⟩) (k : Nat) (hk : Lib.indexAny p [101, 69] = k) (hkl : k < p.length) (q : List UInt8) (n : Bool) (hq : bareP (p.drop (k + 1)) = q) (hn : minus (p.drop (k + 1)) = n) (hpd : sdig q = true) (a : List UInt8) (ha : (p.take k).takeWhile (fun c => c != 46) = a) (hw : sdig a = false) (f : List UInt8) (hf : ((p.take k).dropWhile (fun c => c != 46)).tail = f) (hz : ((p.take k).dropWhile (fun c => c != 46)).isEmpty = !false) :
    Calls Tryz.prog 53 #[.string s] w fun x w' => x = .returned (.tuple #[.agg zw, .bool false]) ∧ Below w.heap.size w w' := by
  have pl : p.length ≤ 1000000 := by rw [← hp]; unfold less; split <;> simp <;> omega
  have al : a.length ≤ 1000000 := by rw [← ha]; have h1 := (List.takeWhile_sublist (p := fun c : UInt8 => c != 46) (l := p.take k)).length_le; have h2 := List.length_take_le k p; omega
  have fl : f.length ≤ 1000000 := by rw [← hf]; have h1 := (List.dropWhile_sublist (p := fun c : UInt8 => c != 46) (l := p.take k)).length_le; rw [List.length_tail]; have h2 := List.length_take_le k p; omega
  have ql : q.length ≤ 1000000 := by rw [← hq]; unfold bareP; split <;> (try split) <;> simp <;> omega
  have HP' := Lib.hid hp
  have HM' := Lib.hid hm
  have HIX' := Lib.hid hix
  have HK' := Lib.hid hk
  have HQ' := Lib.hid hq
  have HN' := Lib.hid hn
  have HPD' := Lib.hid hpd
  have HA' := Lib.hid ha
  have HW' := Lib.hid hw
  have HF' := Lib.hid hf
  have HZ' := Lib.hid hz
  clear hp hm hix hk hq hn hpd ha hw hf hz
  have c1 : (0 : Int) ≤ (k : Int) := by omega
  have c2 : (k : Int) ≤ (p.length : Int) := by omega
  have c3 : (k : Int) + 1 ≤ (p.length : Int) := by omega
  go_enter Tryz.func53, Tryz.ntmps53
  go_wp2_with fail
  with_reducible refine (cutPrefix_minus s _ p m HP'.out HM'.out).mono ?_
  rintro x w' ⟨rfl, rfl⟩
  go_wp2_with fail
  with_reducible refine (ix_as HIX'.out _ k (by rw [arr_list]; exact HK'.out)).mono ?_
  rintro x w1 ⟨rfl, hb⟩
  have R1 := Lib.hid (((Box.new w zw 79).alloc _).below hb (by simp <;> omega))
  have T1 := Lib.hid (((Box.new (w.alloc (.cells zw 79)) #[.bool m, .string ⟨#[]⟩, .string ⟨#[]⟩, .bool false, .string ⟨#[]⟩] 79).at (b' := w.heap.size + 1) (by simp)).below hb (by simp))
  have HB1 := Lib.hid ((below_alloc2 w (.cells zw 79) (.cells #[.bool m, .string ⟨#[]⟩, .string ⟨#[]⟩, .bool false, .string ⟨#[]⟩] 79)).trans (hb.mono (B' := w.heap.size) (by simp; omega)))
  clear hb
  obtain ⟨r0, r1, r2, r3, r4, g0, g1, g2, g3, g4, lr⟩ := R1.out.five
  obtain ⟨t0, t1, t2, t3, t4, u0, u1, u2, u3, u4, lt⟩ := T1.out.five
  go_wp2_with fail
  with_reducible refine (cutSign_as _ _ q n (by rw [ext_drop', arr_list]; exact HQ'.out) (by rw [ext_drop', arr_list]; exact HN'.out)).mono ?_
  rintro x w' ⟨rfl, rfl⟩
  go_wp2_with fail
  with_reducible refine (someDigits_as _ _ (by rw [arr_size]; unfold maxLen; omega) true (by rw [arr_list]; exact HPD'.out)).mono ?_
  rintro x w' ⟨rfl, rfl⟩
  clear r0 r1 r2 r3 r4 g0 g1 g2 g3 g4 lr t0 t1 t2 t3 t4 u0 u1 u2 u3 u4 lt
  go_wp2_with fail
  with_reducible refine (cut_as _ _ (by rw [ext_take', arr_size]; have := List.length_take_le k p; omega) a f false (by rw [ext_take', arr_list]; exact HA'.out) (by rw [ext_take', arr_list]; exact HF'.out) (by rw [ext_take', arr_list]; exact HZ'.out)).mono ?_
  rintro x w2 ⟨rfl, hb⟩
  have R2 := Lib.hid (((R1.out.other (a := ⟨w.heap.size + 1, 4, none⟩) (by simp) (S q)).other (a := ⟨w.heap.size + 1, 3, none⟩) (by simp) (.bool n)).below hb (by have := R1.out.lt; simp; omega))
  have T2 := Lib.hid (((T1.out.set 4 (S q)).set 3 (.bool n)).below hb (by have := T1.out.lt; simp; omega))
  have HB2 := Lib.hid (((HB1.out.setCell (p := ⟨w.heap.size + 1, 4, none⟩) (by simp) (S q)).setCell (p := ⟨w.heap.size + 1, 3, none⟩) (by simp) (.bool n)).trans (hb.mono (B' := w.heap.size) (by have := HB1.out.size; simp; omega)))
  clear hb R1 T1 HB1
  obtain ⟨r0, r1, r2, r3, r4, g0, g1, g2, g3, g4, lr⟩ := R2.out.five
  obtain ⟨t0, t1, t2, t3, t4, u0, u1, u2, u3, u4, lt⟩ := (show Box w2 (w.heap.size + 1) #[.bool m, .string ⟨#[]⟩, .string ⟨#[]⟩, .bool n, S q] from T2.out).five
  go_wp2_with fail
  with_reducible refine (someDigits_as _ _ (by rw [arr_size]; unfold maxLen; omega) false (by rw [arr_list]; exact HW'.out)).mono ?_
  rintro x w' ⟨rfl, rfl⟩
  go_wp2
  refine bodyPost_ret (v := .tuple #[.agg zw, .bool false]) (by simp [results, Tryz.results53, go_sem, r0, r1, r2, r3, r4]) rfl ⟨rfl, ?_⟩
  exact below_store5 HB2.out (Nat.le_refl _) _ _ _ _ _

set_option maxRecDepth 100000 in
set_option maxHeartbeats 3200000 in
theorem split_1v (s : ByteArray) (w : World) (hs : s.size ≤ 1000000) (p : List UInt8) (m : Bool) (hp : less s.data.toList = p) (hm : minus s.data.toList = m) (hix : IxOK ⟨p.toArray⟩) (k : Nat) (hk : Lib.indexAny p [101, 69] = k) (hkl : k < p.length) (q : List UInt8) (n : Bool) (hq : bareP (p.drop (k + 1)) = q) (hn : minus (p.drop (k + 1)) = n) (hpd : sdig q = true) (a : List UInt8) (ha : (p.take k).takeWhile (fun c => c != 46) = a) (hw : sdig a = false) (f : List UInt8) (hf : ((p.take k).dropWhile (fun c => c != 46)).tail = f) (hz : ((p.take k).dropWhile (fun c => c != 46)).isEmpty = !true) :
    Calls Tryz.prog 53 #[.string s] w fun x w' => x = .returned (.tuple #[.agg zw, .bool false]) ∧ Below w.heap.size w w' := by
  have pl : p.length ≤ 1000000 := by rw [← hp]; unfold less; split <;> simp <;> omega
  have al : a.length ≤ 1000000 := by rw [← ha]; have h1 := (List.takeWhile_sublist (p := fun c : UInt8 => c != 46) (l := p.take k)).length_le; have h2 := List.length_take_le k p; omega
  have fl : f.length ≤ 1000000 := by rw [← hf]; have h1 := (List.dropWhile_sublist (p := fun c : UInt8 => c != 46) (l := p.take k)).length_le; rw [List.length_tail]; have h2 := List.length_take_le k p; omega
  have ql : q.length ≤ 1000000 := by rw [← hq]; unfold bareP; split <;> (try split) <;> simp <;> omega
  have HP' := Lib.hid hp
  have HM' := Lib.hid hm
  have HIX' := Lib.hid hix
  have HK' := Lib.hid hk
  have HQ' := Lib.hid hq
  have HN' := Lib.hid hn
  have HPD' := Lib.hid hpd
  have HA' := Lib.hid ha
  have HW' := Lib.hid hw
  have HF' := Lib.hid hf
  have HZ' := Lib.hid hz
  clear hp hm hix hk hq hn hpd ha hw hf hz
  have c1 : (0 : Int) ≤ (k : Int) := by omega
  have c2 : (k : Int) ≤ (p.length : Int) := by omega
  have c3 : (k : Int) + 1 ≤ (p.length : Int) := by omega
  go_enter Tryz.func53, Tryz.ntmps53
  go_wp2_with fail
  with_reducible refine (cutPrefix_minus s _ p m HP'.out HM'.out).mono ?_
  rintro x w' ⟨rfl, rfl⟩
  go_wp2_with fail
  with_reducible refine (ix_as HIX'.out _ k (by rw [arr_list]; exact HK'.out)).mono ?_
  rintro x w1 ⟨rfl, hb⟩
  have R1 := Lib.hid (((Box.new w zw 79).alloc _).below hb (by simp <;> omega))
  have T1 := Lib.hid (((Box.new (w.alloc (.cells zw 79)) #[.bool m, .string ⟨#[]⟩, .string ⟨#[]⟩, .bool false, .string ⟨#[]⟩] 79).at (b' := w.heap.size + 1) (by simp)).below hb (by simp))
  have HB1 := Lib.hid ((below_alloc2 w (.cells zw 79) (.cells #[.bool m, .string ⟨#[]⟩, .string ⟨#[]⟩, .bool false, .string ⟨#[]⟩] 79)).trans (hb.mono (B' := w.heap.size) (by simp; omega)))
  clear hb
  obtain ⟨r0, r1, r2, r3, r4, g0, g1, g2, g3, g4, lr⟩ := R1.out.five
  obtain ⟨t0, t1, t2, t3, t4, u0, u1, u2, u3, u4, lt⟩ := T1.out.five
  go_wp2_with fail
  with_reducible refine (cutSign_as _ _ q n (by rw [ext_drop', arr_list]; exact HQ'.out) (by rw [ext_drop', arr_list]; exact HN'.out)).mono ?_
  rintro x w' ⟨rfl, rfl⟩
  go_wp2_with fail
  with_reducible refine (someDigits_as _ _ (by rw [arr_size]; unfold maxLen; omega) true (by rw [arr_list]; exact HPD'.out)).mono ?_
  rintro x w' ⟨rfl, rfl⟩
  clear r0 r1 r2 r3 r4 g0 g1 g2 g3 g4 lr t0 t1 t2 t3 t4 u0 u1 u2 u3 u4 lt
  go_wp2_with fail
  with_reducible refine (cut_as _ _ (by rw [ext_take', arr_size]; have := List.length_take_le k p; omega) a f true (by rw [ext_take', arr_list]; exact HA'.out) (by rw [ext_take', arr_list]; exact HF'.out) (by rw [ext_take', arr_list]; exact HZ'.out)).mono ?_
  rintro x w2 ⟨rfl, hb⟩
  have R2 := Lib.hid (((R1.out.other (a := ⟨w.heap.size + 1, 4, none⟩) (by simp) (S q)).other (a := ⟨w.heap.size + 1, 3, none⟩) (by simp) (.bool n)).below hb (by have := R1.out.lt; simp; omega))
  have T2 := Lib.hid (((T1.out.set 4 (S q)).set 3 (.bool n)).below hb (by have := T1.out.lt; simp; omega))
  have HB2 := Lib.hid (((HB1.out.setCell (p := ⟨w.heap.size + 1, 4, none⟩) (by simp) (S q)).setCell (p := ⟨w.heap.size + 1, 3, none⟩) (by simp) (.bool n)).trans (hb.mono (B' := w.heap.size) (by have := HB1.out.size; simp; omega)))
  clear hb R1 T1 HB1
  obtain ⟨r0, r1, r2, r3, r4, g0, g1, g2, g3, g4, lr⟩ := R2.out.five
  obtain ⟨t0, t1, t2, t3, t4, u0, u1, u2, u3, u4, lt⟩ := (show Box w2 (w.heap.size + 1) #[.bool m, .string ⟨#[]⟩, .string ⟨#[]⟩, .bool n, S q] from T2.out).five
  go_wp2_with fail
  with_reducible refine (someDigits_as _ _ (by rw [arr_size]; unfold maxLen; omega) false (by rw [arr_list]; exact HW'.out)).mono ?_
  rintro x w' ⟨rfl, rfl⟩
  go_wp2
  refine bodyPost_ret (v := .tuple #[.agg zw, .bool false]) (by simp [results, Tryz.results53, go_sem, r0, r1, r2, r3, r4]) rfl ⟨rfl, ?_⟩
  exact below_store5 HB2.out (Nat.le_refl _) _ _ _ _ _

set_option maxRecDepth 100000 in
set_option maxHeartbeats 3200000 in
theorem split_1n (s : ByteArray) (w : World) (hs : s.size ≤ 1000000) (p : List UInt8) (m : Bool) (hp : less s.data.toList = p) (hm : minus s.data.toList = m) (hix : IxOK ⟨p.toArray⟩) (k : Nat) (hk : Lib.indexAny p [101, 69] = k) (hkl : k < p.length) (q : List UInt8) (n : Bool) (hq : bareP (p.drop (k + 1)) = q) (hn : minus (p.drop (k + 1)) = n) (hpd : sdig q = true) (a : List UInt8) (ha : (p.take k).takeWhile (fun c => c != 46) = a) (hw : sdig a = true) (f : List UInt8) (hf : ((p.take k).dropWhile (fun c => c != 46)).tail = f) (hz : ((p.take k).dropWhile (fun c => c != 46)).isEmpty = !false) :
    Calls Tryz.prog 53 #[.string s] w fun x w' => x = .returned (.tuple #[.agg #[.bool m, S a, S f, .bool n, S q], .bool true]) ∧ Below w.heap.size w w' := by
  have pl : p.length ≤ 1000000 := by rw [← hp]; unfold less; split <;> simp <;> omega
  have al : a.length ≤ 1000000 := by rw [← ha]; have h1 := (List.takeWhile_sublist (p := fun c : UInt8 => c != 46) (l := p.take k)).length_le; have h2 := List.length_take_le k p; omega
  have fl : f.length ≤ 1000000 := by rw [← hf]; have h1 := (List.dropWhile_sublist (p := fun c : UInt8 => c != 46) (l := p.take k)).length_le; rw [List.length_tail]; have h2 := List.length_take_le k p; omega
  have ql : q.length ≤ 1000000 := by rw [← hq]; unfold bareP; split <;> (try split) <;> simp <;> omega
  have HP' := Lib.hid hp
  have HM' := Lib.hid hm
  have HIX' := Lib.hid hix
  have HK' := Lib.hid hk
  have HQ' := Lib.hid hq
  have HN' := Lib.hid hn
  have HPD' := Lib.hid hpd
  have HA' := Lib.hid ha
  have HW' := Lib.hid hw
  have HF' := Lib.hid hf
  have HZ' := Lib.hid hz
  clear hp hm hix hk hq hn hpd ha hw hf hz
  have c1 : (0 : Int) ≤ (k : Int) := by omega
  have c2 : (k : Int) ≤ (p.length : Int) := by omega
  have c3 : (k : Int) + 1 ≤ (p.length : Int) := by omega
  go_enter Tryz.func53, Tryz.ntmps53
  go_wp2_with fail
  with_reducible refine (cutPrefix_minus s _ p m HP'.out HM'.out).mono ?_
  rintro x w' ⟨rfl, rfl⟩
  go_wp2_with fail
  with_reducible refine (ix_as HIX'.out _ k (by rw [arr_list]; exact HK'.out)).mono ?_
  rintro x w1 ⟨rfl, hb⟩
  have R1 := Lib.hid (((Box.new w zw 79).alloc _).below hb (by simp <;> omega))
  have T1 := Lib.hid (((Box.new (w.alloc (.cells zw 79)) #[.bool m, .string ⟨#[]⟩, .string ⟨#[]⟩, .bool false, .string ⟨#[]⟩] 79).at (b' := w.heap.size + 1) (by simp)).below hb (by simp))
  have HB1 := Lib.hid ((below_alloc2 w (.cells zw 79) (.cells #[.bool m, .string ⟨#[]⟩, .string ⟨#[]⟩, .bool false, .string ⟨#[]⟩] 79)).trans (hb.mono (B' := w.heap.size) (by simp; omega)))
  clear hb
  obtain ⟨r0, r1, r2, r3, r4, g0, g1, g2, g3, g4, lr⟩ := R1.out.five
  obtain ⟨t0, t1, t2, t3, t4, u0, u1, u2, u3, u4, lt⟩ := T1.out.five
  go_wp2_with fail
  with_reducible refine (cutSign_as _ _ q n (by rw [ext_drop', arr_list]; exact HQ'.out) (by rw [ext_drop', arr_list]; exact HN'.out)).mono ?_
  rintro x w' ⟨rfl, rfl⟩
  go_wp2_with fail
  with_reducible refine (someDigits_as _ _ (by rw [arr_size]; unfold maxLen; omega) true (by rw [arr_list]; exact HPD'.out)).mono ?_
  rintro x w' ⟨rfl, rfl⟩
  clear r0 r1 r2 r3 r4 g0 g1 g2 g3 g4 lr t0 t1 t2 t3 t4 u0 u1 u2 u3 u4 lt
  go_wp2_with fail
  with_reducible refine (cut_as _ _ (by rw [ext_take', arr_size]; have := List.length_take_le k p; omega) a f false (by rw [ext_take', arr_list]; exact HA'.out) (by rw [ext_take', arr_list]; exact HF'.out) (by rw [ext_take', arr_list]; exact HZ'.out)).mono ?_
  rintro x w2 ⟨rfl, hb⟩
  have R2 := Lib.hid (((R1.out.other (a := ⟨w.heap.size + 1, 4, none⟩) (by simp) (S q)).other (a := ⟨w.heap.size + 1, 3, none⟩) (by simp) (.bool n)).below hb (by have := R1.out.lt; simp; omega))
  have T2 := Lib.hid (((T1.out.set 4 (S q)).set 3 (.bool n)).below hb (by have := T1.out.lt; simp; omega))
  have HB2 := Lib.hid (((HB1.out.setCell (p := ⟨w.heap.size + 1, 4, none⟩) (by simp) (S q)).setCell (p := ⟨w.heap.size + 1, 3, none⟩) (by simp) (.bool n)).trans (hb.mono (B' := w.heap.size) (by have := HB1.out.size; simp; omega)))
  clear hb R1 T1 HB1
  obtain ⟨r0, r1, r2, r3, r4, g0, g1, g2, g3, g4, lr⟩ := R2.out.five
  obtain ⟨t0, t1, t2, t3, t4, u0, u1, u2, u3, u4, lt⟩ := (show Box w2 (w.heap.size + 1) #[.bool m, .string ⟨#[]⟩, .string ⟨#[]⟩, .bool n, S q] from T2.out).five
  go_wp2_with fail
  with_reducible refine (someDigits_as _ _ (by rw [arr_size]; unfold maxLen; omega) true (by rw [arr_list]; exact HW'.out)).mono ?_
  rintro x w' ⟨rfl, rfl⟩
  go_wp2
  refine bodyPost_ret (v := .tuple #[.agg #[.bool m, S a, S f, .bool n, S q], .bool true]) (by simp [results, Tryz.results53, go_sem, r0, r1, r2, r3, r4]) rfl ⟨rfl, ?_⟩
  refine below_store5 ((HB2.out.setCell ?_ _).setCell ?_ _) (Nat.le_refl _) _ _ _ _ _ <;> simp

set_option maxRecDepth 100000 in
set_option maxHeartbeats 3200000 in
theorem split_1f (s : ByteArray) (w : World) (hs : s.size ≤ 1000000) (p : List UInt8) (m : Bool) (hp : less s.data.toList = p) (hm : minus s.data.toList = m) (hix : IxOK ⟨p.toArray⟩) (k : Nat) (hk : Lib.indexAny p [101, 69] = k) (hkl : k < p.length) (q : List UInt8) (n : Bool) (hq : bareP (p.drop (k + 1)) = q) (hn : minus (p.drop (k + 1)) = n) (hpd : sdig q = true) (a : List UInt8) (ha : (p.take k).takeWhile (fun c => c != 46) = a) (hw : sdig a = true) (f : List UInt8) (hf : ((p.take k).dropWhile (fun c => c != 46)).tail = f) (hz : ((p.take k).dropWhile (fun c => c != 46)).isEmpty = !true) (hfd : sdig f = false) :
    Calls Tryz.prog 53 #[.string s] w fun x w' => x = .returned (.tuple #[.agg zw, .bool false]) ∧ Below w.heap.size w w' := by
  have pl : p.length ≤ 1000000 := by rw [← hp]; unfold less; split <;> simp <;> omega
  have al : a.length ≤ 1000000 := by rw [← ha]; have h1 := (List.takeWhile_sublist (p := fun c : UInt8 => c != 46) (l := p.take k)).length_le; have h2 := List.length_take_le k p; omega
  have fl : f.length ≤ 1000000 := by rw [← hf]; have h1 := (List.dropWhile_sublist (p := fun c : UInt8 => c != 46) (l := p.take k)).length_le; rw [List.length_tail]; have h2 := List.length_take_le k p; omega
  have ql : q.length ≤ 1000000 := by rw [← hq]; unfold bareP; split <;> (try split) <;> simp <;> omega
  have HP' := Lib.hid hp
  have HM' := Lib.hid hm
  have HIX' := Lib.hid hix
  have HK' := Lib.hid hk
  have HQ' := Lib.hid hq
  have HN' := Lib.hid hn
  have HPD' := Lib.hid hpd
  have HA' := Lib.hid ha
  have HW' := Lib.hid hw
  have HF' := Lib.hid hf
  have HZ' := Lib.hid hz
  have HFD' := Lib.hid hfd
  clear hp hm hix hk hq hn hpd ha hw hf hz hfd
  have c1 : (0 : Int) ≤ (k : Int) := by omega
  have c2 : (k : Int) ≤ (p.length : Int) := by omega
  have c3 : (k : Int) + 1 ≤ (p.length : Int) := by omega
  go_enter Tryz.func53, Tryz.ntmps53
  go_wp2_with fail
  with_reducible refine (cutPrefix_minus s _ p m HP'.out HM'.out).mono ?_
  rintro x w' ⟨rfl, rfl⟩
  go_wp2_with fail
  with_reducible refine (ix_as HIX'.out _ k (by rw [arr_list]; exact HK'.out)).mono ?_
  rintro x w1 ⟨rfl, hb⟩
  have R1 := Lib.hid (((Box.new w zw 79).alloc _).below hb (by simp <;> omega))
  have T1 := Lib.hid (((Box.new (w.alloc (.cells zw 79)) #[.bool m, .string ⟨#[]⟩, .string ⟨#[]⟩, .bool false, .string ⟨#[]⟩] 79).at (b' := w.heap.size + 1) (by simp)).below hb (by simp))
  have HB1 := Lib.hid ((below_alloc2 w (.cells zw 79) (.cells #[.bool m, .string ⟨#[]⟩, .string ⟨#[]⟩, .bool false, .string ⟨#[]⟩] 79)).trans (hb.mono (B' := w.heap.size) (by simp; omega)))
  clear hb
  obtain ⟨r0, r1, r2, r3, r4, g0, g1, g2, g3, g4, lr⟩ := R1.out.five
  obtain ⟨t0, t1, t2, t3, t4, u0, u1, u2, u3, u4, lt⟩ := T1.out.five
  go_wp2_with fail
  with_reducible refine (cutSign_as _ _ q n (by rw [ext_drop', arr_list]; exact HQ'.out) (by rw [ext_drop', arr_list]; exact HN'.out)).mono ?_
  rintro x w' ⟨rfl, rfl⟩
  go_wp2_with fail
  with_reducible refine (someDigits_as _ _ (by rw [arr_size]; unfold maxLen; omega) true (by rw [arr_list]; exact HPD'.out)).mono ?_
  rintro x w' ⟨rfl, rfl⟩
  clear r0 r1 r2 r3 r4 g0 g1 g2 g3 g4 lr t0 t1 t2 t3 t4 u0 u1 u2 u3 u4 lt
  go_wp2_with fail
  with_reducible refine (cut_as _ _ (by rw [ext_take', arr_size]; have := List.length_take_le k p; omega) a f true (by rw [ext_take', arr_list]; exact HA'.out) (by rw [ext_take', arr_list]; exact HF'.out) (by rw [ext_take', arr_list]; exact HZ'.out)).mono ?_
  rintro x w2 ⟨rfl, hb⟩
  have R2 := Lib.hid (((R1.out.other (a := ⟨w.heap.size + 1, 4, none⟩) (by simp) (S q)).other (a := ⟨w.heap.size + 1, 3, none⟩) (by simp) (.bool n)).below hb (by have := R1.out.lt; simp; omega))
  have T2 := Lib.hid (((T1.out.set 4 (S q)).set 3 (.bool n)).below hb (by have := T1.out.lt; simp; omega))
  have HB2 := Lib.hid (((HB1.out.setCell (p := ⟨w.heap.size + 1, 4, none⟩) (by simp) (S q)).setCell (p := ⟨w.heap.size + 1, 3, none⟩) (by simp) (.bool n)).trans (hb.mono (B' := w.heap.size) (by have := HB1.out.size; simp; omega)))
  clear hb R1 T1 HB1
  obtain ⟨r0, r1, r2, r3, r4, g0, g1, g2, g3, g4, lr⟩ := R2.out.five
  obtain ⟨t0, t1, t2, t3, t4, u0, u1, u2, u3, u4, lt⟩ := (show Box w2 (w.heap.size + 1) #[.bool m, .string ⟨#[]⟩, .string ⟨#[]⟩, .bool n, S q] from T2.out).five
  go_wp2_with fail
  with_reducible refine (someDigits_as _ _ (by rw [arr_size]; unfold maxLen; omega) true (by rw [arr_list]; exact HW'.out)).mono ?_
  rintro x w' ⟨rfl, rfl⟩
  go_wp2_with fail
  with_reducible refine (someDigits_as _ _ (by rw [arr_size]; unfold maxLen; omega) false (by rw [arr_list]; exact HFD'.out)).mono ?_
  rintro x w' ⟨rfl, rfl⟩
  go_wp2
  refine bodyPost_ret (v := .tuple #[.agg zw, .bool false]) (by simp [results, Tryz.results53, go_sem, r0, r1, r2, r3, r4]) rfl ⟨rfl, ?_⟩
  exact below_store5 HB2.out (Nat.le_refl _) _ _ _ _ _

set_option maxRecDepth 100000 in
set_option maxHeartbeats 3200000 in
theorem split_1y (s : ByteArray) (w : World) (hs : s.size ≤ 1000000) (p : List UInt8) (m : Bool) (hp : less s.data.toList = p) (hm : minus s.data.toList = m) (hix : IxOK ⟨p.toArray⟩) (k : Nat) (hk : Lib.indexAny p [101, 69] = k) (hkl : k < p.length) (q : List UInt8) (n : Bool) (hq : bareP (p.drop (k + 1)) = q) (hn : minus (p.drop (k + 1)) = n) (hpd : sdig q = true) (a : List UInt8) (ha : (p.take k).takeWhile (fun c => c != 46) = a) (hw : sdig a = true) (f : List UInt8) (hf : ((p.take k).dropWhile (fun c => c != 46)).tail = f) (hz : ((p.take k).dropWhile (fun c => c != 46)).isEmpty = !true) (hfd : sdig f = true) :
    Calls Tryz.prog 53 #[.string s] w fun x w' => x = .returned (.tuple #[.agg #[.bool m, S a, S f, .bool n, S q], .bool true]) ∧ Below w.heap.size w w' := by
  have pl : p.length ≤ 1000000 := by rw [← hp]; unfold less; split <;> simp <;> omega
  have al : a.length ≤ 1000000 := by rw [← ha]; have h1 := (List.takeWhile_sublist (p := fun c : UInt8 => c != 46) (l := p.take k)).length_le; have h2 := List.length_take_le k p; omega
  have fl : f.length ≤ 1000000 := by rw [← hf]; have h1 := (List.dropWhile_sublist (p := fun c : UInt8 => c != 46) (l := p.take k)).length_le; rw [List.length_tail]; have h2 := List.length_take_le k p; omega
  have ql : q.length ≤ 1000000 := by rw [← hq]; unfold bareP; split <;> (try split) <;> simp <;> omega
  have HP' := Lib.hid hp
  have HM' := Lib.hid hm
  have HIX' := Lib.hid hix
  have HK' := Lib.hid hk
  have HQ' := Lib.hid hq
  have HN' := Lib.hid hn
  have HPD' := Lib.hid hpd
  have HA' := Lib.hid ha
  have HW' := Lib.hid hw
  have HF' := Lib.hid hf
  have HZ' := Lib.hid hz
  have HFD' := Lib.hid hfd
  clear hp hm hix hk hq hn hpd ha hw hf hz hfd
  have c1 : (0 : Int) ≤ (k : Int) := by omega
  have c2 : (k : Int) ≤ (p.length : Int) := by omega
  have c3 : (k : Int) + 1 ≤ (p.length : Int) := by omega
  go_enter Tryz.func53, Tryz.ntmps53
  go_wp2_with fail
  with_reducible refine (cutPrefix_minus s _ p m HP'.out HM'.out).mono ?_
  rintro x w' ⟨rfl, rfl⟩
  go_wp2_with fail
  with_reducible refine (ix_as HIX'.out _ k (by rw [arr_list]; exact HK'.out)).mono ?_
  rintro x w1 ⟨rfl, hb⟩
  have R1 := Lib.hid (((Box.new w zw 79).alloc _).below hb (by simp <;> omega))
  have T1 := Lib.hid (((Box.new (w.alloc (.cells zw 79)) #[.bool m, .string ⟨#[]⟩, .string ⟨#[]⟩, .bool false, .string ⟨#[]⟩] 79).at (b' := w.heap.size + 1) (by simp)).below hb (by simp))
  have HB1 := Lib.hid ((below_alloc2 w (.cells zw 79) (.cells #[.bool m, .string ⟨#[]⟩, .string ⟨#[]⟩, .bool false, .string ⟨#[]⟩] 79)).trans (hb.mono (B' := w.heap.size) (by simp; omega)))
  clear hb
  obtain ⟨r0, r1, r2, r3, r4, g0, g1, g2, g3, g4, lr⟩ := R1.out.five
  obtain ⟨t0, t1, t2, t3, t4, u0, u1, u2, u3, u4, lt⟩ := T1.out.five
  go_wp2_with fail
  with_reducible refine (cutSign_as _ _ q n (by rw [ext_drop', arr_list]; exact HQ'.out) (by rw [ext_drop', arr_list]; exact HN'.out)).mono ?_
  rintro x w' ⟨rfl, rfl⟩
  go_wp2_with fail
  with_reducible refine (someDigits_as _ _ (by rw [arr_size]; unfold maxLen; omega) true (by rw [arr_list]; exact HPD'.out)).mono ?_
  rintro x w' ⟨rfl, rfl⟩
  clear r0 r1 r2 r3 r4 g0 g1 g2 g3 g4 lr t0 t1 t2 t3 t4 u0 u1 u2 u3 u4 lt
  go_wp2_with fail
  with_reducible refine (cut_as _ _ (by rw [ext_take', arr_size]; have := List.length_take_le k p; omega) a f true (by rw [ext_take', arr_list]; exact HA'.out) (by rw [ext_take', arr_list]; exact HF'.out) (by rw [ext_take', arr_list]; exact HZ'.out)).mono ?_
  rintro x w2 ⟨rfl, hb⟩
  have R2 := Lib.hid (((R1.out.other (a := ⟨w.heap.size + 1, 4, none⟩) (by simp) (S q)).other (a := ⟨w.heap.size + 1, 3, none⟩) (by simp) (.bool n)).below hb (by have := R1.out.lt; simp; omega))
  have T2 := Lib.hid (((T1.out.set 4 (S q)).set 3 (.bool n)).below hb (by have := T1.out.lt; simp; omega))
  have HB2 := Lib.hid (((HB1.out.setCell (p := ⟨w.heap.size + 1, 4, none⟩) (by simp) (S q)).setCell (p := ⟨w.heap.size + 1, 3, none⟩) (by simp) (.bool n)).trans (hb.mono (B' := w.heap.size) (by have := HB1.out.size; simp; omega)))
  clear hb R1 T1 HB1
  obtain ⟨r0, r1, r2, r3, r4, g0, g1, g2, g3, g4, lr⟩ := R2.out.five
  obtain ⟨t0, t1, t2, t3, t4, u0, u1, u2, u3, u4, lt⟩ := (show Box w2 (w.heap.size + 1) #[.bool m, .string ⟨#[]⟩, .string ⟨#[]⟩, .bool n, S q] from T2.out).five
  go_wp2_with fail
  with_reducible refine (someDigits_as _ _ (by rw [arr_size]; unfold maxLen; omega) true (by rw [arr_list]; exact HW'.out)).mono ?_
  rintro x w' ⟨rfl, rfl⟩
  go_wp2_with fail
  with_reducible refine (someDigits_as _ _ (by rw [arr_size]; unfold maxLen; omega) true (by rw [arr_list]; exact HFD'.out)).mono ?_
  rintro x w' ⟨rfl, rfl⟩
  go_wp2
  refine bodyPost_ret (v := .tuple #[.agg #[.bool m, S a, S f, .bool n, S q], .bool true]) (by simp [results, Tryz.results53, go_sem, r0, r1, r2, r3, r4]) rfl ⟨rfl, ?_⟩
  refine below_store5 ((HB2.out.setCell ?_ _).setCell ?_ _) (Nat.le_refl _) _ _ _ _ _ <;> simp

def okV (l : List UInt8) : Value := .agg #[.bool (minus l), S (whole l), S (frac l), .bool (pneg l), S (pw l)]
theorem sdig_no {l : List UInt8} (h : ¬ sdig l = true) : sdig l = false := by simpa using h
/-- The pieces of a text, if it is a decimal's. -/
theorem split_ok (s : ByteArray) (w : World) (hs : s.size ≤ 1000000) (hix : IxOK ⟨(less s.data.toList).toArray⟩) (h : okF s.data.toList = true) :
    Calls Tryz.prog 53 #[.string s] w fun x w' => x = .returned (.tuple #[okV s.data.toList, .bool true]) ∧ Below w.heap.size w w' := by
  obtain ⟨l, hl⟩ : ∃ l, s.data.toList = l := ⟨_, rfl⟩
  rw [hl] at h hix ⊢
  unfold okF at h
  simp only [Bool.and_eq_true, Bool.or_eq_true] at h
  obtain ⟨h1, h2, h3⟩ := h
  unfold okV
  rcases indexAny_eE (less l) with ⟨i1, i2, i3⟩ | ⟨k, i1, i2, i3, i4, i5⟩
  · have eA' : eA l = less l := i3
    have q0 : pw l = [] := by unfold pw eB; rw [i2]; rfl
    have n0 : pneg l = false := by unfold pneg eB; rw [i2]; rfl
    rw [q0, n0]
    cases hb : (pB l).isEmpty with
    | true => exact split_0n s w hs (less l) (minus l) (by rw [hl]) (by rw [hl]) hix i1 (whole l) (by rw [← eA']; rfl) h2 (frac l) (by rw [← eA']; rfl) (by rw [← eA']; exact hb)
    | false =>
      rw [hb] at h3
      exact split_0y s w hs (less l) (minus l) (by rw [hl]) (by rw [hl]) hix i1 (whole l) (by rw [← eA']; rfl) h2 (frac l) (by rw [← eA']; rfl) (by rw [← eA']; exact hb) (by simpa using h3)
  · have eA' : eA l = (less l).take k := i3
    have eB' : (eB l).tail = (less l).drop (k + 1) := i5
    have hp : sdig (pw l) = true := by
      rcases h1 with h1 | h1
      · have : eB l = (less l).drop k := i4
        rw [this, List.isEmpty_iff] at h1
        have := congrArg List.length h1
        simp at this; omega
      · exact h1
    cases hb : (pB l).isEmpty with
    | true => exact split_1n s w hs (less l) (minus l) (by rw [hl]) (by rw [hl]) hix k i1 i2 (pw l) (pneg l) (by rw [← eB']; rfl) (by rw [← eB']; rfl) hp (whole l) (by rw [← eA']; rfl) h2 (frac l) (by rw [← eA']; rfl) (by rw [← eA']; exact hb)
    | false =>
      rw [hb] at h3
      exact split_1y s w hs (less l) (minus l) (by rw [hl]) (by rw [hl]) hix k i1 i2 (pw l) (pneg l) (by rw [← eB']; rfl) (by rw [← eB']; rfl) hp (whole l) (by rw [← eA']; rfl) h2 (frac l) (by rw [← eA']; rfl) (by rw [← eA']; exact hb) (by simpa using h3)
/-- Other texts are no decimals. -/
theorem split_no (s : ByteArray) (w : World) (hs : s.size ≤ 1000000) (hix : IxOK ⟨(less s.data.toList).toArray⟩) (h : okF s.data.toList = false) :
    Calls Tryz.prog 53 #[.string s] w fun x w' => x = .returned (.tuple #[.agg zw, .bool false]) ∧ Below w.heap.size w w' := by
  obtain ⟨l, hl⟩ : ∃ l, s.data.toList = l := ⟨_, rfl⟩
  rw [hl] at h hix
  unfold okF at h
  rcases indexAny_eE (less l) with ⟨i1, i2, i3⟩ | ⟨k, i1, i2, i3, i4, i5⟩
  · have eA' : eA l = less l := i3
    have e0 : (eB l).isEmpty = true := by unfold eB; rw [i2]; rfl
    rw [e0] at h
    by_cases hw : sdig (whole l) = true
    · rw [hw] at h
      cases hb : (pB l).isEmpty with
      | true => rw [hb] at h; simp at h
      | false =>
        rw [hb] at h
        exact split_0f s w hs (less l) (minus l) (by rw [hl]) (by rw [hl]) hix i1 (whole l) (by rw [← eA']; rfl) hw (frac l) (by rw [← eA']; rfl) (by rw [← eA']; exact hb) (by simpa using h)
    · cases hb : (pB l).isEmpty with
      | true => exact split_0w s w hs (less l) (minus l) (by rw [hl]) (by rw [hl]) hix i1 (whole l) (by rw [← eA']; rfl) (sdig_no hw) (frac l) (by rw [← eA']; rfl) (by rw [← eA']; exact hb)
      | false => exact split_0v s w hs (less l) (minus l) (by rw [hl]) (by rw [hl]) hix i1 (whole l) (by rw [← eA']; rfl) (sdig_no hw) (frac l) (by rw [← eA']; rfl) (by rw [← eA']; exact hb)
  · have eA' : eA l = (less l).take k := i3
    have eB' : (eB l).tail = (less l).drop (k + 1) := i5
    have e0 : (eB l).isEmpty = false := by
      have : eB l = (less l).drop k := i4
      rw [this, List.isEmpty_eq_false_iff]
      intro h1
      have := congrArg List.length h1
      simp at this; omega
    rw [e0] at h
    by_cases hp : sdig (pw l) = true
    · rw [hp] at h
      by_cases hw : sdig (whole l) = true
      · rw [hw] at h
        cases hb : (pB l).isEmpty with
        | true => rw [hb] at h; simp at h
        | false =>
          rw [hb] at h
          exact split_1f s w hs (less l) (minus l) (by rw [hl]) (by rw [hl]) hix k i1 i2 (pw l) (pneg l) (by rw [← eB']; rfl) (by rw [← eB']; rfl) hp (whole l) (by rw [← eA']; rfl) hw (frac l) (by rw [← eA']; rfl) (by rw [← eA']; exact hb) (by simpa using h)
      · cases hb : (pB l).isEmpty with
        | true => exact split_1w s w hs (less l) (minus l) (by rw [hl]) (by rw [hl]) hix k i1 i2 (pw l) (pneg l) (by rw [← eB']; rfl) (by rw [← eB']; rfl) hp (whole l) (by rw [← eA']; rfl) (sdig_no hw) (frac l) (by rw [← eA']; rfl) (by rw [← eA']; exact hb)
        | false => exact split_1v s w hs (less l) (minus l) (by rw [hl]) (by rw [hl]) hix k i1 i2 (pw l) (pneg l) (by rw [← eB']; rfl) (by rw [← eB']; rfl) hp (whole l) (by rw [← eA']; rfl) (sdig_no hw) (frac l) (by rw [← eA']; rfl) (by rw [← eA']; exact hb)
    · exact split_1p s w hs (less l) (minus l) (by rw [hl]) (by rw [hl]) hix k i1 i2 (pw l) (pneg l) (by rw [← eB']; rfl) (by rw [← eB']; rfl) (sdig_no hp)
end Go.Proofs.YtfbfjkacaadbpaaGreatDoor
