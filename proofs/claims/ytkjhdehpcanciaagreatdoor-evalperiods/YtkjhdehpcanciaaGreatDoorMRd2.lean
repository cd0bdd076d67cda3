/- RdI, RdJ, in one text. -/
import Derived.Test.YtkjhdehpcanciaaGreatDoorMRd1
namespace Go.Proofs.YtkjhdehpcanciaaGreatDoor
open Go.RowKit Florin
set_option linter.unusedVariables false
set_option linter.unusedSimpArgs false
attribute [local go_sem ↓] Go.wp_at_zero Go.wp_at_succ

set_option maxRecDepth 100000 in
set_option maxHeartbeats 3200000 in
theorem rel_b (c : Int) (re : List UInt8) (b : Nat) (T : ByteArray) (p : Nat) (f : Nat → Bool) (n : Nat) (l : List UInt8) (w : World) (h : Rd w b T p f n) (ha : At T p l) (hT : T.size ≤ 1000000) (hn : n ≤ 200) (hO : operP n l = .bad c re) :
    Calls Tryz.prog 135 #[.pointer (some ⟨b, 0, none⟩)] w (Told b T f (n + 1) w (fun w' x v => ∃ u, v = .agg #[.int .u8 ((x.op : UInt8).toNat : Int), .int .i64 ((x.mod : Nat) : Int), .bool x.nt, u] ∧ Rngs w' w.heap.size x.rs u) (relP n l)) := by
  have R0 := Lib.hid h
  have A0 := Lib.hid ha
  have HhO := Lib.hid hO
  have HX : Hid (relP n l = .bad c re) := Lib.hid (by unfold relP; rw [hO])
  clear h ha hO
  go_enter Tryz.func135, Tryz.ntmps135
  go_wp2_with fail
  with_reducible refine (oper_as b T p f n l _ (R0.out.alloc _) A0.out hT hn).mono ?_
  intro x w1 ht
  rw [HhO.out] at ht
  obtain ⟨qe, rfl, hat, hg⟩ := ht
  have HGE := Lib.hid (HeldR.keep (HeldR.alloc (HeldR.refl R0.out.lt) (w.heap.size) #[.int .u8 0, .int .i64 0, .bool false, .slice none 0 0] 50 (by first | rfl | simp)) hg).gr
  have HAE := Lib.hid hat
  clear hat hg
  go_wp2
  refine ⟨rfl, ?_⟩
  show Told _ _ _ _ _ _ (relP n l) _ _
  rw [HX.out]
  exact ⟨qe, rfl, HAE.out, HGE.out⟩

set_option maxRecDepth 100000 in
set_option maxHeartbeats 3200000 in
theorem rel_bad_None_None (op : UInt8) (r0 : List UInt8) (c : Int) (re : List UInt8) (b : Nat) (T : ByteArray) (p : Nat) (f : Nat → Bool) (n : Nat) (l : List UInt8) (w : World) (h : Rd w b T p f n) (ha : At T p l) (hT : T.size ≤ 1000000) (hn : n ≤ 200) (hO : operP n l = .ok op r0) (hk : tk [37] r0 = true) (hN : numP 1 (tkR [37] r0) = .bad c re) :
    Calls Tryz.prog 135 #[.pointer (some ⟨b, 0, none⟩)] w (Told b T f (n + 1) w (fun w' x v => ∃ u, v = .agg #[.int .u8 ((x.op : UInt8).toNat : Int), .int .i64 ((x.mod : Nat) : Int), .bool x.nt, u] ∧ Rngs w' w.heap.size x.rs u) (relP n l)) := by
  have R0 := Lib.hid h
  have A0 := Lib.hid ha
  have HhO := Lib.hid hO
  have Hhk := Lib.hid hk
  have HhN := Lib.hid hN
  have HX : Hid (relP n l = .bad c re) := Lib.hid (by have hm : modP r0 = .bad c re := (by unfold modP; rw [if_pos hk]; exact hN); unfold relP; rw [hO]; simp only; rw [hm])
  clear h ha hO hk hN
  go_enter Tryz.func135, Tryz.ntmps135
  go_wp2_with fail
  with_reducible refine (oper_as b T p f n l _ (R0.out.alloc _) A0.out hT hn).mono ?_
  intro x w1 ht
  rw [HhO.out] at ht
  obtain ⟨v1, q1, rfl, hv, hat, hr, hg⟩ := ht
  obtain rfl := hv
  have H1 : Hid (HeldR w b [(w.heap.size, #[.int .u8 0, .int .i64 0, .bool false, .slice none 0 0], 50)] w1) := Lib.hid (HeldR.keep (HeldR.alloc (HeldR.refl R0.out.lt) (w.heap.size) #[.int .u8 0, .int .i64 0, .bool false, .slice none 0 0] 50 (by first | rfl | simp)) hg)
  have R1 := Lib.hid hr
  have A1 := Lib.hid hat
  clear hat hr hg
  have rc0 := R1.out.c0
  have rc1 := R1.out.c1
  have rc8 := R1.out.c8
  have rz1 := R1.out.z 1
  have rz8 := R1.out.z 9
  have rl := R1.out.lt
  go_wp2_with fail
  with_reducible refine (takes_true [37] b T _ f (n + 1) r0 _ (R1.out.alloc _) A1.out hT Hhk.out).mono ?_
  rintro x w2 ⟨q2, rfl, hat, hr, hg⟩
  have H2 : Hid (HeldR w b [(w1.heap.size, #[.int .u8 ((op : UInt8).toNat : Int), .int .i64 0, .bool false, .slice none 0 0], 50), (w.heap.size, #[.int .u8 0, .int .i64 0, .bool false, .slice none 0 0], 50)] w2) := Lib.hid (HeldR.keep (HeldR.alloc H1.out (w1.heap.size) #[.int .u8 ((op : UInt8).toNat : Int), .int .i64 0, .bool false, .slice none 0 0] 50 (by first | rfl | simp)) hg)
  clear rc0 rc1 rc8 rz1 rz8 rl
  have R2 := Lib.hid hr
  have A2 := Lib.hid hat
  clear hat hr hg H1 R1 A1
  have by0 : w2.cell? ⟨w1.heap.size, 0, none⟩ = some (.int .u8 ((op : UInt8).toNat : Int)) := (H2.out.f (List.Mem.head _)).box.cell 0
  have byz0 : w2.frozen? ⟨w1.heap.size, 0, none⟩ = false := (H2.out.f (List.Mem.head _)).box.frozen 0
  have by1 : w2.cell? ⟨w1.heap.size, 1, none⟩ = some (.int .i64 0) := (H2.out.f (List.Mem.head _)).box.cell 1
  have byz1 : w2.frozen? ⟨w1.heap.size, 1, none⟩ = false := (H2.out.f (List.Mem.head _)).box.frozen 1
  have by2 : w2.cell? ⟨w1.heap.size, 2, none⟩ = some (.bool false) := (H2.out.f (List.Mem.head _)).box.cell 2
  have byz2 : w2.frozen? ⟨w1.heap.size, 2, none⟩ = false := (H2.out.f (List.Mem.head _)).box.frozen 2
  have by3 : w2.cell? ⟨w1.heap.size, 3, none⟩ = some (.slice none 0 0) := (H2.out.f (List.Mem.head _)).box.cell 3
  have byz3 : w2.frozen? ⟨w1.heap.size, 3, none⟩ = false := (H2.out.f (List.Mem.head _)).box.frozen 3
  have byl : w1.heap.size < w2.heap.size := (H2.out.f (List.Mem.head _)).box.lt
  have rc0 := R2.out.c0
  have rc1 := R2.out.c1
  have rc8 := R2.out.c8
  have rz1 := R2.out.z 1
  have rz8 := R2.out.z 9
  have rl := R2.out.lt
  go_wp2_with fail
  with_reducible refine (num_1 b T _ f (n + 1) (tkR [37] r0) _ R2.out A2.out hT).mono ?_
  intro x w3 ht
  rw [HhN.out] at ht
  obtain ⟨qe, rfl, hat, hg⟩ := ht
  have HGE := Lib.hid (HeldR.keep H2.out hg).gr
  have HAE := Lib.hid hat
  clear hat hg
  clear by0 byz0 by1 byz1 by2 byz2 by3 byz3 byl rc0 rc1 rc8 rz1 rz8 rl
  go_wp2
  refine ⟨rfl, ?_⟩
  show Told _ _ _ _ _ _ (relP n l) _ _
  rw [HX.out]
  exact ⟨qe, rfl, HAE.out, HGE.out⟩

set_option maxRecDepth 100000 in
set_option maxHeartbeats 3200000 in
theorem rel_no_bad_None (op : UInt8) (r0 : List UInt8) (b : Nat) (T : ByteArray) (p : Nat) (f : Nat → Bool) (n : Nat) (l : List UInt8) (w : World) (h : Rd w b T p f n) (ha : At T p l) (hT : T.size ≤ 1000000) (hn : n ≤ 200) (hO : operP n l = .ok op r0) (hk : tk [37] r0 = false) (hs : tk [33, 61] (tkR [37] r0) = false) (he : tk [61] (tkR [33, 61] (tkR [37] r0)) = false) :
    Calls Tryz.prog 135 #[.pointer (some ⟨b, 0, none⟩)] w (Told b T f (n + 1) w (fun w' x v => ∃ u, v = .agg #[.int .u8 ((x.op : UInt8).toNat : Int), .int .i64 ((x.mod : Nat) : Int), .bool x.nt, u] ∧ Rngs w' w.heap.size x.rs u) (relP n l)) := by
  have R0 := Lib.hid h
  have A0 := Lib.hid ha
  have HhO := Lib.hid hO
  have Hhk := Lib.hid hk
  have Hhs := Lib.hid hs
  have Hhe := Lib.hid he
  have HX : Hid (relP n l = .bad 1 (tkR [61] (tkR [33, 61] (tkR [37] r0)))) := Lib.hid (by have hm : modP r0 = .ok 0 (tkR [37] r0) := (by unfold modP; rw [if_neg (by rw [hk]; decide)]); have hg : signP (tkR [37] r0) = .bad 1 (tkR [61] (tkR [33, 61] (tkR [37] r0))) := (by unfold signP; rw [if_neg (by rw [hs]; decide), if_neg (by rw [he]; decide)]); unfold relP; rw [hO]; simp only; rw [hm]; simp only; rw [hg])
  clear h ha hO hk hs he
  go_enter Tryz.func135, Tryz.ntmps135
  go_wp2_with fail
  with_reducible refine (oper_as b T p f n l _ (R0.out.alloc _) A0.out hT hn).mono ?_
  intro x w1 ht
  rw [HhO.out] at ht
  obtain ⟨v1, q1, rfl, hv, hat, hr, hg⟩ := ht
  obtain rfl := hv
  have H1 : Hid (HeldR w b [(w.heap.size, #[.int .u8 0, .int .i64 0, .bool false, .slice none 0 0], 50)] w1) := Lib.hid (HeldR.keep (HeldR.alloc (HeldR.refl R0.out.lt) (w.heap.size) #[.int .u8 0, .int .i64 0, .bool false, .slice none 0 0] 50 (by first | rfl | simp)) hg)
  have R1 := Lib.hid hr
  have A1 := Lib.hid hat
  clear hat hr hg
  have rc0 := R1.out.c0
  have rc1 := R1.out.c1
  have rc8 := R1.out.c8
  have rz1 := R1.out.z 1
  have rz8 := R1.out.z 9
  have rl := R1.out.lt
  go_wp2_with fail
  with_reducible refine (takes_false [37] b T _ f (n + 1) r0 _ (R1.out.alloc _) A1.out hT Hhk.out).mono ?_
  rintro x w2 ⟨q2, rfl, hat, hr, hg⟩
  have H2 : Hid (HeldR w b [(w1.heap.size, #[.int .u8 ((op : UInt8).toNat : Int), .int .i64 0, .bool false, .slice none 0 0], 50), (w.heap.size, #[.int .u8 0, .int .i64 0, .bool false, .slice none 0 0], 50)] w2) := Lib.hid (HeldR.keep (HeldR.alloc H1.out (w1.heap.size) #[.int .u8 ((op : UInt8).toNat : Int), .int .i64 0, .bool false, .slice none 0 0] 50 (by first | rfl | simp)) hg)
  clear rc0 rc1 rc8 rz1 rz8 rl
  have R2 := Lib.hid hr
  have A2 := Lib.hid hat
  clear hat hr hg H1 R1 A1
  have by0 : w2.cell? ⟨w1.heap.size, 0, none⟩ = some (.int .u8 ((op : UInt8).toNat : Int)) := (H2.out.f (List.Mem.head _)).box.cell 0
  have byz0 : w2.frozen? ⟨w1.heap.size, 0, none⟩ = false := (H2.out.f (List.Mem.head _)).box.frozen 0
  have by1 : w2.cell? ⟨w1.heap.size, 1, none⟩ = some (.int .i64 0) := (H2.out.f (List.Mem.head _)).box.cell 1
  have byz1 : w2.frozen? ⟨w1.heap.size, 1, none⟩ = false := (H2.out.f (List.Mem.head _)).box.frozen 1
  have by2 : w2.cell? ⟨w1.heap.size, 2, none⟩ = some (.bool false) := (H2.out.f (List.Mem.head _)).box.cell 2
  have byz2 : w2.frozen? ⟨w1.heap.size, 2, none⟩ = false := (H2.out.f (List.Mem.head _)).box.frozen 2
  have by3 : w2.cell? ⟨w1.heap.size, 3, none⟩ = some (.slice none 0 0) := (H2.out.f (List.Mem.head _)).box.cell 3
  have byz3 : w2.frozen? ⟨w1.heap.size, 3, none⟩ = false := (H2.out.f (List.Mem.head _)).box.frozen 3
  have byl : w1.heap.size < w2.heap.size := (H2.out.f (List.Mem.head _)).box.lt
  have rc0 := R2.out.c0
  have rc1 := R2.out.c1
  have rc8 := R2.out.c8
  have rz1 := R2.out.z 1
  have rz8 := R2.out.z 9
  have rl := R2.out.lt
  go_wp2_with fail
  with_reducible refine (takes_false [33, 61] b T _ f (n + 1) (tkR [37] r0) _ R2.out A2.out hT Hhs.out).mono ?_
  rintro x w3 ⟨q3, rfl, hat, hr, hg⟩
  have H3 : Hid (HeldR w b [(w1.heap.size, #[.int .u8 ((op : UInt8).toNat : Int), .int .i64 0, .bool false, .slice none 0 0], 50), (w.heap.size, #[.int .u8 0, .int .i64 0, .bool false, .slice none 0 0], 50)] w3) := Lib.hid (HeldR.keep H2.out hg)
  clear by0 byz0 by1 byz1 by2 byz2 by3 byz3 byl rc0 rc1 rc8 rz1 rz8 rl
  have R3 := Lib.hid hr
  have A3 := Lib.hid hat
  clear hat hr hg H2 R2 A2
  have by0 : w3.cell? ⟨w1.heap.size, 0, none⟩ = some (.int .u8 ((op : UInt8).toNat : Int)) := (H3.out.f (List.Mem.head _)).box.cell 0
  have byz0 : w3.frozen? ⟨w1.heap.size, 0, none⟩ = false := (H3.out.f (List.Mem.head _)).box.frozen 0
  have by1 : w3.cell? ⟨w1.heap.size, 1, none⟩ = some (.int .i64 0) := (H3.out.f (List.Mem.head _)).box.cell 1
  have byz1 : w3.frozen? ⟨w1.heap.size, 1, none⟩ = false := (H3.out.f (List.Mem.head _)).box.frozen 1
  have by2 : w3.cell? ⟨w1.heap.size, 2, none⟩ = some (.bool false) := (H3.out.f (List.Mem.head _)).box.cell 2
  have byz2 : w3.frozen? ⟨w1.heap.size, 2, none⟩ = false := (H3.out.f (List.Mem.head _)).box.frozen 2
  have by3 : w3.cell? ⟨w1.heap.size, 3, none⟩ = some (.slice none 0 0) := (H3.out.f (List.Mem.head _)).box.cell 3
  have byz3 : w3.frozen? ⟨w1.heap.size, 3, none⟩ = false := (H3.out.f (List.Mem.head _)).box.frozen 3
  have byl : w1.heap.size < w3.heap.size := (H3.out.f (List.Mem.head _)).box.lt
  have rc0 := R3.out.c0
  have rc1 := R3.out.c1
  have rc8 := R3.out.c8
  have rz1 := R3.out.z 1
  have rz8 := R3.out.z 9
  have rl := R3.out.lt
  go_wp2_with fail
  clear by0 byz0 by1 byz1 by2 byz2 by3 byz3 byl rc0 rc1 rc8 rz1 rz8 rl
  have H4 : Hid (HeldR w b [(w1.heap.size, #[.int .u8 ((op : UInt8).toNat : Int), .int .i64 0, .bool false, .slice none 0 0], 50), (w.heap.size, #[.int .u8 0, .int .i64 0, .bool false, .slice none 0 0], 50)] (w3.setCell ⟨w1.heap.size, 2, none⟩ (.bool false))) := Lib.hid (HeldR.set1 (L1 := []) (L2 := [(w.heap.size, #[.int .u8 0, .int .i64 0, .bool false, .slice none 0 0], 50)]) H3.out 2 (.bool false))
  have R4 := Lib.hid (R3.out.other (a := ⟨w1.heap.size, 2, none⟩) (H3.out.ne (List.Mem.head _)) (.bool false))
  have A4 := A3
  generalize (w3.setCell ⟨w1.heap.size, 2, none⟩ (.bool false)) = w4 at *
  clear H3 R3 A3 
  have by0 : w4.cell? ⟨w1.heap.size, 0, none⟩ = some (.int .u8 ((op : UInt8).toNat : Int)) := (H4.out.f (List.Mem.head _)).box.cell 0
  have byz0 : w4.frozen? ⟨w1.heap.size, 0, none⟩ = false := (H4.out.f (List.Mem.head _)).box.frozen 0
  have by1 : w4.cell? ⟨w1.heap.size, 1, none⟩ = some (.int .i64 0) := (H4.out.f (List.Mem.head _)).box.cell 1
  have byz1 : w4.frozen? ⟨w1.heap.size, 1, none⟩ = false := (H4.out.f (List.Mem.head _)).box.frozen 1
  have by2 : w4.cell? ⟨w1.heap.size, 2, none⟩ = some (.bool false) := (H4.out.f (List.Mem.head _)).box.cell 2
  have byz2 : w4.frozen? ⟨w1.heap.size, 2, none⟩ = false := (H4.out.f (List.Mem.head _)).box.frozen 2
  have by3 : w4.cell? ⟨w1.heap.size, 3, none⟩ = some (.slice none 0 0) := (H4.out.f (List.Mem.head _)).box.cell 3
  have byz3 : w4.frozen? ⟨w1.heap.size, 3, none⟩ = false := (H4.out.f (List.Mem.head _)).box.frozen 3
  have byl : w1.heap.size < w4.heap.size := (H4.out.f (List.Mem.head _)).box.lt
  have rc0 := R4.out.c0
  have rc1 := R4.out.c1
  have rc8 := R4.out.c8
  have rz1 := R4.out.z 1
  have rz8 := R4.out.z 9
  have rl := R4.out.lt
  with_reducible refine (wants_false [61] b T _ f (n + 1) (tkR [33, 61] (tkR [37] r0)) _ R4.out A4.out hT Hhe.out).mono ?_
  rintro x w5 ⟨qe, rfl, hat, hg⟩
  have HGE := Lib.hid (HeldR.keep H4.out hg).gr
  have HAE := Lib.hid hat
  clear hat hg
  clear by0 byz0 by1 byz1 by2 byz2 by3 byz3 byl rc0 rc1 rc8 rz1 rz8 rl
  go_wp2
  refine ⟨rfl, ?_⟩
  show Told _ _ _ _ _ _ (relP n l) _ _
  rw [HX.out]
  exact ⟨qe, rfl, HAE.out, HGE.out⟩

set_option maxRecDepth 100000 in
set_option maxHeartbeats 3200000 in
theorem rel_no_eq_bad (op : UInt8) (r0 : List UInt8) (c : Int) (re : List UInt8) (b : Nat) (T : ByteArray) (p : Nat) (f : Nat → Bool) (n : Nat) (l : List UInt8) (w : World) (h : Rd w b T p f n) (ha : At T p l) (hT : T.size ≤ 1000000) (hn : n ≤ 200) (hO : operP n l = .ok op r0) (hk : tk [37] r0 = false) (hs : tk [33, 61] (tkR [37] r0) = false) (he : tk [61] (tkR [33, 61] (tkR [37] r0)) = true) (hR : rangesP (tkR [61] (tkR [33, 61] (tkR [37] r0))) = .bad c re) :
    Calls Tryz.prog 135 #[.pointer (some ⟨b, 0, none⟩)] w (Told b T f (n + 1) w (fun w' x v => ∃ u, v = .agg #[.int .u8 ((x.op : UInt8).toNat : Int), .int .i64 ((x.mod : Nat) : Int), .bool x.nt, u] ∧ Rngs w' w.heap.size x.rs u) (relP n l)) := by
  have R0 := Lib.hid h
  have A0 := Lib.hid ha
  have HhO := Lib.hid hO
  have Hhk := Lib.hid hk
  have Hhs := Lib.hid hs
  have Hhe := Lib.hid he
  have HhR := Lib.hid hR
  have HX : Hid (relP n l = .bad c re) := Lib.hid (by have hm : modP r0 = .ok 0 (tkR [37] r0) := (by unfold modP; rw [if_neg (by rw [hk]; decide)]); have hg : signP (tkR [37] r0) = .ok false (tkR [61] (tkR [33, 61] (tkR [37] r0))) := (by unfold signP; rw [if_neg (by rw [hs]; decide), if_pos he]); unfold relP; rw [hO]; simp only; rw [hm]; simp only; rw [hg]; simp only; rw [hR])
  clear h ha hO hk hs he hR
  go_enter Tryz.func135, Tryz.ntmps135
  go_wp2_with fail
  with_reducible refine (oper_as b T p f n l _ (R0.out.alloc _) A0.out hT hn).mono ?_
  intro x w1 ht
  rw [HhO.out] at ht
  obtain ⟨v1, q1, rfl, hv, hat, hr, hg⟩ := ht
  obtain rfl := hv
  have H1 : Hid (HeldR w b [(w.heap.size, #[.int .u8 0, .int .i64 0, .bool false, .slice none 0 0], 50)] w1) := Lib.hid (HeldR.keep (HeldR.alloc (HeldR.refl R0.out.lt) (w.heap.size) #[.int .u8 0, .int .i64 0, .bool false, .slice none 0 0] 50 (by first | rfl | simp)) hg)
  have R1 := Lib.hid hr
  have A1 := Lib.hid hat
  clear hat hr hg
  have rc0 := R1.out.c0
  have rc1 := R1.out.c1
  have rc8 := R1.out.c8
  have rz1 := R1.out.z 1
  have rz8 := R1.out.z 9
  have rl := R1.out.lt
  go_wp2_with fail
  with_reducible refine (takes_false [37] b T _ f (n + 1) r0 _ (R1.out.alloc _) A1.out hT Hhk.out).mono ?_
  rintro x w2 ⟨q2, rfl, hat, hr, hg⟩
  have H2 : Hid (HeldR w b [(w1.heap.size, #[.int .u8 ((op : UInt8).toNat : Int), .int .i64 0, .bool false, .slice none 0 0], 50), (w.heap.size, #[.int .u8 0, .int .i64 0, .bool false, .slice none 0 0], 50)] w2) := Lib.hid (HeldR.keep (HeldR.alloc H1.out (w1.heap.size) #[.int .u8 ((op : UInt8).toNat : Int), .int .i64 0, .bool false, .slice none 0 0] 50 (by first | rfl | simp)) hg)
  clear rc0 rc1 rc8 rz1 rz8 rl
  have R2 := Lib.hid hr
  have A2 := Lib.hid hat
  clear hat hr hg H1 R1 A1
  have by0 : w2.cell? ⟨w1.heap.size, 0, none⟩ = some (.int .u8 ((op : UInt8).toNat : Int)) := (H2.out.f (List.Mem.head _)).box.cell 0
  have byz0 : w2.frozen? ⟨w1.heap.size, 0, none⟩ = false := (H2.out.f (List.Mem.head _)).box.frozen 0
  have by1 : w2.cell? ⟨w1.heap.size, 1, none⟩ = some (.int .i64 0) := (H2.out.f (List.Mem.head _)).box.cell 1
  have byz1 : w2.frozen? ⟨w1.heap.size, 1, none⟩ = false := (H2.out.f (List.Mem.head _)).box.frozen 1
  have by2 : w2.cell? ⟨w1.heap.size, 2, none⟩ = some (.bool false) := (H2.out.f (List.Mem.head _)).box.cell 2
  have byz2 : w2.frozen? ⟨w1.heap.size, 2, none⟩ = false := (H2.out.f (List.Mem.head _)).box.frozen 2
  have by3 : w2.cell? ⟨w1.heap.size, 3, none⟩ = some (.slice none 0 0) := (H2.out.f (List.Mem.head _)).box.cell 3
  have byz3 : w2.frozen? ⟨w1.heap.size, 3, none⟩ = false := (H2.out.f (List.Mem.head _)).box.frozen 3
  have byl : w1.heap.size < w2.heap.size := (H2.out.f (List.Mem.head _)).box.lt
  have rc0 := R2.out.c0
  have rc1 := R2.out.c1
  have rc8 := R2.out.c8
  have rz1 := R2.out.z 1
  have rz8 := R2.out.z 9
  have rl := R2.out.lt
  go_wp2_with fail
  with_reducible refine (takes_false [33, 61] b T _ f (n + 1) (tkR [37] r0) _ R2.out A2.out hT Hhs.out).mono ?_
  rintro x w3 ⟨q3, rfl, hat, hr, hg⟩
  have H3 : Hid (HeldR w b [(w1.heap.size, #[.int .u8 ((op : UInt8).toNat : Int), .int .i64 0, .bool false, .slice none 0 0], 50), (w.heap.size, #[.int .u8 0, .int .i64 0, .bool false, .slice none 0 0], 50)] w3) := Lib.hid (HeldR.keep H2.out hg)
  clear by0 byz0 by1 byz1 by2 byz2 by3 byz3 byl rc0 rc1 rc8 rz1 rz8 rl
  have R3 := Lib.hid hr
  have A3 := Lib.hid hat
  clear hat hr hg H2 R2 A2
  have by0 : w3.cell? ⟨w1.heap.size, 0, none⟩ = some (.int .u8 ((op : UInt8).toNat : Int)) := (H3.out.f (List.Mem.head _)).box.cell 0
  have byz0 : w3.frozen? ⟨w1.heap.size, 0, none⟩ = false := (H3.out.f (List.Mem.head _)).box.frozen 0
  have by1 : w3.cell? ⟨w1.heap.size, 1, none⟩ = some (.int .i64 0) := (H3.out.f (List.Mem.head _)).box.cell 1
  have byz1 : w3.frozen? ⟨w1.heap.size, 1, none⟩ = false := (H3.out.f (List.Mem.head _)).box.frozen 1
  have by2 : w3.cell? ⟨w1.heap.size, 2, none⟩ = some (.bool false) := (H3.out.f (List.Mem.head _)).box.cell 2
  have byz2 : w3.frozen? ⟨w1.heap.size, 2, none⟩ = false := (H3.out.f (List.Mem.head _)).box.frozen 2
  have by3 : w3.cell? ⟨w1.heap.size, 3, none⟩ = some (.slice none 0 0) := (H3.out.f (List.Mem.head _)).box.cell 3
  have byz3 : w3.frozen? ⟨w1.heap.size, 3, none⟩ = false := (H3.out.f (List.Mem.head _)).box.frozen 3
  have byl : w1.heap.size < w3.heap.size := (H3.out.f (List.Mem.head _)).box.lt
  have rc0 := R3.out.c0
  have rc1 := R3.out.c1
  have rc8 := R3.out.c8
  have rz1 := R3.out.z 1
  have rz8 := R3.out.z 9
  have rl := R3.out.lt
  go_wp2_with fail
  clear by0 byz0 by1 byz1 by2 byz2 by3 byz3 byl rc0 rc1 rc8 rz1 rz8 rl
  have H4 : Hid (HeldR w b [(w1.heap.size, #[.int .u8 ((op : UInt8).toNat : Int), .int .i64 0, .bool false, .slice none 0 0], 50), (w.heap.size, #[.int .u8 0, .int .i64 0, .bool false, .slice none 0 0], 50)] (w3.setCell ⟨w1.heap.size, 2, none⟩ (.bool false))) := Lib.hid (HeldR.set1 (L1 := []) (L2 := [(w.heap.size, #[.int .u8 0, .int .i64 0, .bool false, .slice none 0 0], 50)]) H3.out 2 (.bool false))
  have R4 := Lib.hid (R3.out.other (a := ⟨w1.heap.size, 2, none⟩) (H3.out.ne (List.Mem.head _)) (.bool false))
  have A4 := A3
  generalize (w3.setCell ⟨w1.heap.size, 2, none⟩ (.bool false)) = w4 at *
  clear H3 R3 A3 
  have by0 : w4.cell? ⟨w1.heap.size, 0, none⟩ = some (.int .u8 ((op : UInt8).toNat : Int)) := (H4.out.f (List.Mem.head _)).box.cell 0
  have byz0 : w4.frozen? ⟨w1.heap.size, 0, none⟩ = false := (H4.out.f (List.Mem.head _)).box.frozen 0
  have by1 : w4.cell? ⟨w1.heap.size, 1, none⟩ = some (.int .i64 0) := (H4.out.f (List.Mem.head _)).box.cell 1
  have byz1 : w4.frozen? ⟨w1.heap.size, 1, none⟩ = false := (H4.out.f (List.Mem.head _)).box.frozen 1
  have by2 : w4.cell? ⟨w1.heap.size, 2, none⟩ = some (.bool false) := (H4.out.f (List.Mem.head _)).box.cell 2
  have byz2 : w4.frozen? ⟨w1.heap.size, 2, none⟩ = false := (H4.out.f (List.Mem.head _)).box.frozen 2
  have by3 : w4.cell? ⟨w1.heap.size, 3, none⟩ = some (.slice none 0 0) := (H4.out.f (List.Mem.head _)).box.cell 3
  have byz3 : w4.frozen? ⟨w1.heap.size, 3, none⟩ = false := (H4.out.f (List.Mem.head _)).box.frozen 3
  have byl : w1.heap.size < w4.heap.size := (H4.out.f (List.Mem.head _)).box.lt
  have rc0 := R4.out.c0
  have rc1 := R4.out.c1
  have rc8 := R4.out.c8
  have rz1 := R4.out.z 1
  have rz8 := R4.out.z 9
  have rl := R4.out.lt
  with_reducible refine (wants_true [61] b T _ f (n + 1) (tkR [33, 61] (tkR [37] r0)) _ R4.out A4.out hT Hhe.out).mono ?_
  rintro x w5 ⟨q5, rfl, hat, hr, hg⟩
  have H5 : Hid (HeldR w b [(w1.heap.size, #[.int .u8 ((op : UInt8).toNat : Int), .int .i64 0, .bool false, .slice none 0 0], 50), (w.heap.size, #[.int .u8 0, .int .i64 0, .bool false, .slice none 0 0], 50)] w5) := Lib.hid (HeldR.keep H4.out hg)
  clear by0 byz0 by1 byz1 by2 byz2 by3 byz3 byl rc0 rc1 rc8 rz1 rz8 rl
  have R5 := Lib.hid hr
  have A5 := Lib.hid hat
  clear hat hr hg H4 R4 A4
  have by0 : w5.cell? ⟨w1.heap.size, 0, none⟩ = some (.int .u8 ((op : UInt8).toNat : Int)) := (H5.out.f (List.Mem.head _)).box.cell 0
  have byz0 : w5.frozen? ⟨w1.heap.size, 0, none⟩ = false := (H5.out.f (List.Mem.head _)).box.frozen 0
  have by1 : w5.cell? ⟨w1.heap.size, 1, none⟩ = some (.int .i64 0) := (H5.out.f (List.Mem.head _)).box.cell 1
  have byz1 : w5.frozen? ⟨w1.heap.size, 1, none⟩ = false := (H5.out.f (List.Mem.head _)).box.frozen 1
  have by2 : w5.cell? ⟨w1.heap.size, 2, none⟩ = some (.bool false) := (H5.out.f (List.Mem.head _)).box.cell 2
  have byz2 : w5.frozen? ⟨w1.heap.size, 2, none⟩ = false := (H5.out.f (List.Mem.head _)).box.frozen 2
  have by3 : w5.cell? ⟨w1.heap.size, 3, none⟩ = some (.slice none 0 0) := (H5.out.f (List.Mem.head _)).box.cell 3
  have byz3 : w5.frozen? ⟨w1.heap.size, 3, none⟩ = false := (H5.out.f (List.Mem.head _)).box.frozen 3
  have byl : w1.heap.size < w5.heap.size := (H5.out.f (List.Mem.head _)).box.lt
  have rc0 := R5.out.c0
  have rc1 := R5.out.c1
  have rc8 := R5.out.c8
  have rz1 := R5.out.z 1
  have rz8 := R5.out.z 9
  have rl := R5.out.lt
  go_wp2_with fail
  with_reducible refine (ranges_as b T _ f (n + 1) (tkR [61] (tkR [33, 61] (tkR [37] r0))) _ R5.out A5.out hT).mono ?_
  intro x w6 ht
  rw [HhR.out] at ht
  obtain ⟨qe, rfl, hat, hg⟩ := ht
  have HGE := Lib.hid (HeldR.keep H5.out hg).gr
  have HAE := Lib.hid hat
  clear hat hg
  clear by0 byz0 by1 byz1 by2 byz2 by3 byz3 byl rc0 rc1 rc8 rz1 rz8 rl
  go_wp2
  refine ⟨rfl, ?_⟩
  show Told _ _ _ _ _ _ (relP n l) _ _
  rw [HX.out]
  exact ⟨qe, rfl, HAE.out, HGE.out⟩

set_option maxRecDepth 100000 in
set_option maxHeartbeats 3200000 in
theorem rel_no_eq_ok (op : UInt8) (r0 : List UInt8) (xs : List (Nat × Nat)) (re : List UInt8) (b : Nat) (T : ByteArray) (p : Nat) (f : Nat → Bool) (n : Nat) (l : List UInt8) (w : World) (h : Rd w b T p f n) (ha : At T p l) (hT : T.size ≤ 1000000) (hn : n ≤ 200) (hO : operP n l = .ok op r0) (hk : tk [37] r0 = false) (hs : tk [33, 61] (tkR [37] r0) = false) (he : tk [61] (tkR [33, 61] (tkR [37] r0)) = true) (hR : rangesP (tkR [61] (tkR [33, 61] (tkR [37] r0))) = .ok xs re) :
    Calls Tryz.prog 135 #[.pointer (some ⟨b, 0, none⟩)] w (Told b T f (n + 1) w (fun w' x v => ∃ u, v = .agg #[.int .u8 ((x.op : UInt8).toNat : Int), .int .i64 ((x.mod : Nat) : Int), .bool x.nt, u] ∧ Rngs w' w.heap.size x.rs u) (relP n l)) := by
  have R0 := Lib.hid h
  have A0 := Lib.hid ha
  have HhO := Lib.hid hO
  have Hhk := Lib.hid hk
  have Hhs := Lib.hid hs
  have Hhe := Lib.hid he
  have HhR := Lib.hid hR
  have HX : Hid (relP n l = .ok ⟨op, 0, false, xs⟩ re) := Lib.hid (by have hm : modP r0 = .ok 0 (tkR [37] r0) := (by unfold modP; rw [if_neg (by rw [hk]; decide)]); have hg : signP (tkR [37] r0) = .ok false (tkR [61] (tkR [33, 61] (tkR [37] r0))) := (by unfold signP; rw [if_neg (by rw [hs]; decide), if_pos he]); unfold relP; rw [hO]; simp only; rw [hm]; simp only; rw [hg]; simp only; rw [hR])
  clear h ha hO hk hs he hR
  go_enter Tryz.func135, Tryz.ntmps135
  go_wp2_with fail
  with_reducible refine (oper_as b T p f n l _ (R0.out.alloc _) A0.out hT hn).mono ?_
  intro x w1 ht
  rw [HhO.out] at ht
  obtain ⟨v1, q1, rfl, hv, hat, hr, hg⟩ := ht
  obtain rfl := hv
  have H1 : Hid (HeldR w b [(w.heap.size, #[.int .u8 0, .int .i64 0, .bool false, .slice none 0 0], 50)] w1) := Lib.hid (HeldR.keep (HeldR.alloc (HeldR.refl R0.out.lt) (w.heap.size) #[.int .u8 0, .int .i64 0, .bool false, .slice none 0 0] 50 (by first | rfl | simp)) hg)
  have R1 := Lib.hid hr
  have A1 := Lib.hid hat
  clear hat hr hg
  have rc0 := R1.out.c0
  have rc1 := R1.out.c1
  have rc8 := R1.out.c8
  have rz1 := R1.out.z 1
  have rz8 := R1.out.z 9
  have rl := R1.out.lt
  go_wp2_with fail
  with_reducible refine (takes_false [37] b T _ f (n + 1) r0 _ (R1.out.alloc _) A1.out hT Hhk.out).mono ?_
  rintro x w2 ⟨q2, rfl, hat, hr, hg⟩
  have H2 : Hid (HeldR w b [(w1.heap.size, #[.int .u8 ((op : UInt8).toNat : Int), .int .i64 0, .bool false, .slice none 0 0], 50), (w.heap.size, #[.int .u8 0, .int .i64 0, .bool false, .slice none 0 0], 50)] w2) := Lib.hid (HeldR.keep (HeldR.alloc H1.out (w1.heap.size) #[.int .u8 ((op : UInt8).toNat : Int), .int .i64 0, .bool false, .slice none 0 0] 50 (by first | rfl | simp)) hg)
  clear rc0 rc1 rc8 rz1 rz8 rl
  have R2 := Lib.hid hr
  have A2 := Lib.hid hat
  clear hat hr hg H1 R1 A1
  have by0 : w2.cell? ⟨w1.heap.size, 0, none⟩ = some (.int .u8 ((op : UInt8).toNat : Int)) := (H2.out.f (List.Mem.head _)).box.cell 0
  have byz0 : w2.frozen? ⟨w1.heap.size, 0, none⟩ = false := (H2.out.f (List.Mem.head _)).box.frozen 0
  have by1 : w2.cell? ⟨w1.heap.size, 1, none⟩ = some (.int .i64 0) := (H2.out.f (List.Mem.head _)).box.cell 1
  have byz1 : w2.frozen? ⟨w1.heap.size, 1, none⟩ = false := (H2.out.f (List.Mem.head _)).box.frozen 1
  have by2 : w2.cell? ⟨w1.heap.size, 2, none⟩ = some (.bool false) := (H2.out.f (List.Mem.head _)).box.cell 2
  have byz2 : w2.frozen? ⟨w1.heap.size, 2, none⟩ = false := (H2.out.f (List.Mem.head _)).box.frozen 2
  have by3 : w2.cell? ⟨w1.heap.size, 3, none⟩ = some (.slice none 0 0) := (H2.out.f (List.Mem.head _)).box.cell 3
  have byz3 : w2.frozen? ⟨w1.heap.size, 3, none⟩ = false := (H2.out.f (List.Mem.head _)).box.frozen 3
  have byl : w1.heap.size < w2.heap.size := (H2.out.f (List.Mem.head _)).box.lt
  have rc0 := R2.out.c0
  have rc1 := R2.out.c1
  have rc8 := R2.out.c8
  have rz1 := R2.out.z 1
  have rz8 := R2.out.z 9
  have rl := R2.out.lt
  go_wp2_with fail
  with_reducible refine (takes_false [33, 61] b T _ f (n + 1) (tkR [37] r0) _ R2.out A2.out hT Hhs.out).mono ?_
  rintro x w3 ⟨q3, rfl, hat, hr, hg⟩
  have H3 : Hid (HeldR w b [(w1.heap.size, #[.int .u8 ((op : UInt8).toNat : Int), .int .i64 0, .bool false, .slice none 0 0], 50), (w.heap.size, #[.int .u8 0, .int .i64 0, .bool false, .slice none 0 0], 50)] w3) := Lib.hid (HeldR.keep H2.out hg)
  clear by0 byz0 by1 byz1 by2 byz2 by3 byz3 byl rc0 rc1 rc8 rz1 rz8 rl
  have R3 := Lib.hid hr
  have A3 := Lib.hid hat
  clear hat hr hg H2 R2 A2
  have by0 : w3.cell? ⟨w1.heap.size, 0, none⟩ = some (.int .u8 ((op : UInt8).toNat : Int)) := (H3.out.f (List.Mem.head _)).box.cell 0
  have byz0 : w3.frozen? ⟨w1.heap.size, 0, none⟩ = false := (H3.out.f (List.Mem.head _)).box.frozen 0
  have by1 : w3.cell? ⟨w1.heap.size, 1, none⟩ = some (.int .i64 0) := (H3.out.f (List.Mem.head _)).box.cell 1
  have byz1 : w3.frozen? ⟨w1.heap.size, 1, none⟩ = false := (H3.out.f (List.Mem.head _)).box.frozen 1
  have by2 : w3.cell? ⟨w1.heap.size, 2, none⟩ = some (.bool false) := (H3.out.f (List.Mem.head _)).box.cell 2
  have byz2 : w3.frozen? ⟨w1.heap.size, 2, none⟩ = false := (H3.out.f (List.Mem.head _)).box.frozen 2
  have by3 : w3.cell? ⟨w1.heap.size, 3, none⟩ = some (.slice none 0 0) := (H3.out.f (List.Mem.head _)).box.cell 3
  have byz3 : w3.frozen? ⟨w1.heap.size, 3, none⟩ = false := (H3.out.f (List.Mem.head _)).box.frozen 3
  have byl : w1.heap.size < w3.heap.size := (H3.out.f (List.Mem.head _)).box.lt
  have rc0 := R3.out.c0
  have rc1 := R3.out.c1
  have rc8 := R3.out.c8
  have rz1 := R3.out.z 1
  have rz8 := R3.out.z 9
  have rl := R3.out.lt
  go_wp2_with fail
  clear by0 byz0 by1 byz1 by2 byz2 by3 byz3 byl rc0 rc1 rc8 rz1 rz8 rl
  have H4 : Hid (HeldR w b [(w1.heap.size, #[.int .u8 ((op : UInt8).toNat : Int), .int .i64 0, .bool false, .slice none 0 0], 50), (w.heap.size, #[.int .u8 0, .int .i64 0, .bool false, .slice none 0 0], 50)] (w3.setCell ⟨w1.heap.size, 2, none⟩ (.bool false))) := Lib.hid (HeldR.set1 (L1 := []) (L2 := [(w.heap.size, #[.int .u8 0, .int .i64 0, .bool false, .slice none 0 0], 50)]) H3.out 2 (.bool false))
  have R4 := Lib.hid (R3.out.other (a := ⟨w1.heap.size, 2, none⟩) (H3.out.ne (List.Mem.head _)) (.bool false))
  have A4 := A3
  generalize (w3.setCell ⟨w1.heap.size, 2, none⟩ (.bool false)) = w4 at *
  clear H3 R3 A3 
  have by0 : w4.cell? ⟨w1.heap.size, 0, none⟩ = some (.int .u8 ((op : UInt8).toNat : Int)) := (H4.out.f (List.Mem.head _)).box.cell 0
  have byz0 : w4.frozen? ⟨w1.heap.size, 0, none⟩ = false := (H4.out.f (List.Mem.head _)).box.frozen 0
  have by1 : w4.cell? ⟨w1.heap.size, 1, none⟩ = some (.int .i64 0) := (H4.out.f (List.Mem.head _)).box.cell 1
  have byz1 : w4.frozen? ⟨w1.heap.size, 1, none⟩ = false := (H4.out.f (List.Mem.head _)).box.frozen 1
  have by2 : w4.cell? ⟨w1.heap.size, 2, none⟩ = some (.bool false) := (H4.out.f (List.Mem.head _)).box.cell 2
  have byz2 : w4.frozen? ⟨w1.heap.size, 2, none⟩ = false := (H4.out.f (List.Mem.head _)).box.frozen 2
  have by3 : w4.cell? ⟨w1.heap.size, 3, none⟩ = some (.slice none 0 0) := (H4.out.f (List.Mem.head _)).box.cell 3
  have byz3 : w4.frozen? ⟨w1.heap.size, 3, none⟩ = false := (H4.out.f (List.Mem.head _)).box.frozen 3
  have byl : w1.heap.size < w4.heap.size := (H4.out.f (List.Mem.head _)).box.lt
  have rc0 := R4.out.c0
  have rc1 := R4.out.c1
  have rc8 := R4.out.c8
  have rz1 := R4.out.z 1
  have rz8 := R4.out.z 9
  have rl := R4.out.lt
  with_reducible refine (wants_true [61] b T _ f (n + 1) (tkR [33, 61] (tkR [37] r0)) _ R4.out A4.out hT Hhe.out).mono ?_
  rintro x w5 ⟨q5, rfl, hat, hr, hg⟩
  have H5 : Hid (HeldR w b [(w1.heap.size, #[.int .u8 ((op : UInt8).toNat : Int), .int .i64 0, .bool false, .slice none 0 0], 50), (w.heap.size, #[.int .u8 0, .int .i64 0, .bool false, .slice none 0 0], 50)] w5) := Lib.hid (HeldR.keep H4.out hg)
  clear by0 byz0 by1 byz1 by2 byz2 by3 byz3 byl rc0 rc1 rc8 rz1 rz8 rl
  have R5 := Lib.hid hr
  have A5 := Lib.hid hat
  clear hat hr hg H4 R4 A4
  have by0 : w5.cell? ⟨w1.heap.size, 0, none⟩ = some (.int .u8 ((op : UInt8).toNat : Int)) := (H5.out.f (List.Mem.head _)).box.cell 0
  have byz0 : w5.frozen? ⟨w1.heap.size, 0, none⟩ = false := (H5.out.f (List.Mem.head _)).box.frozen 0
  have by1 : w5.cell? ⟨w1.heap.size, 1, none⟩ = some (.int .i64 0) := (H5.out.f (List.Mem.head _)).box.cell 1
  have byz1 : w5.frozen? ⟨w1.heap.size, 1, none⟩ = false := (H5.out.f (List.Mem.head _)).box.frozen 1
  have by2 : w5.cell? ⟨w1.heap.size, 2, none⟩ = some (.bool false) := (H5.out.f (List.Mem.head _)).box.cell 2
  have byz2 : w5.frozen? ⟨w1.heap.size, 2, none⟩ = false := (H5.out.f (List.Mem.head _)).box.frozen 2
  have by3 : w5.cell? ⟨w1.heap.size, 3, none⟩ = some (.slice none 0 0) := (H5.out.f (List.Mem.head _)).box.cell 3
  have byz3 : w5.frozen? ⟨w1.heap.size, 3, none⟩ = false := (H5.out.f (List.Mem.head _)).box.frozen 3
  have byl : w1.heap.size < w5.heap.size := (H5.out.f (List.Mem.head _)).box.lt
  have rc0 := R5.out.c0
  have rc1 := R5.out.c1
  have rc8 := R5.out.c8
  have rz1 := R5.out.z 1
  have rz8 := R5.out.z 9
  have rl := R5.out.lt
  go_wp2_with fail
  have HSZ := Lib.hid (H5.out).gr.size
  with_reducible refine (ranges_as b T _ f (n + 1) (tkR [61] (tkR [33, 61] (tkR [37] r0))) _ R5.out A5.out hT).mono ?_
  intro x w6 ht
  rw [HhR.out] at ht
  obtain ⟨v6, q6, rfl, hv, hat, hr, hg⟩ := ht
  have HV := Lib.hid hv
  clear hv
  have H6 : Hid (HeldR w b [(w1.heap.size, #[.int .u8 ((op : UInt8).toNat : Int), .int .i64 0, .bool false, .slice none 0 0], 50), (w.heap.size, #[.int .u8 0, .int .i64 0, .bool false, .slice none 0 0], 50)] w6) := Lib.hid (HeldR.keep H5.out hg)
  clear by0 byz0 by1 byz1 by2 byz2 by3 byz3 byl rc0 rc1 rc8 rz1 rz8 rl
  have R6 := Lib.hid hr
  have A6 := Lib.hid hat
  clear hat hr hg H5 R5 A5
  have by0 : w6.cell? ⟨w1.heap.size, 0, none⟩ = some (.int .u8 ((op : UInt8).toNat : Int)) := (H6.out.f (List.Mem.head _)).box.cell 0
  have byz0 : w6.frozen? ⟨w1.heap.size, 0, none⟩ = false := (H6.out.f (List.Mem.head _)).box.frozen 0
  have by1 : w6.cell? ⟨w1.heap.size, 1, none⟩ = some (.int .i64 0) := (H6.out.f (List.Mem.head _)).box.cell 1
  have byz1 : w6.frozen? ⟨w1.heap.size, 1, none⟩ = false := (H6.out.f (List.Mem.head _)).box.frozen 1
  have by2 : w6.cell? ⟨w1.heap.size, 2, none⟩ = some (.bool false) := (H6.out.f (List.Mem.head _)).box.cell 2
  have byz2 : w6.frozen? ⟨w1.heap.size, 2, none⟩ = false := (H6.out.f (List.Mem.head _)).box.frozen 2
  have by3 : w6.cell? ⟨w1.heap.size, 3, none⟩ = some (.slice none 0 0) := (H6.out.f (List.Mem.head _)).box.cell 3
  have byz3 : w6.frozen? ⟨w1.heap.size, 3, none⟩ = false := (H6.out.f (List.Mem.head _)).box.frozen 3
  have byl : w1.heap.size < w6.heap.size := (H6.out.f (List.Mem.head _)).box.lt
  have bx0 : w6.cell? ⟨w.heap.size, 0, none⟩ = some (.int .u8 0) := (H6.out.f (List.Mem.tail _ (List.Mem.head _))).box.cell 0
  have bxz0 : w6.frozen? ⟨w.heap.size, 0, none⟩ = false := (H6.out.f (List.Mem.tail _ (List.Mem.head _))).box.frozen 0
  have bx1 : w6.cell? ⟨w.heap.size, 1, none⟩ = some (.int .i64 0) := (H6.out.f (List.Mem.tail _ (List.Mem.head _))).box.cell 1
  have bxz1 : w6.frozen? ⟨w.heap.size, 1, none⟩ = false := (H6.out.f (List.Mem.tail _ (List.Mem.head _))).box.frozen 1
  have bx2 : w6.cell? ⟨w.heap.size, 2, none⟩ = some (.bool false) := (H6.out.f (List.Mem.tail _ (List.Mem.head _))).box.cell 2
  have bxz2 : w6.frozen? ⟨w.heap.size, 2, none⟩ = false := (H6.out.f (List.Mem.tail _ (List.Mem.head _))).box.frozen 2
  have bx3 : w6.cell? ⟨w.heap.size, 3, none⟩ = some (.slice none 0 0) := (H6.out.f (List.Mem.tail _ (List.Mem.head _))).box.cell 3
  have bxz3 : w6.frozen? ⟨w.heap.size, 3, none⟩ = false := (H6.out.f (List.Mem.tail _ (List.Mem.head _))).box.frozen 3
  have bxl : w.heap.size < w6.heap.size := (H6.out.f (List.Mem.tail _ (List.Mem.head _))).box.lt
  have rc0 := R6.out.c0
  have rc1 := R6.out.c1
  have rc8 := R6.out.c8
  have rz1 := R6.out.z 1
  have rz8 := R6.out.z 9
  have rl := R6.out.lt
  obtain ⟨sa, sn, sc, hsv⟩ := own_slice HV.out
  subst hsv
  have OW6 : Hid (Rngs w6 w.heap.size xs (.slice sa sn sc)) := Lib.hid (own_mono HV.out HSZ.out)
  clear HV HSZ
  have hlt : w.heap.size < w1.heap.size := (List.pairwise_cons.1 H6.out.desc).1 _ (List.Mem.head _)
  have hne1 : ¬ w.heap.size = w1.heap.size := by omega
  have hne2 : ¬ w1.heap.size = w.heap.size := by omega
  go_wp2
  have HE1 : HeldR w b [(w1.heap.size, #[.int .u8 ((op : UInt8).toNat : Int), .int .i64 0, .bool false, .slice sa sn sc], 50), (w.heap.size, #[.int .u8 0, .int .i64 0, .bool false, .slice none 0 0], 50)] (w6.setCell ⟨w1.heap.size, 3, none⟩ (.slice sa sn sc)) := (HeldR.set1 (L1 := []) (L2 := [(w.heap.size, #[.int .u8 0, .int .i64 0, .bool false, .slice none 0 0], 50)]) H6.out 3 (.slice sa sn sc))
  have RE1 := (R6.out.other (a := ⟨w1.heap.size, 3, none⟩) (H6.out.ne (List.Mem.head _)) (.slice sa sn sc))
  have KE1 := (Rngs.kept OW6.out (grown_set (World.grownBy.refl _ _) 3 (.slice sa sn sc)) (BoxT.apart (H6.out.f (List.Mem.head _)) (by decide)))
  refine bodyPost_ret (v := .agg #[.int .u8 ((op : UInt8).toNat : Int), .int .i64 0, .bool false, .slice sa sn sc]) (by simp [results, Tryz.results135, go_sem, bx0, bx1, bx2, bx3, by0, by1, by2, by3, bxl, byl, hne1, hne2]) rfl ?_
  show Told _ _ _ _ _ _ (relP n l) _ _
  rw [HX.out]
  exact ⟨_, _, rfl, ⟨_, rfl, (Rngs.kept KE1 (grown_set (grown_set (grown_set (grown_set (World.grownBy.refl _ (some (w.heap.size))) 0 (.int .u8 ((op : UInt8).toNat : Int))) 1 (.int .i64 0)) 2 (.bool false)) 3 (.slice sa sn sc)) (BoxT.apart (HE1.f (List.Mem.tail _ (List.Mem.head _))) (by decide)))⟩, A6.out, ((((RE1.other (a := ⟨w.heap.size, 0, none⟩) (HE1.ne (List.Mem.tail _ (List.Mem.head _))) (.int .u8 ((op : UInt8).toNat : Int))).other (a := ⟨w.heap.size, 1, none⟩) (HE1.ne (List.Mem.tail _ (List.Mem.head _))) (.int .i64 0)).other (a := ⟨w.heap.size, 2, none⟩) (HE1.ne (List.Mem.tail _ (List.Mem.head _))) (.bool false)).other (a := ⟨w.heap.size, 3, none⟩) (HE1.ne (List.Mem.tail _ (List.Mem.head _))) (.slice sa sn sc)), ((HeldR.set1 (L1 := [(w1.heap.size, #[.int .u8 ((op : UInt8).toNat : Int), .int .i64 0, .bool false, .slice sa sn sc], 50)]) (L2 := []) (c := w.heap.size) (cs := #[.int .u8 ((op : UInt8).toNat : Int), .int .i64 0, .bool false, .slice none 0 0]) (t := 50) (HeldR.set1 (L1 := [(w1.heap.size, #[.int .u8 ((op : UInt8).toNat : Int), .int .i64 0, .bool false, .slice sa sn sc], 50)]) (L2 := []) (c := w.heap.size) (cs := #[.int .u8 ((op : UInt8).toNat : Int), .int .i64 0, .bool false, .slice none 0 0]) (t := 50) (HeldR.set1 (L1 := [(w1.heap.size, #[.int .u8 ((op : UInt8).toNat : Int), .int .i64 0, .bool false, .slice sa sn sc], 50)]) (L2 := []) (c := w.heap.size) (cs := #[.int .u8 ((op : UInt8).toNat : Int), .int .i64 0, .bool false, .slice none 0 0]) (t := 50) (HeldR.set1 (L1 := [(w1.heap.size, #[.int .u8 ((op : UInt8).toNat : Int), .int .i64 0, .bool false, .slice sa sn sc], 50)]) (L2 := []) (c := w.heap.size) (cs := #[.int .u8 0, .int .i64 0, .bool false, .slice none 0 0]) (t := 50) HE1 0 (.int .u8 ((op : UInt8).toNat : Int))) 1 (.int .i64 0)) 2 (.bool false)) 3 (.slice sa sn sc))).gr⟩

set_option maxRecDepth 100000 in
set_option maxHeartbeats 3200000 in
theorem rel_no_ne_bad (op : UInt8) (r0 : List UInt8) (c : Int) (re : List UInt8) (b : Nat) (T : ByteArray) (p : Nat) (f : Nat → Bool) (n : Nat) (l : List UInt8) (w : World) (h : Rd w b T p f n) (ha : At T p l) (hT : T.size ≤ 1000000) (hn : n ≤ 200) (hO : operP n l = .ok op r0) (hk : tk [37] r0 = false) (hs : tk [33, 61] (tkR [37] r0) = true) (hR : rangesP (tkR [33, 61] (tkR [37] r0)) = .bad c re) :
    Calls Tryz.prog 135 #[.pointer (some ⟨b, 0, none⟩)] w (Told b T f (n + 1) w (fun w' x v => ∃ u, v = .agg #[.int .u8 ((x.op : UInt8).toNat : Int), .int .i64 ((x.mod : Nat) : Int), .bool x.nt, u] ∧ Rngs w' w.heap.size x.rs u) (relP n l)) := by
  have R0 := Lib.hid h
  have A0 := Lib.hid ha
  have HhO := Lib.hid hO
  have Hhk := Lib.hid hk
  have Hhs := Lib.hid hs
  have HhR := Lib.hid hR
  have HX : Hid (relP n l = .bad c re) := Lib.hid (by have hm : modP r0 = .ok 0 (tkR [37] r0) := (by unfold modP; rw [if_neg (by rw [hk]; decide)]); have hg : signP (tkR [37] r0) = .ok true (tkR [33, 61] (tkR [37] r0)) := (by unfold signP; rw [if_pos hs]); unfold relP; rw [hO]; simp only; rw [hm]; simp only; rw [hg]; simp only; rw [hR])
  clear h ha hO hk hs hR
  go_enter Tryz.func135, Tryz.ntmps135
  go_wp2_with fail
  with_reducible refine (oper_as b T p f n l _ (R0.out.alloc _) A0.out hT hn).mono ?_
  intro x w1 ht
  rw [HhO.out] at ht
  obtain ⟨v1, q1, rfl, hv, hat, hr, hg⟩ := ht
  obtain rfl := hv
  have H1 : Hid (HeldR w b [(w.heap.size, #[.int .u8 0, .int .i64 0, .bool false, .slice none 0 0], 50)] w1) := Lib.hid (HeldR.keep (HeldR.alloc (HeldR.refl R0.out.lt) (w.heap.size) #[.int .u8 0, .int .i64 0, .bool false, .slice none 0 0] 50 (by first | rfl | simp)) hg)
  have R1 := Lib.hid hr
  have A1 := Lib.hid hat
  clear hat hr hg
  have rc0 := R1.out.c0
  have rc1 := R1.out.c1
  have rc8 := R1.out.c8
  have rz1 := R1.out.z 1
  have rz8 := R1.out.z 9
  have rl := R1.out.lt
  go_wp2_with fail
  with_reducible refine (takes_false [37] b T _ f (n + 1) r0 _ (R1.out.alloc _) A1.out hT Hhk.out).mono ?_
  rintro x w2 ⟨q2, rfl, hat, hr, hg⟩
  have H2 : Hid (HeldR w b [(w1.heap.size, #[.int .u8 ((op : UInt8).toNat : Int), .int .i64 0, .bool false, .slice none 0 0], 50), (w.heap.size, #[.int .u8 0, .int .i64 0, .bool false, .slice none 0 0], 50)] w2) := Lib.hid (HeldR.keep (HeldR.alloc H1.out (w1.heap.size) #[.int .u8 ((op : UInt8).toNat : Int), .int .i64 0, .bool false, .slice none 0 0] 50 (by first | rfl | simp)) hg)
  clear rc0 rc1 rc8 rz1 rz8 rl
  have R2 := Lib.hid hr
  have A2 := Lib.hid hat
  clear hat hr hg H1 R1 A1
  have by0 : w2.cell? ⟨w1.heap.size, 0, none⟩ = some (.int .u8 ((op : UInt8).toNat : Int)) := (H2.out.f (List.Mem.head _)).box.cell 0
  have byz0 : w2.frozen? ⟨w1.heap.size, 0, none⟩ = false := (H2.out.f (List.Mem.head _)).box.frozen 0
  have by1 : w2.cell? ⟨w1.heap.size, 1, none⟩ = some (.int .i64 0) := (H2.out.f (List.Mem.head _)).box.cell 1
  have byz1 : w2.frozen? ⟨w1.heap.size, 1, none⟩ = false := (H2.out.f (List.Mem.head _)).box.frozen 1
  have by2 : w2.cell? ⟨w1.heap.size, 2, none⟩ = some (.bool false) := (H2.out.f (List.Mem.head _)).box.cell 2
  have byz2 : w2.frozen? ⟨w1.heap.size, 2, none⟩ = false := (H2.out.f (List.Mem.head _)).box.frozen 2
  have by3 : w2.cell? ⟨w1.heap.size, 3, none⟩ = some (.slice none 0 0) := (H2.out.f (List.Mem.head _)).box.cell 3
  have byz3 : w2.frozen? ⟨w1.heap.size, 3, none⟩ = false := (H2.out.f (List.Mem.head _)).box.frozen 3
  have byl : w1.heap.size < w2.heap.size := (H2.out.f (List.Mem.head _)).box.lt
  have rc0 := R2.out.c0
  have rc1 := R2.out.c1
  have rc8 := R2.out.c8
  have rz1 := R2.out.z 1
  have rz8 := R2.out.z 9
  have rl := R2.out.lt
  go_wp2_with fail
  with_reducible refine (takes_true [33, 61] b T _ f (n + 1) (tkR [37] r0) _ R2.out A2.out hT Hhs.out).mono ?_
  rintro x w3 ⟨q3, rfl, hat, hr, hg⟩
  have H3 : Hid (HeldR w b [(w1.heap.size, #[.int .u8 ((op : UInt8).toNat : Int), .int .i64 0, .bool false, .slice none 0 0], 50), (w.heap.size, #[.int .u8 0, .int .i64 0, .bool false, .slice none 0 0], 50)] w3) := Lib.hid (HeldR.keep H2.out hg)
  clear by0 byz0 by1 byz1 by2 byz2 by3 byz3 byl rc0 rc1 rc8 rz1 rz8 rl
  have R3 := Lib.hid hr
  have A3 := Lib.hid hat
  clear hat hr hg H2 R2 A2
  have by0 : w3.cell? ⟨w1.heap.size, 0, none⟩ = some (.int .u8 ((op : UInt8).toNat : Int)) := (H3.out.f (List.Mem.head _)).box.cell 0
  have byz0 : w3.frozen? ⟨w1.heap.size, 0, none⟩ = false := (H3.out.f (List.Mem.head _)).box.frozen 0
  have by1 : w3.cell? ⟨w1.heap.size, 1, none⟩ = some (.int .i64 0) := (H3.out.f (List.Mem.head _)).box.cell 1
  have byz1 : w3.frozen? ⟨w1.heap.size, 1, none⟩ = false := (H3.out.f (List.Mem.head _)).box.frozen 1
  have by2 : w3.cell? ⟨w1.heap.size, 2, none⟩ = some (.bool false) := (H3.out.f (List.Mem.head _)).box.cell 2
  have byz2 : w3.frozen? ⟨w1.heap.size, 2, none⟩ = false := (H3.out.f (List.Mem.head _)).box.frozen 2
  have by3 : w3.cell? ⟨w1.heap.size, 3, none⟩ = some (.slice none 0 0) := (H3.out.f (List.Mem.head _)).box.cell 3
  have byz3 : w3.frozen? ⟨w1.heap.size, 3, none⟩ = false := (H3.out.f (List.Mem.head _)).box.frozen 3
  have byl : w1.heap.size < w3.heap.size := (H3.out.f (List.Mem.head _)).box.lt
  have rc0 := R3.out.c0
  have rc1 := R3.out.c1
  have rc8 := R3.out.c8
  have rz1 := R3.out.z 1
  have rz8 := R3.out.z 9
  have rl := R3.out.lt
  go_wp2_with fail
  clear by0 byz0 by1 byz1 by2 byz2 by3 byz3 byl rc0 rc1 rc8 rz1 rz8 rl
  have H4 : Hid (HeldR w b [(w1.heap.size, #[.int .u8 ((op : UInt8).toNat : Int), .int .i64 0, .bool true, .slice none 0 0], 50), (w.heap.size, #[.int .u8 0, .int .i64 0, .bool false, .slice none 0 0], 50)] (w3.setCell ⟨w1.heap.size, 2, none⟩ (.bool true))) := Lib.hid (HeldR.set1 (L1 := []) (L2 := [(w.heap.size, #[.int .u8 0, .int .i64 0, .bool false, .slice none 0 0], 50)]) H3.out 2 (.bool true))
  have R4 := Lib.hid (R3.out.other (a := ⟨w1.heap.size, 2, none⟩) (H3.out.ne (List.Mem.head _)) (.bool true))
  have A4 := A3
  generalize (w3.setCell ⟨w1.heap.size, 2, none⟩ (.bool true)) = w4 at *
  clear H3 R3 A3 
  have by0 : w4.cell? ⟨w1.heap.size, 0, none⟩ = some (.int .u8 ((op : UInt8).toNat : Int)) := (H4.out.f (List.Mem.head _)).box.cell 0
  have byz0 : w4.frozen? ⟨w1.heap.size, 0, none⟩ = false := (H4.out.f (List.Mem.head _)).box.frozen 0
  have by1 : w4.cell? ⟨w1.heap.size, 1, none⟩ = some (.int .i64 0) := (H4.out.f (List.Mem.head _)).box.cell 1
  have byz1 : w4.frozen? ⟨w1.heap.size, 1, none⟩ = false := (H4.out.f (List.Mem.head _)).box.frozen 1
  have by2 : w4.cell? ⟨w1.heap.size, 2, none⟩ = some (.bool true) := (H4.out.f (List.Mem.head _)).box.cell 2
  have byz2 : w4.frozen? ⟨w1.heap.size, 2, none⟩ = false := (H4.out.f (List.Mem.head _)).box.frozen 2
  have by3 : w4.cell? ⟨w1.heap.size, 3, none⟩ = some (.slice none 0 0) := (H4.out.f (List.Mem.head _)).box.cell 3
  have byz3 : w4.frozen? ⟨w1.heap.size, 3, none⟩ = false := (H4.out.f (List.Mem.head _)).box.frozen 3
  have byl : w1.heap.size < w4.heap.size := (H4.out.f (List.Mem.head _)).box.lt
  have rc0 := R4.out.c0
  have rc1 := R4.out.c1
  have rc8 := R4.out.c8
  have rz1 := R4.out.z 1
  have rz8 := R4.out.z 9
  have rl := R4.out.lt
  with_reducible refine (ranges_as b T _ f (n + 1) (tkR [33, 61] (tkR [37] r0)) _ R4.out A4.out hT).mono ?_
  intro x w5 ht
  rw [HhR.out] at ht
  obtain ⟨qe, rfl, hat, hg⟩ := ht
  have HGE := Lib.hid (HeldR.keep H4.out hg).gr
  have HAE := Lib.hid hat
  clear hat hg
  clear by0 byz0 by1 byz1 by2 byz2 by3 byz3 byl rc0 rc1 rc8 rz1 rz8 rl
  go_wp2
  refine ⟨rfl, ?_⟩
  show Told _ _ _ _ _ _ (relP n l) _ _
  rw [HX.out]
  exact ⟨qe, rfl, HAE.out, HGE.out⟩

set_option maxRecDepth 100000 in
set_option maxHeartbeats 3200000 in
theorem rel_no_ne_ok (op : UInt8) (r0 : List UInt8) (xs : List (Nat × Nat)) (re : List UInt8) (b : Nat) (T : ByteArray) (p : Nat) (f : Nat → Bool) (n : Nat) (l : List UInt8) (w : World) (h : Rd w b T p f n) (ha : At T p l) (hT : T.size ≤ 1000000) (hn : n ≤ 200) (hO : operP n l = .ok op r0) (hk : tk [37] r0 = false) (hs : tk [33, 61] (tkR [37] r0) = true) (hR : rangesP (tkR [33, 61] (tkR [37] r0)) = .ok xs re) :
    Calls Tryz.prog 135 #[.pointer (some ⟨b, 0, none⟩)] w (Told b T f (n + 1) w (fun w' x v => ∃ u, v = .agg #[.int .u8 ((x.op : UInt8).toNat : Int), .int .i64 ((x.mod : Nat) : Int), .bool x.nt, u] ∧ Rngs w' w.heap.size x.rs u) (relP n l)) := by
  have R0 := Lib.hid h
  have A0 := Lib.hid ha
  have HhO := Lib.hid hO
  have Hhk := Lib.hid hk
  have Hhs := Lib.hid hs
  have HhR := Lib.hid hR
  have HX : Hid (relP n l = .ok ⟨op, 0, true, xs⟩ re) := Lib.hid (by have hm : modP r0 = .ok 0 (tkR [37] r0) := (by unfold modP; rw [if_neg (by rw [hk]; decide)]); have hg : signP (tkR [37] r0) = .ok true (tkR [33, 61] (tkR [37] r0)) := (by unfold signP; rw [if_pos hs]); unfold relP; rw [hO]; simp only; rw [hm]; simp only; rw [hg]; simp only; rw [hR])
  clear h ha hO hk hs hR
  go_enter Tryz.func135, Tryz.ntmps135
  go_wp2_with fail
  with_reducible refine (oper_as b T p f n l _ (R0.out.alloc _) A0.out hT hn).mono ?_
  intro x w1 ht
  rw [HhO.out] at ht
  obtain ⟨v1, q1, rfl, hv, hat, hr, hg⟩ := ht
  obtain rfl := hv
  have H1 : Hid (HeldR w b [(w.heap.size, #[.int .u8 0, .int .i64 0, .bool false, .slice none 0 0], 50)] w1) := Lib.hid (HeldR.keep (HeldR.alloc (HeldR.refl R0.out.lt) (w.heap.size) #[.int .u8 0, .int .i64 0, .bool false, .slice none 0 0] 50 (by first | rfl | simp)) hg)
  have R1 := Lib.hid hr
  have A1 := Lib.hid hat
  clear hat hr hg
  have rc0 := R1.out.c0
  have rc1 := R1.out.c1
  have rc8 := R1.out.c8
  have rz1 := R1.out.z 1
  have rz8 := R1.out.z 9
  have rl := R1.out.lt
  go_wp2_with fail
  with_reducible refine (takes_false [37] b T _ f (n + 1) r0 _ (R1.out.alloc _) A1.out hT Hhk.out).mono ?_
  rintro x w2 ⟨q2, rfl, hat, hr, hg⟩
  have H2 : Hid (HeldR w b [(w1.heap.size, #[.int .u8 ((op : UInt8).toNat : Int), .int .i64 0, .bool false, .slice none 0 0], 50), (w.heap.size, #[.int .u8 0, .int .i64 0, .bool false, .slice none 0 0], 50)] w2) := Lib.hid (HeldR.keep (HeldR.alloc H1.out (w1.heap.size) #[.int .u8 ((op : UInt8).toNat : Int), .int .i64 0, .bool false, .slice none 0 0] 50 (by first | rfl | simp)) hg)
  clear rc0 rc1 rc8 rz1 rz8 rl
  have R2 := Lib.hid hr
  have A2 := Lib.hid hat
  clear hat hr hg H1 R1 A1
  have by0 : w2.cell? ⟨w1.heap.size, 0, none⟩ = some (.int .u8 ((op : UInt8).toNat : Int)) := (H2.out.f (List.Mem.head _)).box.cell 0
  have byz0 : w2.frozen? ⟨w1.heap.size, 0, none⟩ = false := (H2.out.f (List.Mem.head _)).box.frozen 0
  have by1 : w2.cell? ⟨w1.heap.size, 1, none⟩ = some (.int .i64 0) := (H2.out.f (List.Mem.head _)).box.cell 1
  have byz1 : w2.frozen? ⟨w1.heap.size, 1, none⟩ = false := (H2.out.f (List.Mem.head _)).box.frozen 1
  have by2 : w2.cell? ⟨w1.heap.size, 2, none⟩ = some (.bool false) := (H2.out.f (List.Mem.head _)).box.cell 2
  have byz2 : w2.frozen? ⟨w1.heap.size, 2, none⟩ = false := (H2.out.f (List.Mem.head _)).box.frozen 2
  have by3 : w2.cell? ⟨w1.heap.size, 3, none⟩ = some (.slice none 0 0) := (H2.out.f (List.Mem.head _)).box.cell 3
  have byz3 : w2.frozen? ⟨w1.heap.size, 3, none⟩ = false := (H2.out.f (List.Mem.head _)).box.frozen 3
  have byl : w1.heap.size < w2.heap.size := (H2.out.f (List.Mem.head _)).box.lt
  have rc0 := R2.out.c0
  have rc1 := R2.out.c1
  have rc8 := R2.out.c8
  have rz1 := R2.out.z 1
  have rz8 := R2.out.z 9
  have rl := R2.out.lt
  go_wp2_with fail
  with_reducible refine (takes_true [33, 61] b T _ f (n + 1) (tkR [37] r0) _ R2.out A2.out hT Hhs.out).mono ?_
  rintro x w3 ⟨q3, rfl, hat, hr, hg⟩
  have H3 : Hid (HeldR w b [(w1.heap.size, #[.int .u8 ((op : UInt8).toNat : Int), .int .i64 0, .bool false, .slice none 0 0], 50), (w.heap.size, #[.int .u8 0, .int .i64 0, .bool false, .slice none 0 0], 50)] w3) := Lib.hid (HeldR.keep H2.out hg)
  clear by0 byz0 by1 byz1 by2 byz2 by3 byz3 byl rc0 rc1 rc8 rz1 rz8 rl
  have R3 := Lib.hid hr
  have A3 := Lib.hid hat
  clear hat hr hg H2 R2 A2
  have by0 : w3.cell? ⟨w1.heap.size, 0, none⟩ = some (.int .u8 ((op : UInt8).toNat : Int)) := (H3.out.f (List.Mem.head _)).box.cell 0
  have byz0 : w3.frozen? ⟨w1.heap.size, 0, none⟩ = false := (H3.out.f (List.Mem.head _)).box.frozen 0
  have by1 : w3.cell? ⟨w1.heap.size, 1, none⟩ = some (.int .i64 0) := (H3.out.f (List.Mem.head _)).box.cell 1
  have byz1 : w3.frozen? ⟨w1.heap.size, 1, none⟩ = false := (H3.out.f (List.Mem.head _)).box.frozen 1
  have by2 : w3.cell? ⟨w1.heap.size, 2, none⟩ = some (.bool false) := (H3.out.f (List.Mem.head _)).box.cell 2
  have byz2 : w3.frozen? ⟨w1.heap.size, 2, none⟩ = false := (H3.out.f (List.Mem.head _)).box.frozen 2
  have by3 : w3.cell? ⟨w1.heap.size, 3, none⟩ = some (.slice none 0 0) := (H3.out.f (List.Mem.head _)).box.cell 3
  have byz3 : w3.frozen? ⟨w1.heap.size, 3, none⟩ = false := (H3.out.f (List.Mem.head _)).box.frozen 3
  have byl : w1.heap.size < w3.heap.size := (H3.out.f (List.Mem.head _)).box.lt
  have rc0 := R3.out.c0
  have rc1 := R3.out.c1
  have rc8 := R3.out.c8
  have rz1 := R3.out.z 1
  have rz8 := R3.out.z 9
  have rl := R3.out.lt
  go_wp2_with fail
  clear by0 byz0 by1 byz1 by2 byz2 by3 byz3 byl rc0 rc1 rc8 rz1 rz8 rl
  have H4 : Hid (HeldR w b [(w1.heap.size, #[.int .u8 ((op : UInt8).toNat : Int), .int .i64 0, .bool true, .slice none 0 0], 50), (w.heap.size, #[.int .u8 0, .int .i64 0, .bool false, .slice none 0 0], 50)] (w3.setCell ⟨w1.heap.size, 2, none⟩ (.bool true))) := Lib.hid (HeldR.set1 (L1 := []) (L2 := [(w.heap.size, #[.int .u8 0, .int .i64 0, .bool false, .slice none 0 0], 50)]) H3.out 2 (.bool true))
  have R4 := Lib.hid (R3.out.other (a := ⟨w1.heap.size, 2, none⟩) (H3.out.ne (List.Mem.head _)) (.bool true))
  have A4 := A3
  generalize (w3.setCell ⟨w1.heap.size, 2, none⟩ (.bool true)) = w4 at *
  clear H3 R3 A3 
  have by0 : w4.cell? ⟨w1.heap.size, 0, none⟩ = some (.int .u8 ((op : UInt8).toNat : Int)) := (H4.out.f (List.Mem.head _)).box.cell 0
  have byz0 : w4.frozen? ⟨w1.heap.size, 0, none⟩ = false := (H4.out.f (List.Mem.head _)).box.frozen 0
  have by1 : w4.cell? ⟨w1.heap.size, 1, none⟩ = some (.int .i64 0) := (H4.out.f (List.Mem.head _)).box.cell 1
  have byz1 : w4.frozen? ⟨w1.heap.size, 1, none⟩ = false := (H4.out.f (List.Mem.head _)).box.frozen 1
  have by2 : w4.cell? ⟨w1.heap.size, 2, none⟩ = some (.bool true) := (H4.out.f (List.Mem.head _)).box.cell 2
  have byz2 : w4.frozen? ⟨w1.heap.size, 2, none⟩ = false := (H4.out.f (List.Mem.head _)).box.frozen 2
  have by3 : w4.cell? ⟨w1.heap.size, 3, none⟩ = some (.slice none 0 0) := (H4.out.f (List.Mem.head _)).box.cell 3
  have byz3 : w4.frozen? ⟨w1.heap.size, 3, none⟩ = false := (H4.out.f (List.Mem.head _)).box.frozen 3
  have byl : w1.heap.size < w4.heap.size := (H4.out.f (List.Mem.head _)).box.lt
  have rc0 := R4.out.c0
  have rc1 := R4.out.c1
  have rc8 := R4.out.c8
  have rz1 := R4.out.z 1
  have rz8 := R4.out.z 9
  have rl := R4.out.lt
  have HSZ := Lib.hid (H4.out).gr.size
  with_reducible refine (ranges_as b T _ f (n + 1) (tkR [33, 61] (tkR [37] r0)) _ R4.out A4.out hT).mono ?_
  intro x w5 ht
  rw [HhR.out] at ht
  obtain ⟨v5, q5, rfl, hv, hat, hr, hg⟩ := ht
  have HV := Lib.hid hv
  clear hv
  have H5 : Hid (HeldR w b [(w1.heap.size, #[.int .u8 ((op : UInt8).toNat : Int), .int .i64 0, .bool true, .slice none 0 0], 50), (w.heap.size, #[.int .u8 0, .int .i64 0, .bool false, .slice none 0 0], 50)] w5) := Lib.hid (HeldR.keep H4.out hg)
  clear by0 byz0 by1 byz1 by2 byz2 by3 byz3 byl rc0 rc1 rc8 rz1 rz8 rl
  have R5 := Lib.hid hr
  have A5 := Lib.hid hat
  clear hat hr hg H4 R4 A4
  have by0 : w5.cell? ⟨w1.heap.size, 0, none⟩ = some (.int .u8 ((op : UInt8).toNat : Int)) := (H5.out.f (List.Mem.head _)).box.cell 0
  have byz0 : w5.frozen? ⟨w1.heap.size, 0, none⟩ = false := (H5.out.f (List.Mem.head _)).box.frozen 0
  have by1 : w5.cell? ⟨w1.heap.size, 1, none⟩ = some (.int .i64 0) := (H5.out.f (List.Mem.head _)).box.cell 1
  have byz1 : w5.frozen? ⟨w1.heap.size, 1, none⟩ = false := (H5.out.f (List.Mem.head _)).box.frozen 1
  have by2 : w5.cell? ⟨w1.heap.size, 2, none⟩ = some (.bool true) := (H5.out.f (List.Mem.head _)).box.cell 2
  have byz2 : w5.frozen? ⟨w1.heap.size, 2, none⟩ = false := (H5.out.f (List.Mem.head _)).box.frozen 2
  have by3 : w5.cell? ⟨w1.heap.size, 3, none⟩ = some (.slice none 0 0) := (H5.out.f (List.Mem.head _)).box.cell 3
  have byz3 : w5.frozen? ⟨w1.heap.size, 3, none⟩ = false := (H5.out.f (List.Mem.head _)).box.frozen 3
  have byl : w1.heap.size < w5.heap.size := (H5.out.f (List.Mem.head _)).box.lt
  have bx0 : w5.cell? ⟨w.heap.size, 0, none⟩ = some (.int .u8 0) := (H5.out.f (List.Mem.tail _ (List.Mem.head _))).box.cell 0
  have bxz0 : w5.frozen? ⟨w.heap.size, 0, none⟩ = false := (H5.out.f (List.Mem.tail _ (List.Mem.head _))).box.frozen 0
  have bx1 : w5.cell? ⟨w.heap.size, 1, none⟩ = some (.int .i64 0) := (H5.out.f (List.Mem.tail _ (List.Mem.head _))).box.cell 1
  have bxz1 : w5.frozen? ⟨w.heap.size, 1, none⟩ = false := (H5.out.f (List.Mem.tail _ (List.Mem.head _))).box.frozen 1
  have bx2 : w5.cell? ⟨w.heap.size, 2, none⟩ = some (.bool false) := (H5.out.f (List.Mem.tail _ (List.Mem.head _))).box.cell 2
  have bxz2 : w5.frozen? ⟨w.heap.size, 2, none⟩ = false := (H5.out.f (List.Mem.tail _ (List.Mem.head _))).box.frozen 2
  have bx3 : w5.cell? ⟨w.heap.size, 3, none⟩ = some (.slice none 0 0) := (H5.out.f (List.Mem.tail _ (List.Mem.head _))).box.cell 3
  have bxz3 : w5.frozen? ⟨w.heap.size, 3, none⟩ = false := (H5.out.f (List.Mem.tail _ (List.Mem.head _))).box.frozen 3
  have bxl : w.heap.size < w5.heap.size := (H5.out.f (List.Mem.tail _ (List.Mem.head _))).box.lt
  have rc0 := R5.out.c0
  have rc1 := R5.out.c1
  have rc8 := R5.out.c8
  have rz1 := R5.out.z 1
  have rz8 := R5.out.z 9
  have rl := R5.out.lt
  obtain ⟨sa, sn, sc, hsv⟩ := own_slice HV.out
  subst hsv
  have OW5 : Hid (Rngs w5 w.heap.size xs (.slice sa sn sc)) := Lib.hid (own_mono HV.out HSZ.out)
  clear HV HSZ
  have hlt : w.heap.size < w1.heap.size := (List.pairwise_cons.1 H5.out.desc).1 _ (List.Mem.head _)
  have hne1 : ¬ w.heap.size = w1.heap.size := by omega
  have hne2 : ¬ w1.heap.size = w.heap.size := by omega
  go_wp2
  have HE1 : HeldR w b [(w1.heap.size, #[.int .u8 ((op : UInt8).toNat : Int), .int .i64 0, .bool true, .slice sa sn sc], 50), (w.heap.size, #[.int .u8 0, .int .i64 0, .bool false, .slice none 0 0], 50)] (w5.setCell ⟨w1.heap.size, 3, none⟩ (.slice sa sn sc)) := (HeldR.set1 (L1 := []) (L2 := [(w.heap.size, #[.int .u8 0, .int .i64 0, .bool false, .slice none 0 0], 50)]) H5.out 3 (.slice sa sn sc))
  have RE1 := (R5.out.other (a := ⟨w1.heap.size, 3, none⟩) (H5.out.ne (List.Mem.head _)) (.slice sa sn sc))
  have KE1 := (Rngs.kept OW5.out (grown_set (World.grownBy.refl _ _) 3 (.slice sa sn sc)) (BoxT.apart (H5.out.f (List.Mem.head _)) (by decide)))
  refine bodyPost_ret (v := .agg #[.int .u8 ((op : UInt8).toNat : Int), .int .i64 0, .bool true, .slice sa sn sc]) (by simp [results, Tryz.results135, go_sem, bx0, bx1, bx2, bx3, by0, by1, by2, by3, bxl, byl, hne1, hne2]) rfl ?_
  show Told _ _ _ _ _ _ (relP n l) _ _
  rw [HX.out]
  exact ⟨_, _, rfl, ⟨_, rfl, (Rngs.kept KE1 (grown_set (grown_set (grown_set (grown_set (World.grownBy.refl _ (some (w.heap.size))) 0 (.int .u8 ((op : UInt8).toNat : Int))) 1 (.int .i64 0)) 2 (.bool true)) 3 (.slice sa sn sc)) (BoxT.apart (HE1.f (List.Mem.tail _ (List.Mem.head _))) (by decide)))⟩, A5.out, ((((RE1.other (a := ⟨w.heap.size, 0, none⟩) (HE1.ne (List.Mem.tail _ (List.Mem.head _))) (.int .u8 ((op : UInt8).toNat : Int))).other (a := ⟨w.heap.size, 1, none⟩) (HE1.ne (List.Mem.tail _ (List.Mem.head _))) (.int .i64 0)).other (a := ⟨w.heap.size, 2, none⟩) (HE1.ne (List.Mem.tail _ (List.Mem.head _))) (.bool true)).other (a := ⟨w.heap.size, 3, none⟩) (HE1.ne (List.Mem.tail _ (List.Mem.head _))) (.slice sa sn sc)), ((HeldR.set1 (L1 := [(w1.heap.size, #[.int .u8 ((op : UInt8).toNat : Int), .int .i64 0, .bool true, .slice sa sn sc], 50)]) (L2 := []) (c := w.heap.size) (cs := #[.int .u8 ((op : UInt8).toNat : Int), .int .i64 0, .bool true, .slice none 0 0]) (t := 50) (HeldR.set1 (L1 := [(w1.heap.size, #[.int .u8 ((op : UInt8).toNat : Int), .int .i64 0, .bool true, .slice sa sn sc], 50)]) (L2 := []) (c := w.heap.size) (cs := #[.int .u8 ((op : UInt8).toNat : Int), .int .i64 0, .bool false, .slice none 0 0]) (t := 50) (HeldR.set1 (L1 := [(w1.heap.size, #[.int .u8 ((op : UInt8).toNat : Int), .int .i64 0, .bool true, .slice sa sn sc], 50)]) (L2 := []) (c := w.heap.size) (cs := #[.int .u8 ((op : UInt8).toNat : Int), .int .i64 0, .bool false, .slice none 0 0]) (t := 50) (HeldR.set1 (L1 := [(w1.heap.size, #[.int .u8 ((op : UInt8).toNat : Int), .int .i64 0, .bool true, .slice sa sn sc], 50)]) (L2 := []) (c := w.heap.size) (cs := #[.int .u8 0, .int .i64 0, .bool false, .slice none 0 0]) (t := 50) HE1 0 (.int .u8 ((op : UInt8).toNat : Int))) 1 (.int .i64 0)) 2 (.bool true)) 3 (.slice sa sn sc))).gr⟩

set_option maxRecDepth 100000 in
set_option maxHeartbeats 3200000 in
theorem rel_yes_bad_None (op : UInt8) (r0 : List UInt8) (md : Nat) (r1 : List UInt8) (b : Nat) (T : ByteArray) (p : Nat) (f : Nat → Bool) (n : Nat) (l : List UInt8) (w : World) (h : Rd w b T p f n) (ha : At T p l) (hT : T.size ≤ 1000000) (hn : n ≤ 200) (hO : operP n l = .ok op r0) (hk : tk [37] r0 = true) (hN : numP 1 (tkR [37] r0) = .ok md r1) (hs : tk [33, 61] r1 = false) (he : tk [61] (tkR [33, 61] r1) = false) :
    Calls Tryz.prog 135 #[.pointer (some ⟨b, 0, none⟩)] w (Told b T f (n + 1) w (fun w' x v => ∃ u, v = .agg #[.int .u8 ((x.op : UInt8).toNat : Int), .int .i64 ((x.mod : Nat) : Int), .bool x.nt, u] ∧ Rngs w' w.heap.size x.rs u) (relP n l)) := by
  have R0 := Lib.hid h
  have A0 := Lib.hid ha
  have HhO := Lib.hid hO
  have Hhk := Lib.hid hk
  have HhN := Lib.hid hN
  have Hhs := Lib.hid hs
  have Hhe := Lib.hid he
  have HX : Hid (relP n l = .bad 1 (tkR [61] (tkR [33, 61] r1))) := Lib.hid (by have hm : modP r0 = .ok md r1 := (by unfold modP; rw [if_pos hk]; exact hN); have hg : signP r1 = .bad 1 (tkR [61] (tkR [33, 61] r1)) := (by unfold signP; rw [if_neg (by rw [hs]; decide), if_neg (by rw [he]; decide)]); unfold relP; rw [hO]; simp only; rw [hm]; simp only; rw [hg])
  clear h ha hO hk hN hs he
  go_enter Tryz.func135, Tryz.ntmps135
  go_wp2_with fail
  with_reducible refine (oper_as b T p f n l _ (R0.out.alloc _) A0.out hT hn).mono ?_
  intro x w1 ht
  rw [HhO.out] at ht
  obtain ⟨v1, q1, rfl, hv, hat, hr, hg⟩ := ht
  obtain rfl := hv
  have H1 : Hid (HeldR w b [(w.heap.size, #[.int .u8 0, .int .i64 0, .bool false, .slice none 0 0], 50)] w1) := Lib.hid (HeldR.keep (HeldR.alloc (HeldR.refl R0.out.lt) (w.heap.size) #[.int .u8 0, .int .i64 0, .bool false, .slice none 0 0] 50 (by first | rfl | simp)) hg)
  have R1 := Lib.hid hr
  have A1 := Lib.hid hat
  clear hat hr hg
  have rc0 := R1.out.c0
  have rc1 := R1.out.c1
  have rc8 := R1.out.c8
  have rz1 := R1.out.z 1
  have rz8 := R1.out.z 9
  have rl := R1.out.lt
  go_wp2_with fail
  with_reducible refine (takes_true [37] b T _ f (n + 1) r0 _ (R1.out.alloc _) A1.out hT Hhk.out).mono ?_
  rintro x w2 ⟨q2, rfl, hat, hr, hg⟩
  have H2 : Hid (HeldR w b [(w1.heap.size, #[.int .u8 ((op : UInt8).toNat : Int), .int .i64 0, .bool false, .slice none 0 0], 50), (w.heap.size, #[.int .u8 0, .int .i64 0, .bool false, .slice none 0 0], 50)] w2) := Lib.hid (HeldR.keep (HeldR.alloc H1.out (w1.heap.size) #[.int .u8 ((op : UInt8).toNat : Int), .int .i64 0, .bool false, .slice none 0 0] 50 (by first | rfl | simp)) hg)
  clear rc0 rc1 rc8 rz1 rz8 rl
  have R2 := Lib.hid hr
  have A2 := Lib.hid hat
  clear hat hr hg H1 R1 A1
  have by0 : w2.cell? ⟨w1.heap.size, 0, none⟩ = some (.int .u8 ((op : UInt8).toNat : Int)) := (H2.out.f (List.Mem.head _)).box.cell 0
  have byz0 : w2.frozen? ⟨w1.heap.size, 0, none⟩ = false := (H2.out.f (List.Mem.head _)).box.frozen 0
  have by1 : w2.cell? ⟨w1.heap.size, 1, none⟩ = some (.int .i64 0) := (H2.out.f (List.Mem.head _)).box.cell 1
  have byz1 : w2.frozen? ⟨w1.heap.size, 1, none⟩ = false := (H2.out.f (List.Mem.head _)).box.frozen 1
  have by2 : w2.cell? ⟨w1.heap.size, 2, none⟩ = some (.bool false) := (H2.out.f (List.Mem.head _)).box.cell 2
  have byz2 : w2.frozen? ⟨w1.heap.size, 2, none⟩ = false := (H2.out.f (List.Mem.head _)).box.frozen 2
  have by3 : w2.cell? ⟨w1.heap.size, 3, none⟩ = some (.slice none 0 0) := (H2.out.f (List.Mem.head _)).box.cell 3
  have byz3 : w2.frozen? ⟨w1.heap.size, 3, none⟩ = false := (H2.out.f (List.Mem.head _)).box.frozen 3
  have byl : w1.heap.size < w2.heap.size := (H2.out.f (List.Mem.head _)).box.lt
  have rc0 := R2.out.c0
  have rc1 := R2.out.c1
  have rc8 := R2.out.c8
  have rz1 := R2.out.z 1
  have rz8 := R2.out.z 9
  have rl := R2.out.lt
  go_wp2_with fail
  with_reducible refine (num_1 b T _ f (n + 1) (tkR [37] r0) _ R2.out A2.out hT).mono ?_
  intro x w3 ht
  rw [HhN.out] at ht
  obtain ⟨v3, q3, rfl, hv, hat, hr, hg⟩ := ht
  obtain rfl := hv
  have H3 : Hid (HeldR w b [(w1.heap.size, #[.int .u8 ((op : UInt8).toNat : Int), .int .i64 0, .bool false, .slice none 0 0], 50), (w.heap.size, #[.int .u8 0, .int .i64 0, .bool false, .slice none 0 0], 50)] w3) := Lib.hid (HeldR.keep H2.out hg)
  clear by0 byz0 by1 byz1 by2 byz2 by3 byz3 byl rc0 rc1 rc8 rz1 rz8 rl
  have R3 := Lib.hid hr
  have A3 := Lib.hid hat
  clear hat hr hg H2 R2 A2
  have by0 : w3.cell? ⟨w1.heap.size, 0, none⟩ = some (.int .u8 ((op : UInt8).toNat : Int)) := (H3.out.f (List.Mem.head _)).box.cell 0
  have byz0 : w3.frozen? ⟨w1.heap.size, 0, none⟩ = false := (H3.out.f (List.Mem.head _)).box.frozen 0
  have by1 : w3.cell? ⟨w1.heap.size, 1, none⟩ = some (.int .i64 0) := (H3.out.f (List.Mem.head _)).box.cell 1
  have byz1 : w3.frozen? ⟨w1.heap.size, 1, none⟩ = false := (H3.out.f (List.Mem.head _)).box.frozen 1
  have by2 : w3.cell? ⟨w1.heap.size, 2, none⟩ = some (.bool false) := (H3.out.f (List.Mem.head _)).box.cell 2
  have byz2 : w3.frozen? ⟨w1.heap.size, 2, none⟩ = false := (H3.out.f (List.Mem.head _)).box.frozen 2
  have by3 : w3.cell? ⟨w1.heap.size, 3, none⟩ = some (.slice none 0 0) := (H3.out.f (List.Mem.head _)).box.cell 3
  have byz3 : w3.frozen? ⟨w1.heap.size, 3, none⟩ = false := (H3.out.f (List.Mem.head _)).box.frozen 3
  have byl : w1.heap.size < w3.heap.size := (H3.out.f (List.Mem.head _)).box.lt
  have rc0 := R3.out.c0
  have rc1 := R3.out.c1
  have rc8 := R3.out.c8
  have rz1 := R3.out.z 1
  have rz8 := R3.out.z 9
  have rl := R3.out.lt
  go_wp2_with fail
  clear by0 byz0 by1 byz1 by2 byz2 by3 byz3 byl rc0 rc1 rc8 rz1 rz8 rl
  have H4 : Hid (HeldR w b [(w1.heap.size, #[.int .u8 ((op : UInt8).toNat : Int), .int .i64 ((md : Nat) : Int), .bool false, .slice none 0 0], 50), (w.heap.size, #[.int .u8 0, .int .i64 0, .bool false, .slice none 0 0], 50)] (w3.setCell ⟨w1.heap.size, 1, none⟩ (.int .i64 ((md : Nat) : Int)))) := Lib.hid (HeldR.set1 (L1 := []) (L2 := [(w.heap.size, #[.int .u8 0, .int .i64 0, .bool false, .slice none 0 0], 50)]) H3.out 1 (.int .i64 ((md : Nat) : Int)))
  have R4 := Lib.hid (R3.out.other (a := ⟨w1.heap.size, 1, none⟩) (H3.out.ne (List.Mem.head _)) (.int .i64 ((md : Nat) : Int)))
  have A4 := A3
  generalize (w3.setCell ⟨w1.heap.size, 1, none⟩ (.int .i64 ((md : Nat) : Int))) = w4 at *
  clear H3 R3 A3 
  have by0 : w4.cell? ⟨w1.heap.size, 0, none⟩ = some (.int .u8 ((op : UInt8).toNat : Int)) := (H4.out.f (List.Mem.head _)).box.cell 0
  have byz0 : w4.frozen? ⟨w1.heap.size, 0, none⟩ = false := (H4.out.f (List.Mem.head _)).box.frozen 0
  have by1 : w4.cell? ⟨w1.heap.size, 1, none⟩ = some (.int .i64 ((md : Nat) : Int)) := (H4.out.f (List.Mem.head _)).box.cell 1
  have byz1 : w4.frozen? ⟨w1.heap.size, 1, none⟩ = false := (H4.out.f (List.Mem.head _)).box.frozen 1
  have by2 : w4.cell? ⟨w1.heap.size, 2, none⟩ = some (.bool false) := (H4.out.f (List.Mem.head _)).box.cell 2
  have byz2 : w4.frozen? ⟨w1.heap.size, 2, none⟩ = false := (H4.out.f (List.Mem.head _)).box.frozen 2
  have by3 : w4.cell? ⟨w1.heap.size, 3, none⟩ = some (.slice none 0 0) := (H4.out.f (List.Mem.head _)).box.cell 3
  have byz3 : w4.frozen? ⟨w1.heap.size, 3, none⟩ = false := (H4.out.f (List.Mem.head _)).box.frozen 3
  have byl : w1.heap.size < w4.heap.size := (H4.out.f (List.Mem.head _)).box.lt
  have rc0 := R4.out.c0
  have rc1 := R4.out.c1
  have rc8 := R4.out.c8
  have rz1 := R4.out.z 1
  have rz8 := R4.out.z 9
  have rl := R4.out.lt
  with_reducible refine (takes_false [33, 61] b T _ f (n + 1) r1 _ R4.out A4.out hT Hhs.out).mono ?_
  rintro x w5 ⟨q5, rfl, hat, hr, hg⟩
  have H5 : Hid (HeldR w b [(w1.heap.size, #[.int .u8 ((op : UInt8).toNat : Int), .int .i64 ((md : Nat) : Int), .bool false, .slice none 0 0], 50), (w.heap.size, #[.int .u8 0, .int .i64 0, .bool false, .slice none 0 0], 50)] w5) := Lib.hid (HeldR.keep H4.out hg)
  clear by0 byz0 by1 byz1 by2 byz2 by3 byz3 byl rc0 rc1 rc8 rz1 rz8 rl
  have R5 := Lib.hid hr
  have A5 := Lib.hid hat
  clear hat hr hg H4 R4 A4
  have by0 : w5.cell? ⟨w1.heap.size, 0, none⟩ = some (.int .u8 ((op : UInt8).toNat : Int)) := (H5.out.f (List.Mem.head _)).box.cell 0
  have byz0 : w5.frozen? ⟨w1.heap.size, 0, none⟩ = false := (H5.out.f (List.Mem.head _)).box.frozen 0
  have by1 : w5.cell? ⟨w1.heap.size, 1, none⟩ = some (.int .i64 ((md : Nat) : Int)) := (H5.out.f (List.Mem.head _)).box.cell 1
  have byz1 : w5.frozen? ⟨w1.heap.size, 1, none⟩ = false := (H5.out.f (List.Mem.head _)).box.frozen 1
  have by2 : w5.cell? ⟨w1.heap.size, 2, none⟩ = some (.bool false) := (H5.out.f (List.Mem.head _)).box.cell 2
  have byz2 : w5.frozen? ⟨w1.heap.size, 2, none⟩ = false := (H5.out.f (List.Mem.head _)).box.frozen 2
  have by3 : w5.cell? ⟨w1.heap.size, 3, none⟩ = some (.slice none 0 0) := (H5.out.f (List.Mem.head _)).box.cell 3
  have byz3 : w5.frozen? ⟨w1.heap.size, 3, none⟩ = false := (H5.out.f (List.Mem.head _)).box.frozen 3
  have byl : w1.heap.size < w5.heap.size := (H5.out.f (List.Mem.head _)).box.lt
  have rc0 := R5.out.c0
  have rc1 := R5.out.c1
  have rc8 := R5.out.c8
  have rz1 := R5.out.z 1
  have rz8 := R5.out.z 9
  have rl := R5.out.lt
  go_wp2_with fail
  clear by0 byz0 by1 byz1 by2 byz2 by3 byz3 byl rc0 rc1 rc8 rz1 rz8 rl
  have H6 : Hid (HeldR w b [(w1.heap.size, #[.int .u8 ((op : UInt8).toNat : Int), .int .i64 ((md : Nat) : Int), .bool false, .slice none 0 0], 50), (w.heap.size, #[.int .u8 0, .int .i64 0, .bool false, .slice none 0 0], 50)] (w5.setCell ⟨w1.heap.size, 2, none⟩ (.bool false))) := Lib.hid (HeldR.set1 (L1 := []) (L2 := [(w.heap.size, #[.int .u8 0, .int .i64 0, .bool false, .slice none 0 0], 50)]) H5.out 2 (.bool false))
  have R6 := Lib.hid (R5.out.other (a := ⟨w1.heap.size, 2, none⟩) (H5.out.ne (List.Mem.head _)) (.bool false))
  have A6 := A5
  generalize (w5.setCell ⟨w1.heap.size, 2, none⟩ (.bool false)) = w6 at *
  clear H5 R5 A5 
  have by0 : w6.cell? ⟨w1.heap.size, 0, none⟩ = some (.int .u8 ((op : UInt8).toNat : Int)) := (H6.out.f (List.Mem.head _)).box.cell 0
  have byz0 : w6.frozen? ⟨w1.heap.size, 0, none⟩ = false := (H6.out.f (List.Mem.head _)).box.frozen 0
  have by1 : w6.cell? ⟨w1.heap.size, 1, none⟩ = some (.int .i64 ((md : Nat) : Int)) := (H6.out.f (List.Mem.head _)).box.cell 1
  have byz1 : w6.frozen? ⟨w1.heap.size, 1, none⟩ = false := (H6.out.f (List.Mem.head _)).box.frozen 1
  have by2 : w6.cell? ⟨w1.heap.size, 2, none⟩ = some (.bool false) := (H6.out.f (List.Mem.head _)).box.cell 2
  have byz2 : w6.frozen? ⟨w1.heap.size, 2, none⟩ = false := (H6.out.f (List.Mem.head _)).box.frozen 2
  have by3 : w6.cell? ⟨w1.heap.size, 3, none⟩ = some (.slice none 0 0) := (H6.out.f (List.Mem.head _)).box.cell 3
  have byz3 : w6.frozen? ⟨w1.heap.size, 3, none⟩ = false := (H6.out.f (List.Mem.head _)).box.frozen 3
  have byl : w1.heap.size < w6.heap.size := (H6.out.f (List.Mem.head _)).box.lt
  have rc0 := R6.out.c0
  have rc1 := R6.out.c1
  have rc8 := R6.out.c8
  have rz1 := R6.out.z 1
  have rz8 := R6.out.z 9
  have rl := R6.out.lt
  with_reducible refine (wants_false [61] b T _ f (n + 1) (tkR [33, 61] r1) _ R6.out A6.out hT Hhe.out).mono ?_
  rintro x w7 ⟨qe, rfl, hat, hg⟩
  have HGE := Lib.hid (HeldR.keep H6.out hg).gr
  have HAE := Lib.hid hat
  clear hat hg
  clear by0 byz0 by1 byz1 by2 byz2 by3 byz3 byl rc0 rc1 rc8 rz1 rz8 rl
  go_wp2
  refine ⟨rfl, ?_⟩
  show Told _ _ _ _ _ _ (relP n l) _ _
  rw [HX.out]
  exact ⟨qe, rfl, HAE.out, HGE.out⟩

set_option maxRecDepth 100000 in
set_option maxHeartbeats 3200000 in
theorem rel_yes_eq_bad (op : UInt8) (r0 : List UInt8) (md : Nat) (r1 : List UInt8) (c : Int) (re : List UInt8) (b : Nat) (T : ByteArray) (p : Nat) (f : Nat → Bool) (n : Nat) (l : List UInt8) (w : World) (h : Rd w b T p f n) (ha : At T p l) (hT : T.size ≤ 1000000) (hn : n ≤ 200) (hO : operP n l = .ok op r0) (hk : tk [37] r0 = true) (hN : numP 1 (tkR [37] r0) = .ok md r1) (hs : tk [33, 61] r1 = false) (he : tk [61] (tkR [33, 61] r1) = true) (hR : rangesP (tkR [61] (tkR [33, 61] r1)) = .bad c re) :
    Calls Tryz.prog 135 #[.pointer (some ⟨b, 0, none⟩)] w (Told b T f (n + 1) w (fun w' x v => ∃ u, v = .agg #[.int .u8 ((x.op : UInt8).toNat : Int), .int .i64 ((x.mod : Nat) : Int), .bool x.nt, u] ∧ Rngs w' w.heap.size x.rs u) (relP n l)) := by
  have R0 := Lib.hid h
  have A0 := Lib.hid ha
  have HhO := Lib.hid hO
  have Hhk := Lib.hid hk
  have HhN := Lib.hid hN
  have Hhs := Lib.hid hs
  have Hhe := Lib.hid he
  have HhR := Lib.hid hR
  have HX : Hid (relP n l = .bad c re) := Lib.hid (by have hm : modP r0 = .ok md r1 := (by unfold modP; rw [if_pos hk]; exact hN); have hg : signP r1 = .ok false (tkR [61] (tkR [33, 61] r1)) := (by unfold signP; rw [if_neg (by rw [hs]; decide), if_pos he]); unfold relP; rw [hO]; simp only; rw [hm]; simp only; rw [hg]; simp only; rw [hR])
  clear h ha hO hk hN hs he hR
  go_enter Tryz.func135, Tryz.ntmps135
  go_wp2_with fail
  with_reducible refine (oper_as b T p f n l _ (R0.out.alloc _) A0.out hT hn).mono ?_
  intro x w1 ht
  rw [HhO.out] at ht
  obtain ⟨v1, q1, rfl, hv, hat, hr, hg⟩ := ht
  obtain rfl := hv
  have H1 : Hid (HeldR w b [(w.heap.size, #[.int .u8 0, .int .i64 0, .bool false, .slice none 0 0], 50)] w1) := Lib.hid (HeldR.keep (HeldR.alloc (HeldR.refl R0.out.lt) (w.heap.size) #[.int .u8 0, .int .i64 0, .bool false, .slice none 0 0] 50 (by first | rfl | simp)) hg)
  have R1 := Lib.hid hr
  have A1 := Lib.hid hat
  clear hat hr hg
  have rc0 := R1.out.c0
  have rc1 := R1.out.c1
  have rc8 := R1.out.c8
  have rz1 := R1.out.z 1
  have rz8 := R1.out.z 9
  have rl := R1.out.lt
  go_wp2_with fail
  with_reducible refine (takes_true [37] b T _ f (n + 1) r0 _ (R1.out.alloc _) A1.out hT Hhk.out).mono ?_
  rintro x w2 ⟨q2, rfl, hat, hr, hg⟩
  have H2 : Hid (HeldR w b [(w1.heap.size, #[.int .u8 ((op : UInt8).toNat : Int), .int .i64 0, .bool false, .slice none 0 0], 50), (w.heap.size, #[.int .u8 0, .int .i64 0, .bool false, .slice none 0 0], 50)] w2) := Lib.hid (HeldR.keep (HeldR.alloc H1.out (w1.heap.size) #[.int .u8 ((op : UInt8).toNat : Int), .int .i64 0, .bool false, .slice none 0 0] 50 (by first | rfl | simp)) hg)
  clear rc0 rc1 rc8 rz1 rz8 rl
  have R2 := Lib.hid hr
  have A2 := Lib.hid hat
  clear hat hr hg H1 R1 A1
  have by0 : w2.cell? ⟨w1.heap.size, 0, none⟩ = some (.int .u8 ((op : UInt8).toNat : Int)) := (H2.out.f (List.Mem.head _)).box.cell 0
  have byz0 : w2.frozen? ⟨w1.heap.size, 0, none⟩ = false := (H2.out.f (List.Mem.head _)).box.frozen 0
  have by1 : w2.cell? ⟨w1.heap.size, 1, none⟩ = some (.int .i64 0) := (H2.out.f (List.Mem.head _)).box.cell 1
  have byz1 : w2.frozen? ⟨w1.heap.size, 1, none⟩ = false := (H2.out.f (List.Mem.head _)).box.frozen 1
  have by2 : w2.cell? ⟨w1.heap.size, 2, none⟩ = some (.bool false) := (H2.out.f (List.Mem.head _)).box.cell 2
  have byz2 : w2.frozen? ⟨w1.heap.size, 2, none⟩ = false := (H2.out.f (List.Mem.head _)).box.frozen 2
  have by3 : w2.cell? ⟨w1.heap.size, 3, none⟩ = some (.slice none 0 0) := (H2.out.f (List.Mem.head _)).box.cell 3
  have byz3 : w2.frozen? ⟨w1.heap.size, 3, none⟩ = false := (H2.out.f (List.Mem.head _)).box.frozen 3
  have byl : w1.heap.size < w2.heap.size := (H2.out.f (List.Mem.head _)).box.lt
  have rc0 := R2.out.c0
  have rc1 := R2.out.c1
  have rc8 := R2.out.c8
  have rz1 := R2.out.z 1
  have rz8 := R2.out.z 9
  have rl := R2.out.lt
  go_wp2_with fail
  with_reducible refine (num_1 b T _ f (n + 1) (tkR [37] r0) _ R2.out A2.out hT).mono ?_
  intro x w3 ht
  rw [HhN.out] at ht
  obtain ⟨v3, q3, rfl, hv, hat, hr, hg⟩ := ht
  obtain rfl := hv
  have H3 : Hid (HeldR w b [(w1.heap.size, #[.int .u8 ((op : UInt8).toNat : Int), .int .i64 0, .bool false, .slice none 0 0], 50), (w.heap.size, #[.int .u8 0, .int .i64 0, .bool false, .slice none 0 0], 50)] w3) := Lib.hid (HeldR.keep H2.out hg)
  clear by0 byz0 by1 byz1 by2 byz2 by3 byz3 byl rc0 rc1 rc8 rz1 rz8 rl
  have R3 := Lib.hid hr
  have A3 := Lib.hid hat
  clear hat hr hg H2 R2 A2
  have by0 : w3.cell? ⟨w1.heap.size, 0, none⟩ = some (.int .u8 ((op : UInt8).toNat : Int)) := (H3.out.f (List.Mem.head _)).box.cell 0
  have byz0 : w3.frozen? ⟨w1.heap.size, 0, none⟩ = false := (H3.out.f (List.Mem.head _)).box.frozen 0
  have by1 : w3.cell? ⟨w1.heap.size, 1, none⟩ = some (.int .i64 0) := (H3.out.f (List.Mem.head _)).box.cell 1
  have byz1 : w3.frozen? ⟨w1.heap.size, 1, none⟩ = false := (H3.out.f (List.Mem.head _)).box.frozen 1
  have by2 : w3.cell? ⟨w1.heap.size, 2, none⟩ = some (.bool false) := (H3.out.f (List.Mem.head _)).box.cell 2
  have byz2 : w3.frozen? ⟨w1.heap.size, 2, none⟩ = false := (H3.out.f (List.Mem.head _)).box.frozen 2
  have by3 : w3.cell? ⟨w1.heap.size, 3, none⟩ = some (.slice none 0 0) := (H3.out.f (List.Mem.head _)).box.cell 3
  have byz3 : w3.frozen? ⟨w1.heap.size, 3, none⟩ = false := (H3.out.f (List.Mem.head _)).box.frozen 3
  have byl : w1.heap.size < w3.heap.size := (H3.out.f (List.Mem.head _)).box.lt
  have rc0 := R3.out.c0
  have rc1 := R3.out.c1
  have rc8 := R3.out.c8
  have rz1 := R3.out.z 1
  have rz8 := R3.out.z 9
  have rl := R3.out.lt
  go_wp2_with fail
  clear by0 byz0 by1 byz1 by2 byz2 by3 byz3 byl rc0 rc1 rc8 rz1 rz8 rl
  have H4 : Hid (HeldR w b [(w1.heap.size, #[.int .u8 ((op : UInt8).toNat : Int), .int .i64 ((md : Nat) : Int), .bool false, .slice none 0 0], 50), (w.heap.size, #[.int .u8 0, .int .i64 0, .bool false, .slice none 0 0], 50)] (w3.setCell ⟨w1.heap.size, 1, none⟩ (.int .i64 ((md : Nat) : Int)))) := Lib.hid (HeldR.set1 (L1 := []) (L2 := [(w.heap.size, #[.int .u8 0, .int .i64 0, .bool false, .slice none 0 0], 50)]) H3.out 1 (.int .i64 ((md : Nat) : Int)))
  have R4 := Lib.hid (R3.out.other (a := ⟨w1.heap.size, 1, none⟩) (H3.out.ne (List.Mem.head _)) (.int .i64 ((md : Nat) : Int)))
  have A4 := A3
  generalize (w3.setCell ⟨w1.heap.size, 1, none⟩ (.int .i64 ((md : Nat) : Int))) = w4 at *
  clear H3 R3 A3 
  have by0 : w4.cell? ⟨w1.heap.size, 0, none⟩ = some (.int .u8 ((op : UInt8).toNat : Int)) := (H4.out.f (List.Mem.head _)).box.cell 0
  have byz0 : w4.frozen? ⟨w1.heap.size, 0, none⟩ = false := (H4.out.f (List.Mem.head _)).box.frozen 0
  have by1 : w4.cell? ⟨w1.heap.size, 1, none⟩ = some (.int .i64 ((md : Nat) : Int)) := (H4.out.f (List.Mem.head _)).box.cell 1
  have byz1 : w4.frozen? ⟨w1.heap.size, 1, none⟩ = false := (H4.out.f (List.Mem.head _)).box.frozen 1
  have by2 : w4.cell? ⟨w1.heap.size, 2, none⟩ = some (.bool false) := (H4.out.f (List.Mem.head _)).box.cell 2
  have byz2 : w4.frozen? ⟨w1.heap.size, 2, none⟩ = false := (H4.out.f (List.Mem.head _)).box.frozen 2
  have by3 : w4.cell? ⟨w1.heap.size, 3, none⟩ = some (.slice none 0 0) := (H4.out.f (List.Mem.head _)).box.cell 3
  have byz3 : w4.frozen? ⟨w1.heap.size, 3, none⟩ = false := (H4.out.f (List.Mem.head _)).box.frozen 3
  have byl : w1.heap.size < w4.heap.size := (H4.out.f (List.Mem.head _)).box.lt
  have rc0 := R4.out.c0
  have rc1 := R4.out.c1
  have rc8 := R4.out.c8
  have rz1 := R4.out.z 1
  have rz8 := R4.out.z 9
  have rl := R4.out.lt
  with_reducible refine (takes_false [33, 61] b T _ f (n + 1) r1 _ R4.out A4.out hT Hhs.out).mono ?_
  rintro x w5 ⟨q5, rfl, hat, hr, hg⟩
  have H5 : Hid (HeldR w b [(w1.heap.size, #[.int .u8 ((op : UInt8).toNat : Int), .int .i64 ((md : Nat) : Int), .bool false, .slice none 0 0], 50), (w.heap.size, #[.int .u8 0, .int .i64 0, .bool false, .slice none 0 0], 50)] w5) := Lib.hid (HeldR.keep H4.out hg)
  clear by0 byz0 by1 byz1 by2 byz2 by3 byz3 byl rc0 rc1 rc8 rz1 rz8 rl
  have R5 := Lib.hid hr
  have A5 := Lib.hid hat
  clear hat hr hg H4 R4 A4
  have by0 : w5.cell? ⟨w1.heap.size, 0, none⟩ = some (.int .u8 ((op : UInt8).toNat : Int)) := (H5.out.f (List.Mem.head _)).box.cell 0
  have byz0 : w5.frozen? ⟨w1.heap.size, 0, none⟩ = false := (H5.out.f (List.Mem.head _)).box.frozen 0
  have by1 : w5.cell? ⟨w1.heap.size, 1, none⟩ = some (.int .i64 ((md : Nat) : Int)) := (H5.out.f (List.Mem.head _)).box.cell 1
  have byz1 : w5.frozen? ⟨w1.heap.size, 1, none⟩ = false := (H5.out.f (List.Mem.head _)).box.frozen 1
  have by2 : w5.cell? ⟨w1.heap.size, 2, none⟩ = some (.bool false) := (H5.out.f (List.Mem.head _)).box.cell 2
  have byz2 : w5.frozen? ⟨w1.heap.size, 2, none⟩ = false := (H5.out.f (List.Mem.head _)).box.frozen 2
  have by3 : w5.cell? ⟨w1.heap.size, 3, none⟩ = some (.slice none 0 0) := (H5.out.f (List.Mem.head _)).box.cell 3
  have byz3 : w5.frozen? ⟨w1.heap.size, 3, none⟩ = false := (H5.out.f (List.Mem.head _)).box.frozen 3
  have byl : w1.heap.size < w5.heap.size := (H5.out.f (List.Mem.head _)).box.lt
  have rc0 := R5.out.c0
  have rc1 := R5.out.c1
  have rc8 := R5.out.c8
  have rz1 := R5.out.z 1
  have rz8 := R5.out.z 9
  have rl := R5.out.lt
  go_wp2_with fail
  clear by0 byz0 by1 byz1 by2 byz2 by3 byz3 byl rc0 rc1 rc8 rz1 rz8 rl
  have H6 : Hid (HeldR w b [(w1.heap.size, #[.int .u8 ((op : UInt8).toNat : Int), .int .i64 ((md : Nat) : Int), .bool false, .slice none 0 0], 50), (w.heap.size, #[.int .u8 0, .int .i64 0, .bool false, .slice none 0 0], 50)] (w5.setCell ⟨w1.heap.size, 2, none⟩ (.bool false))) := Lib.hid (HeldR.set1 (L1 := []) (L2 := [(w.heap.size, #[.int .u8 0, .int .i64 0, .bool false, .slice none 0 0], 50)]) H5.out 2 (.bool false))
  have R6 := Lib.hid (R5.out.other (a := ⟨w1.heap.size, 2, none⟩) (H5.out.ne (List.Mem.head _)) (.bool false))
  have A6 := A5
  generalize (w5.setCell ⟨w1.heap.size, 2, none⟩ (.bool false)) = w6 at *
  clear H5 R5 A5 
  have by0 : w6.cell? ⟨w1.heap.size, 0, none⟩ = some (.int .u8 ((op : UInt8).toNat : Int)) := (H6.out.f (List.Mem.head _)).box.cell 0
  have byz0 : w6.frozen? ⟨w1.heap.size, 0, none⟩ = false := (H6.out.f (List.Mem.head _)).box.frozen 0
  have by1 : w6.cell? ⟨w1.heap.size, 1, none⟩ = some (.int .i64 ((md : Nat) : Int)) := (H6.out.f (List.Mem.head _)).box.cell 1
  have byz1 : w6.frozen? ⟨w1.heap.size, 1, none⟩ = false := (H6.out.f (List.Mem.head _)).box.frozen 1
  have by2 : w6.cell? ⟨w1.heap.size, 2, none⟩ = some (.bool false) := (H6.out.f (List.Mem.head _)).box.cell 2
  have byz2 : w6.frozen? ⟨w1.heap.size, 2, none⟩ = false := (H6.out.f (List.Mem.head _)).box.frozen 2
  have by3 : w6.cell? ⟨w1.heap.size, 3, none⟩ = some (.slice none 0 0) := (H6.out.f (List.Mem.head _)).box.cell 3
  have byz3 : w6.frozen? ⟨w1.heap.size, 3, none⟩ = false := (H6.out.f (List.Mem.head _)).box.frozen 3
  have byl : w1.heap.size < w6.heap.size := (H6.out.f (List.Mem.head _)).box.lt
  have rc0 := R6.out.c0
  have rc1 := R6.out.c1
  have rc8 := R6.out.c8
  have rz1 := R6.out.z 1
  have rz8 := R6.out.z 9
  have rl := R6.out.lt
  with_reducible refine (wants_true [61] b T _ f (n + 1) (tkR [33, 61] r1) _ R6.out A6.out hT Hhe.out).mono ?_
  rintro x w7 ⟨q7, rfl, hat, hr, hg⟩
  have H7 : Hid (HeldR w b [(w1.heap.size, #[.int .u8 ((op : UInt8).toNat : Int), .int .i64 ((md : Nat) : Int), .bool false, .slice none 0 0], 50), (w.heap.size, #[.int .u8 0, .int .i64 0, .bool false, .slice none 0 0], 50)] w7) := Lib.hid (HeldR.keep H6.out hg)
  clear by0 byz0 by1 byz1 by2 byz2 by3 byz3 byl rc0 rc1 rc8 rz1 rz8 rl
  have R7 := Lib.hid hr
  have A7 := Lib.hid hat
  clear hat hr hg H6 R6 A6
  have by0 : w7.cell? ⟨w1.heap.size, 0, none⟩ = some (.int .u8 ((op : UInt8).toNat : Int)) := (H7.out.f (List.Mem.head _)).box.cell 0
  have byz0 : w7.frozen? ⟨w1.heap.size, 0, none⟩ = false := (H7.out.f (List.Mem.head _)).box.frozen 0
  have by1 : w7.cell? ⟨w1.heap.size, 1, none⟩ = some (.int .i64 ((md : Nat) : Int)) := (H7.out.f (List.Mem.head _)).box.cell 1
  have byz1 : w7.frozen? ⟨w1.heap.size, 1, none⟩ = false := (H7.out.f (List.Mem.head _)).box.frozen 1
  have by2 : w7.cell? ⟨w1.heap.size, 2, none⟩ = some (.bool false) := (H7.out.f (List.Mem.head _)).box.cell 2
  have byz2 : w7.frozen? ⟨w1.heap.size, 2, none⟩ = false := (H7.out.f (List.Mem.head _)).box.frozen 2
  have by3 : w7.cell? ⟨w1.heap.size, 3, none⟩ = some (.slice none 0 0) := (H7.out.f (List.Mem.head _)).box.cell 3
  have byz3 : w7.frozen? ⟨w1.heap.size, 3, none⟩ = false := (H7.out.f (List.Mem.head _)).box.frozen 3
  have byl : w1.heap.size < w7.heap.size := (H7.out.f (List.Mem.head _)).box.lt
  have rc0 := R7.out.c0
  have rc1 := R7.out.c1
  have rc8 := R7.out.c8
  have rz1 := R7.out.z 1
  have rz8 := R7.out.z 9
  have rl := R7.out.lt
  go_wp2_with fail
  with_reducible refine (ranges_as b T _ f (n + 1) (tkR [61] (tkR [33, 61] r1)) _ R7.out A7.out hT).mono ?_
  intro x w8 ht
  rw [HhR.out] at ht
  obtain ⟨qe, rfl, hat, hg⟩ := ht
  have HGE := Lib.hid (HeldR.keep H7.out hg).gr
  have HAE := Lib.hid hat
  clear hat hg
  clear by0 byz0 by1 byz1 by2 byz2 by3 byz3 byl rc0 rc1 rc8 rz1 rz8 rl
  go_wp2
  refine ⟨rfl, ?_⟩
  show Told _ _ _ _ _ _ (relP n l) _ _
  rw [HX.out]
  exact ⟨qe, rfl, HAE.out, HGE.out⟩

set_option maxRecDepth 100000 in
set_option maxHeartbeats 3200000 in
theorem rel_yes_eq_ok (op : UInt8) (r0 : List UInt8) (md : Nat) (r1 : List UInt8) (xs : List (Nat × Nat)) (re : List UInt8) (b : Nat) (T : ByteArray) (p : Nat) (f : Nat → Bool) (n : Nat) (l : List UInt8) (w : World) (h : Rd w b T p f n) (ha : At T p l) (hT : T.size ≤ 1000000) (hn : n ≤ 200) (hO : operP n l = .ok op r0) (hk : tk [37] r0 = true) (hN : numP 1 (tkR [37] r0) = .ok md r1) (hs : tk [33, 61] r1 = false) (he : tk [61] (tkR [33, 61] r1) = true) (hR : rangesP (tkR [61] (tkR [33, 61] r1)) = .ok xs re) :
    Calls Tryz.prog 135 #[.pointer (some ⟨b, 0, none⟩)] w (Told b T f (n + 1) w (fun w' x v => ∃ u, v = .agg #[.int .u8 ((x.op : UInt8).toNat : Int), .int .i64 ((x.mod : Nat) : Int), .bool x.nt, u] ∧ Rngs w' w.heap.size x.rs u) (relP n l)) := by
  have R0 := Lib.hid h
  have A0 := Lib.hid ha
  have HhO := Lib.hid hO
  have Hhk := Lib.hid hk
  have HhN := Lib.hid hN
  have Hhs := Lib.hid hs
  have Hhe := Lib.hid he
  have HhR := Lib.hid hR
  have HX : Hid (relP n l = .ok ⟨op, md, false, xs⟩ re) := Lib.hid (by have hm : modP r0 = .ok md r1 := (by unfold modP; rw [if_pos hk]; exact hN); have hg : signP r1 = .ok false (tkR [61] (tkR [33, 61] r1)) := (by unfold signP; rw [if_neg (by rw [hs]; decide), if_pos he]); unfold relP; rw [hO]; simp only; rw [hm]; simp only; rw [hg]; simp only; rw [hR])
  clear h ha hO hk hN hs he hR
  go_enter Tryz.func135, Tryz.ntmps135
  go_wp2_with fail
  with_reducible refine (oper_as b T p f n l _ (R0.out.alloc _) A0.out hT hn).mono ?_
  intro x w1 ht
  rw [HhO.out] at ht
  obtain ⟨v1, q1, rfl, hv, hat, hr, hg⟩ := ht
  obtain rfl := hv
  have H1 : Hid (HeldR w b [(w.heap.size, #[.int .u8 0, .int .i64 0, .bool false, .slice none 0 0], 50)] w1) := Lib.hid (HeldR.keep (HeldR.alloc (HeldR.refl R0.out.lt) (w.heap.size) #[.int .u8 0, .int .i64 0, .bool false, .slice none 0 0] 50 (by first | rfl | simp)) hg)
  have R1 := Lib.hid hr
  have A1 := Lib.hid hat
  clear hat hr hg
  have rc0 := R1.out.c0
  have rc1 := R1.out.c1
  have rc8 := R1.out.c8
  have rz1 := R1.out.z 1
  have rz8 := R1.out.z 9
  have rl := R1.out.lt
  go_wp2_with fail
  with_reducible refine (takes_true [37] b T _ f (n + 1) r0 _ (R1.out.alloc _) A1.out hT Hhk.out).mono ?_
  rintro x w2 ⟨q2, rfl, hat, hr, hg⟩
  have H2 : Hid (HeldR w b [(w1.heap.size, #[.int .u8 ((op : UInt8).toNat : Int), .int .i64 0, .bool false, .slice none 0 0], 50), (w.heap.size, #[.int .u8 0, .int .i64 0, .bool false, .slice none 0 0], 50)] w2) := Lib.hid (HeldR.keep (HeldR.alloc H1.out (w1.heap.size) #[.int .u8 ((op : UInt8).toNat : Int), .int .i64 0, .bool false, .slice none 0 0] 50 (by first | rfl | simp)) hg)
  clear rc0 rc1 rc8 rz1 rz8 rl
  have R2 := Lib.hid hr
  have A2 := Lib.hid hat
  clear hat hr hg H1 R1 A1
  have by0 : w2.cell? ⟨w1.heap.size, 0, none⟩ = some (.int .u8 ((op : UInt8).toNat : Int)) := (H2.out.f (List.Mem.head _)).box.cell 0
  have byz0 : w2.frozen? ⟨w1.heap.size, 0, none⟩ = false := (H2.out.f (List.Mem.head _)).box.frozen 0
  have by1 : w2.cell? ⟨w1.heap.size, 1, none⟩ = some (.int .i64 0) := (H2.out.f (List.Mem.head _)).box.cell 1
  have byz1 : w2.frozen? ⟨w1.heap.size, 1, none⟩ = false := (H2.out.f (List.Mem.head _)).box.frozen 1
  have by2 : w2.cell? ⟨w1.heap.size, 2, none⟩ = some (.bool false) := (H2.out.f (List.Mem.head _)).box.cell 2
  have byz2 : w2.frozen? ⟨w1.heap.size, 2, none⟩ = false := (H2.out.f (List.Mem.head _)).box.frozen 2
  have by3 : w2.cell? ⟨w1.heap.size, 3, none⟩ = some (.slice none 0 0) := (H2.out.f (List.Mem.head _)).box.cell 3
  have byz3 : w2.frozen? ⟨w1.heap.size, 3, none⟩ = false := (H2.out.f (List.Mem.head _)).box.frozen 3
  have byl : w1.heap.size < w2.heap.size := (H2.out.f (List.Mem.head _)).box.lt
  have rc0 := R2.out.c0
  have rc1 := R2.out.c1
  have rc8 := R2.out.c8
  have rz1 := R2.out.z 1
  have rz8 := R2.out.z 9
  have rl := R2.out.lt
  go_wp2_with fail
  with_reducible refine (num_1 b T _ f (n + 1) (tkR [37] r0) _ R2.out A2.out hT).mono ?_
  intro x w3 ht
  rw [HhN.out] at ht
  obtain ⟨v3, q3, rfl, hv, hat, hr, hg⟩ := ht
  obtain rfl := hv
  have H3 : Hid (HeldR w b [(w1.heap.size, #[.int .u8 ((op : UInt8).toNat : Int), .int .i64 0, .bool false, .slice none 0 0], 50), (w.heap.size, #[.int .u8 0, .int .i64 0, .bool false, .slice none 0 0], 50)] w3) := Lib.hid (HeldR.keep H2.out hg)
  clear by0 byz0 by1 byz1 by2 byz2 by3 byz3 byl rc0 rc1 rc8 rz1 rz8 rl
  have R3 := Lib.hid hr
  have A3 := Lib.hid hat
  clear hat hr hg H2 R2 A2
  have by0 : w3.cell? ⟨w1.heap.size, 0, none⟩ = some (.int .u8 ((op : UInt8).toNat : Int)) := (H3.out.f (List.Mem.head _)).box.cell 0
  have byz0 : w3.frozen? ⟨w1.heap.size, 0, none⟩ = false := (H3.out.f (List.Mem.head _)).box.frozen 0
  have by1 : w3.cell? ⟨w1.heap.size, 1, none⟩ = some (.int .i64 0) := (H3.out.f (List.Mem.head _)).box.cell 1
  have byz1 : w3.frozen? ⟨w1.heap.size, 1, none⟩ = false := (H3.out.f (List.Mem.head _)).box.frozen 1
  have by2 : w3.cell? ⟨w1.heap.size, 2, none⟩ = some (.bool false) := (H3.out.f (List.Mem.head _)).box.cell 2
  have byz2 : w3.frozen? ⟨w1.heap.size, 2, none⟩ = false := (H3.out.f (List.Mem.head _)).box.frozen 2
  have by3 : w3.cell? ⟨w1.heap.size, 3, none⟩ = some (.slice none 0 0) := (H3.out.f (List.Mem.head _)).box.cell 3
  have byz3 : w3.frozen? ⟨w1.heap.size, 3, none⟩ = false := (H3.out.f (List.Mem.head _)).box.frozen 3
  have byl : w1.heap.size < w3.heap.size := (H3.out.f (List.Mem.head _)).box.lt
  have rc0 := R3.out.c0
  have rc1 := R3.out.c1
  have rc8 := R3.out.c8
  have rz1 := R3.out.z 1
  have rz8 := R3.out.z 9
  have rl := R3.out.lt
  go_wp2_with fail
  clear by0 byz0 by1 byz1 by2 byz2 by3 byz3 byl rc0 rc1 rc8 rz1 rz8 rl
  have H4 : Hid (HeldR w b [(w1.heap.size, #[.int .u8 ((op : UInt8).toNat : Int), .int .i64 ((md : Nat) : Int), .bool false, .slice none 0 0], 50), (w.heap.size, #[.int .u8 0, .int .i64 0, .bool false, .slice none 0 0], 50)] (w3.setCell ⟨w1.heap.size, 1, none⟩ (.int .i64 ((md : Nat) : Int)))) := Lib.hid (HeldR.set1 (L1 := []) (L2 := [(w.heap.size, #[.int .u8 0, .int .i64 0, .bool false, .slice none 0 0], 50)]) H3.out 1 (.int .i64 ((md : Nat) : Int)))
  have R4 := Lib.hid (R3.out.other (a := ⟨w1.heap.size, 1, none⟩) (H3.out.ne (List.Mem.head _)) (.int .i64 ((md : Nat) : Int)))
  have A4 := A3
  generalize (w3.setCell ⟨w1.heap.size, 1, none⟩ (.int .i64 ((md : Nat) : Int))) = w4 at *
  clear H3 R3 A3 
  have by0 : w4.cell? ⟨w1.heap.size, 0, none⟩ = some (.int .u8 ((op : UInt8).toNat : Int)) := (H4.out.f (List.Mem.head _)).box.cell 0
  have byz0 : w4.frozen? ⟨w1.heap.size, 0, none⟩ = false := (H4.out.f (List.Mem.head _)).box.frozen 0
  have by1 : w4.cell? ⟨w1.heap.size, 1, none⟩ = some (.int .i64 ((md : Nat) : Int)) := (H4.out.f (List.Mem.head _)).box.cell 1
  have byz1 : w4.frozen? ⟨w1.heap.size, 1, none⟩ = false := (H4.out.f (List.Mem.head _)).box.frozen 1
  have by2 : w4.cell? ⟨w1.heap.size, 2, none⟩ = some (.bool false) := (H4.out.f (List.Mem.head _)).box.cell 2
  have byz2 : w4.frozen? ⟨w1.heap.size, 2, none⟩ = false := (H4.out.f (List.Mem.head _)).box.frozen 2
  have by3 : w4.cell? ⟨w1.heap.size, 3, none⟩ = some (.slice none 0 0) := (H4.out.f (List.Mem.head _)).box.cell 3
  have byz3 : w4.frozen? ⟨w1.heap.size, 3, none⟩ = false := (H4.out.f (List.Mem.head _)).box.frozen 3
  have byl : w1.heap.size < w4.heap.size := (H4.out.f (List.Mem.head _)).box.lt
  have rc0 := R4.out.c0
  have rc1 := R4.out.c1
  have rc8 := R4.out.c8
  have rz1 := R4.out.z 1
  have rz8 := R4.out.z 9
  have rl := R4.out.lt
  with_reducible refine (takes_false [33, 61] b T _ f (n + 1) r1 _ R4.out A4.out hT Hhs.out).mono ?_
  rintro x w5 ⟨q5, rfl, hat, hr, hg⟩
  have H5 : Hid (HeldR w b [(w1.heap.size, #[.int .u8 ((op : UInt8).toNat : Int), .int .i64 ((md : Nat) : Int), .bool false, .slice none 0 0], 50), (w.heap.size, #[.int .u8 0, .int .i64 0, .bool false, .slice none 0 0], 50)] w5) := Lib.hid (HeldR.keep H4.out hg)
  clear by0 byz0 by1 byz1 by2 byz2 by3 byz3 byl rc0 rc1 rc8 rz1 rz8 rl
  have R5 := Lib.hid hr
  have A5 := Lib.hid hat
  clear hat hr hg H4 R4 A4
  have by0 : w5.cell? ⟨w1.heap.size, 0, none⟩ = some (.int .u8 ((op : UInt8).toNat : Int)) := (H5.out.f (List.Mem.head _)).box.cell 0
  have byz0 : w5.frozen? ⟨w1.heap.size, 0, none⟩ = false := (H5.out.f (List.Mem.head _)).box.frozen 0
  have by1 : w5.cell? ⟨w1.heap.size, 1, none⟩ = some (.int .i64 ((md : Nat) : Int)) := (H5.out.f (List.Mem.head _)).box.cell 1
  have byz1 : w5.frozen? ⟨w1.heap.size, 1, none⟩ = false := (H5.out.f (List.Mem.head _)).box.frozen 1
  have by2 : w5.cell? ⟨w1.heap.size, 2, none⟩ = some (.bool false) := (H5.out.f (List.Mem.head _)).box.cell 2
  have byz2 : w5.frozen? ⟨w1.heap.size, 2, none⟩ = false := (H5.out.f (List.Mem.head _)).box.frozen 2
  have by3 : w5.cell? ⟨w1.heap.size, 3, none⟩ = some (.slice none 0 0) := (H5.out.f (List.Mem.head _)).box.cell 3
  have byz3 : w5.frozen? ⟨w1.heap.size, 3, none⟩ = false := (H5.out.f (List.Mem.head _)).box.frozen 3
  have byl : w1.heap.size < w5.heap.size := (H5.out.f (List.Mem.head _)).box.lt
  have rc0 := R5.out.c0
  have rc1 := R5.out.c1
  have rc8 := R5.out.c8
  have rz1 := R5.out.z 1
  have rz8 := R5.out.z 9
  have rl := R5.out.lt
  go_wp2_with fail
  clear by0 byz0 by1 byz1 by2 byz2 by3 byz3 byl rc0 rc1 rc8 rz1 rz8 rl
  have H6 : Hid (HeldR w b [(w1.heap.size, #[.int .u8 ((op : UInt8).toNat : Int), .int .i64 ((md : Nat) : Int), .bool false, .slice none 0 0], 50), (w.heap.size, #[.int .u8 0, .int .i64 0, .bool false, .slice none 0 0], 50)] (w5.setCell ⟨w1.heap.size, 2, none⟩ (.bool false))) := Lib.hid (HeldR.set1 (L1 := []) (L2 := [(w.heap.size, #[.int .u8 0, .int .i64 0, .bool false, .slice none 0 0], 50)]) H5.out 2 (.bool false))
  have R6 := Lib.hid (R5.out.other (a := ⟨w1.heap.size, 2, none⟩) (H5.out.ne (List.Mem.head _)) (.bool false))
  have A6 := A5
  generalize (w5.setCell ⟨w1.heap.size, 2, none⟩ (.bool false)) = w6 at *
  clear H5 R5 A5 
  have by0 : w6.cell? ⟨w1.heap.size, 0, none⟩ = some (.int .u8 ((op : UInt8).toNat : Int)) := (H6.out.f (List.Mem.head _)).box.cell 0
  have byz0 : w6.frozen? ⟨w1.heap.size, 0, none⟩ = false := (H6.out.f (List.Mem.head _)).box.frozen 0
  have by1 : w6.cell? ⟨w1.heap.size, 1, none⟩ = some (.int .i64 ((md : Nat) : Int)) := (H6.out.f (List.Mem.head _)).box.cell 1
  have byz1 : w6.frozen? ⟨w1.heap.size, 1, none⟩ = false := (H6.out.f (List.Mem.head _)).box.frozen 1
  have by2 : w6.cell? ⟨w1.heap.size, 2, none⟩ = some (.bool false) := (H6.out.f (List.Mem.head _)).box.cell 2
  have byz2 : w6.frozen? ⟨w1.heap.size, 2, none⟩ = false := (H6.out.f (List.Mem.head _)).box.frozen 2
  have by3 : w6.cell? ⟨w1.heap.size, 3, none⟩ = some (.slice none 0 0) := (H6.out.f (List.Mem.head _)).box.cell 3
  have byz3 : w6.frozen? ⟨w1.heap.size, 3, none⟩ = false := (H6.out.f (List.Mem.head _)).box.frozen 3
  have byl : w1.heap.size < w6.heap.size := (H6.out.f (List.Mem.head _)).box.lt
  have rc0 := R6.out.c0
  have rc1 := R6.out.c1
  have rc8 := R6.out.c8
  have rz1 := R6.out.z 1
  have rz8 := R6.out.z 9
  have rl := R6.out.lt
  with_reducible refine (wants_true [61] b T _ f (n + 1) (tkR [33, 61] r1) _ R6.out A6.out hT Hhe.out).mono ?_
  rintro x w7 ⟨q7, rfl, hat, hr, hg⟩
  have H7 : Hid (HeldR w b [(w1.heap.size, #[.int .u8 ((op : UInt8).toNat : Int), .int .i64 ((md : Nat) : Int), .bool false, .slice none 0 0], 50), (w.heap.size, #[.int .u8 0, .int .i64 0, .bool false, .slice none 0 0], 50)] w7) := Lib.hid (HeldR.keep H6.out hg)
  clear by0 byz0 by1 byz1 by2 byz2 by3 byz3 byl rc0 rc1 rc8 rz1 rz8 rl
  have R7 := Lib.hid hr
  have A7 := Lib.hid hat
  clear hat hr hg H6 R6 A6
  have by0 : w7.cell? ⟨w1.heap.size, 0, none⟩ = some (.int .u8 ((op : UInt8).toNat : Int)) := (H7.out.f (List.Mem.head _)).box.cell 0
  have byz0 : w7.frozen? ⟨w1.heap.size, 0, none⟩ = false := (H7.out.f (List.Mem.head _)).box.frozen 0
  have by1 : w7.cell? ⟨w1.heap.size, 1, none⟩ = some (.int .i64 ((md : Nat) : Int)) := (H7.out.f (List.Mem.head _)).box.cell 1
  have byz1 : w7.frozen? ⟨w1.heap.size, 1, none⟩ = false := (H7.out.f (List.Mem.head _)).box.frozen 1
  have by2 : w7.cell? ⟨w1.heap.size, 2, none⟩ = some (.bool false) := (H7.out.f (List.Mem.head _)).box.cell 2
  have byz2 : w7.frozen? ⟨w1.heap.size, 2, none⟩ = false := (H7.out.f (List.Mem.head _)).box.frozen 2
  have by3 : w7.cell? ⟨w1.heap.size, 3, none⟩ = some (.slice none 0 0) := (H7.out.f (List.Mem.head _)).box.cell 3
  have byz3 : w7.frozen? ⟨w1.heap.size, 3, none⟩ = false := (H7.out.f (List.Mem.head _)).box.frozen 3
  have byl : w1.heap.size < w7.heap.size := (H7.out.f (List.Mem.head _)).box.lt
  have rc0 := R7.out.c0
  have rc1 := R7.out.c1
  have rc8 := R7.out.c8
  have rz1 := R7.out.z 1
  have rz8 := R7.out.z 9
  have rl := R7.out.lt
  go_wp2_with fail
  have HSZ := Lib.hid (H7.out).gr.size
  with_reducible refine (ranges_as b T _ f (n + 1) (tkR [61] (tkR [33, 61] r1)) _ R7.out A7.out hT).mono ?_
  intro x w8 ht
  rw [HhR.out] at ht
  obtain ⟨v8, q8, rfl, hv, hat, hr, hg⟩ := ht
  have HV := Lib.hid hv
  clear hv
  have H8 : Hid (HeldR w b [(w1.heap.size, #[.int .u8 ((op : UInt8).toNat : Int), .int .i64 ((md : Nat) : Int), .bool false, .slice none 0 0], 50), (w.heap.size, #[.int .u8 0, .int .i64 0, .bool false, .slice none 0 0], 50)] w8) := Lib.hid (HeldR.keep H7.out hg)
  clear by0 byz0 by1 byz1 by2 byz2 by3 byz3 byl rc0 rc1 rc8 rz1 rz8 rl
  have R8 := Lib.hid hr
  have A8 := Lib.hid hat
  clear hat hr hg H7 R7 A7
  have by0 : w8.cell? ⟨w1.heap.size, 0, none⟩ = some (.int .u8 ((op : UInt8).toNat : Int)) := (H8.out.f (List.Mem.head _)).box.cell 0
  have byz0 : w8.frozen? ⟨w1.heap.size, 0, none⟩ = false := (H8.out.f (List.Mem.head _)).box.frozen 0
  have by1 : w8.cell? ⟨w1.heap.size, 1, none⟩ = some (.int .i64 ((md : Nat) : Int)) := (H8.out.f (List.Mem.head _)).box.cell 1
  have byz1 : w8.frozen? ⟨w1.heap.size, 1, none⟩ = false := (H8.out.f (List.Mem.head _)).box.frozen 1
  have by2 : w8.cell? ⟨w1.heap.size, 2, none⟩ = some (.bool false) := (H8.out.f (List.Mem.head _)).box.cell 2
  have byz2 : w8.frozen? ⟨w1.heap.size, 2, none⟩ = false := (H8.out.f (List.Mem.head _)).box.frozen 2
  have by3 : w8.cell? ⟨w1.heap.size, 3, none⟩ = some (.slice none 0 0) := (H8.out.f (List.Mem.head _)).box.cell 3
  have byz3 : w8.frozen? ⟨w1.heap.size, 3, none⟩ = false := (H8.out.f (List.Mem.head _)).box.frozen 3
  have byl : w1.heap.size < w8.heap.size := (H8.out.f (List.Mem.head _)).box.lt
  have bx0 : w8.cell? ⟨w.heap.size, 0, none⟩ = some (.int .u8 0) := (H8.out.f (List.Mem.tail _ (List.Mem.head _))).box.cell 0
  have bxz0 : w8.frozen? ⟨w.heap.size, 0, none⟩ = false := (H8.out.f (List.Mem.tail _ (List.Mem.head _))).box.frozen 0
  have bx1 : w8.cell? ⟨w.heap.size, 1, none⟩ = some (.int .i64 0) := (H8.out.f (List.Mem.tail _ (List.Mem.head _))).box.cell 1
  have bxz1 : w8.frozen? ⟨w.heap.size, 1, none⟩ = false := (H8.out.f (List.Mem.tail _ (List.Mem.head _))).box.frozen 1
  have bx2 : w8.cell? ⟨w.heap.size, 2, none⟩ = some (.bool false) := (H8.out.f (List.Mem.tail _ (List.Mem.head _))).box.cell 2
  have bxz2 : w8.frozen? ⟨w.heap.size, 2, none⟩ = false := (H8.out.f (List.Mem.tail _ (List.Mem.head _))).box.frozen 2
  have bx3 : w8.cell? ⟨w.heap.size, 3, none⟩ = some (.slice none 0 0) := (H8.out.f (List.Mem.tail _ (List.Mem.head _))).box.cell 3
  have bxz3 : w8.frozen? ⟨w.heap.size, 3, none⟩ = false := (H8.out.f (List.Mem.tail _ (List.Mem.head _))).box.frozen 3
  have bxl : w.heap.size < w8.heap.size := (H8.out.f (List.Mem.tail _ (List.Mem.head _))).box.lt
  have rc0 := R8.out.c0
  have rc1 := R8.out.c1
  have rc8 := R8.out.c8
  have rz1 := R8.out.z 1
  have rz8 := R8.out.z 9
  have rl := R8.out.lt
  obtain ⟨sa, sn, sc, hsv⟩ := own_slice HV.out
  subst hsv
  have OW8 : Hid (Rngs w8 w.heap.size xs (.slice sa sn sc)) := Lib.hid (own_mono HV.out HSZ.out)
  clear HV HSZ
  have hlt : w.heap.size < w1.heap.size := (List.pairwise_cons.1 H8.out.desc).1 _ (List.Mem.head _)
  have hne1 : ¬ w.heap.size = w1.heap.size := by omega
  have hne2 : ¬ w1.heap.size = w.heap.size := by omega
  go_wp2
  have HE1 : HeldR w b [(w1.heap.size, #[.int .u8 ((op : UInt8).toNat : Int), .int .i64 ((md : Nat) : Int), .bool false, .slice sa sn sc], 50), (w.heap.size, #[.int .u8 0, .int .i64 0, .bool false, .slice none 0 0], 50)] (w8.setCell ⟨w1.heap.size, 3, none⟩ (.slice sa sn sc)) := (HeldR.set1 (L1 := []) (L2 := [(w.heap.size, #[.int .u8 0, .int .i64 0, .bool false, .slice none 0 0], 50)]) H8.out 3 (.slice sa sn sc))
  have RE1 := (R8.out.other (a := ⟨w1.heap.size, 3, none⟩) (H8.out.ne (List.Mem.head _)) (.slice sa sn sc))
  have KE1 := (Rngs.kept OW8.out (grown_set (World.grownBy.refl _ _) 3 (.slice sa sn sc)) (BoxT.apart (H8.out.f (List.Mem.head _)) (by decide)))
  refine bodyPost_ret (v := .agg #[.int .u8 ((op : UInt8).toNat : Int), .int .i64 ((md : Nat) : Int), .bool false, .slice sa sn sc]) (by simp [results, Tryz.results135, go_sem, bx0, bx1, bx2, bx3, by0, by1, by2, by3, bxl, byl, hne1, hne2]) rfl ?_
  show Told _ _ _ _ _ _ (relP n l) _ _
  rw [HX.out]
  exact ⟨_, _, rfl, ⟨_, rfl, (Rngs.kept KE1 (grown_set (grown_set (grown_set (grown_set (World.grownBy.refl _ (some (w.heap.size))) 0 (.int .u8 ((op : UInt8).toNat : Int))) 1 (.int .i64 ((md : Nat) : Int))) 2 (.bool false)) 3 (.slice sa sn sc)) (BoxT.apart (HE1.f (List.Mem.tail _ (List.Mem.head _))) (by decide)))⟩, A8.out, ((((RE1.other (a := ⟨w.heap.size, 0, none⟩) (HE1.ne (List.Mem.tail _ (List.Mem.head _))) (.int .u8 ((op : UInt8).toNat : Int))).other (a := ⟨w.heap.size, 1, none⟩) (HE1.ne (List.Mem.tail _ (List.Mem.head _))) (.int .i64 ((md : Nat) : Int))).other (a := ⟨w.heap.size, 2, none⟩) (HE1.ne (List.Mem.tail _ (List.Mem.head _))) (.bool false)).other (a := ⟨w.heap.size, 3, none⟩) (HE1.ne (List.Mem.tail _ (List.Mem.head _))) (.slice sa sn sc)), ((HeldR.set1 (L1 := [(w1.heap.size, #[.int .u8 ((op : UInt8).toNat : Int), .int .i64 ((md : Nat) : Int), .bool false, .slice sa sn sc], 50)]) (L2 := []) (c := w.heap.size) (cs := #[.int .u8 ((op : UInt8).toNat : Int), .int .i64 ((md : Nat) : Int), .bool false, .slice none 0 0]) (t := 50) (HeldR.set1 (L1 := [(w1.heap.size, #[.int .u8 ((op : UInt8).toNat : Int), .int .i64 ((md : Nat) : Int), .bool false, .slice sa sn sc], 50)]) (L2 := []) (c := w.heap.size) (cs := #[.int .u8 ((op : UInt8).toNat : Int), .int .i64 ((md : Nat) : Int), .bool false, .slice none 0 0]) (t := 50) (HeldR.set1 (L1 := [(w1.heap.size, #[.int .u8 ((op : UInt8).toNat : Int), .int .i64 ((md : Nat) : Int), .bool false, .slice sa sn sc], 50)]) (L2 := []) (c := w.heap.size) (cs := #[.int .u8 ((op : UInt8).toNat : Int), .int .i64 0, .bool false, .slice none 0 0]) (t := 50) (HeldR.set1 (L1 := [(w1.heap.size, #[.int .u8 ((op : UInt8).toNat : Int), .int .i64 ((md : Nat) : Int), .bool false, .slice sa sn sc], 50)]) (L2 := []) (c := w.heap.size) (cs := #[.int .u8 0, .int .i64 0, .bool false, .slice none 0 0]) (t := 50) HE1 0 (.int .u8 ((op : UInt8).toNat : Int))) 1 (.int .i64 ((md : Nat) : Int))) 2 (.bool false)) 3 (.slice sa sn sc))).gr⟩

set_option maxRecDepth 100000 in
set_option maxHeartbeats 3200000 in
theorem rel_yes_ne_bad (op : UInt8) (r0 : List UInt8) (md : Nat) (r1 : List UInt8) (c : Int) (re : List UInt8) (b : Nat) (T : ByteArray) (p : Nat) (f : Nat → Bool) (n : Nat) (l : List UInt8) (w : World) (h : Rd w b T p f n) (ha : At T p l) (hT : T.size ≤ 1000000) (hn : n ≤ 200) (hO : operP n l = .ok op r0) (hk : tk [37] r0 = true) (hN : numP 1 (tkR [37] r0) = .ok md r1) (hs : tk [33, 61] r1 = true) (hR : rangesP (tkR [33, 61] r1) = .bad c re) :
    Calls Tryz.prog 135 #[.pointer (some ⟨b, 0, none⟩)] w (Told b T f (n + 1) w (fun w' x v => ∃ u, v = .agg #[.int .u8 ((x.op : UInt8).toNat : Int), .int .i64 ((x.mod : Nat) : Int), .bool x.nt, u] ∧ Rngs w' w.heap.size x.rs u) (relP n l)) := by
  have R0 := Lib.hid h
  have A0 := Lib.hid ha
  have HhO := Lib.hid hO
  have Hhk := Lib.hid hk
  have HhN := Lib.hid hN
  have Hhs := Lib.hid hs
  have HhR := Lib.hid hR
  have HX : Hid (relP n l = .bad c re) := Lib.hid (by have hm : modP r0 = .ok md r1 := (by unfold modP; rw [if_pos hk]; exact hN); have hg : signP r1 = .ok true (tkR [33, 61] r1) := (by unfold signP; rw [if_pos hs]); unfold relP; rw [hO]; simp only; rw [hm]; simp only; rw [hg]; simp only; rw [hR])
  clear h ha hO hk hN hs hR
  go_enter Tryz.func135, Tryz.ntmps135
  go_wp2_with fail
  with_reducible refine (oper_as b T p f n l _ (R0.out.alloc _) A0.out hT hn).mono ?_
  intro x w1 ht
  rw [HhO.out] at ht
  obtain ⟨v1, q1, rfl, hv, hat, hr, hg⟩ := ht
  obtain rfl := hv
  have H1 : Hid (HeldR w b [(w.heap.size, #[.int .u8 0, .int .i64 0, .bool false, .slice none 0 0], 50)] w1) := Lib.hid (HeldR.keep (HeldR.alloc (HeldR.refl R0.out.lt) (w.heap.size) #[.int .u8 0, .int .i64 0, .bool false, .slice none 0 0] 50 (by first | rfl | simp)) hg)
  have R1 := Lib.hid hr
  have A1 := Lib.hid hat
  clear hat hr hg
  have rc0 := R1.out.c0
  have rc1 := R1.out.c1
  have rc8 := R1.out.c8
  have rz1 := R1.out.z 1
  have rz8 := R1.out.z 9
  have rl := R1.out.lt
  go_wp2_with fail
  with_reducible refine (takes_true [37] b T _ f (n + 1) r0 _ (R1.out.alloc _) A1.out hT Hhk.out).mono ?_
  rintro x w2 ⟨q2, rfl, hat, hr, hg⟩
  have H2 : Hid (HeldR w b [(w1.heap.size, #[.int .u8 ((op : UInt8).toNat : Int), .int .i64 0, .bool false, .slice none 0 0], 50), (w.heap.size, #[.int .u8 0, .int .i64 0, .bool false, .slice none 0 0], 50)] w2) := Lib.hid (HeldR.keep (HeldR.alloc H1.out (w1.heap.size) #[.int .u8 ((op : UInt8).toNat : Int), .int .i64 0, .bool false, .slice none 0 0] 50 (by first | rfl | simp)) hg)
  clear rc0 rc1 rc8 rz1 rz8 rl
  have R2 := Lib.hid hr
  have A2 := Lib.hid hat
  clear hat hr hg H1 R1 A1
  have by0 : w2.cell? ⟨w1.heap.size, 0, none⟩ = some (.int .u8 ((op : UInt8).toNat : Int)) := (H2.out.f (List.Mem.head _)).box.cell 0
  have byz0 : w2.frozen? ⟨w1.heap.size, 0, none⟩ = false := (H2.out.f (List.Mem.head _)).box.frozen 0
  have by1 : w2.cell? ⟨w1.heap.size, 1, none⟩ = some (.int .i64 0) := (H2.out.f (List.Mem.head _)).box.cell 1
  have byz1 : w2.frozen? ⟨w1.heap.size, 1, none⟩ = false := (H2.out.f (List.Mem.head _)).box.frozen 1
  have by2 : w2.cell? ⟨w1.heap.size, 2, none⟩ = some (.bool false) := (H2.out.f (List.Mem.head _)).box.cell 2
  have byz2 : w2.frozen? ⟨w1.heap.size, 2, none⟩ = false := (H2.out.f (List.Mem.head _)).box.frozen 2
  have by3 : w2.cell? ⟨w1.heap.size, 3, none⟩ = some (.slice none 0 0) := (H2.out.f (List.Mem.head _)).box.cell 3
  have byz3 : w2.frozen? ⟨w1.heap.size, 3, none⟩ = false := (H2.out.f (List.Mem.head _)).box.frozen 3
  have byl : w1.heap.size < w2.heap.size := (H2.out.f (List.Mem.head _)).box.lt
  have rc0 := R2.out.c0
  have rc1 := R2.out.c1
  have rc8 := R2.out.c8
  have rz1 := R2.out.z 1
  have rz8 := R2.out.z 9
  have rl := R2.out.lt
  go_wp2_with fail
  with_reducible refine (num_1 b T _ f (n + 1) (tkR [37] r0) _ R2.out A2.out hT).mono ?_
  intro x w3 ht
  rw [HhN.out] at ht
  obtain ⟨v3, q3, rfl, hv, hat, hr, hg⟩ := ht
  obtain rfl := hv
  have H3 : Hid (HeldR w b [(w1.heap.size, #[.int .u8 ((op : UInt8).toNat : Int), .int .i64 0, .bool false, .slice none 0 0], 50), (w.heap.size, #[.int .u8 0, .int .i64 0, .bool false, .slice none 0 0], 50)] w3) := Lib.hid (HeldR.keep H2.out hg)
  clear by0 byz0 by1 byz1 by2 byz2 by3 byz3 byl rc0 rc1 rc8 rz1 rz8 rl
  have R3 := Lib.hid hr
  have A3 := Lib.hid hat
  clear hat hr hg H2 R2 A2
  have by0 : w3.cell? ⟨w1.heap.size, 0, none⟩ = some (.int .u8 ((op : UInt8).toNat : Int)) := (H3.out.f (List.Mem.head _)).box.cell 0
  have byz0 : w3.frozen? ⟨w1.heap.size, 0, none⟩ = false := (H3.out.f (List.Mem.head _)).box.frozen 0
  have by1 : w3.cell? ⟨w1.heap.size, 1, none⟩ = some (.int .i64 0) := (H3.out.f (List.Mem.head _)).box.cell 1
  have byz1 : w3.frozen? ⟨w1.heap.size, 1, none⟩ = false := (H3.out.f (List.Mem.head _)).box.frozen 1
  have by2 : w3.cell? ⟨w1.heap.size, 2, none⟩ = some (.bool false) := (H3.out.f (List.Mem.head _)).box.cell 2
  have byz2 : w3.frozen? ⟨w1.heap.size, 2, none⟩ = false := (H3.out.f (List.Mem.head _)).box.frozen 2
  have by3 : w3.cell? ⟨w1.heap.size, 3, none⟩ = some (.slice none 0 0) := (H3.out.f (List.Mem.head _)).box.cell 3
  have byz3 : w3.frozen? ⟨w1.heap.size, 3, none⟩ = false := (H3.out.f (List.Mem.head _)).box.frozen 3
  have byl : w1.heap.size < w3.heap.size := (H3.out.f (List.Mem.head _)).box.lt
  have rc0 := R3.out.c0
  have rc1 := R3.out.c1
  have rc8 := R3.out.c8
  have rz1 := R3.out.z 1
  have rz8 := R3.out.z 9
  have rl := R3.out.lt
  go_wp2_with fail
  clear by0 byz0 by1 byz1 by2 byz2 by3 byz3 byl rc0 rc1 rc8 rz1 rz8 rl
  have H4 : Hid (HeldR w b [(w1.heap.size, #[.int .u8 ((op : UInt8).toNat : Int), .int .i64 ((md : Nat) : Int), .bool false, .slice none 0 0], 50), (w.heap.size, #[.int .u8 0, .int .i64 0, .bool false, .slice none 0 0], 50)] (w3.setCell ⟨w1.heap.size, 1, none⟩ (.int .i64 ((md : Nat) : Int)))) := Lib.hid (HeldR.set1 (L1 := []) (L2 := [(w.heap.size, #[.int .u8 0, .int .i64 0, .bool false, .slice none 0 0], 50)]) H3.out 1 (.int .i64 ((md : Nat) : Int)))
  have R4 := Lib.hid (R3.out.other (a := ⟨w1.heap.size, 1, none⟩) (H3.out.ne (List.Mem.head _)) (.int .i64 ((md : Nat) : Int)))
  have A4 := A3
  generalize (w3.setCell ⟨w1.heap.size, 1, none⟩ (.int .i64 ((md : Nat) : Int))) = w4 at *
  clear H3 R3 A3 
  have by0 : w4.cell? ⟨w1.heap.size, 0, none⟩ = some (.int .u8 ((op : UInt8).toNat : Int)) := (H4.out.f (List.Mem.head _)).box.cell 0
  have byz0 : w4.frozen? ⟨w1.heap.size, 0, none⟩ = false := (H4.out.f (List.Mem.head _)).box.frozen 0
  have by1 : w4.cell? ⟨w1.heap.size, 1, none⟩ = some (.int .i64 ((md : Nat) : Int)) := (H4.out.f (List.Mem.head _)).box.cell 1
  have byz1 : w4.frozen? ⟨w1.heap.size, 1, none⟩ = false := (H4.out.f (List.Mem.head _)).box.frozen 1
  have by2 : w4.cell? ⟨w1.heap.size, 2, none⟩ = some (.bool false) := (H4.out.f (List.Mem.head _)).box.cell 2
  have byz2 : w4.frozen? ⟨w1.heap.size, 2, none⟩ = false := (H4.out.f (List.Mem.head _)).box.frozen 2
  have by3 : w4.cell? ⟨w1.heap.size, 3, none⟩ = some (.slice none 0 0) := (H4.out.f (List.Mem.head _)).box.cell 3
  have byz3 : w4.frozen? ⟨w1.heap.size, 3, none⟩ = false := (H4.out.f (List.Mem.head _)).box.frozen 3
  have byl : w1.heap.size < w4.heap.size := (H4.out.f (List.Mem.head _)).box.lt
  have rc0 := R4.out.c0
  have rc1 := R4.out.c1
  have rc8 := R4.out.c8
  have rz1 := R4.out.z 1
  have rz8 := R4.out.z 9
  have rl := R4.out.lt
  with_reducible refine (takes_true [33, 61] b T _ f (n + 1) r1 _ R4.out A4.out hT Hhs.out).mono ?_
  rintro x w5 ⟨q5, rfl, hat, hr, hg⟩
  have H5 : Hid (HeldR w b [(w1.heap.size, #[.int .u8 ((op : UInt8).toNat : Int), .int .i64 ((md : Nat) : Int), .bool false, .slice none 0 0], 50), (w.heap.size, #[.int .u8 0, .int .i64 0, .bool false, .slice none 0 0], 50)] w5) := Lib.hid (HeldR.keep H4.out hg)
  clear by0 byz0 by1 byz1 by2 byz2 by3 byz3 byl rc0 rc1 rc8 rz1 rz8 rl
  have R5 := Lib.hid hr
  have A5 := Lib.hid hat
  clear hat hr hg H4 R4 A4
  have by0 : w5.cell? ⟨w1.heap.size, 0, none⟩ = some (.int .u8 ((op : UInt8).toNat : Int)) := (H5.out.f (List.Mem.head _)).box.cell 0
  have byz0 : w5.frozen? ⟨w1.heap.size, 0, none⟩ = false := (H5.out.f (List.Mem.head _)).box.frozen 0
  have by1 : w5.cell? ⟨w1.heap.size, 1, none⟩ = some (.int .i64 ((md : Nat) : Int)) := (H5.out.f (List.Mem.head _)).box.cell 1
  have byz1 : w5.frozen? ⟨w1.heap.size, 1, none⟩ = false := (H5.out.f (List.Mem.head _)).box.frozen 1
  have by2 : w5.cell? ⟨w1.heap.size, 2, none⟩ = some (.bool false) := (H5.out.f (List.Mem.head _)).box.cell 2
  have byz2 : w5.frozen? ⟨w1.heap.size, 2, none⟩ = false := (H5.out.f (List.Mem.head _)).box.frozen 2
  have by3 : w5.cell? ⟨w1.heap.size, 3, none⟩ = some (.slice none 0 0) := (H5.out.f (List.Mem.head _)).box.cell 3
  have byz3 : w5.frozen? ⟨w1.heap.size, 3, none⟩ = false := (H5.out.f (List.Mem.head _)).box.frozen 3
  have byl : w1.heap.size < w5.heap.size := (H5.out.f (List.Mem.head _)).box.lt
  have rc0 := R5.out.c0
  have rc1 := R5.out.c1
  have rc8 := R5.out.c8
  have rz1 := R5.out.z 1
  have rz8 := R5.out.z 9
  have rl := R5.out.lt
  go_wp2_with fail
  clear by0 byz0 by1 byz1 by2 byz2 by3 byz3 byl rc0 rc1 rc8 rz1 rz8 rl
  have H6 : Hid (HeldR w b [(w1.heap.size, #[.int .u8 ((op : UInt8).toNat : Int), .int .i64 ((md : Nat) : Int), .bool true, .slice none 0 0], 50), (w.heap.size, #[.int .u8 0, .int .i64 0, .bool false, .slice none 0 0], 50)] (w5.setCell ⟨w1.heap.size, 2, none⟩ (.bool true))) := Lib.hid (HeldR.set1 (L1 := []) (L2 := [(w.heap.size, #[.int .u8 0, .int .i64 0, .bool false, .slice none 0 0], 50)]) H5.out 2 (.bool true))
  have R6 := Lib.hid (R5.out.other (a := ⟨w1.heap.size, 2, none⟩) (H5.out.ne (List.Mem.head _)) (.bool true))
  have A6 := A5
  generalize (w5.setCell ⟨w1.heap.size, 2, none⟩ (.bool true)) = w6 at *
  clear H5 R5 A5 
  have by0 : w6.cell? ⟨w1.heap.size, 0, none⟩ = some (.int .u8 ((op : UInt8).toNat : Int)) := (H6.out.f (List.Mem.head _)).box.cell 0
  have byz0 : w6.frozen? ⟨w1.heap.size, 0, none⟩ = false := (H6.out.f (List.Mem.head _)).box.frozen 0
  have by1 : w6.cell? ⟨w1.heap.size, 1, none⟩ = some (.int .i64 ((md : Nat) : Int)) := (H6.out.f (List.Mem.head _)).box.cell 1
  have byz1 : w6.frozen? ⟨w1.heap.size, 1, none⟩ = false := (H6.out.f (List.Mem.head _)).box.frozen 1
  have by2 : w6.cell? ⟨w1.heap.size, 2, none⟩ = some (.bool true) := (H6.out.f (List.Mem.head _)).box.cell 2
  have byz2 : w6.frozen? ⟨w1.heap.size, 2, none⟩ = false := (H6.out.f (List.Mem.head _)).box.frozen 2
  have by3 : w6.cell? ⟨w1.heap.size, 3, none⟩ = some (.slice none 0 0) := (H6.out.f (List.Mem.head _)).box.cell 3
  have byz3 : w6.frozen? ⟨w1.heap.size, 3, none⟩ = false := (H6.out.f (List.Mem.head _)).box.frozen 3
  have byl : w1.heap.size < w6.heap.size := (H6.out.f (List.Mem.head _)).box.lt
  have rc0 := R6.out.c0
  have rc1 := R6.out.c1
  have rc8 := R6.out.c8
  have rz1 := R6.out.z 1
  have rz8 := R6.out.z 9
  have rl := R6.out.lt
  with_reducible refine (ranges_as b T _ f (n + 1) (tkR [33, 61] r1) _ R6.out A6.out hT).mono ?_
  intro x w7 ht
  rw [HhR.out] at ht
  obtain ⟨qe, rfl, hat, hg⟩ := ht
  have HGE := Lib.hid (HeldR.keep H6.out hg).gr
  have HAE := Lib.hid hat
  clear hat hg
  clear by0 byz0 by1 byz1 by2 byz2 by3 byz3 byl rc0 rc1 rc8 rz1 rz8 rl
  go_wp2
  refine ⟨rfl, ?_⟩
  show Told _ _ _ _ _ _ (relP n l) _ _
  rw [HX.out]
  exact ⟨qe, rfl, HAE.out, HGE.out⟩

set_option maxRecDepth 100000 in
set_option maxHeartbeats 3200000 in
theorem rel_yes_ne_ok (op : UInt8) (r0 : List UInt8) (md : Nat) (r1 : List UInt8) (xs : List (Nat × Nat)) (re : List UInt8) (b : Nat) (T : ByteArray) (p : Nat) (f : Nat → Bool) (n : Nat) (l : List UInt8) (w : World) (h : Rd w b T p f n) (ha : At T p l) (hT : T.size ≤ 1000000) (hn : n ≤ 200) (hO : operP n l = .ok op r0) (hk : tk [37] r0 = true) (hN : numP 1 (tkR [37] r0) = .ok md r1) (hs : tk [33, 61] r1 = true) (hR : rangesP (tkR [33, 61] r1) = .ok xs re) :
    Calls Tryz.prog 135 #[.pointer (some ⟨b, 0, none⟩)] w (Told b T f (n + 1) w (fun w' x v => ∃ u, v = .agg #[.int .u8 ((x.op : UInt8).toNat : Int), .int .i64 ((x.mod : Nat) : Int), .bool x.nt, u] ∧ Rngs w' w.heap.size x.rs u) (relP n l)) := by
  have R0 := Lib.hid h
  have A0 := Lib.hid ha
  have HhO := Lib.hid hO
  have Hhk := Lib.hid hk
  have HhN := Lib.hid hN
  have Hhs := Lib.hid hs
  have HhR := Lib.hid hR
  have HX : Hid (relP n l = .ok ⟨op, md, true, xs⟩ re) := Lib.hid (by have hm : modP r0 = .ok md r1 := (by unfold modP; rw [if_pos hk]; exact hN); have hg : signP r1 = .ok true (tkR [33, 61] r1) := (by unfold signP; rw [if_pos hs]); unfold relP; rw [hO]; simp only; rw [hm]; simp only; rw [hg]; simp only; rw [hR])
  clear h ha hO hk hN hs hR
  go_enter Tryz.func135, Tryz.ntmps135
  go_wp2_with fail
  with_reducible refine (oper_as b T p f n l _ (R0.out.alloc _) A0.out hT hn).mono ?_
  intro x w1 ht
  rw [HhO.out] at ht
  obtain ⟨v1, q1, rfl, hv, hat, hr, hg⟩ := ht
  obtain rfl := hv
  have H1 : Hid (HeldR w b [(w.heap.size, #[.int .u8 0, .int .i64 0, .bool false, .slice none 0 0], 50)] w1) := Lib.hid (HeldR.keep (HeldR.alloc (HeldR.refl R0.out.lt) (w.heap.size) #[.int .u8 0, .int .i64 0, .bool false, .slice none 0 0] 50 (by first | rfl | simp)) hg)
  have R1 := Lib.hid hr
  have A1 := Lib.hid hat
  clear hat hr hg
  have rc0 := R1.out.c0
  have rc1 := R1.out.c1
  have rc8 := R1.out.c8
  have rz1 := R1.out.z 1
  have rz8 := R1.out.z 9
  have rl := R1.out.lt
  go_wp2_with fail
  with_reducible refine (takes_true [37] b T _ f (n + 1) r0 _ (R1.out.alloc _) A1.out hT Hhk.out).mono ?_
  rintro x w2 ⟨q2, rfl, hat, hr, hg⟩
  have H2 : Hid (HeldR w b [(w1.heap.size, #[.int .u8 ((op : UInt8).toNat : Int), .int .i64 0, .bool false, .slice none 0 0], 50), (w.heap.size, #[.int .u8 0, .int .i64 0, .bool false, .slice none 0 0], 50)] w2) := Lib.hid (HeldR.keep (HeldR.alloc H1.out (w1.heap.size) #[.int .u8 ((op : UInt8).toNat : Int), .int .i64 0, .bool false, .slice none 0 0] 50 (by first | rfl | simp)) hg)
  clear rc0 rc1 rc8 rz1 rz8 rl
  have R2 := Lib.hid hr
  have A2 := Lib.hid hat
  clear hat hr hg H1 R1 A1
  have by0 : w2.cell? ⟨w1.heap.size, 0, none⟩ = some (.int .u8 ((op : UInt8).toNat : Int)) := (H2.out.f (List.Mem.head _)).box.cell 0
  have byz0 : w2.frozen? ⟨w1.heap.size, 0, none⟩ = false := (H2.out.f (List.Mem.head _)).box.frozen 0
  have by1 : w2.cell? ⟨w1.heap.size, 1, none⟩ = some (.int .i64 0) := (H2.out.f (List.Mem.head _)).box.cell 1
  have byz1 : w2.frozen? ⟨w1.heap.size, 1, none⟩ = false := (H2.out.f (List.Mem.head _)).box.frozen 1
  have by2 : w2.cell? ⟨w1.heap.size, 2, none⟩ = some (.bool false) := (H2.out.f (List.Mem.head _)).box.cell 2
  have byz2 : w2.frozen? ⟨w1.heap.size, 2, none⟩ = false := (H2.out.f (List.Mem.head _)).box.frozen 2
  have by3 : w2.cell? ⟨w1.heap.size, 3, none⟩ = some (.slice none 0 0) := (H2.out.f (List.Mem.head _)).box.cell 3
  have byz3 : w2.frozen? ⟨w1.heap.size, 3, none⟩ = false := (H2.out.f (List.Mem.head _)).box.frozen 3
  have byl : w1.heap.size < w2.heap.size := (H2.out.f (List.Mem.head _)).box.lt
  have rc0 := R2.out.c0
  have rc1 := R2.out.c1
  have rc8 := R2.out.c8
  have rz1 := R2.out.z 1
  have rz8 := R2.out.z 9
  have rl := R2.out.lt
  go_wp2_with fail
  with_reducible refine (num_1 b T _ f (n + 1) (tkR [37] r0) _ R2.out A2.out hT).mono ?_
  intro x w3 ht
  rw [HhN.out] at ht
  obtain ⟨v3, q3, rfl, hv, hat, hr, hg⟩ := ht
  obtain rfl := hv
  have H3 : Hid (HeldR w b [(w1.heap.size, #[.int .u8 ((op : UInt8).toNat : Int), .int .i64 0, .bool false, .slice none 0 0], 50), (w.heap.size, #[.int .u8 0, .int .i64 0, .bool false, .slice none 0 0], 50)] w3) := Lib.hid (HeldR.keep H2.out hg)
  clear by0 byz0 by1 byz1 by2 byz2 by3 byz3 byl rc0 rc1 rc8 rz1 rz8 rl
  have R3 := Lib.hid hr
  have A3 := Lib.hid hat
  clear hat hr hg H2 R2 A2
  have by0 : w3.cell? ⟨w1.heap.size, 0, none⟩ = some (.int .u8 ((op : UInt8).toNat : Int)) := (H3.out.f (List.Mem.head _)).box.cell 0
  have byz0 : w3.frozen? ⟨w1.heap.size, 0, none⟩ = false := (H3.out.f (List.Mem.head _)).box.frozen 0
  have by1 : w3.cell? ⟨w1.heap.size, 1, none⟩ = some (.int .i64 0) := (H3.out.f (List.Mem.head _)).box.cell 1
  have byz1 : w3.frozen? ⟨w1.heap.size, 1, none⟩ = false := (H3.out.f (List.Mem.head _)).box.frozen 1
  have by2 : w3.cell? ⟨w1.heap.size, 2, none⟩ = some (.bool false) := (H3.out.f (List.Mem.head _)).box.cell 2
  have byz2 : w3.frozen? ⟨w1.heap.size, 2, none⟩ = false := (H3.out.f (List.Mem.head _)).box.frozen 2
  have by3 : w3.cell? ⟨w1.heap.size, 3, none⟩ = some (.slice none 0 0) := (H3.out.f (List.Mem.head _)).box.cell 3
  have byz3 : w3.frozen? ⟨w1.heap.size, 3, none⟩ = false := (H3.out.f (List.Mem.head _)).box.frozen 3
  have byl : w1.heap.size < w3.heap.size := (H3.out.f (List.Mem.head _)).box.lt
  have rc0 := R3.out.c0
  have rc1 := R3.out.c1
  have rc8 := R3.out.c8
  have rz1 := R3.out.z 1
  have rz8 := R3.out.z 9
  have rl := R3.out.lt
  go_wp2_with fail
  clear by0 byz0 by1 byz1 by2 byz2 by3 byz3 byl rc0 rc1 rc8 rz1 rz8 rl
  have H4 : Hid (HeldR w b [(w1.heap.size, #[.int .u8 ((op : UInt8).toNat : Int), .int .i64 ((md : Nat) : Int), .bool false, .slice none 0 0], 50), (w.heap.size, #[.int .u8 0, .int .i64 0, .bool false, .slice none 0 0], 50)] (w3.setCell ⟨w1.heap.size, 1, none⟩ (.int .i64 ((md : Nat) : Int)))) := Lib.hid (HeldR.set1 (L1 := []) (L2 := [(w.heap.size, #[.int .u8 0, .int .i64 0, .bool false, .slice none 0 0], 50)]) H3.out 1 (.int .i64 ((md : Nat) : Int)))
  have R4 := Lib.hid (R3.out.other (a := ⟨w1.heap.size, 1, none⟩) (H3.out.ne (List.Mem.head _)) (.int .i64 ((md : Nat) : Int)))
  have A4 := A3
  generalize (w3.setCell ⟨w1.heap.size, 1, none⟩ (.int .i64 ((md : Nat) : Int))) = w4 at *
  clear H3 R3 A3 
  have by0 : w4.cell? ⟨w1.heap.size, 0, none⟩ = some (.int .u8 ((op : UInt8).toNat : Int)) := (H4.out.f (List.Mem.head _)).box.cell 0
  have byz0 : w4.frozen? ⟨w1.heap.size, 0, none⟩ = false := (H4.out.f (List.Mem.head _)).box.frozen 0
  have by1 : w4.cell? ⟨w1.heap.size, 1, none⟩ = some (.int .i64 ((md : Nat) : Int)) := (H4.out.f (List.Mem.head _)).box.cell 1
  have byz1 : w4.frozen? ⟨w1.heap.size, 1, none⟩ = false := (H4.out.f (List.Mem.head _)).box.frozen 1
  have by2 : w4.cell? ⟨w1.heap.size, 2, none⟩ = some (.bool false) := (H4.out.f (List.Mem.head _)).box.cell 2
  have byz2 : w4.frozen? ⟨w1.heap.size, 2, none⟩ = false := (H4.out.f (List.Mem.head _)).box.frozen 2
  have by3 : w4.cell? ⟨w1.heap.size, 3, none⟩ = some (.slice none 0 0) := (H4.out.f (List.Mem.head _)).box.cell 3
  have byz3 : w4.frozen? ⟨w1.heap.size, 3, none⟩ = false := (H4.out.f (List.Mem.head _)).box.frozen 3
  have byl : w1.heap.size < w4.heap.size := (H4.out.f (List.Mem.head _)).box.lt
  have rc0 := R4.out.c0
  have rc1 := R4.out.c1
  have rc8 := R4.out.c8
  have rz1 := R4.out.z 1
  have rz8 := R4.out.z 9
  have rl := R4.out.lt
  with_reducible refine (takes_true [33, 61] b T _ f (n + 1) r1 _ R4.out A4.out hT Hhs.out).mono ?_
  rintro x w5 ⟨q5, rfl, hat, hr, hg⟩
  have H5 : Hid (HeldR w b [(w1.heap.size, #[.int .u8 ((op : UInt8).toNat : Int), .int .i64 ((md : Nat) : Int), .bool false, .slice none 0 0], 50), (w.heap.size, #[.int .u8 0, .int .i64 0, .bool false, .slice none 0 0], 50)] w5) := Lib.hid (HeldR.keep H4.out hg)
  clear by0 byz0 by1 byz1 by2 byz2 by3 byz3 byl rc0 rc1 rc8 rz1 rz8 rl
  have R5 := Lib.hid hr
  have A5 := Lib.hid hat
  clear hat hr hg H4 R4 A4
  have by0 : w5.cell? ⟨w1.heap.size, 0, none⟩ = some (.int .u8 ((op : UInt8).toNat : Int)) := (H5.out.f (List.Mem.head _)).box.cell 0
  have byz0 : w5.frozen? ⟨w1.heap.size, 0, none⟩ = false := (H5.out.f (List.Mem.head _)).box.frozen 0
  have by1 : w5.cell? ⟨w1.heap.size, 1, none⟩ = some (.int .i64 ((md : Nat) : Int)) := (H5.out.f (List.Mem.head _)).box.cell 1
  have byz1 : w5.frozen? ⟨w1.heap.size, 1, none⟩ = false := (H5.out.f (List.Mem.head _)).box.frozen 1
  have by2 : w5.cell? ⟨w1.heap.size, 2, none⟩ = some (.bool false) := (H5.out.f (List.Mem.head _)).box.cell 2
  have byz2 : w5.frozen? ⟨w1.heap.size, 2, none⟩ = false := (H5.out.f (List.Mem.head _)).box.frozen 2
  have by3 : w5.cell? ⟨w1.heap.size, 3, none⟩ = some (.slice none 0 0) := (H5.out.f (List.Mem.head _)).box.cell 3
  have byz3 : w5.frozen? ⟨w1.heap.size, 3, none⟩ = false := (H5.out.f (List.Mem.head _)).box.frozen 3
  have byl : w1.heap.size < w5.heap.size := (H5.out.f (List.Mem.head _)).box.lt
  have rc0 := R5.out.c0
  have rc1 := R5.out.c1
  have rc8 := R5.out.c8
  have rz1 := R5.out.z 1
  have rz8 := R5.out.z 9
  have rl := R5.out.lt
  go_wp2_with fail
  clear by0 byz0 by1 byz1 by2 byz2 by3 byz3 byl rc0 rc1 rc8 rz1 rz8 rl
  have H6 : Hid (HeldR w b [(w1.heap.size, #[.int .u8 ((op : UInt8).toNat : Int), .int .i64 ((md : Nat) : Int), .bool true, .slice none 0 0], 50), (w.heap.size, #[.int .u8 0, .int .i64 0, .bool false, .slice none 0 0], 50)] (w5.setCell ⟨w1.heap.size, 2, none⟩ (.bool true))) := Lib.hid (HeldR.set1 (L1 := []) (L2 := [(w.heap.size, #[.int .u8 0, .int .i64 0, .bool false, .slice none 0 0], 50)]) H5.out 2 (.bool true))
  have R6 := Lib.hid (R5.out.other (a := ⟨w1.heap.size, 2, none⟩) (H5.out.ne (List.Mem.head _)) (.bool true))
  have A6 := A5
  generalize (w5.setCell ⟨w1.heap.size, 2, none⟩ (.bool true)) = w6 at *
  clear H5 R5 A5 
  have by0 : w6.cell? ⟨w1.heap.size, 0, none⟩ = some (.int .u8 ((op : UInt8).toNat : Int)) := (H6.out.f (List.Mem.head _)).box.cell 0
  have byz0 : w6.frozen? ⟨w1.heap.size, 0, none⟩ = false := (H6.out.f (List.Mem.head _)).box.frozen 0
  have by1 : w6.cell? ⟨w1.heap.size, 1, none⟩ = some (.int .i64 ((md : Nat) : Int)) := (H6.out.f (List.Mem.head _)).box.cell 1
  have byz1 : w6.frozen? ⟨w1.heap.size, 1, none⟩ = false := (H6.out.f (List.Mem.head _)).box.frozen 1
  have by2 : w6.cell? ⟨w1.heap.size, 2, none⟩ = some (.bool true) := (H6.out.f (List.Mem.head _)).box.cell 2
  have byz2 : w6.frozen? ⟨w1.heap.size, 2, none⟩ = false := (H6.out.f (List.Mem.head _)).box.frozen 2
  have by3 : w6.cell? ⟨w1.heap.size, 3, none⟩ = some (.slice none 0 0) := (H6.out.f (List.Mem.head _)).box.cell 3
  have byz3 : w6.frozen? ⟨w1.heap.size, 3, none⟩ = false := (H6.out.f (List.Mem.head _)).box.frozen 3
  have byl : w1.heap.size < w6.heap.size := (H6.out.f (List.Mem.head _)).box.lt
  have rc0 := R6.out.c0
  have rc1 := R6.out.c1
  have rc8 := R6.out.c8
  have rz1 := R6.out.z 1
  have rz8 := R6.out.z 9
  have rl := R6.out.lt
  have HSZ := Lib.hid (H6.out).gr.size
  with_reducible refine (ranges_as b T _ f (n + 1) (tkR [33, 61] r1) _ R6.out A6.out hT).mono ?_
  intro x w7 ht
  rw [HhR.out] at ht
  obtain ⟨v7, q7, rfl, hv, hat, hr, hg⟩ := ht
  have HV := Lib.hid hv
  clear hv
  have H7 : Hid (HeldR w b [(w1.heap.size, #[.int .u8 ((op : UInt8).toNat : Int), .int .i64 ((md : Nat) : Int), .bool true, .slice none 0 0], 50), (w.heap.size, #[.int .u8 0, .int .i64 0, .bool false, .slice none 0 0], 50)] w7) := Lib.hid (HeldR.keep H6.out hg)
  clear by0 byz0 by1 byz1 by2 byz2 by3 byz3 byl rc0 rc1 rc8 rz1 rz8 rl
  have R7 := Lib.hid hr
  have A7 := Lib.hid hat
  clear hat hr hg H6 R6 A6
  have by0 : w7.cell? ⟨w1.heap.size, 0, none⟩ = some (.int .u8 ((op : UInt8).toNat : Int)) := (H7.out.f (List.Mem.head _)).box.cell 0
  have byz0 : w7.frozen? ⟨w1.heap.size, 0, none⟩ = false := (H7.out.f (List.Mem.head _)).box.frozen 0
  have by1 : w7.cell? ⟨w1.heap.size, 1, none⟩ = some (.int .i64 ((md : Nat) : Int)) := (H7.out.f (List.Mem.head _)).box.cell 1
  have byz1 : w7.frozen? ⟨w1.heap.size, 1, none⟩ = false := (H7.out.f (List.Mem.head _)).box.frozen 1
  have by2 : w7.cell? ⟨w1.heap.size, 2, none⟩ = some (.bool true) := (H7.out.f (List.Mem.head _)).box.cell 2
  have byz2 : w7.frozen? ⟨w1.heap.size, 2, none⟩ = false := (H7.out.f (List.Mem.head _)).box.frozen 2
  have by3 : w7.cell? ⟨w1.heap.size, 3, none⟩ = some (.slice none 0 0) := (H7.out.f (List.Mem.head _)).box.cell 3
  have byz3 : w7.frozen? ⟨w1.heap.size, 3, none⟩ = false := (H7.out.f (List.Mem.head _)).box.frozen 3
  have byl : w1.heap.size < w7.heap.size := (H7.out.f (List.Mem.head _)).box.lt
  have bx0 : w7.cell? ⟨w.heap.size, 0, none⟩ = some (.int .u8 0) := (H7.out.f (List.Mem.tail _ (List.Mem.head _))).box.cell 0
  have bxz0 : w7.frozen? ⟨w.heap.size, 0, none⟩ = false := (H7.out.f (List.Mem.tail _ (List.Mem.head _))).box.frozen 0
  have bx1 : w7.cell? ⟨w.heap.size, 1, none⟩ = some (.int .i64 0) := (H7.out.f (List.Mem.tail _ (List.Mem.head _))).box.cell 1
  have bxz1 : w7.frozen? ⟨w.heap.size, 1, none⟩ = false := (H7.out.f (List.Mem.tail _ (List.Mem.head _))).box.frozen 1
  have bx2 : w7.cell? ⟨w.heap.size, 2, none⟩ = some (.bool false) := (H7.out.f (List.Mem.tail _ (List.Mem.head _))).box.cell 2
  have bxz2 : w7.frozen? ⟨w.heap.size, 2, none⟩ = false := (H7.out.f (List.Mem.tail _ (List.Mem.head _))).box.frozen 2
  have bx3 : w7.cell? ⟨w.heap.size, 3, none⟩ = some (.slice none 0 0) := (H7.out.f (List.Mem.tail _ (List.Mem.head _))).box.cell 3
  have bxz3 : w7.frozen? ⟨w.heap.size, 3, none⟩ = false := (H7.out.f (List.Mem.tail _ (List.Mem.head _))).box.frozen 3
  have bxl : w.heap.size < w7.heap.size := (H7.out.f (List.Mem.tail _ (List.Mem.head _))).box.lt
  have rc0 := R7.out.c0
  have rc1 := R7.out.c1
  have rc8 := R7.out.c8
  have rz1 := R7.out.z 1
  have rz8 := R7.out.z 9
  have rl := R7.out.lt
  obtain ⟨sa, sn, sc, hsv⟩ := own_slice HV.out
  subst hsv
  have OW7 : Hid (Rngs w7 w.heap.size xs (.slice sa sn sc)) := Lib.hid (own_mono HV.out HSZ.out)
  clear HV HSZ
  have hlt : w.heap.size < w1.heap.size := (List.pairwise_cons.1 H7.out.desc).1 _ (List.Mem.head _)
  have hne1 : ¬ w.heap.size = w1.heap.size := by omega
  have hne2 : ¬ w1.heap.size = w.heap.size := by omega
  go_wp2
  have HE1 : HeldR w b [(w1.heap.size, #[.int .u8 ((op : UInt8).toNat : Int), .int .i64 ((md : Nat) : Int), .bool true, .slice sa sn sc], 50), (w.heap.size, #[.int .u8 0, .int .i64 0, .bool false, .slice none 0 0], 50)] (w7.setCell ⟨w1.heap.size, 3, none⟩ (.slice sa sn sc)) := (HeldR.set1 (L1 := []) (L2 := [(w.heap.size, #[.int .u8 0, .int .i64 0, .bool false, .slice none 0 0], 50)]) H7.out 3 (.slice sa sn sc))
  have RE1 := (R7.out.other (a := ⟨w1.heap.size, 3, none⟩) (H7.out.ne (List.Mem.head _)) (.slice sa sn sc))
  have KE1 := (Rngs.kept OW7.out (grown_set (World.grownBy.refl _ _) 3 (.slice sa sn sc)) (BoxT.apart (H7.out.f (List.Mem.head _)) (by decide)))
  refine bodyPost_ret (v := .agg #[.int .u8 ((op : UInt8).toNat : Int), .int .i64 ((md : Nat) : Int), .bool true, .slice sa sn sc]) (by simp [results, Tryz.results135, go_sem, bx0, bx1, bx2, bx3, by0, by1, by2, by3, bxl, byl, hne1, hne2]) rfl ?_
  show Told _ _ _ _ _ _ (relP n l) _ _
  rw [HX.out]
  exact ⟨_, _, rfl, ⟨_, rfl, (Rngs.kept KE1 (grown_set (grown_set (grown_set (grown_set (World.grownBy.refl _ (some (w.heap.size))) 0 (.int .u8 ((op : UInt8).toNat : Int))) 1 (.int .i64 ((md : Nat) : Int))) 2 (.bool true)) 3 (.slice sa sn sc)) (BoxT.apart (HE1.f (List.Mem.tail _ (List.Mem.head _))) (by decide)))⟩, A7.out, ((((RE1.other (a := ⟨w.heap.size, 0, none⟩) (HE1.ne (List.Mem.tail _ (List.Mem.head _))) (.int .u8 ((op : UInt8).toNat : Int))).other (a := ⟨w.heap.size, 1, none⟩) (HE1.ne (List.Mem.tail _ (List.Mem.head _))) (.int .i64 ((md : Nat) : Int))).other (a := ⟨w.heap.size, 2, none⟩) (HE1.ne (List.Mem.tail _ (List.Mem.head _))) (.bool true)).other (a := ⟨w.heap.size, 3, none⟩) (HE1.ne (List.Mem.tail _ (List.Mem.head _))) (.slice sa sn sc)), ((HeldR.set1 (L1 := [(w1.heap.size, #[.int .u8 ((op : UInt8).toNat : Int), .int .i64 ((md : Nat) : Int), .bool true, .slice sa sn sc], 50)]) (L2 := []) (c := w.heap.size) (cs := #[.int .u8 ((op : UInt8).toNat : Int), .int .i64 ((md : Nat) : Int), .bool true, .slice none 0 0]) (t := 50) (HeldR.set1 (L1 := [(w1.heap.size, #[.int .u8 ((op : UInt8).toNat : Int), .int .i64 ((md : Nat) : Int), .bool true, .slice sa sn sc], 50)]) (L2 := []) (c := w.heap.size) (cs := #[.int .u8 ((op : UInt8).toNat : Int), .int .i64 ((md : Nat) : Int), .bool false, .slice none 0 0]) (t := 50) (HeldR.set1 (L1 := [(w1.heap.size, #[.int .u8 ((op : UInt8).toNat : Int), .int .i64 ((md : Nat) : Int), .bool true, .slice sa sn sc], 50)]) (L2 := []) (c := w.heap.size) (cs := #[.int .u8 ((op : UInt8).toNat : Int), .int .i64 0, .bool false, .slice none 0 0]) (t := 50) (HeldR.set1 (L1 := [(w1.heap.size, #[.int .u8 ((op : UInt8).toNat : Int), .int .i64 ((md : Nat) : Int), .bool true, .slice sa sn sc], 50)]) (L2 := []) (c := w.heap.size) (cs := #[.int .u8 0, .int .i64 0, .bool false, .slice none 0 0]) (t := 50) HE1 0 (.int .u8 ((op : UInt8).toNat : Int))) 1 (.int .i64 ((md : Nat) : Int))) 2 (.bool true)) 3 (.slice sa sn sc))).gr⟩

theorem rel_as (b : Nat) (T : ByteArray) (p : Nat) (f : Nat → Bool) (n : Nat) (l : List UInt8) (w : World) (h : Rd w b T p f n) (ha : At T p l) (hT : T.size ≤ 1000000) (hn : n ≤ 200) :
    Calls Tryz.prog 135 #[.pointer (some ⟨b, 0, none⟩)] w (Told b T f (n + 1) w (fun w' x v => ∃ u, v = .agg #[.int .u8 ((x.op : UInt8).toNat : Int), .int .i64 ((x.mod : Nat) : Int), .bool x.nt, u] ∧ Rngs w' w.heap.size x.rs u) (relP n l)) := by
  cases hO : operP n l with
  | bad c re => exact rel_b c re b T p f n l w h ha hT hn hO
  | ok op r0 => cases hk : tk [37] r0 with
    | false =>
      cases hs : tk [33, 61] (tkR [37] r0) with
      | true => cases hR : rangesP (tkR [33, 61] (tkR [37] r0)) with
        | bad c re => exact rel_no_ne_bad op r0 c re b T p f n l w h ha hT hn hO hk hs hR
        | ok xs re => exact rel_no_ne_ok op r0 xs re b T p f n l w h ha hT hn hO hk hs hR
      | false => cases he : tk [61] (tkR [33, 61] (tkR [37] r0)) with
        | false => exact rel_no_bad_None op r0 b T p f n l w h ha hT hn hO hk hs he
        | true => cases hR : rangesP (tkR [61] (tkR [33, 61] (tkR [37] r0))) with
          | bad c re => exact rel_no_eq_bad op r0 c re b T p f n l w h ha hT hn hO hk hs he hR
          | ok xs re => exact rel_no_eq_ok op r0 xs re b T p f n l w h ha hT hn hO hk hs he hR
    | true => cases hN : numP 1 (tkR [37] r0) with
      | bad c re => exact rel_bad_None_None op r0 c re b T p f n l w h ha hT hn hO hk hN
      | ok md r1 =>
        cases hs : tk [33, 61] r1 with
        | true => cases hR : rangesP (tkR [33, 61] r1) with
          | bad c re => exact rel_yes_ne_bad op r0 md r1 c re b T p f n l w h ha hT hn hO hk hN hs hR
          | ok xs re => exact rel_yes_ne_ok op r0 md r1 xs re b T p f n l w h ha hT hn hO hk hN hs hR
        | false => cases he : tk [61] (tkR [33, 61] r1) with
          | false => exact rel_yes_bad_None op r0 md r1 b T p f n l w h ha hT hn hO hk hN hs he
          | true => cases hR : rangesP (tkR [61] (tkR [33, 61] r1)) with
            | bad c re => exact rel_yes_eq_bad op r0 md r1 c re b T p f n l w h ha hT hn hO hk hN hs he hR
            | ok xs re => exact rel_yes_eq_ok op r0 md r1 xs re b T p f n l w h ha hT hn hO hk hN hs he hR
end Go.Proofs.YtkjhdehpcanciaaGreatDoor

namespace Go.Proofs.YtkjhdehpcanciaaGreatDoor
open Go.RowKit Florin
set_option linter.unusedVariables false
set_option linter.unusedSimpArgs false
attribute [local go_sem ↓] Go.wp_at_zero Go.wp_at_succ

/-- As Told, where what was found and how many relations there were hang on what is told. -/
def ToldN {α : Type} (b : Nat) (T : ByteArray) (F : α → Nat → Bool) (N : α → Nat) (w : World) (V : World → α → Value → Prop) (r : Res α) (e : Ending) (w' : World) : Prop :=
  match r with
  | .ok x l => ∃ v p, e = .returned v ∧ V w' x v ∧ At T p l ∧ Rd w' b T p (F x) (N x) ∧ w.grownBy w' (some b)
  | .bad c l => ∃ p, e = Fault c p ∧ At T p l ∧ w.grownBy w' (some b)
theorem oper_n {n : Nat} {l r : List UInt8} {x : UInt8} (h : operP n l = .ok x r) : n ≠ 200 := by
  unfold operP at h
  split at h
  · split at h
    · split at h
      · cases h
      · assumption
    · cases h
  · cases h
theorem rel_n {n : Nat} {l r : List UInt8} {x : RelT} (h : relP n l = .ok x r) : n ≠ 200 := by
  unfold relP at h
  split at h
  · cases h
  · rename_i h1; exact oper_n h1
theorem allL_n : ∀ (k n : Nat) (acc : List RelT) (l r : List UInt8) (x : List RelT), n ≤ 200 → allL k n acc l = .ok x r → acc.length ≤ x.length ∧ n + x.length ≤ 200 + acc.length
  | 0, _, _, _, _, _, _, h => by cases h
  | k + 1, n, acc, l, r, x, hn, h => by
    unfold allL at h
    split at h
    · split at h
      · cases h
      · rename_i h2
        have a3 := rel_n h2
        have a4 := allL_n k _ _ _ _ _ (by omega) h
        rw [List.length_append] at a4
        simp at a4
        omega
    · cases h; omega
theorem all_n {n : Nat} {l r : List UInt8} {x : List RelT} (hn : n ≤ 200) (h : allP n l = .ok x r) : 1 ≤ x.length ∧ n + x.length ≤ 200 := by
  unfold allP at h
  split at h
  · cases h
  · rename_i h1
    have a1 := rel_n h1
    have a2 := allL_n _ _ _ _ _ _ (by omega) h
    simp at a2
    omega
theorem infoRel : (Tryz.prog.info? 50).map (fun i => (i.zero, i.size, i.bytes)) = some (some (.agg #[.int .u8 0, .int .i64 0, .bool false, .slice none 0 0]), 4, 48) := by kernel_rfl
theorem infoAll : (Tryz.prog.info? 47).map (fun i => (i.zero, i.size, i.bytes)) = some (some (.slice none 0 0), 1, 24) := by kernel_rfl
theorem all_append {w7 w8 : World} {base : Nat} {acc : List RelT} {cs : List Value} {u v8 : Value} {o : Obj} (hO : w7.ownsRow base 50 4 u acc.length cs) (hl : ListAt (RelAt w7) acc cs) (x : RelT) (rv : Value) (hx : Rngs w7 0 x.rs rv)
    (hown8 : w8.ownsRow base 50 4 v8 (acc.length + 1) (cs ++ [.int .u8 (x.op.toNat : Int), .int .i64 (x.mod : Int), .bool x.nt, rv])) (hgr8 : (w7.alloc o).grownBy w8 u.ownBlock) : AllAt w8 base (acc ++ [x]) v8 := by
  have k1 : ∀ y c, RelAt w7 y c → RelAt w8 y c := fun y c h => (h.kept (World.grownBy_alloc w7 o none) (Apart.none _ _)).kept hgr8 (own_apart (hO.alloc o) (by decide))
  exact ⟨_, by rw [List.length_append]; exact hown8, ListAt.snoc (k1 x _ ⟨rv, rfl, hx⟩) (hl.mono k1)⟩
theorem cond_append {w7 w8 : World} {base : Nat} {acc : List (List RelT)} {cs : List Value} {u v8 : Value} {o : Obj} (hO : w7.ownsRow base 47 1 u acc.length cs) (hl : ListAt (fun x c => ∃ u, c = [u] ∧ AllAt w7 0 x u) acc cs) (x : List RelT) (rv : Value) (hx : AllAt w7 0 x rv)
    (hown8 : w8.ownsRow base 47 1 v8 (acc.length + 1) (cs ++ [rv])) (hgr8 : (w7.alloc o).grownBy w8 u.ownBlock) : CondAt w8 base (acc ++ [x]) v8 := by
  have k0 : ∀ y c, AllAt w7 0 y c → AllAt w8 0 y c := fun y c h => (h.kept (World.grownBy_alloc w7 o none) (Apart.none _ _)).kept hgr8 (own_apart (hO.alloc o) (by decide))
  have k1 : ∀ (y : List RelT) c, (∃ u, c = [u] ∧ AllAt w7 0 y u) → (∃ u, c = [u] ∧ AllAt w8 0 y u) := fun y c ⟨u, hu, h⟩ => ⟨u, hu, k0 y u h⟩
  exact ⟨_, by rw [List.length_append]; exact hown8, ListAt.snoc (A := fun x c => ∃ u, c = [u] ∧ AllAt w8 0 x u) (k1 x _ ⟨rv, rfl, hx⟩) (hl.mono k1)⟩
theorem AllAt.mono {w : World} {base : Nat} {xs : List RelT} {v : Value} (h : AllAt w base xs v) : AllAt w 0 xs v := by
  obtain ⟨cs, h1, h2⟩ := h; exact ⟨cs, own_mono h1 (Nat.zero_le _), h2⟩
theorem CondAt.mono {w : World} {base : Nat} {xs : List (List RelT)} {v : Value} (h : CondAt w base xs v) : CondAt w 0 xs v := by
  obtain ⟨cs, h1, h2⟩ := h; exact ⟨cs, own_mono h1 (Nat.zero_le _), h2⟩

set_option maxRecDepth 100000 in
set_option maxHeartbeats 1600000 in
theorem all_b (c : Int) (m : List UInt8) (b : Nat) (T : ByteArray) (p : Nat) (f : Nat → Bool) (n : Nat) (l : List UInt8) (w : World) (h : Rd w b T p f n) (ha : At T p l) (hT : T.size ≤ 1000000) (hn : n ≤ 200) (hN : relP n l = .bad c m) :
    Calls Tryz.prog 107 #[.pointer (some ⟨b, 0, none⟩)] w (ToldN b T (fun _ => f) (fun x => n + x.length) w (fun w' x v => AllAt w' w.heap.size x v) (allP n l)) := by
  have R0 := Lib.hid h
  have A0 := Lib.hid ha
  have HhN := Lib.hid hN
  have HX : Hid (allP n l = .bad c m) := Lib.hid (by unfold allP; rw [hN])
  clear h ha hN
  go_enter Tryz.func107, Tryz.ntmps107
  go_wp2_with fail
  with_reducible refine (rel_as b T p f n l _ R0.out A0.out hT hn).mono ?_
  intro x w1 ht
  rw [HhN.out] at ht
  obtain ⟨qe, rfl, hat, hg⟩ := ht
  have HGE := Lib.hid (HeldR.keep (HeldR.refl R0.out.lt) hg).gr
  have HAE := Lib.hid hat
  clear hat hg
  go_wp2
  refine ⟨rfl, ?_⟩
  show ToldN _ _ _ _ _ _ (allP n l) _ _
  rw [HX.out]
  exact ⟨qe, rfl, HAE.out, HGE.out⟩

set_option maxRecDepth 100000 in
set_option maxHeartbeats 3200000 in
theorem all_o (x : RelT) (r : List UInt8) (b : Nat) (T : ByteArray) (p : Nat) (f : Nat → Bool) (n : Nat) (l : List UInt8) (w : World) (h : Rd w b T p f n) (ha : At T p l) (hT : T.size ≤ 1000000) (hn : n ≤ 200) (hN : relP n l = .ok x r) :
    Calls Tryz.prog 107 #[.pointer (some ⟨b, 0, none⟩)] w (ToldN b T (fun _ => f) (fun x => n + x.length) w (fun w' x v => AllAt w' w.heap.size x v) (allP n l)) := by
  have R0 := Lib.hid h
  have A0 := Lib.hid ha
  have HhN := Lib.hid hN
  have HX : Hid (allP n l = allL (r.length + 1) (n + 1) [x] r) := Lib.hid (by unfold allP; rw [hN])
  have hbl := h.lt
  have HBL := Lib.hid hbl
  have hx1 := rel_n hN
  clear h ha hN hbl
  go_enter Tryz.func107, Tryz.ntmps107
  have HSZ0 : Hid (w.heap.size ≤ w.heap.size) := Lib.hid (Nat.le_refl _)
  go_wp2_with fail
  with_reducible refine (rel_as b T p f n l _ R0.out A0.out hT hn).mono ?_
  intro x w1 ht
  rw [HhN.out] at ht
  obtain ⟨v1, q1, rfl, hv, hat, hr, hg⟩ := ht
  obtain ⟨u1, rfl, hrg⟩ := hv
  have H1 : Hid (HeldR w b [] w1) := Lib.hid (HeldR.keep (HeldR.refl R0.out.lt) hg)
  have R1 := Lib.hid hr
  have A1 := Lib.hid hat
  clear hat hr hg
  obtain ⟨sa, sn, sc, hsv⟩ := own_slice hrg
  subst hsv
  go_wp2_with fail
  go_loopg [3] (r.length + 1) (fun k v wr => ∃ (p1 : Nat) (m : List UInt8) (acc : List (RelT)), m.length < k ∧ n + acc.length ≤ 200 ∧  allL k (n + acc.length) acc m = allP n l ∧ At T p1 m ∧ Rd wr b T p1 f (n + acc.length) ∧ AllAt wr w.heap.size acc v ∧ w.grownBy wr (some b))
  case atStart => exact ⟨_, r, [x], by omega, by simp; omega, by rw [HX.out]; simp, A1.out, by exact (R1.out.alloc _), ⟨_, World.ownsRow_lit _ _ 1 H1.out.gr.size (by decide) rfl, ⟨_, [], (List.append_nil _).symm, ⟨_, rfl, Rngs.kept (own_mono hrg (Nat.zero_le _)) (World.grownBy_alloc _ _ none) (Apart.none _ _)⟩, rfl⟩⟩, ((HeldR.alloc H1.out (w1.heap.size) #[.int .u8 ((x.op : UInt8).toNat : Int), .int .i64 ((x.mod : Nat) : Int), .bool x.nt, .slice sa sn sc] 50 (by first | rfl | simp))).gr⟩
  case round =>
    obtain ⟨p1, m, acc, hmk, hal, hre, hat, hr, how, hgr⟩ := hrel
    obtain ⟨k0, rfl⟩ : ∃ k0, gk = k0 + 1 := ⟨gk - 1, by omega⟩
    have HRE := Lib.hid hre
    have A5 := Lib.hid hat
    have R5 := Lib.hid hr
    have OW5 := Lib.hid how
    have H5 := Lib.hid (HeldR.of HBL.out hgr)
    clear hre hat hr how hgr H1 R1 A1
    cases hk : tw [97, 110, 100] m with
    | false =>
      have HK := Lib.hid hk
      have HX2 : Hid (allP n l = .ok acc (twR [97, 110, 100] m)) := Lib.hid (by rw [← HRE.out]; unfold allL; rw [if_neg (by rw [hk]; decide)])
      clear hk
      go_wp2_with fail
      with_reducible refine (word_false [97, 110, 100] b T _ f (n + acc.length) m _ R5.out A5.out hT HK.out).mono ?_
      rintro x w6 ⟨q6, rfl, hat, hr, hg⟩
      have H6 : Hid (HeldR w b [] w6) := Lib.hid (HeldR.keep H5.out hg)
      have OW6 : Hid (AllAt w6 w.heap.size acc u3) := Lib.hid (AllAt.kept OW5.out hg (Rd.apart R5.out (by decide)))
      have R6 := Lib.hid hr
      have A6 := Lib.hid hat
      clear hat hr hg H5 R5 A5 OW5
      go_wp2
      go_ret
      show ToldN _ _ _ _ _ _ (allP n l) _ _
      rw [HX2.out]
      exact ⟨_, _, rfl, OW6.out, A6.out, R6.out, H6.out.gr⟩
    | true =>
      have HK := Lib.hid hk
      have hmx := twR_lt hk (by simp)
      cases hM : relP (n + acc.length) (twR [97, 110, 100] m) with
      | bad c m2 =>
        have HM := Lib.hid hM
        have HX2 : Hid (allP n l = .bad c m2) := Lib.hid (by rw [← HRE.out]; unfold allL; rw [if_pos hk, hM])
        clear hk hM
        go_wp2_with fail
        with_reducible refine (word_true [97, 110, 100] b T _ f (n + acc.length) m _ R5.out A5.out hT HK.out).mono ?_
        rintro x w6 ⟨q6, rfl, hat, hr, hg⟩
        have H6 : Hid (HeldR w b [] w6) := Lib.hid (HeldR.keep H5.out hg)
        have OW6 : Hid (AllAt w6 w.heap.size acc u3) := Lib.hid (AllAt.kept OW5.out hg (Rd.apart R5.out (by decide)))
        have R6 := Lib.hid hr
        have A6 := Lib.hid hat
        clear hat hr hg H5 R5 A5 OW5
        go_wp2_with fail
        with_reducible refine (rel_as b T _ f (n + acc.length) (twR [97, 110, 100] m) _ R6.out A6.out hT hal).mono ?_
        intro x w7 ht
        rw [HM.out] at ht
        obtain ⟨qe, rfl, hat, hg⟩ := ht
        have HGE := Lib.hid (HeldR.keep H6.out hg).gr
        have HAE := Lib.hid hat
        clear hat hg
        go_wp2
        refine ⟨rfl, ?_⟩
        show ToldN _ _ _ _ _ _ (allP n l) _ _
        rw [HX2.out]
        exact ⟨qe, rfl, HAE.out, HGE.out⟩
      | ok x2 m2 =>
        have HM := Lib.hid hM
        have hml := rel_len hM
        have hx2 := rel_n hM
        have HX2 : Hid (allL k0 ((n + acc.length) + 1) (acc ++ [x2]) m2 = allP n l) := Lib.hid (by rw [← HRE.out]; conv => rhs; unfold allL; rw [if_pos hk, hM])
        clear hk hM
        go_wp2_with fail
        with_reducible refine (word_true [97, 110, 100] b T _ f (n + acc.length) m _ R5.out A5.out hT HK.out).mono ?_
        rintro x w6 ⟨q6, rfl, hat, hr, hg⟩
        have H6 : Hid (HeldR w b [] w6) := Lib.hid (HeldR.keep H5.out hg)
        have OW6 : Hid (AllAt w6 w.heap.size acc u3) := Lib.hid (AllAt.kept OW5.out hg (Rd.apart R5.out (by decide)))
        have R6 := Lib.hid hr
        have A6 := Lib.hid hat
        clear hat hr hg H5 R5 A5 OW5
        go_wp2_with fail
        have HSZ7 : Hid (w.heap.size ≤ w6.heap.size) := Lib.hid H6.out.gr.size
        with_reducible refine (rel_as b T _ f (n + acc.length) (twR [97, 110, 100] m) _ R6.out A6.out hT hal).mono ?_
        intro x w7 ht
        rw [HM.out] at ht
        obtain ⟨v7, q7, rfl, hv, hat, hr, hg⟩ := ht
        obtain ⟨u1, rfl, hrg⟩ := hv
        have H7 : Hid (HeldR w b [] w7) := Lib.hid (HeldR.keep H6.out hg)
        have OW7 : Hid (AllAt w7 w.heap.size acc u3) := Lib.hid (AllAt.kept OW6.out hg (Rd.apart R6.out (by decide)))
        have R7 := Lib.hid hr
        have A7 := Lib.hid hat
        clear hat hr hg H6 R6 A6 OW6
        obtain ⟨sa, sn, sc, hsv⟩ := own_slice hrg
        subst hsv
        obtain ⟨i0, hi, hz0, hz1, hz2⟩ := info_parts infoRel
        obtain ⟨cs7, ho7, hl7⟩ := OW7.out
        have HO7 := Lib.hid ho7
        have HL7 := Lib.hid hl7
        have hsz := H7.out.gr.size
        have HRG := Lib.hid hrg
        clear ho7 hl7 hrg
        go_wp2_with (at_builtin; refine wpList_append_own _ rfl _ _ 47 rfl w.heap.size 50 i0 (.agg #[.int .u8 0, .int .i64 0, .bool false, .slice none 0 0]) 4 48 Tryz.underlying47 hi hz0 hz1 hz2 rfl (by decide) _ _ _ rfl (HO7.out.alloc _) ⟨w7.heap.size, 0, none⟩ 1 1 [.int .u8 ((x2.op : UInt8).toNat : Int), .int .i64 ((x2.mod : Nat) : Int), .bool x2.nt, .slice sa sn sc] rfl rfl (lit_cells w7 #[.int .u8 ((x2.op : UInt8).toNat : Int), .int .i64 ((x2.mod : Nat) : Int), .bool x2.nt, .slice sa sn sc] 50) (by simp [Value.oneCell']) (by unfold maxLen; omega) (by omega) (by simp; omega) ?_; intro v8 w8 hown8 hgr8 _)
        have OW8 : Hid (AllAt w8 w.heap.size (acc ++ [x2]) v8) := Lib.hid (all_append HO7.out HL7.out x2 _ (own_mono HRG.out (Nat.zero_le _)) hown8 hgr8)
        have R8 := Lib.hid ((R7.out.alloc (.cells #[.int .u8 ((x2.op : UInt8).toNat : Int), .int .i64 ((x2.mod : Nat) : Int), .bool x2.nt, .slice sa sn sc] 50)).grown hgr8 (own_ne HO7.out HBL.out))
        have G8 := Lib.hid (grown_own (grown_alloc H7.out.gr (.cells #[.int .u8 ((x2.op : UInt8).toNat : Int), .int .i64 ((x2.mod : Nat) : Int), .bool x2.nt, .slice sa sn sc] 50)) hgr8 (fun k hk => (HO7.out.lt k hk).1))
        clear hown8 hgr8 hsz hi hz0 hz1 hz2 H7 R7 OW7 HO7 HL7
        go_wp2
        go_roundg k0
        case measure => omega
        case rel => exact ⟨_, m2, acc ++ [x2], by omega, by rw [List.length_append, ← Nat.add_assoc]; first | omega | (simp; omega), by rw [List.length_append, ← Nat.add_assoc]; exact HX2.out, A7.out, by rw [List.length_append, ← Nat.add_assoc]; exact R8.out, OW8.out, G8.out⟩

theorem all_as (b : Nat) (T : ByteArray) (p : Nat) (f : Nat → Bool) (n : Nat) (l : List UInt8) (w : World) (h : Rd w b T p f n) (ha : At T p l) (hT : T.size ≤ 1000000) (hn : n ≤ 200) :
    Calls Tryz.prog 107 #[.pointer (some ⟨b, 0, none⟩)] w (ToldN b T (fun _ => f) (fun x => n + x.length) w (fun w' x v => AllAt w' w.heap.size x v) (allP n l)) := by
  cases hN : relP n l with
  | bad c m => exact all_b c m b T p f n l w h ha hT hn hN
  | ok x r => exact all_o x r b T p f n l w h ha hT hn hN

theorem count_one (x : List RelT) : count [x] = x.length := by unfold count; simp
theorem count_snoc (a : List (List RelT)) (x : List RelT) : count (a ++ [x]) = count a + x.length := by unfold count; simp

set_option maxRecDepth 100000 in
set_option maxHeartbeats 1600000 in
theorem cond_b (c : Int) (m : List UInt8) (b : Nat) (T : ByteArray) (p : Nat) (f : Nat → Bool) (n : Nat) (l : List UInt8) (w : World) (h : Rd w b T p f n) (ha : At T p l) (hT : T.size ≤ 1000000) (hn : n ≤ 200) (hN : allP n l = .bad c m) :
    Calls Tryz.prog 79 #[.pointer (some ⟨b, 0, none⟩)] w (ToldN b T (fun _ => f) (fun x => n + count x) w (fun w' x v => CondAt w' w.heap.size x v) (condP n l)) := by
  have R0 := Lib.hid h
  have A0 := Lib.hid ha
  have HhN := Lib.hid hN
  have HX : Hid (condP n l = .bad c m) := Lib.hid (by unfold condP; rw [hN])
  clear h ha hN
  go_enter Tryz.func79, Tryz.ntmps79
  go_wp2_with fail
  with_reducible refine (all_as b T p f n l _ R0.out A0.out hT hn).mono ?_
  intro x w1 ht
  rw [HhN.out] at ht
  obtain ⟨qe, rfl, hat, hg⟩ := ht
  have HGE := Lib.hid (HeldR.keep (HeldR.refl R0.out.lt) hg).gr
  have HAE := Lib.hid hat
  clear hat hg
  go_wp2
  refine ⟨rfl, ?_⟩
  show ToldN _ _ _ _ _ _ (condP n l) _ _
  rw [HX.out]
  exact ⟨qe, rfl, HAE.out, HGE.out⟩

set_option maxRecDepth 100000 in
set_option maxHeartbeats 3200000 in
theorem cond_o (x : List RelT) (r : List UInt8) (b : Nat) (T : ByteArray) (p : Nat) (f : Nat → Bool) (n : Nat) (l : List UInt8) (w : World) (h : Rd w b T p f n) (ha : At T p l) (hT : T.size ≤ 1000000) (hn : n ≤ 200) (hN : allP n l = .ok x r) :
    Calls Tryz.prog 79 #[.pointer (some ⟨b, 0, none⟩)] w (ToldN b T (fun _ => f) (fun x => n + count x) w (fun w' x v => CondAt w' w.heap.size x v) (condP n l)) := by
  have R0 := Lib.hid h
  have A0 := Lib.hid ha
  have HhN := Lib.hid hN
  have HX : Hid (condP n l = condL (r.length + 1) (n + x.length) [x] r) := Lib.hid (by unfold condP; rw [hN])
  have hbl := h.lt
  have HBL := Lib.hid hbl
  have hx1 := all_n hn hN
  clear h ha hN hbl
  go_enter Tryz.func79, Tryz.ntmps79
  have HSZ0 : Hid (w.heap.size ≤ w.heap.size) := Lib.hid (Nat.le_refl _)
  go_wp2_with fail
  with_reducible refine (all_as b T p f n l _ R0.out A0.out hT hn).mono ?_
  intro x w1 ht
  rw [HhN.out] at ht
  obtain ⟨v1, q1, rfl, hv, hat, hr, hg⟩ := ht
  have HV := Lib.hid hv
  clear hv
  have H1 : Hid (HeldR w b [] w1) := Lib.hid (HeldR.keep (HeldR.refl R0.out.lt) hg)
  have R1 := Lib.hid hr
  have A1 := Lib.hid hat
  clear hat hr hg
  obtain ⟨csx, hox, hlx⟩ := HV.out
  obtain ⟨sa, sn, sc, hsv⟩ := own_slice hox
  subst hsv
  have hrg := HV.out
  clear HV hox hlx
  go_wp2_with fail
  go_loopg [3] (r.length + 1) (fun k v wr => ∃ (p1 : Nat) (m : List UInt8) (acc : List (List RelT)), m.length < k ∧ n + count acc ≤ 200 ∧ acc.length ≤ count acc ∧ condL k (n + count acc) acc m = condP n l ∧ At T p1 m ∧ Rd wr b T p1 f (n + count acc) ∧ CondAt wr w.heap.size acc v ∧ w.grownBy wr (some b))
  case atStart => exact ⟨_, r, [x], by omega, by simpa [count] using hx1.2, by rw [count_one]; exact hx1.1, by rw [HX.out]; simp [count], A1.out, by rw [count_one]; exact (R1.out.alloc _), ⟨_, World.ownsRow_lit _ _ 1 H1.out.gr.size (by decide) rfl, ⟨_, [], (List.append_nil _).symm, ⟨_, rfl, (AllAt.mono hrg).kept (World.grownBy_alloc _ _ none) (Apart.none _ _)⟩, rfl⟩⟩, ((HeldR.alloc H1.out (w1.heap.size) #[.slice sa sn sc] 47 (by first | rfl | simp))).gr⟩
  case round =>
    obtain ⟨p1, m, acc, hmk, hal, hac, hre, hat, hr, how, hgr⟩ := hrel
    obtain ⟨k0, rfl⟩ : ∃ k0, gk = k0 + 1 := ⟨gk - 1, by omega⟩
    have HRE := Lib.hid hre
    have A5 := Lib.hid hat
    have R5 := Lib.hid hr
    have OW5 := Lib.hid how
    have H5 := Lib.hid (HeldR.of HBL.out hgr)
    clear hre hat hr how hgr H1 R1 A1
    cases hk : tw [111, 114] m with
    | false =>
      have HK := Lib.hid hk
      have HX2 : Hid (condP n l = .ok acc (twR [111, 114] m)) := Lib.hid (by rw [← HRE.out]; unfold condL; rw [if_neg (by rw [hk]; decide)])
      clear hk
      go_wp2_with fail
      with_reducible refine (word_false [111, 114] b T _ f (n + count acc) m _ R5.out A5.out hT HK.out).mono ?_
      rintro x w6 ⟨q6, rfl, hat, hr, hg⟩
      have H6 : Hid (HeldR w b [] w6) := Lib.hid (HeldR.keep H5.out hg)
      have OW6 : Hid (CondAt w6 w.heap.size acc u3) := Lib.hid (CondAt.kept OW5.out hg (Rd.apart R5.out (by decide)))
      have R6 := Lib.hid hr
      have A6 := Lib.hid hat
      clear hat hr hg H5 R5 A5 OW5
      go_wp2
      go_ret
      show ToldN _ _ _ _ _ _ (condP n l) _ _
      rw [HX2.out]
      exact ⟨_, _, rfl, OW6.out, A6.out, R6.out, H6.out.gr⟩
    | true =>
      have HK := Lib.hid hk
      have hmx := twR_lt hk (by simp)
      cases hM : allP (n + count acc) (twR [111, 114] m) with
      | bad c m2 =>
        have HM := Lib.hid hM
        have HX2 : Hid (condP n l = .bad c m2) := Lib.hid (by rw [← HRE.out]; unfold condL; rw [if_pos hk, hM])
        clear hk hM
        go_wp2_with fail
        with_reducible refine (word_true [111, 114] b T _ f (n + count acc) m _ R5.out A5.out hT HK.out).mono ?_
        rintro x w6 ⟨q6, rfl, hat, hr, hg⟩
        have H6 : Hid (HeldR w b [] w6) := Lib.hid (HeldR.keep H5.out hg)
        have OW6 : Hid (CondAt w6 w.heap.size acc u3) := Lib.hid (CondAt.kept OW5.out hg (Rd.apart R5.out (by decide)))
        have R6 := Lib.hid hr
        have A6 := Lib.hid hat
        clear hat hr hg H5 R5 A5 OW5
        go_wp2_with fail
        with_reducible refine (all_as b T _ f (n + count acc) (twR [111, 114] m) _ R6.out A6.out hT hal).mono ?_
        intro x w7 ht
        rw [HM.out] at ht
        obtain ⟨qe, rfl, hat, hg⟩ := ht
        have HGE := Lib.hid (HeldR.keep H6.out hg).gr
        have HAE := Lib.hid hat
        clear hat hg
        go_wp2
        refine ⟨rfl, ?_⟩
        show ToldN _ _ _ _ _ _ (condP n l) _ _
        rw [HX2.out]
        exact ⟨qe, rfl, HAE.out, HGE.out⟩
      | ok x2 m2 =>
        have HM := Lib.hid hM
        have hml := all_len hM
        have hx2 := all_n hal hM
        have HX2 : Hid (condL k0 ((n + count acc) + x2.length) (acc ++ [x2]) m2 = condP n l) := Lib.hid (by rw [← HRE.out]; conv => rhs; unfold condL; rw [if_pos hk, hM])
        clear hk hM
        go_wp2_with fail
        with_reducible refine (word_true [111, 114] b T _ f (n + count acc) m _ R5.out A5.out hT HK.out).mono ?_
        rintro x w6 ⟨q6, rfl, hat, hr, hg⟩
        have H6 : Hid (HeldR w b [] w6) := Lib.hid (HeldR.keep H5.out hg)
        have OW6 : Hid (CondAt w6 w.heap.size acc u3) := Lib.hid (CondAt.kept OW5.out hg (Rd.apart R5.out (by decide)))
        have R6 := Lib.hid hr
        have A6 := Lib.hid hat
        clear hat hr hg H5 R5 A5 OW5
        go_wp2_with fail
        have HSZ7 : Hid (w.heap.size ≤ w6.heap.size) := Lib.hid H6.out.gr.size
        with_reducible refine (all_as b T _ f (n + count acc) (twR [111, 114] m) _ R6.out A6.out hT hal).mono ?_
        intro x w7 ht
        rw [HM.out] at ht
        obtain ⟨v7, q7, rfl, hv, hat, hr, hg⟩ := ht
        have HV := Lib.hid hv
        clear hv
        have H7 : Hid (HeldR w b [] w7) := Lib.hid (HeldR.keep H6.out hg)
        have OW7 : Hid (CondAt w7 w.heap.size acc u3) := Lib.hid (CondAt.kept OW6.out hg (Rd.apart R6.out (by decide)))
        have R7 := Lib.hid hr
        have A7 := Lib.hid hat
        clear hat hr hg H6 R6 A6 OW6
        obtain ⟨csx, hox, hlx⟩ := HV.out
        obtain ⟨sa, sn, sc, hsv⟩ := own_slice hox
        subst hsv
        have hrg := HV.out
        clear HV hox hlx
        obtain ⟨i0, hi, hz0, hz1, hz2⟩ := info_parts infoAll
        obtain ⟨cs7, ho7, hl7⟩ := OW7.out
        have HO7 := Lib.hid ho7
        have HL7 := Lib.hid hl7
        have hsz := H7.out.gr.size
        have HRG := Lib.hid hrg
        clear ho7 hl7 hrg
        go_wp2_with (at_builtin; refine wpList_append_own _ rfl _ _ 37 rfl w.heap.size 47 i0 (.slice none 0 0) 1 24 Tryz.underlying37 hi hz0 hz1 hz2 rfl (by decide) _ _ _ rfl (HO7.out.alloc _) ⟨w7.heap.size, 0, none⟩ 1 1 [.slice sa sn sc] rfl rfl (lit_cells w7 #[.slice sa sn sc] 47) (by simp [Value.oneCell']) (by unfold maxLen; omega) (by omega) (by simp; omega) ?_; intro v8 w8 hown8 hgr8 _)
        have OW8 : Hid (CondAt w8 w.heap.size (acc ++ [x2]) v8) := Lib.hid (cond_append HO7.out HL7.out x2 _ (AllAt.mono HRG.out) hown8 hgr8)
        have R8 := Lib.hid ((R7.out.alloc (.cells #[.slice sa sn sc] 47)).grown hgr8 (own_ne HO7.out HBL.out))
        have G8 := Lib.hid (grown_own (grown_alloc H7.out.gr (.cells #[.slice sa sn sc] 47)) hgr8 (fun k hk => (HO7.out.lt k hk).1))
        clear hown8 hgr8 hsz hi hz0 hz1 hz2 H7 R7 OW7 HO7 HL7
        go_wp2
        go_roundg k0
        case measure => omega
        case rel => exact ⟨_, m2, acc ++ [x2], by omega, by rw [count_snoc, ← Nat.add_assoc]; first | omega | (simp; omega), by rw [count_snoc, List.length_append]; first | omega | (simp; omega), by rw [count_snoc, ← Nat.add_assoc]; exact HX2.out, A7.out, by rw [count_snoc, ← Nat.add_assoc]; exact R8.out, OW8.out, G8.out⟩

theorem cond_as (b : Nat) (T : ByteArray) (p : Nat) (f : Nat → Bool) (n : Nat) (l : List UInt8) (w : World) (h : Rd w b T p f n) (ha : At T p l) (hT : T.size ≤ 1000000) (hn : n ≤ 200) :
    Calls Tryz.prog 79 #[.pointer (some ⟨b, 0, none⟩)] w (ToldN b T (fun _ => f) (fun x => n + count x) w (fun w' x v => CondAt w' w.heap.size x v) (condP n l)) := by
  cases hN : allP n l with
  | bad c m => exact cond_b c m b T p f n l w h ha hT hn hN
  | ok x r => exact cond_o x r b T p f n l w h ha hT hn hN
end Go.Proofs.YtkjhdehpcanciaaGreatDoor
