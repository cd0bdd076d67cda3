/- What At, Sig and Step of round return. -/
import Derived.Test.YtegekkifgdakgaaDoorRndD
namespace Go.Proofs.YtegekkifgdakgaaDoor
open Go.RowKit Florin
set_option linter.unusedVariables false
set_option linter.unusedSimpArgs false
attribute [local go_sem ↓] Go.wp_at_zero Go.wp_at_succ

theorem multiple_1 (n : Bool) (s : ByteArray) (e : Int) (p m : Int) (w : World) (hs : s.size ≤ 100000) (d : Tri) (hd : made n s.data.toList e = d) (hp1 : -30000 ≤ p) (hp2 : p ≤ 30000) (htab : Tab w) (g : Tri) (hg : mulT d 1 p m = g) :
    Calls Tryd.prog 63 #[.agg #[.bool n, .string s, .int .i64 e], .agg #[.int .i64 1, .int .i64 p], .int .i64 m] w fun x w' => x = .returned (V g) ∧ Below w.heap.size w w' :=
  multiple_as n s e 1 p m w hs d hd hp1 hp2 (by decide) (by decide) htab g hg

set_option maxRecDepth 100000 in
set_option maxHeartbeats 3200000 in
theorem at_as (n : Bool) (s : ByteArray) (e : Int) (p m : Int) (w : World) (hs : s.size ≤ 100000) (d : Tri) (hd : made n s.data.toList e = d) (htab : Tab w) (g : Tri) (hg : mulT d 1 (hld p) m = g) :
    Calls Tryd.prog 44 #[.agg #[.bool n, .string s, .int .i64 e], .int .i64 p, .int .i64 m] w fun x w' => x = .returned (V g) ∧ Below w.heap.size w w' := by
  have HD := Lib.hid hd
  have HG := Lib.hid hg
  have HT := Lib.hid htab
  have k1 := le_hld p
  have k2 := hld_le p
  clear hd hg htab
  go_enter Tryd.func44, Tryd.ntmps44
  go_wp2_with fail
  rw [show min (max p (-30000)) 30000 = hld p from rfl]
  with_reducible refine (multiple_1 n s e (hld p) m _ hs d HD.out k1 k2 (HT.out.below (HeldL.alloc (HeldL.alloc (HeldL.refl w) (w.heap.size) #[.bool n, .string s, .int .i64 e] 31 (by simp)) (w.heap.size + 1) #[.bool false, .string ⟨#[]⟩, .int .i64 0] 31 (by simp)).bel) g HG.out).mono ?_
  rintro x w1 ⟨rfl, hb⟩
  have H1 : Hid (HeldL w [(w.heap.size + 1, #[.bool false, .string ⟨#[]⟩, .int .i64 0]), (w.heap.size, #[.bool n, .string s, .int .i64 e])] w1) := Lib.hid (HeldL.keep (HeldL.alloc (HeldL.alloc (HeldL.refl w) (w.heap.size) #[.bool n, .string s, .int .i64 e] 31 (by simp)) (w.heap.size + 1) #[.bool false, .string ⟨#[]⟩, .int .i64 0] 31 (by simp)) hb)
  clear hb
  have r0 : w1.cell? ⟨w.heap.size + 1, 0, none⟩ = some (.bool false) := (H1.out.f (List.Mem.head _)).cell 0
  have rz0 : w1.frozen? ⟨w.heap.size + 1, 0, none⟩ = false := (H1.out.f (List.Mem.head _)).frozen 0
  have r1 : w1.cell? ⟨w.heap.size + 1, 1, none⟩ = some (.string ⟨#[]⟩) := (H1.out.f (List.Mem.head _)).cell 1
  have rz1 : w1.frozen? ⟨w.heap.size + 1, 1, none⟩ = false := (H1.out.f (List.Mem.head _)).frozen 1
  have r2 : w1.cell? ⟨w.heap.size + 1, 2, none⟩ = some (.int .i64 0) := (H1.out.f (List.Mem.head _)).cell 2
  have rz2 : w1.frozen? ⟨w.heap.size + 1, 2, none⟩ = false := (H1.out.f (List.Mem.head _)).frozen 2
  have rl : w.heap.size + 1 < w1.heap.size := (H1.out.f (List.Mem.head _)).lt
  go_wp2
  exact bodyPost_ret (v := V g) (by simp [results, Tryd.results44, go_sem, r0, r1, r2]) rfl ⟨rfl, (HeldL.store3 [] [(w.heap.size, #[.bool n, .string s, .int .i64 e])] H1.out (.bool g.neg) (S g.l) (.int .i64 g.e)).bel⟩

set_option maxRecDepth 100000 in
set_option maxHeartbeats 3200000 in
theorem sig_zero (n : Bool) (s : ByteArray) (e : Int) (k m : Int) (w : World) (hs : s.size ≤ 100000) (hd : made n s.data.toList e = zero) :
    Calls Tryd.prog 45 #[.agg #[.bool n, .string s, .int .i64 e], .int .i64 k, .int .i64 m] w fun x w' => x = .returned (V zero) ∧ Below w.heap.size w w' := by
  have HD := Lib.hid hd
  clear hd
  go_enter Tryd.func45, Tryd.ntmps45
  go_wp2_with fail
  with_reducible refine (mag_zero n s e _ (by omega) HD.out).mono ?_
  rintro x w1 ⟨rfl, hb⟩
  have H1 : Hid (HeldL w [(w.heap.size + 1, #[.bool false, .string ⟨#[]⟩, .int .i64 0]), (w.heap.size, #[.bool n, .string s, .int .i64 e])] w1) := Lib.hid (HeldL.keep (HeldL.alloc (HeldL.alloc (HeldL.refl w) (w.heap.size) #[.bool n, .string s, .int .i64 e] 31 (by simp)) (w.heap.size + 1) #[.bool false, .string ⟨#[]⟩, .int .i64 0] 31 (by simp)) hb)
  clear hb
  have r0 : w1.cell? ⟨w.heap.size + 1, 0, none⟩ = some (.bool false) := (H1.out.f (List.Mem.head _)).cell 0
  have rz0 : w1.frozen? ⟨w.heap.size + 1, 0, none⟩ = false := (H1.out.f (List.Mem.head _)).frozen 0
  have r1 : w1.cell? ⟨w.heap.size + 1, 1, none⟩ = some (.string ⟨#[]⟩) := (H1.out.f (List.Mem.head _)).cell 1
  have rz1 : w1.frozen? ⟨w.heap.size + 1, 1, none⟩ = false := (H1.out.f (List.Mem.head _)).frozen 1
  have r2 : w1.cell? ⟨w.heap.size + 1, 2, none⟩ = some (.int .i64 0) := (H1.out.f (List.Mem.head _)).cell 2
  have rz2 : w1.frozen? ⟨w.heap.size + 1, 2, none⟩ = false := (H1.out.f (List.Mem.head _)).frozen 2
  have rl : w.heap.size + 1 < w1.heap.size := (H1.out.f (List.Mem.head _)).lt
  go_wp2
  exact bodyPost_ret (v := .agg #[.bool false, .string ⟨#[]⟩, .int .i64 0]) (by simp [results, Tryd.results45, go_sem, r0, r1, r2]) rfl ⟨rfl, (HeldL.store3 [] [(w.heap.size, #[.bool n, .string s, .int .i64 e])] H1.out (.bool false) (.string ⟨#[]⟩) (.int .i64 0)).bel⟩

set_option maxRecDepth 100000 in
set_option maxHeartbeats 3200000 in
theorem sig_some (n : Bool) (s : ByteArray) (e : Int) (k m : Int) (w : World) (hs : s.size ≤ 100000) (d : Tri) (hd : made n s.data.toList e = d) (hne : d.l ≠ []) (K P : Int) (hK : min (max k 1) 30000 = K) (hP : hld (d.e + (d.l.length : Int) - 1 - K + 1) = P) (htab : Tab w) (g : Tri) (hg : mulT d 1 P m = g) :
    Calls Tryd.prog 45 #[.agg #[.bool n, .string s, .int .i64 e], .int .i64 k, .int .i64 m] w fun x w' => x = .returned (V g) ∧ Below w.heap.size w w' := by
  have b1 : -30000 ≤ d.e := by rw [← hd]; exact (made_exp _ _ _).1
  have b2 : d.e ≤ 30000 := by rw [← hd]; exact (made_exp _ _ _).2
  have b3 : d.l.length ≤ 100000 := by rw [← hd]; have := made_length n s.data.toList e; rw [size_list] at this; omega
  have HD := Lib.hid hd
  have HG := Lib.hid hg
  have HT := Lib.hid htab
  have HNE := Lib.hid hne
  have HI := Lib.hid (idem_of hd)
  have HC : Hid (min (max k 1) 30000 = K) := Lib.hid hK
  have K1 : 1 ≤ K := by omega
  have K2 : K ≤ 30000 := by omega
  obtain ⟨M, hM⟩ : ∃ M : Int, d.e + (d.l.length : Int) - 1 = M := ⟨_, rfl⟩
  have hM1 : -40000 ≤ M := by omega
  have hM2 : M ≤ 140000 := by omega
  have HM := Lib.hid hM
  have HP : Hid (hld (M - K + 1) = P) := Lib.hid (by rw [← hM]; exact hP)
  clear hd hg htab hne hK hM hP
  go_enter Tryd.func45, Tryd.ntmps45
  go_wp2_with fail
  with_reducible refine (mag_some n s e _ (by omega) d HD.out HNE.out HI.out).mono ?_
  rintro x w1 ⟨rfl, hb⟩
  have H1 : Hid (HeldL w [(w.heap.size + 1, #[.bool false, .string ⟨#[]⟩, .int .i64 0]), (w.heap.size, #[.bool n, .string s, .int .i64 e])] w1) := Lib.hid (HeldL.keep (HeldL.alloc (HeldL.alloc (HeldL.refl w) (w.heap.size) #[.bool n, .string s, .int .i64 e] 31 (by simp)) (w.heap.size + 1) #[.bool false, .string ⟨#[]⟩, .int .i64 0] 31 (by simp)) hb)
  clear hb
  have x0 : w1.cell? ⟨w.heap.size, 0, none⟩ = some (.bool n) := (H1.out.f (List.Mem.tail _ (List.Mem.head _))).cell 0
  have x1 : w1.cell? ⟨w.heap.size, 1, none⟩ = some (.string s) := (H1.out.f (List.Mem.tail _ (List.Mem.head _))).cell 1
  have x2 : w1.cell? ⟨w.heap.size, 2, none⟩ = some (.int .i64 e) := (H1.out.f (List.Mem.tail _ (List.Mem.head _))).cell 2
  have xl : w.heap.size < w1.heap.size := (H1.out.f (List.Mem.tail _ (List.Mem.head _))).lt
  have r0 : w1.cell? ⟨w.heap.size + 1, 0, none⟩ = some (.bool false) := (H1.out.f (List.Mem.head _)).cell 0
  have rz0 : w1.frozen? ⟨w.heap.size + 1, 0, none⟩ = false := (H1.out.f (List.Mem.head _)).frozen 0
  have r1 : w1.cell? ⟨w.heap.size + 1, 1, none⟩ = some (.string ⟨#[]⟩) := (H1.out.f (List.Mem.head _)).cell 1
  have rz1 : w1.frozen? ⟨w.heap.size + 1, 1, none⟩ = false := (H1.out.f (List.Mem.head _)).frozen 1
  have r2 : w1.cell? ⟨w.heap.size + 1, 2, none⟩ = some (.int .i64 0) := (H1.out.f (List.Mem.head _)).cell 2
  have rz2 : w1.frozen? ⟨w.heap.size + 1, 2, none⟩ = false := (H1.out.f (List.Mem.head _)).frozen 2
  have rl : w.heap.size + 1 < w1.heap.size := (H1.out.f (List.Mem.head _)).lt
  rw [HM.out]
  go_wp2_with fail
  rw [HC.out]
  with_reducible refine (at_as n s e (M - K + 1) m _ hs d HD.out (HT.out.below H1.out.bel) g (by rw [HP.out]; exact HG.out)).mono ?_
  rintro x w2 ⟨rfl, hb⟩
  clear x0 x1 x2 xl r0 rz0 r1 rz1 r2 rz2 rl
  have H2 : Hid (HeldL w [(w.heap.size + 1, #[.bool false, .string ⟨#[]⟩, .int .i64 0]), (w.heap.size, #[.bool n, .string s, .int .i64 e])] w2) := Lib.hid (HeldL.keep H1.out hb)
  clear H1
  clear hb
  have r0 : w2.cell? ⟨w.heap.size + 1, 0, none⟩ = some (.bool false) := (H2.out.f (List.Mem.head _)).cell 0
  have rz0 : w2.frozen? ⟨w.heap.size + 1, 0, none⟩ = false := (H2.out.f (List.Mem.head _)).frozen 0
  have r1 : w2.cell? ⟨w.heap.size + 1, 1, none⟩ = some (.string ⟨#[]⟩) := (H2.out.f (List.Mem.head _)).cell 1
  have rz1 : w2.frozen? ⟨w.heap.size + 1, 1, none⟩ = false := (H2.out.f (List.Mem.head _)).frozen 1
  have r2 : w2.cell? ⟨w.heap.size + 1, 2, none⟩ = some (.int .i64 0) := (H2.out.f (List.Mem.head _)).cell 2
  have rz2 : w2.frozen? ⟨w.heap.size + 1, 2, none⟩ = false := (H2.out.f (List.Mem.head _)).frozen 2
  have rl : w.heap.size + 1 < w2.heap.size := (H2.out.f (List.Mem.head _)).lt
  go_wp2
  exact bodyPost_ret (v := V g) (by simp [results, Tryd.results45, go_sem, r0, r1, r2]) rfl ⟨rfl, (HeldL.store3 [] [(w.heap.size, #[.bool n, .string s, .int .i64 e])] H2.out (.bool g.neg) (S g.l) (.int .i64 g.e)).bel⟩

set_option maxRecDepth 100000 in
set_option maxHeartbeats 3200000 in
theorem step_yes (n : Bool) (s : ByteArray) (e : Int) (m : Int) (w : World) (hs : s.size ≤ 100000) (d : Tri) (hd : made n s.data.toList e = d) (bn : Bool) (t : ByteArray) (be : Int) (ht : t.size ≤ 100000) (il : List UInt8) (ie : Int) (hi : made bn t.data.toList be = ⟨false, il, ie⟩) (F : Nat) (hv : val il = F) (hF : F < 10 ^ 18) (hF1 : 1 ≤ F) (hF2 : F ≤ 1000000000) (htab : Tab w) (g : Tri) (hg : mulT d F ie m = g) :
    Calls Tryd.prog 46 #[.agg #[.bool n, .string s, .int .i64 e], .agg #[.bool bn, .string t, .int .i64 be], .int .i64 m] w fun x w' => x = .returned (V g) ∧ Below w.heap.size w w' := by
  have HD := Lib.hid hd
  have HI := Lib.hid hi
  have ie1 : -30000 ≤ ie := by have := (made_exp bn t.data.toList be).1; rw [hi] at this; exact this
  have ie2 : ie ≤ 30000 := by have := (made_exp bn t.data.toList be).2; rw [hi] at this; exact this
  have il1 : il.length ≤ 100000 := by have := made_length bn t.data.toList be; rw [hi, size_list] at this; simp only at this; omega
  have idg : isDig il = true := by have := made_isDig bn t.data.toList be; rw [hi] at this; exact this
  have HIDG := Lib.hid idg
  have HV : Hid (((val il : Nat) : Int) = ((F : Nat) : Int)) := Lib.hid (by rw [hv])
  have HL : Hid ((dig (val il)).length ≤ 18) := Lib.hid (by rw [hv]; exact (dig_length_le _ _).2 hF)
  have HT := Lib.hid htab
  have HG := Lib.hid hg
  have f1 : (1 : Int) ≤ F := by omega
  have f2 : (F : Int) ≤ 1000000000 := by omega
  clear hd hi idg hv htab hg hF
  go_enter Tryd.func46, Tryd.ntmps46
  go_wp2_with fail
  with_reducible refine (norm_as bn t be _ (by omega) ⟨false, il, ie⟩ HI.out).mono ?_
  rintro x w1 ⟨rfl, hb⟩
  have H1 : Hid (HeldL w [(w.heap.size + 1 + 1, #[.bool false, .string ⟨#[]⟩, .int .i64 0]), (w.heap.size + 1, #[.bool bn, .string t, .int .i64 be]), (w.heap.size, #[.bool n, .string s, .int .i64 e])] w1) := Lib.hid (HeldL.keep (HeldL.alloc (HeldL.alloc (HeldL.alloc (HeldL.refl w) (w.heap.size) #[.bool n, .string s, .int .i64 e] 31 (by simp)) (w.heap.size + 1) #[.bool bn, .string t, .int .i64 be] 31 (by simp)) (w.heap.size + 1 + 1) #[.bool false, .string ⟨#[]⟩, .int .i64 0] 31 (by simp)) hb)
  clear hb
  have q0 : w1.cell? ⟨w.heap.size + 1, 0, none⟩ = some (.bool bn) := (H1.out.f (List.Mem.tail _ (List.Mem.head _))).cell 0
  have qz0 : w1.frozen? ⟨w.heap.size + 1, 0, none⟩ = false := (H1.out.f (List.Mem.tail _ (List.Mem.head _))).frozen 0
  have q1 : w1.cell? ⟨w.heap.size + 1, 1, none⟩ = some (.string t) := (H1.out.f (List.Mem.tail _ (List.Mem.head _))).cell 1
  have qz1 : w1.frozen? ⟨w.heap.size + 1, 1, none⟩ = false := (H1.out.f (List.Mem.tail _ (List.Mem.head _))).frozen 1
  have q2 : w1.cell? ⟨w.heap.size + 1, 2, none⟩ = some (.int .i64 be) := (H1.out.f (List.Mem.tail _ (List.Mem.head _))).cell 2
  have qz2 : w1.frozen? ⟨w.heap.size + 1, 2, none⟩ = false := (H1.out.f (List.Mem.tail _ (List.Mem.head _))).frozen 2
  have ql : w.heap.size + 1 < w1.heap.size := (H1.out.f (List.Mem.tail _ (List.Mem.head _))).lt
  go_wp2_with fail
  clear q0 qz0 q1 qz1 q2 qz2 ql
  have H2 : Hid (HeldL w [(w.heap.size + 1 + 1, #[.bool false, .string ⟨#[]⟩, .int .i64 0]), (w.heap.size + 1, #[.bool false, S il, .int .i64 ie]), (w.heap.size, #[.bool n, .string s, .int .i64 e])] (((w1.setCell ⟨w.heap.size + 1, 0, none⟩ (.bool false)).setCell ⟨w.heap.size + 1, 1, none⟩ (S il)).setCell ⟨w.heap.size + 1, 2, none⟩ (.int .i64 ie))) := Lib.hid (HeldL.store3 [(w.heap.size + 1 + 1, #[.bool false, .string ⟨#[]⟩, .int .i64 0])] [(w.heap.size, #[.bool n, .string s, .int .i64 e])] (H1.out) (.bool false) (S il) (.int .i64 ie))
  generalize (((w1.setCell ⟨w.heap.size + 1, 0, none⟩ (.bool false)).setCell ⟨w.heap.size + 1, 1, none⟩ (S il)).setCell ⟨w.heap.size + 1, 2, none⟩ (.int .i64 ie)) = w2 at *
  clear H1
  have q0 : w2.cell? ⟨w.heap.size + 1, 0, none⟩ = some (.bool false) := (H2.out.f (List.Mem.tail _ (List.Mem.head _))).cell 0
  have q1 : w2.cell? ⟨w.heap.size + 1, 1, none⟩ = some (S il) := (H2.out.f (List.Mem.tail _ (List.Mem.head _))).cell 1
  have q2 : w2.cell? ⟨w.heap.size + 1, 2, none⟩ = some (.int .i64 ie) := (H2.out.f (List.Mem.tail _ (List.Mem.head _))).cell 2
  have ql : w.heap.size + 1 < w2.heap.size := (H2.out.f (List.Mem.tail _ (List.Mem.head _))).lt
  have x0 : w2.cell? ⟨w.heap.size, 0, none⟩ = some (.bool n) := (H2.out.f (List.Mem.tail _ (List.Mem.tail _ (List.Mem.head _)))).cell 0
  have x1 : w2.cell? ⟨w.heap.size, 1, none⟩ = some (.string s) := (H2.out.f (List.Mem.tail _ (List.Mem.tail _ (List.Mem.head _)))).cell 1
  have x2 : w2.cell? ⟨w.heap.size, 2, none⟩ = some (.int .i64 e) := (H2.out.f (List.Mem.tail _ (List.Mem.tail _ (List.Mem.head _)))).cell 2
  have xl : w.heap.size < w2.heap.size := (H2.out.f (List.Mem.tail _ (List.Mem.tail _ (List.Mem.head _)))).lt
  have r0 : w2.cell? ⟨w.heap.size + 1 + 1, 0, none⟩ = some (.bool false) := (H2.out.f (List.Mem.head _)).cell 0
  have rz0 : w2.frozen? ⟨w.heap.size + 1 + 1, 0, none⟩ = false := (H2.out.f (List.Mem.head _)).frozen 0
  have r1 : w2.cell? ⟨w.heap.size + 1 + 1, 1, none⟩ = some (.string ⟨#[]⟩) := (H2.out.f (List.Mem.head _)).cell 1
  have rz1 : w2.frozen? ⟨w.heap.size + 1 + 1, 1, none⟩ = false := (H2.out.f (List.Mem.head _)).frozen 1
  have r2 : w2.cell? ⟨w.heap.size + 1 + 1, 2, none⟩ = some (.int .i64 0) := (H2.out.f (List.Mem.head _)).cell 2
  have rz2 : w2.frozen? ⟨w.heap.size + 1 + 1, 2, none⟩ = false := (H2.out.f (List.Mem.head _)).frozen 2
  have rl : w.heap.size + 1 + 1 < w2.heap.size := (H2.out.f (List.Mem.head _)).lt
  with_reducible refine (intS il _ (by omega) HIDG.out HL.out).mono ?_
  rintro x wz ⟨rfl, rfl⟩
  rw [HV.out]
  go_wp2_with fail
  with_reducible refine (multiple_as n s e F ie m _ hs d HD.out ie1 ie2 hF1 hF2 (HT.out.below H2.out.bel) g HG.out).mono ?_
  rintro x w3 ⟨rfl, hb⟩
  clear q0 q1 q2 ql x0 x1 x2 xl r0 rz0 r1 rz1 r2 rz2 rl
  have H3 : Hid (HeldL w [(w.heap.size + 1 + 1, #[.bool false, .string ⟨#[]⟩, .int .i64 0]), (w.heap.size + 1, #[.bool false, S il, .int .i64 ie]), (w.heap.size, #[.bool n, .string s, .int .i64 e])] w3) := Lib.hid (HeldL.keep H2.out hb)
  clear H2
  clear hb
  have r0 : w3.cell? ⟨w.heap.size + 1 + 1, 0, none⟩ = some (.bool false) := (H3.out.f (List.Mem.head _)).cell 0
  have rz0 : w3.frozen? ⟨w.heap.size + 1 + 1, 0, none⟩ = false := (H3.out.f (List.Mem.head _)).frozen 0
  have r1 : w3.cell? ⟨w.heap.size + 1 + 1, 1, none⟩ = some (.string ⟨#[]⟩) := (H3.out.f (List.Mem.head _)).cell 1
  have rz1 : w3.frozen? ⟨w.heap.size + 1 + 1, 1, none⟩ = false := (H3.out.f (List.Mem.head _)).frozen 1
  have r2 : w3.cell? ⟨w.heap.size + 1 + 1, 2, none⟩ = some (.int .i64 0) := (H3.out.f (List.Mem.head _)).cell 2
  have rz2 : w3.frozen? ⟨w.heap.size + 1 + 1, 2, none⟩ = false := (H3.out.f (List.Mem.head _)).frozen 2
  have rl : w.heap.size + 1 + 1 < w3.heap.size := (H3.out.f (List.Mem.head _)).lt
  go_wp2
  exact bodyPost_ret (v := V g) (by simp [results, Tryd.results46, go_sem, r0, r1, r2]) rfl ⟨rfl, (HeldL.store3 [] [(w.heap.size + 1, #[.bool false, S il, .int .i64 ie]), (w.heap.size, #[.bool n, .string s, .int .i64 e])] H3.out (.bool g.neg) (S g.l) (.int .i64 g.e)).bel⟩

set_option maxRecDepth 100000 in
set_option maxHeartbeats 3200000 in
theorem step_low (n : Bool) (s : ByteArray) (e : Int) (m : Int) (w : World) (hs : s.size ≤ 100000) (g : Tri) (hd : made n s.data.toList e = g) (bn : Bool) (t : ByteArray) (be : Int) (ht : t.size ≤ 100000) (inn : Bool) (il : List UInt8) (ie : Int) (hi : made bn t.data.toList be = ⟨inn, il, ie⟩) (F : Nat) (hv : val il = F) (hF : F < 10 ^ 18) (hF0 : F = 0) :
    Calls Tryd.prog 46 #[.agg #[.bool n, .string s, .int .i64 e], .agg #[.bool bn, .string t, .int .i64 be], .int .i64 m] w fun x w' => x = .returned (V g) ∧ Below w.heap.size w w' := by
  have HD := Lib.hid hd
  have HI := Lib.hid hi
  have ie1 : -30000 ≤ ie := by have := (made_exp bn t.data.toList be).1; rw [hi] at this; exact this
  have ie2 : ie ≤ 30000 := by have := (made_exp bn t.data.toList be).2; rw [hi] at this; exact this
  have il1 : il.length ≤ 100000 := by have := made_length bn t.data.toList be; rw [hi, size_list] at this; simp only at this; omega
  have idg : isDig il = true := by have := made_isDig bn t.data.toList be; rw [hi] at this; exact this
  have HIDG := Lib.hid idg
  have HV : Hid (((val il : Nat) : Int) = ((F : Nat) : Int)) := Lib.hid (by rw [hv])
  have HL : Hid ((dig (val il)).length ≤ 18) := Lib.hid (by rw [hv]; exact (dig_length_le _ _).2 hF)
  have f1 : (F : Int) < 1 := by omega
  clear hd hi idg hv hF
  go_enter Tryd.func46, Tryd.ntmps46
  go_wp2_with fail
  with_reducible refine (norm_as bn t be _ (by omega) ⟨inn, il, ie⟩ HI.out).mono ?_
  rintro x w1 ⟨rfl, hb⟩
  have H1 : Hid (HeldL w [(w.heap.size + 1 + 1, #[.bool false, .string ⟨#[]⟩, .int .i64 0]), (w.heap.size + 1, #[.bool bn, .string t, .int .i64 be]), (w.heap.size, #[.bool n, .string s, .int .i64 e])] w1) := Lib.hid (HeldL.keep (HeldL.alloc (HeldL.alloc (HeldL.alloc (HeldL.refl w) (w.heap.size) #[.bool n, .string s, .int .i64 e] 31 (by simp)) (w.heap.size + 1) #[.bool bn, .string t, .int .i64 be] 31 (by simp)) (w.heap.size + 1 + 1) #[.bool false, .string ⟨#[]⟩, .int .i64 0] 31 (by simp)) hb)
  clear hb
  have q0 : w1.cell? ⟨w.heap.size + 1, 0, none⟩ = some (.bool bn) := (H1.out.f (List.Mem.tail _ (List.Mem.head _))).cell 0
  have qz0 : w1.frozen? ⟨w.heap.size + 1, 0, none⟩ = false := (H1.out.f (List.Mem.tail _ (List.Mem.head _))).frozen 0
  have q1 : w1.cell? ⟨w.heap.size + 1, 1, none⟩ = some (.string t) := (H1.out.f (List.Mem.tail _ (List.Mem.head _))).cell 1
  have qz1 : w1.frozen? ⟨w.heap.size + 1, 1, none⟩ = false := (H1.out.f (List.Mem.tail _ (List.Mem.head _))).frozen 1
  have q2 : w1.cell? ⟨w.heap.size + 1, 2, none⟩ = some (.int .i64 be) := (H1.out.f (List.Mem.tail _ (List.Mem.head _))).cell 2
  have qz2 : w1.frozen? ⟨w.heap.size + 1, 2, none⟩ = false := (H1.out.f (List.Mem.tail _ (List.Mem.head _))).frozen 2
  have ql : w.heap.size + 1 < w1.heap.size := (H1.out.f (List.Mem.tail _ (List.Mem.head _))).lt
  go_wp2_with fail
  clear q0 qz0 q1 qz1 q2 qz2 ql
  have H2 : Hid (HeldL w [(w.heap.size + 1 + 1, #[.bool false, .string ⟨#[]⟩, .int .i64 0]), (w.heap.size + 1, #[.bool inn, S il, .int .i64 ie]), (w.heap.size, #[.bool n, .string s, .int .i64 e])] (((w1.setCell ⟨w.heap.size + 1, 0, none⟩ (.bool inn)).setCell ⟨w.heap.size + 1, 1, none⟩ (S il)).setCell ⟨w.heap.size + 1, 2, none⟩ (.int .i64 ie))) := Lib.hid (HeldL.store3 [(w.heap.size + 1 + 1, #[.bool false, .string ⟨#[]⟩, .int .i64 0])] [(w.heap.size, #[.bool n, .string s, .int .i64 e])] (H1.out) (.bool inn) (S il) (.int .i64 ie))
  generalize (((w1.setCell ⟨w.heap.size + 1, 0, none⟩ (.bool inn)).setCell ⟨w.heap.size + 1, 1, none⟩ (S il)).setCell ⟨w.heap.size + 1, 2, none⟩ (.int .i64 ie)) = w2 at *
  clear H1
  have q0 : w2.cell? ⟨w.heap.size + 1, 0, none⟩ = some (.bool inn) := (H2.out.f (List.Mem.tail _ (List.Mem.head _))).cell 0
  have q1 : w2.cell? ⟨w.heap.size + 1, 1, none⟩ = some (S il) := (H2.out.f (List.Mem.tail _ (List.Mem.head _))).cell 1
  have q2 : w2.cell? ⟨w.heap.size + 1, 2, none⟩ = some (.int .i64 ie) := (H2.out.f (List.Mem.tail _ (List.Mem.head _))).cell 2
  have ql : w.heap.size + 1 < w2.heap.size := (H2.out.f (List.Mem.tail _ (List.Mem.head _))).lt
  have x0 : w2.cell? ⟨w.heap.size, 0, none⟩ = some (.bool n) := (H2.out.f (List.Mem.tail _ (List.Mem.tail _ (List.Mem.head _)))).cell 0
  have x1 : w2.cell? ⟨w.heap.size, 1, none⟩ = some (.string s) := (H2.out.f (List.Mem.tail _ (List.Mem.tail _ (List.Mem.head _)))).cell 1
  have x2 : w2.cell? ⟨w.heap.size, 2, none⟩ = some (.int .i64 e) := (H2.out.f (List.Mem.tail _ (List.Mem.tail _ (List.Mem.head _)))).cell 2
  have xl : w.heap.size < w2.heap.size := (H2.out.f (List.Mem.tail _ (List.Mem.tail _ (List.Mem.head _)))).lt
  have r0 : w2.cell? ⟨w.heap.size + 1 + 1, 0, none⟩ = some (.bool false) := (H2.out.f (List.Mem.head _)).cell 0
  have rz0 : w2.frozen? ⟨w.heap.size + 1 + 1, 0, none⟩ = false := (H2.out.f (List.Mem.head _)).frozen 0
  have r1 : w2.cell? ⟨w.heap.size + 1 + 1, 1, none⟩ = some (.string ⟨#[]⟩) := (H2.out.f (List.Mem.head _)).cell 1
  have rz1 : w2.frozen? ⟨w.heap.size + 1 + 1, 1, none⟩ = false := (H2.out.f (List.Mem.head _)).frozen 1
  have r2 : w2.cell? ⟨w.heap.size + 1 + 1, 2, none⟩ = some (.int .i64 0) := (H2.out.f (List.Mem.head _)).cell 2
  have rz2 : w2.frozen? ⟨w.heap.size + 1 + 1, 2, none⟩ = false := (H2.out.f (List.Mem.head _)).frozen 2
  have rl : w.heap.size + 1 + 1 < w2.heap.size := (H2.out.f (List.Mem.head _)).lt
  with_reducible refine (intS il _ (by omega) HIDG.out HL.out).mono ?_
  rintro x wz ⟨rfl, rfl⟩
  rw [HV.out]
  go_wp2_with fail
  with_reducible refine (norm_as n s e _ (by omega) g HD.out).mono ?_
  rintro x w3 ⟨rfl, hb⟩
  clear q0 q1 q2 ql x0 x1 x2 xl r0 rz0 r1 rz1 r2 rz2 rl
  have H3 : Hid (HeldL w [(w.heap.size + 1 + 1, #[.bool false, .string ⟨#[]⟩, .int .i64 0]), (w.heap.size + 1, #[.bool inn, S il, .int .i64 ie]), (w.heap.size, #[.bool n, .string s, .int .i64 e])] w3) := Lib.hid (HeldL.keep H2.out hb)
  clear H2
  clear hb
  have r0 : w3.cell? ⟨w.heap.size + 1 + 1, 0, none⟩ = some (.bool false) := (H3.out.f (List.Mem.head _)).cell 0
  have rz0 : w3.frozen? ⟨w.heap.size + 1 + 1, 0, none⟩ = false := (H3.out.f (List.Mem.head _)).frozen 0
  have r1 : w3.cell? ⟨w.heap.size + 1 + 1, 1, none⟩ = some (.string ⟨#[]⟩) := (H3.out.f (List.Mem.head _)).cell 1
  have rz1 : w3.frozen? ⟨w.heap.size + 1 + 1, 1, none⟩ = false := (H3.out.f (List.Mem.head _)).frozen 1
  have r2 : w3.cell? ⟨w.heap.size + 1 + 1, 2, none⟩ = some (.int .i64 0) := (H3.out.f (List.Mem.head _)).cell 2
  have rz2 : w3.frozen? ⟨w.heap.size + 1 + 1, 2, none⟩ = false := (H3.out.f (List.Mem.head _)).frozen 2
  have rl : w.heap.size + 1 + 1 < w3.heap.size := (H3.out.f (List.Mem.head _)).lt
  go_wp2
  exact bodyPost_ret (v := V g) (by simp [results, Tryd.results46, go_sem, r0, r1, r2]) rfl ⟨rfl, (HeldL.store3 [] [(w.heap.size + 1, #[.bool inn, S il, .int .i64 ie]), (w.heap.size, #[.bool n, .string s, .int .i64 e])] H3.out (.bool g.neg) (S g.l) (.int .i64 g.e)).bel⟩

set_option maxRecDepth 100000 in
set_option maxHeartbeats 3200000 in
theorem step_high (n : Bool) (s : ByteArray) (e : Int) (m : Int) (w : World) (hs : s.size ≤ 100000) (g : Tri) (hd : made n s.data.toList e = g) (bn : Bool) (t : ByteArray) (be : Int) (ht : t.size ≤ 100000) (inn : Bool) (il : List UInt8) (ie : Int) (hi : made bn t.data.toList be = ⟨inn, il, ie⟩) (F : Nat) (hv : val il = F) (hF : F < 10 ^ 18) (hF0 : 1000000000 < F) :
    Calls Tryd.prog 46 #[.agg #[.bool n, .string s, .int .i64 e], .agg #[.bool bn, .string t, .int .i64 be], .int .i64 m] w fun x w' => x = .returned (V g) ∧ Below w.heap.size w w' := by
  have HD := Lib.hid hd
  have HI := Lib.hid hi
  have ie1 : -30000 ≤ ie := by have := (made_exp bn t.data.toList be).1; rw [hi] at this; exact this
  have ie2 : ie ≤ 30000 := by have := (made_exp bn t.data.toList be).2; rw [hi] at this; exact this
  have il1 : il.length ≤ 100000 := by have := made_length bn t.data.toList be; rw [hi, size_list] at this; simp only at this; omega
  have idg : isDig il = true := by have := made_isDig bn t.data.toList be; rw [hi] at this; exact this
  have HIDG := Lib.hid idg
  have HV : Hid (((val il : Nat) : Int) = ((F : Nat) : Int)) := Lib.hid (by rw [hv])
  have HL : Hid ((dig (val il)).length ≤ 18) := Lib.hid (by rw [hv]; exact (dig_length_le _ _).2 hF)
  have f1 : ¬ (F : Int) < 1 := by omega
  have f2 : (F : Int) > 1000000000 := by omega
  clear hd hi idg hv hF
  go_enter Tryd.func46, Tryd.ntmps46
  go_wp2_with fail
  with_reducible refine (norm_as bn t be _ (by omega) ⟨inn, il, ie⟩ HI.out).mono ?_
  rintro x w1 ⟨rfl, hb⟩
  have H1 : Hid (HeldL w [(w.heap.size + 1 + 1, #[.bool false, .string ⟨#[]⟩, .int .i64 0]), (w.heap.size + 1, #[.bool bn, .string t, .int .i64 be]), (w.heap.size, #[.bool n, .string s, .int .i64 e])] w1) := Lib.hid (HeldL.keep (HeldL.alloc (HeldL.alloc (HeldL.alloc (HeldL.refl w) (w.heap.size) #[.bool n, .string s, .int .i64 e] 31 (by simp)) (w.heap.size + 1) #[.bool bn, .string t, .int .i64 be] 31 (by simp)) (w.heap.size + 1 + 1) #[.bool false, .string ⟨#[]⟩, .int .i64 0] 31 (by simp)) hb)
  clear hb
  have q0 : w1.cell? ⟨w.heap.size + 1, 0, none⟩ = some (.bool bn) := (H1.out.f (List.Mem.tail _ (List.Mem.head _))).cell 0
  have qz0 : w1.frozen? ⟨w.heap.size + 1, 0, none⟩ = false := (H1.out.f (List.Mem.tail _ (List.Mem.head _))).frozen 0
  have q1 : w1.cell? ⟨w.heap.size + 1, 1, none⟩ = some (.string t) := (H1.out.f (List.Mem.tail _ (List.Mem.head _))).cell 1
  have qz1 : w1.frozen? ⟨w.heap.size + 1, 1, none⟩ = false := (H1.out.f (List.Mem.tail _ (List.Mem.head _))).frozen 1
  have q2 : w1.cell? ⟨w.heap.size + 1, 2, none⟩ = some (.int .i64 be) := (H1.out.f (List.Mem.tail _ (List.Mem.head _))).cell 2
  have qz2 : w1.frozen? ⟨w.heap.size + 1, 2, none⟩ = false := (H1.out.f (List.Mem.tail _ (List.Mem.head _))).frozen 2
  have ql : w.heap.size + 1 < w1.heap.size := (H1.out.f (List.Mem.tail _ (List.Mem.head _))).lt
  go_wp2_with fail
  clear q0 qz0 q1 qz1 q2 qz2 ql
  have H2 : Hid (HeldL w [(w.heap.size + 1 + 1, #[.bool false, .string ⟨#[]⟩, .int .i64 0]), (w.heap.size + 1, #[.bool inn, S il, .int .i64 ie]), (w.heap.size, #[.bool n, .string s, .int .i64 e])] (((w1.setCell ⟨w.heap.size + 1, 0, none⟩ (.bool inn)).setCell ⟨w.heap.size + 1, 1, none⟩ (S il)).setCell ⟨w.heap.size + 1, 2, none⟩ (.int .i64 ie))) := Lib.hid (HeldL.store3 [(w.heap.size + 1 + 1, #[.bool false, .string ⟨#[]⟩, .int .i64 0])] [(w.heap.size, #[.bool n, .string s, .int .i64 e])] (H1.out) (.bool inn) (S il) (.int .i64 ie))
  generalize (((w1.setCell ⟨w.heap.size + 1, 0, none⟩ (.bool inn)).setCell ⟨w.heap.size + 1, 1, none⟩ (S il)).setCell ⟨w.heap.size + 1, 2, none⟩ (.int .i64 ie)) = w2 at *
  clear H1
  have q0 : w2.cell? ⟨w.heap.size + 1, 0, none⟩ = some (.bool inn) := (H2.out.f (List.Mem.tail _ (List.Mem.head _))).cell 0
  have q1 : w2.cell? ⟨w.heap.size + 1, 1, none⟩ = some (S il) := (H2.out.f (List.Mem.tail _ (List.Mem.head _))).cell 1
  have q2 : w2.cell? ⟨w.heap.size + 1, 2, none⟩ = some (.int .i64 ie) := (H2.out.f (List.Mem.tail _ (List.Mem.head _))).cell 2
  have ql : w.heap.size + 1 < w2.heap.size := (H2.out.f (List.Mem.tail _ (List.Mem.head _))).lt
  have x0 : w2.cell? ⟨w.heap.size, 0, none⟩ = some (.bool n) := (H2.out.f (List.Mem.tail _ (List.Mem.tail _ (List.Mem.head _)))).cell 0
  have x1 : w2.cell? ⟨w.heap.size, 1, none⟩ = some (.string s) := (H2.out.f (List.Mem.tail _ (List.Mem.tail _ (List.Mem.head _)))).cell 1
  have x2 : w2.cell? ⟨w.heap.size, 2, none⟩ = some (.int .i64 e) := (H2.out.f (List.Mem.tail _ (List.Mem.tail _ (List.Mem.head _)))).cell 2
  have xl : w.heap.size < w2.heap.size := (H2.out.f (List.Mem.tail _ (List.Mem.tail _ (List.Mem.head _)))).lt
  have r0 : w2.cell? ⟨w.heap.size + 1 + 1, 0, none⟩ = some (.bool false) := (H2.out.f (List.Mem.head _)).cell 0
  have rz0 : w2.frozen? ⟨w.heap.size + 1 + 1, 0, none⟩ = false := (H2.out.f (List.Mem.head _)).frozen 0
  have r1 : w2.cell? ⟨w.heap.size + 1 + 1, 1, none⟩ = some (.string ⟨#[]⟩) := (H2.out.f (List.Mem.head _)).cell 1
  have rz1 : w2.frozen? ⟨w.heap.size + 1 + 1, 1, none⟩ = false := (H2.out.f (List.Mem.head _)).frozen 1
  have r2 : w2.cell? ⟨w.heap.size + 1 + 1, 2, none⟩ = some (.int .i64 0) := (H2.out.f (List.Mem.head _)).cell 2
  have rz2 : w2.frozen? ⟨w.heap.size + 1 + 1, 2, none⟩ = false := (H2.out.f (List.Mem.head _)).frozen 2
  have rl : w.heap.size + 1 + 1 < w2.heap.size := (H2.out.f (List.Mem.head _)).lt
  with_reducible refine (intS il _ (by omega) HIDG.out HL.out).mono ?_
  rintro x wz ⟨rfl, rfl⟩
  rw [HV.out]
  go_wp2_with fail
  with_reducible refine (norm_as n s e _ (by omega) g HD.out).mono ?_
  rintro x w3 ⟨rfl, hb⟩
  clear q0 q1 q2 ql x0 x1 x2 xl r0 rz0 r1 rz1 r2 rz2 rl
  have H3 : Hid (HeldL w [(w.heap.size + 1 + 1, #[.bool false, .string ⟨#[]⟩, .int .i64 0]), (w.heap.size + 1, #[.bool inn, S il, .int .i64 ie]), (w.heap.size, #[.bool n, .string s, .int .i64 e])] w3) := Lib.hid (HeldL.keep H2.out hb)
  clear H2
  clear hb
  have r0 : w3.cell? ⟨w.heap.size + 1 + 1, 0, none⟩ = some (.bool false) := (H3.out.f (List.Mem.head _)).cell 0
  have rz0 : w3.frozen? ⟨w.heap.size + 1 + 1, 0, none⟩ = false := (H3.out.f (List.Mem.head _)).frozen 0
  have r1 : w3.cell? ⟨w.heap.size + 1 + 1, 1, none⟩ = some (.string ⟨#[]⟩) := (H3.out.f (List.Mem.head _)).cell 1
  have rz1 : w3.frozen? ⟨w.heap.size + 1 + 1, 1, none⟩ = false := (H3.out.f (List.Mem.head _)).frozen 1
  have r2 : w3.cell? ⟨w.heap.size + 1 + 1, 2, none⟩ = some (.int .i64 0) := (H3.out.f (List.Mem.head _)).cell 2
  have rz2 : w3.frozen? ⟨w.heap.size + 1 + 1, 2, none⟩ = false := (H3.out.f (List.Mem.head _)).frozen 2
  have rl : w.heap.size + 1 + 1 < w3.heap.size := (H3.out.f (List.Mem.head _)).lt
  go_wp2
  exact bodyPost_ret (v := V g) (by simp [results, Tryd.results46, go_sem, r0, r1, r2]) rfl ⟨rfl, (HeldL.store3 [] [(w.heap.size + 1, #[.bool inn, S il, .int .i64 ie]), (w.heap.size, #[.bool n, .string s, .int .i64 e])] H3.out (.bool g.neg) (S g.l) (.int .i64 g.e)).bel⟩

set_option maxRecDepth 100000 in
set_option maxHeartbeats 3200000 in
theorem step_neg (n : Bool) (s : ByteArray) (e : Int) (m : Int) (w : World) (hs : s.size ≤ 100000) (g : Tri) (hd : made n s.data.toList e = g) (bn : Bool) (t : ByteArray) (be : Int) (ht : t.size ≤ 100000) (il : List UInt8) (ie : Int) (hi : made bn t.data.toList be = ⟨true, il, ie⟩) (F : Nat) (hv : val il = F) (hF : F < 10 ^ 18) (hF1 : 1 ≤ F) (hF2 : F ≤ 1000000000) :
    Calls Tryd.prog 46 #[.agg #[.bool n, .string s, .int .i64 e], .agg #[.bool bn, .string t, .int .i64 be], .int .i64 m] w fun x w' => x = .returned (V g) ∧ Below w.heap.size w w' := by
  have HD := Lib.hid hd
  have HI := Lib.hid hi
  have ie1 : -30000 ≤ ie := by have := (made_exp bn t.data.toList be).1; rw [hi] at this; exact this
  have ie2 : ie ≤ 30000 := by have := (made_exp bn t.data.toList be).2; rw [hi] at this; exact this
  have il1 : il.length ≤ 100000 := by have := made_length bn t.data.toList be; rw [hi, size_list] at this; simp only at this; omega
  have idg : isDig il = true := by have := made_isDig bn t.data.toList be; rw [hi] at this; exact this
  have HIDG := Lib.hid idg
  have HV : Hid (((val il : Nat) : Int) = ((F : Nat) : Int)) := Lib.hid (by rw [hv])
  have HL : Hid ((dig (val il)).length ≤ 18) := Lib.hid (by rw [hv]; exact (dig_length_le _ _).2 hF)
  have f1 : ¬ (F : Int) < 1 := by omega
  have f2 : ¬ (F : Int) > 1000000000 := by omega
  clear hd hi idg hv hF
  go_enter Tryd.func46, Tryd.ntmps46
  go_wp2_with fail
  with_reducible refine (norm_as bn t be _ (by omega) ⟨true, il, ie⟩ HI.out).mono ?_
  rintro x w1 ⟨rfl, hb⟩
  have H1 : Hid (HeldL w [(w.heap.size + 1 + 1, #[.bool false, .string ⟨#[]⟩, .int .i64 0]), (w.heap.size + 1, #[.bool bn, .string t, .int .i64 be]), (w.heap.size, #[.bool n, .string s, .int .i64 e])] w1) := Lib.hid (HeldL.keep (HeldL.alloc (HeldL.alloc (HeldL.alloc (HeldL.refl w) (w.heap.size) #[.bool n, .string s, .int .i64 e] 31 (by simp)) (w.heap.size + 1) #[.bool bn, .string t, .int .i64 be] 31 (by simp)) (w.heap.size + 1 + 1) #[.bool false, .string ⟨#[]⟩, .int .i64 0] 31 (by simp)) hb)
  clear hb
  have q0 : w1.cell? ⟨w.heap.size + 1, 0, none⟩ = some (.bool bn) := (H1.out.f (List.Mem.tail _ (List.Mem.head _))).cell 0
  have qz0 : w1.frozen? ⟨w.heap.size + 1, 0, none⟩ = false := (H1.out.f (List.Mem.tail _ (List.Mem.head _))).frozen 0
  have q1 : w1.cell? ⟨w.heap.size + 1, 1, none⟩ = some (.string t) := (H1.out.f (List.Mem.tail _ (List.Mem.head _))).cell 1
  have qz1 : w1.frozen? ⟨w.heap.size + 1, 1, none⟩ = false := (H1.out.f (List.Mem.tail _ (List.Mem.head _))).frozen 1
  have q2 : w1.cell? ⟨w.heap.size + 1, 2, none⟩ = some (.int .i64 be) := (H1.out.f (List.Mem.tail _ (List.Mem.head _))).cell 2
  have qz2 : w1.frozen? ⟨w.heap.size + 1, 2, none⟩ = false := (H1.out.f (List.Mem.tail _ (List.Mem.head _))).frozen 2
  have ql : w.heap.size + 1 < w1.heap.size := (H1.out.f (List.Mem.tail _ (List.Mem.head _))).lt
  go_wp2_with fail
  clear q0 qz0 q1 qz1 q2 qz2 ql
  have H2 : Hid (HeldL w [(w.heap.size + 1 + 1, #[.bool false, .string ⟨#[]⟩, .int .i64 0]), (w.heap.size + 1, #[.bool true, S il, .int .i64 ie]), (w.heap.size, #[.bool n, .string s, .int .i64 e])] (((w1.setCell ⟨w.heap.size + 1, 0, none⟩ (.bool true)).setCell ⟨w.heap.size + 1, 1, none⟩ (S il)).setCell ⟨w.heap.size + 1, 2, none⟩ (.int .i64 ie))) := Lib.hid (HeldL.store3 [(w.heap.size + 1 + 1, #[.bool false, .string ⟨#[]⟩, .int .i64 0])] [(w.heap.size, #[.bool n, .string s, .int .i64 e])] (H1.out) (.bool true) (S il) (.int .i64 ie))
  generalize (((w1.setCell ⟨w.heap.size + 1, 0, none⟩ (.bool true)).setCell ⟨w.heap.size + 1, 1, none⟩ (S il)).setCell ⟨w.heap.size + 1, 2, none⟩ (.int .i64 ie)) = w2 at *
  clear H1
  have q0 : w2.cell? ⟨w.heap.size + 1, 0, none⟩ = some (.bool true) := (H2.out.f (List.Mem.tail _ (List.Mem.head _))).cell 0
  have q1 : w2.cell? ⟨w.heap.size + 1, 1, none⟩ = some (S il) := (H2.out.f (List.Mem.tail _ (List.Mem.head _))).cell 1
  have q2 : w2.cell? ⟨w.heap.size + 1, 2, none⟩ = some (.int .i64 ie) := (H2.out.f (List.Mem.tail _ (List.Mem.head _))).cell 2
  have ql : w.heap.size + 1 < w2.heap.size := (H2.out.f (List.Mem.tail _ (List.Mem.head _))).lt
  have x0 : w2.cell? ⟨w.heap.size, 0, none⟩ = some (.bool n) := (H2.out.f (List.Mem.tail _ (List.Mem.tail _ (List.Mem.head _)))).cell 0
  have x1 : w2.cell? ⟨w.heap.size, 1, none⟩ = some (.string s) := (H2.out.f (List.Mem.tail _ (List.Mem.tail _ (List.Mem.head _)))).cell 1
  have x2 : w2.cell? ⟨w.heap.size, 2, none⟩ = some (.int .i64 e) := (H2.out.f (List.Mem.tail _ (List.Mem.tail _ (List.Mem.head _)))).cell 2
  have xl : w.heap.size < w2.heap.size := (H2.out.f (List.Mem.tail _ (List.Mem.tail _ (List.Mem.head _)))).lt
  have r0 : w2.cell? ⟨w.heap.size + 1 + 1, 0, none⟩ = some (.bool false) := (H2.out.f (List.Mem.head _)).cell 0
  have rz0 : w2.frozen? ⟨w.heap.size + 1 + 1, 0, none⟩ = false := (H2.out.f (List.Mem.head _)).frozen 0
  have r1 : w2.cell? ⟨w.heap.size + 1 + 1, 1, none⟩ = some (.string ⟨#[]⟩) := (H2.out.f (List.Mem.head _)).cell 1
  have rz1 : w2.frozen? ⟨w.heap.size + 1 + 1, 1, none⟩ = false := (H2.out.f (List.Mem.head _)).frozen 1
  have r2 : w2.cell? ⟨w.heap.size + 1 + 1, 2, none⟩ = some (.int .i64 0) := (H2.out.f (List.Mem.head _)).cell 2
  have rz2 : w2.frozen? ⟨w.heap.size + 1 + 1, 2, none⟩ = false := (H2.out.f (List.Mem.head _)).frozen 2
  have rl : w.heap.size + 1 + 1 < w2.heap.size := (H2.out.f (List.Mem.head _)).lt
  with_reducible refine (intS il _ (by omega) HIDG.out HL.out).mono ?_
  rintro x wz ⟨rfl, rfl⟩
  rw [HV.out]
  go_wp2_with fail
  with_reducible refine (norm_as n s e _ (by omega) g HD.out).mono ?_
  rintro x w3 ⟨rfl, hb⟩
  clear q0 q1 q2 ql x0 x1 x2 xl r0 rz0 r1 rz1 r2 rz2 rl
  have H3 : Hid (HeldL w [(w.heap.size + 1 + 1, #[.bool false, .string ⟨#[]⟩, .int .i64 0]), (w.heap.size + 1, #[.bool true, S il, .int .i64 ie]), (w.heap.size, #[.bool n, .string s, .int .i64 e])] w3) := Lib.hid (HeldL.keep H2.out hb)
  clear H2
  clear hb
  have r0 : w3.cell? ⟨w.heap.size + 1 + 1, 0, none⟩ = some (.bool false) := (H3.out.f (List.Mem.head _)).cell 0
  have rz0 : w3.frozen? ⟨w.heap.size + 1 + 1, 0, none⟩ = false := (H3.out.f (List.Mem.head _)).frozen 0
  have r1 : w3.cell? ⟨w.heap.size + 1 + 1, 1, none⟩ = some (.string ⟨#[]⟩) := (H3.out.f (List.Mem.head _)).cell 1
  have rz1 : w3.frozen? ⟨w.heap.size + 1 + 1, 1, none⟩ = false := (H3.out.f (List.Mem.head _)).frozen 1
  have r2 : w3.cell? ⟨w.heap.size + 1 + 1, 2, none⟩ = some (.int .i64 0) := (H3.out.f (List.Mem.head _)).cell 2
  have rz2 : w3.frozen? ⟨w.heap.size + 1 + 1, 2, none⟩ = false := (H3.out.f (List.Mem.head _)).frozen 2
  have rl : w.heap.size + 1 + 1 < w3.heap.size := (H3.out.f (List.Mem.head _)).lt
  go_wp2
  exact bodyPost_ret (v := V g) (by simp [results, Tryd.results46, go_sem, r0, r1, r2]) rfl ⟨rfl, (HeldL.store3 [] [(w.heap.size + 1, #[.bool true, S il, .int .i64 ie]), (w.heap.size, #[.bool n, .string s, .int .i64 e])] H3.out (.bool g.neg) (S g.l) (.int .i64 g.e)).bel⟩

end Go.Proofs.YtegekkifgdakgaaDoor
