/- Tables out of bytes: currencies are read. -/
import Derived.Test.YtkbigfkpgjhojaaTcC
namespace Go.Proofs.Ytkbigfkpgjhojaa
open Go.RowKit Florin
set_option linter.unusedVariables false
set_option linter.unusedSimpArgs false
attribute [local go_sem ↓] Go.wp_at_zero Go.wp_at_succ
theorem grown_new8 {a b : World} {r q : Nat} (h : a.grownBy b (some r)) (hq : a.heap.size ≤ q) (v0 v1 v2 v3 v4 v5 v6 v7 : Value) : a.grownBy ((((((((b.setCell ⟨q, 0, none⟩ v0).setCell ⟨q, 1, none⟩ v1).setCell ⟨q, 2, none⟩ v2).setCell ⟨q, 3, none⟩ v3).setCell ⟨q, 4, none⟩ v4).setCell ⟨q, 5, none⟩ v5).setCell ⟨q, 6, none⟩ v6).setCell ⟨q, 7, none⟩ v7) (some r) :=
  grown_new (grown_new (grown_new (grown_new (grown_new (grown_new (grown_new (grown_new h hq 0 _) hq 1 _) hq 2 _) hq 3 _) hq 4 _) hq 5 _) hq 6 _) hq 7 _
theorem BoxT.other8 {w : World} {b : Nat} {cs : Array Value} {t : TypeId} (h : BoxT w b cs t) {q : Nat} (hn : b ≠ q) (v0 v1 v2 v3 v4 v5 v6 v7 : Value) : BoxT ((((((((w.setCell ⟨q, 0, none⟩ v0).setCell ⟨q, 1, none⟩ v1).setCell ⟨q, 2, none⟩ v2).setCell ⟨q, 3, none⟩ v3).setCell ⟨q, 4, none⟩ v4).setCell ⟨q, 5, none⟩ v5).setCell ⟨q, 6, none⟩ v6).setCell ⟨q, 7, none⟩ v7) b cs t :=
  (((((((h.other (a := ⟨q, 0, none⟩) hn v0).other (a := ⟨q, 1, none⟩) hn v1).other (a := ⟨q, 2, none⟩) hn v2).other (a := ⟨q, 3, none⟩) hn v3).other (a := ⟨q, 4, none⟩) hn v4).other (a := ⟨q, 5, none⟩) hn v5).other (a := ⟨q, 6, none⟩) hn v6).other (a := ⟨q, 7, none⟩) hn v7
theorem KeepB.set8 {T U : TypeId} {w : World} {q : Nat} {ds : Array Value} (hx : BoxT w q ds U) (hn : T ≠ U) (v0 v1 v2 v3 v4 v5 v6 v7 : Value) : KeepB T w ((((((((w.setCell ⟨q, 0, none⟩ v0).setCell ⟨q, 1, none⟩ v1).setCell ⟨q, 2, none⟩ v2).setCell ⟨q, 3, none⟩ v3).setCell ⟨q, 4, none⟩ v4).setCell ⟨q, 5, none⟩ v5).setCell ⟨q, 6, none⟩ v6).setCell ⟨q, 7, none⟩ v7) := fun b cs g => g.other8 (g.apart hx hn) _ _ _ _ _ _ _ _
set_option maxRecDepth 100000 in
set_option maxHeartbeats 6400000 in
theorem readCur_as (r : Nat) (s0 : RS) (w : World) (hr : Rdr w r s0) (hl0 : s0.1.length ≤ 1000000000) :
    Calls Try.prog 44 #[ptr r] w fun e w' => ∃ u, e = .returned (.agg #[S (rdCur s0).1.code, S (rdCur s0).1.sym, S (rdCur s0).1.nar, u, .int .i64 (rdCur s0).1.d, .int .i64 (rdCur s0).1.i, .int .i64 (rdCur s0).1.cd, .int .i64 (rdCur s0).1.ci]) ∧ TxT w' u (rdCur s0).1.names ∧ Rdr w' r (rdCur s0).2 ∧ w.grownBy w' (some r) := by
  have hrw := hr.lt
  obtain ⟨c0, hc0⟩ : ∃ y, y = (textR s0).1 := ⟨_, rfl⟩
  obtain ⟨s1, hs1⟩ : ∃ y, y = (textR s0).2 := ⟨_, rfl⟩
  have hl1 : s1.1.length ≤ 1000000000 := by rw [hs1]; exact Nat.le_trans (textR_mono s0) hl0
  have E0 : Hid ((textR s0).1 = c0 ∧ (textR s0).2 = s1) := Lib.hid ⟨hc0.symm, hs1.symm⟩
  obtain ⟨c1, hc1⟩ : ∃ y, y = (textR s1).1 := ⟨_, rfl⟩
  obtain ⟨s2, hs2⟩ : ∃ y, y = (textR s1).2 := ⟨_, rfl⟩
  have hl2 : s2.1.length ≤ 1000000000 := by rw [hs2]; exact Nat.le_trans (textR_mono s1) hl1
  have E1 : Hid ((textR s1).1 = c1 ∧ (textR s1).2 = s2) := Lib.hid ⟨hc1.symm, hs2.symm⟩
  obtain ⟨c2, hc2⟩ : ∃ y, y = (textR s2).1 := ⟨_, rfl⟩
  obtain ⟨s3, hs3⟩ : ∃ y, y = (textR s2).2 := ⟨_, rfl⟩
  have hl3 : s3.1.length ≤ 1000000000 := by rw [hs3]; exact Nat.le_trans (textR_mono s2) hl2
  have E2 : Hid ((textR s2).1 = c2 ∧ (textR s2).2 = s3) := Lib.hid ⟨hc2.symm, hs3.symm⟩
  obtain ⟨ns, hns⟩ : ∃ y, y = (rdTxs s3).1 := ⟨_, rfl⟩
  obtain ⟨s4, hs4⟩ : ∃ y, y = (rdTxs s3).2 := ⟨_, rfl⟩
  have hl4 : s4.1.length ≤ 1000000000 := by rw [hs4]; exact Nat.le_trans (rdTxs_mono s3) hl3
  have E3 : Hid ((rdTxs s3).1 = ns ∧ (rdTxs s3).2 = s4) := Lib.hid ⟨hns.symm, hs4.symm⟩
  obtain ⟨n1, hn1⟩ : ∃ y, y = (numR s4).1 := ⟨_, rfl⟩
  obtain ⟨s5, hs5⟩ : ∃ y, y = (numR s4).2 := ⟨_, rfl⟩
  have hl5 : s5.1.length ≤ 1000000000 := by rw [hs5]; exact Nat.le_trans (numR_mono s4) hl4
  have E4 : Hid ((numR s4).1 = n1 ∧ (numR s4).2 = s5) := Lib.hid ⟨hn1.symm, hs5.symm⟩
  obtain ⟨n2, hn2⟩ : ∃ y, y = (numR s5).1 := ⟨_, rfl⟩
  obtain ⟨s6, hs6⟩ : ∃ y, y = (numR s5).2 := ⟨_, rfl⟩
  have hl6 : s6.1.length ≤ 1000000000 := by rw [hs6]; exact Nat.le_trans (numR_mono s5) hl5
  have E5 : Hid ((numR s5).1 = n2 ∧ (numR s5).2 = s6) := Lib.hid ⟨hn2.symm, hs6.symm⟩
  obtain ⟨n3, hn3⟩ : ∃ y, y = (numR s6).1 := ⟨_, rfl⟩
  obtain ⟨s7, hs7⟩ : ∃ y, y = (numR s6).2 := ⟨_, rfl⟩
  have hl7 : s7.1.length ≤ 1000000000 := by rw [hs7]; exact Nat.le_trans (numR_mono s6) hl6
  have E6 : Hid ((numR s6).1 = n3 ∧ (numR s6).2 = s7) := Lib.hid ⟨hn3.symm, hs7.symm⟩
  obtain ⟨n4, hn4⟩ : ∃ y, y = (numR s7).1 := ⟨_, rfl⟩
  obtain ⟨s8, hs8⟩ : ∃ y, y = (numR s7).2 := ⟨_, rfl⟩
  have hl8 : s8.1.length ≤ 1000000000 := by rw [hs8]; exact Nat.le_trans (numR_mono s7) hl7
  have E7 : Hid ((numR s7).1 = n4 ∧ (numR s7).2 = s8) := Lib.hid ⟨hn4.symm, hs8.symm⟩
  have HRD := Lib.hid (rdCur_eq (Prod.ext hc0.symm hs1.symm) (Prod.ext hc1.symm hs2.symm) (Prod.ext hc2.symm hs3.symm) (Prod.ext hns.symm hs4.symm) (Prod.ext hn1.symm hs5.symm) (Prod.ext hn2.symm hs6.symm) (Prod.ext hn3.symm hs7.symm) (Prod.ext hn4.symm hs8.symm))
  clear hc0 hs1 hc1 hs2 hc2 hs3 hns hs4 hn1 hs5 hn2 hs6 hn3 hs7 hn4 hs8
  have HR := Lib.hid ((hr.alloc (.cells #[.string ⟨#[]⟩, .string ⟨#[]⟩, .string ⟨#[]⟩, .slice none 0 0, .int .i64 0, .int .i64 0, .int .i64 0, .int .i64 0] TCu)).alloc (.cells #[.string ⟨#[]⟩, .string ⟨#[]⟩, .string ⟨#[]⟩, .slice none 0 0, .int .i64 0, .int .i64 0, .int .i64 0, .int .i64 0] TCu))
  have HQ := Lib.hid ((BoxT.new w #[.string ⟨#[]⟩, .string ⟨#[]⟩, .string ⟨#[]⟩, .slice none 0 0, .int .i64 0, .int .i64 0, .int .i64 0, .int .i64 0] TCu).alloc (.cells #[.string ⟨#[]⟩, .string ⟨#[]⟩, .string ⟨#[]⟩, .slice none 0 0, .int .i64 0, .int .i64 0, .int .i64 0, .int .i64 0] TCu))
  have HX := Lib.hid (BoxT.new (w.alloc (.cells #[.string ⟨#[]⟩, .string ⟨#[]⟩, .string ⟨#[]⟩, .slice none 0 0, .int .i64 0, .int .i64 0, .int .i64 0, .int .i64 0] TCu)) #[.string ⟨#[]⟩, .string ⟨#[]⟩, .string ⟨#[]⟩, .slice none 0 0, .int .i64 0, .int .i64 0, .int .i64 0, .int .i64 0] TCu)
  rw [show (w.alloc (.cells #[.string ⟨#[]⟩, .string ⟨#[]⟩, .string ⟨#[]⟩, .slice none 0 0, .int .i64 0, .int .i64 0, .int .i64 0, .int .i64 0] TCu)).heap.size = w.heap.size + 1 by simp] at HX
  have HG := Lib.hid (grown_alloc (grown_alloc (World.grownBy.refl w (some r)) (.cells #[.string ⟨#[]⟩, .string ⟨#[]⟩, .string ⟨#[]⟩, .slice none 0 0, .int .i64 0, .int .i64 0, .int .i64 0, .int .i64 0] TCu)) (.cells #[.string ⟨#[]⟩, .string ⟨#[]⟩, .string ⟨#[]⟩, .slice none 0 0, .int .i64 0, .int .i64 0, .int .i64 0, .int .i64 0] TCu))
  have hq0 : w.heap.size ≠ r := by omega
  have hq1 : w.heap.size + 1 ≠ r := by omega
  clear hr
  go_enter Try.func44, Try.ntmps44
  go_wp2_with fail
  generalize (w.alloc (.cells #[.string ⟨#[]⟩, .string ⟨#[]⟩, .string ⟨#[]⟩, .slice none 0 0, .int .i64 0, .int .i64 0, .int .i64 0, .int .i64 0] TCu)).alloc (.cells #[.string ⟨#[]⟩, .string ⟨#[]⟩, .string ⟨#[]⟩, .slice none 0 0, .int .i64 0, .int .i64 0, .int .i64 0, .int .i64 0] TCu) = w0 at *
  with_reducible refine (rtext_as r s0 _ HR.out hl0).mono ?_
  rw [E0.out.1, E0.out.2]
  rintro y w1 ⟨rfl, hr, hg⟩
  have HRB := Lib.hid hr
  have HGB := Lib.hid (grown_trans HG.out hg)
  have HQB := Lib.hid (HQ.out.grown hg (fun e => hq0 (Option.some.inj e)))
  have HXB := Lib.hid (HX.out.grown hg (fun e => hq1 (Option.some.inj e)))
  clear hr hg HR HG HQ HX
  have HR := HRB
  have HG := HGB
  have HQ := HQB
  have HX := HXB
  clear HRB HGB HQB HXB
  go_wp2_with fail
  with_reducible refine (rtext_as r s1 _ HR.out hl1).mono ?_
  rw [E1.out.1, E1.out.2]
  rintro y w2 ⟨rfl, hr, hg⟩
  have HRB := Lib.hid hr
  have HGB := Lib.hid (grown_trans HG.out hg)
  have HQB := Lib.hid (HQ.out.grown hg (fun e => hq0 (Option.some.inj e)))
  have HXB := Lib.hid (HX.out.grown hg (fun e => hq1 (Option.some.inj e)))
  clear hr hg HR HG HQ HX
  have HR := HRB
  have HG := HGB
  have HQ := HQB
  have HX := HXB
  clear HRB HGB HQB HXB
  go_wp2_with fail
  with_reducible refine (rtext_as r s2 _ HR.out hl2).mono ?_
  rw [E2.out.1, E2.out.2]
  rintro y w3 ⟨rfl, hr, hg⟩
  have HRB := Lib.hid hr
  have HGB := Lib.hid (grown_trans HG.out hg)
  have HQB := Lib.hid (HQ.out.grown hg (fun e => hq0 (Option.some.inj e)))
  have HXB := Lib.hid (HX.out.grown hg (fun e => hq1 (Option.some.inj e)))
  clear hr hg HR HG HQ HX
  have HR := HRB
  have HG := HGB
  have HQ := HQB
  have HX := HXB
  clear HRB HGB HQB HXB
  have x0 := HX.out.cell 0
  have z0 := HX.out.frozen 0
  have x1 := HX.out.cell 1
  have z1 := HX.out.frozen 1
  have x2 := HX.out.cell 2
  have z2 := HX.out.frozen 2
  have xl := HX.out.lt
  simp only [List.getElem?_toArray, List.getElem?_cons_zero, List.getElem?_cons_succ] at x0 x1 x2
  go_wp2_with fail
  have HRB : Hid (Rdr (((w3.setCell ⟨w.heap.size + 1, 0, none⟩ (S c0)).setCell ⟨w.heap.size + 1, 1, none⟩ (S c1)).setCell ⟨w.heap.size + 1, 2, none⟩ (S c2)) r s3) := Lib.hid (((HR.out.box.other (a := ⟨w.heap.size + 1, 0, none⟩) (Ne.symm hq1) (S c0)).other (a := ⟨w.heap.size + 1, 1, none⟩) (Ne.symm hq1) (S c1)).other (a := ⟨w.heap.size + 1, 2, none⟩) (Ne.symm hq1) (S c2))
  have HGB := Lib.hid (grown_new (q := w.heap.size + 1) (grown_new (q := w.heap.size + 1) (grown_new (q := w.heap.size + 1) HG.out (by omega) 0 (S c0)) (by omega) 1 (S c1)) (by omega) 2 (S c2))
  have HQB := Lib.hid (((HQ.out.other (a := ⟨w.heap.size + 1, 0, none⟩) (by simp) (S c0)).other (a := ⟨w.heap.size + 1, 1, none⟩) (by simp) (S c1)).other (a := ⟨w.heap.size + 1, 2, none⟩) (by simp) (S c2))
  have HXB : Hid (BoxT (((w3.setCell ⟨w.heap.size + 1, 0, none⟩ (S c0)).setCell ⟨w.heap.size + 1, 1, none⟩ (S c1)).setCell ⟨w.heap.size + 1, 2, none⟩ (S c2)) (w.heap.size + 1) #[S c0, S c1, S c2, .slice none 0 0, .int .i64 0, .int .i64 0, .int .i64 0, .int .i64 0] TCu) := Lib.hid (((HX.out.set 0 (S c0)).set 1 (S c1)).set 2 (S c2))
  generalize (((w3.setCell ⟨w.heap.size + 1, 0, none⟩ (S c0)).setCell ⟨w.heap.size + 1, 1, none⟩ (S c1)).setCell ⟨w.heap.size + 1, 2, none⟩ (S c2)) = w4 at *
  clear xl HR HG HQ HX
  clear x0 z0 x1 z1 x2 z2
  have HR := HRB
  have HG := HGB
  have HQ := HQB
  have HX := HXB
  clear HRB HGB HQB HXB
  with_reducible refine (readTexts_as r s3 _ HR.out hl3).mono ?_
  rw [E3.out.1, E3.out.2]
  rintro y w5 ⟨u, rfl, hu, hr, hg⟩
  have hu2 := hu
  obtain ⟨ua, uc, rfl, _, _, _⟩ := hu2
  have HU := Lib.hid hu
  clear hu
  have HRB := Lib.hid hr
  have HGB := Lib.hid (grown_trans HG.out hg)
  have HQB := Lib.hid (HQ.out.grown hg (fun e => hq0 (Option.some.inj e)))
  have HXB := Lib.hid (HX.out.grown hg (fun e => hq1 (Option.some.inj e)))
  clear hr hg HR HG HQ HX
  have HR := HRB
  have HG := HGB
  have HQ := HQB
  have HX := HXB
  clear HRB HGB HQB HXB
  have x3 := HX.out.cell 3
  have z3 := HX.out.frozen 3
  have xl := HX.out.lt
  simp only [List.getElem?_toArray, List.getElem?_cons_zero, List.getElem?_cons_succ] at x3
  go_wp2_with fail
  have HRB : Hid (Rdr (w5.setCell ⟨w.heap.size + 1, 3, none⟩ (.slice ua ns.length uc)) r s4) := Lib.hid (HR.out.box.other (a := ⟨w.heap.size + 1, 3, none⟩) (Ne.symm hq1) (.slice ua ns.length uc))
  have HGB := Lib.hid (grown_new (q := w.heap.size + 1) HG.out (by omega) 3 (.slice ua ns.length uc))
  have HQB := Lib.hid (HQ.out.other (a := ⟨w.heap.size + 1, 3, none⟩) (by simp) (.slice ua ns.length uc))
  have HXB : Hid (BoxT (w5.setCell ⟨w.heap.size + 1, 3, none⟩ (.slice ua ns.length uc)) (w.heap.size + 1) #[S c0, S c1, S c2, .slice ua ns.length uc, .int .i64 0, .int .i64 0, .int .i64 0, .int .i64 0] TCu) := Lib.hid (HX.out.set 3 (.slice ua ns.length uc))
  have HUB := Lib.hid (TxT.keep HU.out ((KeepB.trans (KeepB.refl TTx w5) (KeepB.set HX.out (by decide) 3 (.slice ua ns.length uc)))))
  generalize (w5.setCell ⟨w.heap.size + 1, 3, none⟩ (.slice ua ns.length uc)) = w6 at *
  clear xl HR HG HQ HX HU
  clear x3 z3
  have HR := HRB
  have HG := HGB
  have HQ := HQB
  have HX := HXB
  clear HRB HGB HQB HXB
  have HU := HUB
  clear HUB
  with_reducible refine (rnum_as r s4 _ HR.out hl4).mono ?_
  rw [E4.out.1, E4.out.2]
  rintro y w7 ⟨rfl, hr, hg⟩
  have HUB := Lib.hid (TxT.keep HU.out (KeepB.of HR.out.box (by decide) hg))
  clear HU
  have HU := HUB
  clear HUB
  have HRB := Lib.hid hr
  have HGB := Lib.hid (grown_trans HG.out hg)
  have HQB := Lib.hid (HQ.out.grown hg (fun e => hq0 (Option.some.inj e)))
  have HXB := Lib.hid (HX.out.grown hg (fun e => hq1 (Option.some.inj e)))
  clear hr hg HR HG HQ HX
  have HR := HRB
  have HG := HGB
  have HQ := HQB
  have HX := HXB
  clear HRB HGB HQB HXB
  go_wp2_with fail
  with_reducible refine (rnum_as r s5 _ HR.out hl5).mono ?_
  rw [E5.out.1, E5.out.2]
  rintro y w8 ⟨rfl, hr, hg⟩
  have HUB := Lib.hid (TxT.keep HU.out (KeepB.of HR.out.box (by decide) hg))
  clear HU
  have HU := HUB
  clear HUB
  have HRB := Lib.hid hr
  have HGB := Lib.hid (grown_trans HG.out hg)
  have HQB := Lib.hid (HQ.out.grown hg (fun e => hq0 (Option.some.inj e)))
  have HXB := Lib.hid (HX.out.grown hg (fun e => hq1 (Option.some.inj e)))
  clear hr hg HR HG HQ HX
  have HR := HRB
  have HG := HGB
  have HQ := HQB
  have HX := HXB
  clear HRB HGB HQB HXB
  have x4 := HX.out.cell 4
  have z4 := HX.out.frozen 4
  have x5 := HX.out.cell 5
  have z5 := HX.out.frozen 5
  have xl := HX.out.lt
  simp only [List.getElem?_toArray, List.getElem?_cons_zero, List.getElem?_cons_succ] at x4 x5
  go_wp2_with fail
  have HRB : Hid (Rdr ((w8.setCell ⟨w.heap.size + 1, 4, none⟩ (.int .i64 ((n1 : Nat) : Int))).setCell ⟨w.heap.size + 1, 5, none⟩ (.int .i64 ((n2 : Nat) : Int))) r s6) := Lib.hid ((HR.out.box.other (a := ⟨w.heap.size + 1, 4, none⟩) (Ne.symm hq1) (.int .i64 ((n1 : Nat) : Int))).other (a := ⟨w.heap.size + 1, 5, none⟩) (Ne.symm hq1) (.int .i64 ((n2 : Nat) : Int)))
  have HGB := Lib.hid (grown_new (q := w.heap.size + 1) (grown_new (q := w.heap.size + 1) HG.out (by omega) 4 (.int .i64 ((n1 : Nat) : Int))) (by omega) 5 (.int .i64 ((n2 : Nat) : Int)))
  have HQB := Lib.hid ((HQ.out.other (a := ⟨w.heap.size + 1, 4, none⟩) (by simp) (.int .i64 ((n1 : Nat) : Int))).other (a := ⟨w.heap.size + 1, 5, none⟩) (by simp) (.int .i64 ((n2 : Nat) : Int)))
  have HXB : Hid (BoxT ((w8.setCell ⟨w.heap.size + 1, 4, none⟩ (.int .i64 ((n1 : Nat) : Int))).setCell ⟨w.heap.size + 1, 5, none⟩ (.int .i64 ((n2 : Nat) : Int))) (w.heap.size + 1) #[S c0, S c1, S c2, .slice ua ns.length uc, .int .i64 ((n1 : Nat) : Int), .int .i64 ((n2 : Nat) : Int), .int .i64 0, .int .i64 0] TCu) := Lib.hid ((HX.out.set 4 (.int .i64 ((n1 : Nat) : Int))).set 5 (.int .i64 ((n2 : Nat) : Int)))
  have HUB := Lib.hid (TxT.keep HU.out ((KeepB.trans ((KeepB.trans (KeepB.refl TTx w8) (KeepB.set HX.out (by decide) 4 (.int .i64 ((n1 : Nat) : Int))))) (KeepB.set (HX.out.set 4 (.int .i64 ((n1 : Nat) : Int))) (by decide) 5 (.int .i64 ((n2 : Nat) : Int))))))
  generalize ((w8.setCell ⟨w.heap.size + 1, 4, none⟩ (.int .i64 ((n1 : Nat) : Int))).setCell ⟨w.heap.size + 1, 5, none⟩ (.int .i64 ((n2 : Nat) : Int))) = w9 at *
  clear xl HR HG HQ HX HU
  clear x4 z4 x5 z5
  have HR := HRB
  have HG := HGB
  have HQ := HQB
  have HX := HXB
  clear HRB HGB HQB HXB
  have HU := HUB
  clear HUB
  with_reducible refine (rnum_as r s6 _ HR.out hl6).mono ?_
  rw [E6.out.1, E6.out.2]
  rintro y w10 ⟨rfl, hr, hg⟩
  have HUB := Lib.hid (TxT.keep HU.out (KeepB.of HR.out.box (by decide) hg))
  clear HU
  have HU := HUB
  clear HUB
  have HRB := Lib.hid hr
  have HGB := Lib.hid (grown_trans HG.out hg)
  have HQB := Lib.hid (HQ.out.grown hg (fun e => hq0 (Option.some.inj e)))
  have HXB := Lib.hid (HX.out.grown hg (fun e => hq1 (Option.some.inj e)))
  clear hr hg HR HG HQ HX
  have HR := HRB
  have HG := HGB
  have HQ := HQB
  have HX := HXB
  clear HRB HGB HQB HXB
  go_wp2_with fail
  with_reducible refine (rnum_as r s7 _ HR.out hl7).mono ?_
  rw [E7.out.1, E7.out.2]
  rintro y w11 ⟨rfl, hr, hg⟩
  have HUB := Lib.hid (TxT.keep HU.out (KeepB.of HR.out.box (by decide) hg))
  clear HU
  have HU := HUB
  clear HUB
  have HRB := Lib.hid hr
  have HGB := Lib.hid (grown_trans HG.out hg)
  have HQB := Lib.hid (HQ.out.grown hg (fun e => hq0 (Option.some.inj e)))
  have HXB := Lib.hid (HX.out.grown hg (fun e => hq1 (Option.some.inj e)))
  clear hr hg HR HG HQ HX
  have HR := HRB
  have HG := HGB
  have HQ := HQB
  have HX := HXB
  clear HRB HGB HQB HXB
  have x0 := HX.out.cell 0
  have x1 := HX.out.cell 1
  have x2 := HX.out.cell 2
  have x3 := HX.out.cell 3
  have x4 := HX.out.cell 4
  have x5 := HX.out.cell 5
  have x6 := HX.out.cell 6
  have x7 := HX.out.cell 7
  have z6 := HX.out.frozen 6
  have z7 := HX.out.frozen 7
  have xl := HX.out.lt
  have y0 := HQ.out.cell 0
  have f0 := HQ.out.frozen 0
  have y1 := HQ.out.cell 1
  have f1 := HQ.out.frozen 1
  have y2 := HQ.out.cell 2
  have f2 := HQ.out.frozen 2
  have y3 := HQ.out.cell 3
  have f3 := HQ.out.frozen 3
  have y4 := HQ.out.cell 4
  have f4 := HQ.out.frozen 4
  have y5 := HQ.out.cell 5
  have f5 := HQ.out.frozen 5
  have y6 := HQ.out.cell 6
  have f6 := HQ.out.frozen 6
  have y7 := HQ.out.cell 7
  have f7 := HQ.out.frozen 7
  have ql := HQ.out.lt
  simp only [List.getElem?_toArray, List.getElem?_cons_zero, List.getElem?_cons_succ] at x0 y0 x1 y1 x2 y2 x3 y3 x4 y4 x5 y5 x6 y6 x7 y7
  have HRF := Lib.hid ((((HR.out.box.other (a := ⟨w.heap.size + 1, 6, none⟩) (Ne.symm hq1) (.int .i64 ((n3 : Nat) : Int))).other (a := ⟨w.heap.size + 1, 7, none⟩) (Ne.symm hq1) (.int .i64 ((n4 : Nat) : Int)))).other8 (q := w.heap.size) (Ne.symm hq0) (S c0) (S c1) (S c2) (.slice ua ns.length uc) (.int .i64 ((n1 : Nat) : Int)) (.int .i64 ((n2 : Nat) : Int)) (.int .i64 ((n3 : Nat) : Int)) (.int .i64 ((n4 : Nat) : Int)))
  have HGF := Lib.hid (grown_new8 (q := w.heap.size) (grown_new (q := w.heap.size + 1) (grown_new (q := w.heap.size + 1) HG.out (by omega) 6 (.int .i64 ((n3 : Nat) : Int))) (by omega) 7 (.int .i64 ((n4 : Nat) : Int))) (Nat.le_refl _) (S c0) (S c1) (S c2) (.slice ua ns.length uc) (.int .i64 ((n1 : Nat) : Int)) (.int .i64 ((n2 : Nat) : Int)) (.int .i64 ((n3 : Nat) : Int)) (.int .i64 ((n4 : Nat) : Int)))
  have HUF := Lib.hid (TxT.keep HU.out (((KeepB.set HX.out (by decide) 6 (.int .i64 ((n3 : Nat) : Int))).trans (KeepB.set (HX.out.set 6 _) (by decide) 7 (.int .i64 ((n4 : Nat) : Int)))).trans (KeepB.set8 ((HQ.out.other (a := ⟨w.heap.size + 1, 6, none⟩) (by simp) (.int .i64 ((n3 : Nat) : Int))).other (a := ⟨w.heap.size + 1, 7, none⟩) (by simp) (.int .i64 ((n4 : Nat) : Int))) (by decide) (S c0) (S c1) (S c2) (.slice ua ns.length uc) (.int .i64 ((n1 : Nat) : Int)) (.int .i64 ((n2 : Nat) : Int)) (.int .i64 ((n3 : Nat) : Int)) (.int .i64 ((n4 : Nat) : Int)))))
  go_wp2
  exact bodyPost_ret (v := .agg #[S c0, S c1, S c2, .slice ua ns.length uc, .int .i64 ((n1 : Nat) : Int), .int .i64 ((n2 : Nat) : Int), .int .i64 ((n3 : Nat) : Int), .int .i64 ((n4 : Nat) : Int)]) (by simp [results, Try.results44, go_sem, y0, y1, y2, y3, y4, y5, y6, y7]) rfl ⟨_, by rw [HRD.out], by rw [HRD.out]; exact HUF.out, by rw [HRD.out]; exact HRF.out, HGF.out⟩
end Go.Proofs.Ytkbigfkpgjhojaa
