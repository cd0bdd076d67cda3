/- Tables as bytes: currencies are laid. -/
import Derived.Test.YtkbigfkpgjhojaaTbB
namespace Go.Proofs.Ytkbigfkpgjhojaa
open Go.RowKit Florin
set_option linter.unusedVariables false
set_option linter.unusedSimpArgs false
attribute [local go_sem ↓] Go.wp_at_zero Go.wp_at_succ
set_option maxRecDepth 100000 in
set_option maxHeartbeats 6400000 in
theorem layCur1_as (B b p lim : Nat) (s : List UInt8) (x : CurM) (u : Value) (w : World) (hw : WrS w B b s) (hp : BoxT w p #[ptr b] TPw) (hu : TxL w lim u x.names) (hlim : lim ≤ b) (hn : nCur x) (hl : s.length + (eCur x).length ≤ 900000000) :
    Calls Try.prog 35 #[.agg #[S x.code, S x.sym, S x.nar, u, .int .i64 x.d, .int .i64 x.i, .int .i64 x.cd, .int .i64 x.ci], ptr p] w fun e w' => e = .returned (.tuple #[]) ∧ WrS w' B b (s ++ eCur x) ∧ w.grownBy w' (some b) := by
  obtain ⟨co, sy, na, ns, d, i, cd, ci⟩ := x
  obtain ⟨n1, n2, n3, n4, n5⟩ := hn
  simp only at n1 n2 n3 n4 n5 hu
  have c1 := eT_le co
  have c2 := eT_le sy
  have c3 := eT_le na
  have hel : (eCur ⟨co, sy, na, ns, d, i, cd, ci⟩).length = (eT co).length + (eT sy).length + (eT na).length + (eTxs ns).length + (eN d).length + (eN i).length + (eN cd).length + (eN ci).length := by
    show (eT co ++ eT sy ++ eT na ++ eTxs ns ++ eN d ++ eN i ++ eN cd ++ eN ci).length = _
    simp only [List.length_append]
  rw [hel] at hl
  clear hel
  obtain ⟨bs, hbx⟩ := hw.box
  have hpb : p ≠ b := hp.apart hbx (by decide)
  have hbl := hw.lt
  have hu2 := hu
  obtain ⟨va, vc, rfl, _, _, _⟩ := hu2
  have HW := Lib.hid (hw.alloc (.cells #[S co, S sy, S na, .slice va ns.length vc, .int .i64 d, .int .i64 i, .int .i64 cd, .int .i64 ci] 35))
  have HP0 := Lib.hid (hp.alloc (.cells #[S co, S sy, S na, .slice va ns.length vc, .int .i64 d, .int .i64 i, .int .i64 cd, .int .i64 ci] 35))
  have HX0 := Lib.hid (BoxT.new w #[S co, S sy, S na, .slice va ns.length vc, .int .i64 d, .int .i64 i, .int .i64 cd, .int .i64 ci] 35)
  have HU := Lib.hid (TxL.move hu (Nat.le_refl _) ((Below.refl lim w).alloc (by omega) (.cells #[S co, S sy, S na, .slice va ns.length vc, .int .i64 d, .int .i64 i, .int .i64 cd, .int .i64 ci] 35)))
  have HG0 : Hid (w.grownBy (w.alloc (.cells #[S co, S sy, S na, .slice va ns.length vc, .int .i64 d, .int .i64 i, .int .i64 cd, .int .i64 ci] 35)) (some b)) := Lib.hid (grown_alloc (World.grownBy.refl w _) _)
  have hbl0 : b < (w.alloc (.cells #[S co, S sy, S na, .slice va ns.length vc, .int .i64 d, .int .i64 i, .int .i64 cd, .int .i64 ci] 35)).heap.size := by simp; omega
  have hxb : w.heap.size ≠ b := by omega
  clear hw hp hbx hu
  have HN5 := Lib.hid n5
  clear n5
  go_enter Try.func35, Try.ntmps35
  go_wp2_with fail
  generalize w.alloc (.cells #[S co, S sy, S na, .slice va ns.length vc, .int .i64 d, .int .i64 i, .int .i64 cd, .int .i64 ci] 35) = w0 at *
  generalize w.heap.size = xb at *
  have KS : Hid (∀ w', w0.grownBy w' (some b) → (w'.cell? ⟨p, 0, none⟩ = some (ptr b) ∧ w'.cell? ⟨xb, 0, none⟩ = some (S co) ∧ w'.cell? ⟨xb, 1, none⟩ = some (S sy) ∧ w'.cell? ⟨xb, 2, none⟩ = some (S na) ∧ w0.grownBy w' (some b))) := Lib.hid (fun w' hg => ⟨(HP0.out.grown hg (fun e => hpb (Option.some.inj e))).cell 0, (HX0.out.grown hg (fun e => hxb (Option.some.inj e))).cell 0, (HX0.out.grown hg (fun e => hxb (Option.some.inj e))).cell 1, (HX0.out.grown hg (fun e => hxb (Option.some.inj e))).cell 2, hg⟩)
  have KEEP : Hid (∀ w' w'', (w'.cell? ⟨p, 0, none⟩ = some (ptr b) ∧ w'.cell? ⟨xb, 0, none⟩ = some (S co) ∧ w'.cell? ⟨xb, 1, none⟩ = some (S sy) ∧ w'.cell? ⟨xb, 2, none⟩ = some (S na) ∧ w0.grownBy w' (some b)) → w'.grownBy w'' (some b) → (w''.cell? ⟨p, 0, none⟩ = some (ptr b) ∧ w''.cell? ⟨xb, 0, none⟩ = some (S co) ∧ w''.cell? ⟨xb, 1, none⟩ = some (S sy) ∧ w''.cell? ⟨xb, 2, none⟩ = some (S na) ∧ w0.grownBy w'' (some b))) := Lib.hid (fun w' w'' h hb => KS.out _ (grown_trans h.2.2.2.2 hb))
  go_region_held3 (fun w' => w'.cell? ⟨p, 0, none⟩ = some (ptr b) ∧ w'.cell? ⟨xb, 0, none⟩ = some (S co) ∧ w'.cell? ⟨xb, 1, none⟩ = some (S sy) ∧ w'.cell? ⟨xb, 2, none⟩ = some (S na) ∧ w0.grownBy w' (some b))
    (first | exact KS.out _ (grown_drew (World.grownBy.refl w0 _)) | exact KEEP.out _ _ (by assumption) hb | assumption)
    (first | (go_at_call 31; (with_reducible refine (stext_as B b s co _ (by first | exact HW.out.drew | exact HW.out) (by omega)).mono ?_); rintro y w1 ⟨rfl, hw1, hb⟩) | (go_at_call 31; (with_reducible refine (stext_as B b _ sy _ hw1 (by rw [List.length_append]; omega)).mono ?_); rintro y w2 ⟨rfl, hw2, hb⟩) | (go_at_call 31; (with_reducible refine (stext_as B b _ na _ hw2 (by rw [List.length_append, List.length_append]; omega)).mono ?_); rintro y w3 ⟨rfl, hw3, hb⟩))
  have HH : w0.grownBy w3 (some b) := (‹w3.cell? ⟨p, 0, none⟩ = some (ptr b) ∧ w3.cell? ⟨xb, 0, none⟩ = some (S co) ∧ w3.cell? ⟨xb, 1, none⟩ = some (S sy) ∧ w3.cell? ⟨xb, 2, none⟩ = some (S na) ∧ w0.grownBy w3 (some b)›).2.2.2.2
  clear KS KEEP
  have HW3 := Lib.hid hw3
  have HG3 := Lib.hid (grown_trans HG0.out HH)
  have HP3 := Lib.hid (HP0.out.grown HH (fun e => hpb (Option.some.inj e)))
  have HX3 := Lib.hid (HX0.out.grown HH (fun e => hxb (Option.some.inj e)))
  have HU3 := Lib.hid (TxL.move HU.out (Nat.le_refl _) (below_lim HH (by omega) hlim))
  have hbl3 := hw3.lt
  have hp3 : w3.cell? ⟨p, 0, none⟩ = some (ptr b) := HP3.out.cell 0
  have hx3 : w3.cell? ⟨xb, 3, none⟩ = some (.slice va ns.length vc) := HX3.out.cell 3
  have hl4 : (s ++ eT co ++ eT sy ++ eT na).length + (eTxs ns).length ≤ 900000000 := by simp only [List.length_append]; omega
  clear hw1 hw2 hw3 HH HP0 HX0 HU HG0 HW
  go_wp2_with fail
  with_reducible refine (layTexts_as B b lim _ ns _ _ HW3.out HU3.out hlim HN5.out hl4).mono ?_
  rintro y w4 ⟨rfl, hw4, hg4⟩
  have HW4 := Lib.hid hw4
  have HG4 := Lib.hid (grown_trans HG3.out hg4)
  have HP4 := Lib.hid (HP3.out.grown hg4 (fun e => hpb (Option.some.inj e)))
  have HX4 := Lib.hid (HX3.out.grown hg4 (fun e => hxb (Option.some.inj e)))
  clear hw4 hg4 HW3 HG3 HP3 HX3 HU3 hp3 hx3
  go_wp2_with fail
  have KS : Hid (∀ w', w4.grownBy w' (some b) → (w'.cell? ⟨p, 0, none⟩ = some (ptr b) ∧ w'.cell? ⟨xb, 4, none⟩ = some (.int .i64 d) ∧ w'.cell? ⟨xb, 5, none⟩ = some (.int .i64 i) ∧ w'.cell? ⟨xb, 6, none⟩ = some (.int .i64 cd) ∧ w'.cell? ⟨xb, 7, none⟩ = some (.int .i64 ci) ∧ w4.grownBy w' (some b))) := Lib.hid (fun w' hg => ⟨(HP4.out.grown hg (fun e => hpb (Option.some.inj e))).cell 0, (HX4.out.grown hg (fun e => hxb (Option.some.inj e))).cell 4, (HX4.out.grown hg (fun e => hxb (Option.some.inj e))).cell 5, (HX4.out.grown hg (fun e => hxb (Option.some.inj e))).cell 6, (HX4.out.grown hg (fun e => hxb (Option.some.inj e))).cell 7, hg⟩)
  have KEEP : Hid (∀ w' w'', (w'.cell? ⟨p, 0, none⟩ = some (ptr b) ∧ w'.cell? ⟨xb, 4, none⟩ = some (.int .i64 d) ∧ w'.cell? ⟨xb, 5, none⟩ = some (.int .i64 i) ∧ w'.cell? ⟨xb, 6, none⟩ = some (.int .i64 cd) ∧ w'.cell? ⟨xb, 7, none⟩ = some (.int .i64 ci) ∧ w4.grownBy w' (some b)) → w'.grownBy w'' (some b) → (w''.cell? ⟨p, 0, none⟩ = some (ptr b) ∧ w''.cell? ⟨xb, 4, none⟩ = some (.int .i64 d) ∧ w''.cell? ⟨xb, 5, none⟩ = some (.int .i64 i) ∧ w''.cell? ⟨xb, 6, none⟩ = some (.int .i64 cd) ∧ w''.cell? ⟨xb, 7, none⟩ = some (.int .i64 ci) ∧ w4.grownBy w'' (some b))) := Lib.hid (fun w' w'' h hb => KS.out _ (grown_trans h.2.2.2.2.2 hb))
  go_region_held3 (fun w' => w'.cell? ⟨p, 0, none⟩ = some (ptr b) ∧ w'.cell? ⟨xb, 4, none⟩ = some (.int .i64 d) ∧ w'.cell? ⟨xb, 5, none⟩ = some (.int .i64 i) ∧ w'.cell? ⟨xb, 6, none⟩ = some (.int .i64 cd) ∧ w'.cell? ⟨xb, 7, none⟩ = some (.int .i64 ci) ∧ w4.grownBy w' (some b))
    (first | exact KS.out _ (grown_drew (World.grownBy.refl w4 _)) | exact KEEP.out _ _ (by assumption) hb | assumption)
    (first | (go_at_call 32; (with_reducible refine (snum_as B b _ d _ (by first | exact HW4.out.drew | exact HW4.out) n1 (by simp only [List.length_append]; omega)).mono ?_); rintro y w5 ⟨rfl, hw5, hb⟩) | (go_at_call 32; (with_reducible refine (snum_as B b _ i _ hw5 n2 (by simp only [List.length_append]; omega)).mono ?_); rintro y w6 ⟨rfl, hw6, hb⟩) | (go_at_call 32; (with_reducible refine (snum_as B b _ cd _ hw6 n3 (by simp only [List.length_append]; omega)).mono ?_); rintro y w7 ⟨rfl, hw7, hb⟩) | (go_at_call 32; (with_reducible refine (snum_as B b _ ci _ hw7 n4 (by simp only [List.length_append]; omega)).mono ?_); rintro y w8 ⟨rfl, hw8, hb⟩))
  have HH : w4.grownBy w8 (some b) := (‹w8.cell? ⟨p, 0, none⟩ = some (ptr b) ∧ w8.cell? ⟨xb, 4, none⟩ = some (.int .i64 d) ∧ w8.cell? ⟨xb, 5, none⟩ = some (.int .i64 i) ∧ w8.cell? ⟨xb, 6, none⟩ = some (.int .i64 cd) ∧ w8.cell? ⟨xb, 7, none⟩ = some (.int .i64 ci) ∧ w4.grownBy w8 (some b)›).2.2.2.2.2
  clear KS KEEP
  have HW8 := Lib.hid hw8
  have HG8 := Lib.hid (grown_trans HG4.out HH)
  clear hw5 hw6 hw7 hw8 HH
  go_wp2
  go_end0
  refine ⟨rfl, ?_, HG8.out⟩
  have h := HW8.out
  show WrS _ B b (s ++ (eT co ++ eT sy ++ eT na ++ eTxs ns ++ eN d ++ eN i ++ eN cd ++ eN ci))
  simpa only [List.append_assoc] using h
set_option maxRecDepth 100000 in
set_option maxHeartbeats 3200000 in
theorem layLC_as (B b p lim : Nat) (s : List UInt8) (l : List CurM) (v : Value) (w : World) (hw : WrS w B b s) (hp : BoxT w p #[ptr b] TPw) (hin : InL w lim 8 (curA w lim) v l) (hlim : lim ≤ b) (hn : ∀ x ∈ l, nCur x) (hl : s.length + (eL eCur l).length ≤ 900000000) :
    Calls Try.prog 34 #[ptr b, v, .func (Fn.func 35) #[] #[ptr p]] w fun e w' => e = .returned (.tuple #[]) ∧ WrS w' B b (s ++ eL eCur l) ∧ w.grownBy w' (some b) := by
  have hbw := hw.lt
  obtain ⟨bs, hbx⟩ := hw.box
  have hpb : p ≠ b := hp.apart hbx (by decide)
  have HW := Lib.hid hw
  have HP := Lib.hid hp
  have HN := Lib.hid hn
  have hl2 := hl
  rw [eL_len] at hl2
  obtain ⟨a, cap, rfl, hcap, hmax, hcell⟩ := hin
  unfold maxLen at hmax
  have HC := Lib.hid hcell
  clear hw hp hn hbx hcell
  go_enter Try.func34, Try.ntmps34
  go_wp2_with fail
  with_reducible refine (snum_as B b s _ _ HW.out (by omega) (by omega)).mono ?_
  rintro y w1 ⟨rfl, hw1, hg1⟩
  have HW1 : Hid (WrS w1 B b (s ++ vnum l.length)) := Lib.hid (by unfold eN at hw1; rw [Int.toNat_natCast] at hw1; exact hw1)
  have HG1 := Lib.hid hg1
  clear hw1 hg1
  go_wp2_with fail
  go_loopw [14] (fun i wr => ∃ k : Nat, k ≤ l.length ∧ i = .int .i64 (k : Int) ∧ WrS wr B b (s ++ vnum l.length ++ (l.take k).flatMap eCur) ∧ w.grownBy wr (some b)) (fun i _ => l.length - (intOf i).toNat)
  case atStart => exact ⟨0, Nat.zero_le _, rfl, by rw [List.take_zero]; simpa using HW1.out, HG1.out⟩
  case round =>
    obtain ⟨k, hk, rfl, hwr, hg⟩ := hrel
    have HWR := Lib.hid hwr
    have HG := Lib.hid hg
    have hws := hg.size
    have hbr := hwr.lt
    have BL : Hid (∀ q, q < lim → ∀ i, wr.cell? ⟨q, i, none⟩ = w.cell? ⟨q, i, none⟩) := Lib.hid (fun q hq i => (below_lim hg (by omega) hlim).cell (p := ⟨q, i, none⟩) hq)
    have BLW : Hid (Below lim w wr) := Lib.hid (below_lim hg (by omega) hlim)
    clear hwr hg HW1 HG1
    by_cases hlt : k < l.length
    · obtain ⟨bb, off, rfl, hbl, hbl2, hc⟩ := HC.out (by omega)
      obtain ⟨c, hA, hcl, hcc⟩ := hc k hlt
      have HT := Lib.hid (flat_take eCur l k hlt)
      have hnx := HN.out l[k] (List.getElem_mem hlt)
      have hml := flat_mem eCur (List.getElem_mem hlt)
      have hfl := flat_le eCur l (k + 1)
      rw [HT.out, List.length_append] at hfl
      obtain ⟨x, hx⟩ : ∃ x, x = l[k] := ⟨_, rfl⟩
      rw [← hx] at hA hnx HT hml hfl

      obtain ⟨u, rfl, hu⟩ := hA
      have hu2 := hu
      obtain ⟨ua, uc, rfl, _, _, _⟩ := hu2
      have HU := Lib.hid hu
      clear hu
      have hcc2 : ∀ j, j < 8 → wr.cell? ⟨bb, off + k * 8 + j, none⟩ = _ := fun j hj => (BL.out bb hbl (off + k * 8 + j)).trans (hcc j hj)
      have q0 : wr.cell? ⟨bb, off + k * 8, none⟩ = _ := hcc2 0 (by decide)
      have q1 : wr.cell? ⟨bb, off + k * 8 + 1, none⟩ = _ := hcc2 1 (by decide)
      have q2 : wr.cell? ⟨bb, off + k * 8 + 2, none⟩ = _ := hcc2 2 (by decide)
      have q3 : wr.cell? ⟨bb, off + k * 8 + 3, none⟩ = _ := hcc2 3 (by decide)
      have q4 : wr.cell? ⟨bb, off + k * 8 + 4, none⟩ = _ := hcc2 4 (by decide)
      have q5 : wr.cell? ⟨bb, off + k * 8 + 5, none⟩ = _ := hcc2 5 (by decide)
      have q6 : wr.cell? ⟨bb, off + k * 8 + 6, none⟩ = _ := hcc2 6 (by decide)
      have q7 : wr.cell? ⟨bb, off + k * 8 + 7, none⟩ = _ := hcc2 7 (by decide)
      simp only [List.getElem?_cons_zero, List.getElem?_cons_succ] at q0 q1 q2 q3 q4 q5 q6 q7
      clear hcc hcc2 hc hcl hx
      have HNX := Lib.hid hnx
      clear hnx
      have hki : (k : Int) < (l.length : Int) := by omega
      obtain ⟨s1, hs1⟩ : ∃ s1, s1 = s ++ vnum l.length ++ (l.take k).flatMap eCur := ⟨_, rfl⟩
      have hs1l : s1.length + (eCur x).length ≤ 900000000 := by rw [hs1, List.length_append, List.length_append]; omega
      rw [← hs1] at HWR
      have HS1 := Lib.hid hs1
      clear hs1 hfl hml
      go_wp2_with fail
      have HW2 := Lib.hid (HWR.out.alloc (.cells #[S x.code, S x.sym, S x.nar, .slice ua x.names.length uc, .int .i64 x.d, .int .i64 x.i, .int .i64 x.cd, .int .i64 x.ci] 35))
      have HP2 := Lib.hid ((HP.out.grown HG.out (fun e => hpb (Option.some.inj e))).alloc (.cells #[S x.code, S x.sym, S x.nar, .slice ua x.names.length uc, .int .i64 x.d, .int .i64 x.i, .int .i64 x.cd, .int .i64 x.ci] 35))
      have HG2 := Lib.hid (grown_alloc HG.out (.cells #[S x.code, S x.sym, S x.nar, .slice ua x.names.length uc, .int .i64 x.d, .int .i64 x.i, .int .i64 x.cd, .int .i64 x.ci] 35))
      have BL2 : Hid (Below lim w (wr.alloc (.cells #[S x.code, S x.sym, S x.nar, .slice ua x.names.length uc, .int .i64 x.d, .int .i64 x.i, .int .i64 x.cd, .int .i64 x.ci] 35))) := Lib.hid (BLW.out.alloc (by omega) _)
      clear q0 q1 q2 q3 q4 q5 q6 q7
      generalize wr.alloc (.cells #[S x.code, S x.sym, S x.nar, .slice ua x.names.length uc, .int .i64 x.d, .int .i64 x.i, .int .i64 x.cd, .int .i64 x.ci] 35) = w2 at *
      have hn9 : nCur x := HNX.out
      have HU2 := Lib.hid (TxL.move HU.out (Nat.le_refl _) BL2.out)
      with_reducible refine (layCur1_as B b p lim s1 x _ _ HW2.out HP2.out HU2.out hlim hn9 hs1l).mono ?_
      rintro y w3 ⟨rfl, hw3, hg3⟩
      have HW3 := Lib.hid hw3
      have HG3 := Lib.hid (grown_trans HG2.out hg3)
      clear hw3 hg3
      go_wp2
      go_roundw
      case rel => exact ⟨k + 1, by omega, by go_num, by rw [HT.out, ← List.append_assoc, ← HS1.out]; exact HW3.out, HG3.out⟩
      case measure => simp [intOf]; omega
    · have hke : l.take k = l := List.take_of_length_le (by omega)
      rw [hke] at HWR
      clear hke
      go_wp2
      go_end0
      exact ⟨rfl, by unfold eL; rw [← List.append_assoc]; exact HWR.out, HG.out⟩
end Go.Proofs.Ytkbigfkpgjhojaa
