/- A table with one thing turned. -/
import Derived.Test.YtkbigfkpgjhojaaTuB2
namespace Go.Proofs.Ytkbigfkpgjhojaa
open Go.RowKit Florin
set_option linter.unusedVariables false
set_option linter.unusedSimpArgs false
attribute [local go_sem ↓] Go.wp_at_zero Go.wp_at_succ
theorem po_at (q : Nat) : ∀ k, k < 18 → (#[pAt q 3, pAt q 10, pAt q 11, pAt q 12, pAt q 13, pAt q 14, pAt q 15, pAt q 17, pAt q 18, pAt q 19, pAt q 20, pAt q 21, pAt q 28, pAt q 29, pAt q 30, pAt q 31, pAt q 32, pAt q 33] : Array Value)[k]? = some (pAt q (PO.getD k 0))
  | 0, _ => rfl
  | 1, _ => rfl
  | 2, _ => rfl
  | 3, _ => rfl
  | 4, _ => rfl
  | 5, _ => rfl
  | 6, _ => rfl
  | 7, _ => rfl
  | 8, _ => rfl
  | 9, _ => rfl
  | 10, _ => rfl
  | 11, _ => rfl
  | 12, _ => rfl
  | 13, _ => rfl
  | 14, _ => rfl
  | 15, _ => rfl
  | 16, _ => rfl
  | 17, _ => rfl
  | k + 18, h => absurd h (by omega)
theorem cat_x (l : List UInt8) : Value.string ((⟨l.toArray⟩ : ByteArray) ++ ⟨#[120]⟩) = S (l ++ [120]) := by
  congr 1
  try apply ByteArray.ext
  try simp
theorem InL.weakQ {α : Type} {w : World} {q sz : Nat} {A : α → List Value → Prop} {v : Value} {l : List α} (h : InL w w.heap.size sz A v l) (hq : q = w.heap.size) : InL w q sz A v l := by rw [hq]; exact h
set_option maxRecDepth 100000 in
set_option maxHeartbeats 12800000 in
theorem turn_as (f : Nat → List UInt8) (mg : Int) (vsh vlo vms vcu vun vmu : Value) (sh lo ms : List RowM) (cu : List CurM) (un : List UntM) (mu : List TxM) (which : Int) (w : World) (hs6 : Six w vsh vlo vms vcu vun vmu sh lo ms cu un mu) (ksh : sh.length ≤ 20) (kcu : cu.length ≤ 50) (kun : un.length ≤ 50) (klo : lo.length ≤ 20) (kms : ms.length ≤ 20) (kmu : mu.length ≤ 20) (kfs : ∀ k, k < 27 → (f k).length ≤ 5000) (kmg : 0 ≤ mg ∧ mg ≤ 1000) (kci : ∀ c cs, cu = c :: cs → 0 ≤ c.ci ∧ c.ci ≤ 1000) (kma : ∀ r rs, sh = r :: rs → 0 ≤ r.1 ∧ r.1 ≤ 1000) :
    Calls Try.prog 6 #[.agg (tbA f mg vsh vlo vms vcu vun vmu), .int .i64 which] w fun e w' => TurnP f mg sh lo ms cu un mu w e w' := by
  obtain ⟨ish, hish, zsh0, zsh1, zsh2⟩ := info_parts infoRw
  obtain ⟨icu, hicu, zcu0, zcu1, zcu2⟩ := info_parts infoCu
  obtain ⟨iun, hiun, zun0, zun1, zun2⟩ := info_parts infoUn
  obtain ⟨ash, csh, rfl, _⟩ : ∃ a c, vsh = .slice a sh.length c ∧ True := by obtain ⟨a, c, e, _⟩ := hs6.sh; exact ⟨a, c, e, trivial⟩
  obtain ⟨alo, clo, rfl, _⟩ : ∃ a c, vlo = .slice a lo.length c ∧ True := by obtain ⟨a, c, e, _⟩ := hs6.lo; exact ⟨a, c, e, trivial⟩
  obtain ⟨ams, cms, rfl, _⟩ : ∃ a c, vms = .slice a ms.length c ∧ True := by obtain ⟨a, c, e, _⟩ := hs6.ms; exact ⟨a, c, e, trivial⟩
  obtain ⟨acu, ccu, rfl, _⟩ : ∃ a c, vcu = .slice a cu.length c ∧ True := by obtain ⟨a, c, e, _⟩ := hs6.cu; exact ⟨a, c, e, trivial⟩
  obtain ⟨aun, cun, rfl, _⟩ : ∃ a c, vun = .slice a un.length c ∧ True := by obtain ⟨a, c, e, _⟩ := hs6.un; exact ⟨a, c, e, trivial⟩
  obtain ⟨amu, cmu, rfl, _⟩ : ∃ a c, vmu = .slice a mu.length c ∧ True := by obtain ⟨a, c, e, _⟩ := hs6.mu; exact ⟨a, c, e, trivial⟩
  obtain ⟨q, hq⟩ : ∃ q, q = w.heap.size := ⟨_, rfl⟩
  have hq6 := hs6
  have H6 : Hid (RowL w q (.slice ash sh.length csh) sh ∧ CurL w q (.slice acu cu.length ccu) cu ∧ UntL w q (.slice aun un.length cun) un ∧ RowL w q (.slice alo lo.length clo) lo ∧ RowL w q (.slice ams ms.length cms) ms ∧ TxL w q (.slice amu mu.length cmu) mu) := Lib.hid (by rw [hq]; exact ⟨hs6.sh, hs6.cu, hs6.un, hs6.lo, hs6.ms, hs6.mu⟩)
  have H0 : Hid (T0 w ((w.alloc (.cells (tbA f mg (.slice ash sh.length csh) (.slice alo lo.length clo) (.slice ams ms.length cms) (.slice acu cu.length ccu) (.slice aun un.length cun) (.slice amu mu.length cmu)) TTb)).alloc (.cells Z34 TTb)) q (tbA f mg (.slice ash sh.length csh) (.slice alo lo.length clo) (.slice ams ms.length cms) (.slice acu cu.length ccu) (.slice aun un.length cun) (.slice amu mu.length cmu))) :=
    Lib.hid ⟨hq.symm, by rw [hq]; exact ((Below.refl _ _).alloc (Nat.le_refl _) _).alloc (by simp) _, by rw [hq]; exact (BoxT.new _ _ _).alloc _, by have h := BoxT.new (w.alloc (.cells (tbA f mg (.slice ash sh.length csh) (.slice alo lo.length clo) (.slice ams ms.length cms) (.slice acu cu.length ccu) (.slice aun un.length cun) (.slice amu mu.length cmu)) TTb)) Z34 TTb; rw [hq]; simpa using h⟩
  clear hs6
  go_enter Try.func6, Try.ntmps6
  go_upto_region 1 with fail
  rw [Z34_eq]
  rw [← hq]
  have HQ := Lib.hid hq
  clear hq hq6
  generalize (w.alloc (.cells (tbA f mg (.slice ash sh.length csh) (.slice alo lo.length clo) (.slice ams ms.length cms) (.slice acu cu.length ccu) (.slice aun un.length cun) (.slice amu mu.length cmu)) TTb)).alloc (.cells Z34 TTb) = w1 at *
  have HN1 := Lib.hid (BoxT.new w1 #[] TRw)
  have g1 : (w1.alloc (.cells #[] TRw)).cell? ⟨q, 22, none⟩ = some (.slice ash sh.length csh) := ((H0.out.box.alloc (.cells #[] TRw)).cell 22).trans rfl
  have HL1 : Hid (InL (w1.alloc (.cells #[] TRw)) q 2 (rowA w q) (.slice ash sh.length csh) sh) := Lib.hid (InL.move H6.out.1 (fun _ _ h => h) (Nat.le_refl _) (H0.out.hb.alloc (by have := H0.out.sz; omega) _))
  have hz1 := H0.out.sz
  go_upto_region 2 with (at_builtin; refine wpList_appL (by rfl) _ _ _ (by rfl) TRw ish (.agg #[.int .i64 0, .slice none 0 0]) 2 32 Try.underlying24 hish zsh0 zsh1 zsh2 (by rfl) (by decide) q (by simp; omega) (rowA w q) (rowA_one) _ [] (by rfl) (ownA_none HN1.out (by omega)) q _ sh (by rfl) HL1.out (by simp; omega) (by decide) ?_; intro L bsh dsh w11 hL hown hg; have hL2 := hL; simp only [List.nil_append] at hL2; clear hL; subst hL2; have HO1 := Lib.hid hown; have K1 := Lib.hid (H0.out.below (new_below hg)); have NB1 := Lib.hid (new_below hg); have e0 := ((K1.out.box.cell 22).trans rfl : w11.cell? ⟨q, 22, none⟩ = some (.slice ash sh.length csh)); have e1 := K1.out.box.frozen 22; have e2 := K1.out.box.lt; clear hown hg)
  have S1 := Lib.hid (K1.out.set 22 (.slice bsh sh.length dsh))
  rw [tb22] at S1
  have O1 := Lib.hid (HO1.out.setq K1.out.box (by decide) 22 (.slice bsh sh.length dsh))
  clear e0 e1 e2 g1 HL1 HN1 HO1 K1 NB1 H0
  generalize w11.setCell ⟨q, 22, none⟩ (.slice bsh sh.length dsh) = w21 at *
  have HN2 := Lib.hid (BoxT.new w21 #[] TCu)
  have g2 : (w21.alloc (.cells #[] TCu)).cell? ⟨q, 25, none⟩ = some (.slice acu cu.length ccu) := ((S1.out.box.alloc (.cells #[] TCu)).cell 25).trans rfl
  have HL2 : Hid (InL (w21.alloc (.cells #[] TCu)) q 8 (curA w q) (.slice acu cu.length ccu) cu) := Lib.hid (InL.move H6.out.2.1 (fun _ _ h => h) (Nat.le_refl _) (S1.out.hb.alloc (by have := S1.out.sz; omega) _))
  have hz2 := S1.out.sz
  go_upto_region 3 with (at_builtin; refine wpList_appL (by rfl) _ _ _ (by rfl) TCu icu (.agg #[.string ⟨#[]⟩, .string ⟨#[]⟩, .string ⟨#[]⟩, .slice none 0 0, .int .i64 0, .int .i64 0, .int .i64 0, .int .i64 0]) 8 104 Try.underlying25 hicu zcu0 zcu1 zcu2 (by rfl) (by decide) q (by simp; omega) (curA w q) (curA_one) _ [] (by rfl) (ownA_none HN2.out (by omega)) q _ cu (by rfl) HL2.out (by simp; omega) (by decide) ?_; intro L bcu dcu w12 hL hown hg; have hL2 := hL; simp only [List.nil_append] at hL2; clear hL; subst hL2; have HO2 := Lib.hid hown; have K2 := Lib.hid (S1.out.below (new_below hg)); have NB2 := Lib.hid (new_below hg); have e0 := ((K2.out.box.cell 25).trans rfl : w12.cell? ⟨q, 25, none⟩ = some (.slice acu cu.length ccu)); have e1 := K2.out.box.frozen 25; have e2 := K2.out.box.lt; clear hown hg)
  have S2 := Lib.hid (K2.out.set 25 (.slice bcu cu.length dcu))
  rw [tb25] at S2
  have O2 := Lib.hid (HO2.out.setq K2.out.box (by decide) 25 (.slice bcu cu.length dcu))
  have O1 := Lib.hid ((O1.out.bel NB2.out).setq K2.out.box (by decide) 25 (.slice bcu cu.length dcu))
  clear e0 e1 e2 g2 HL2 HN2 HO2 K2 NB2 S1
  generalize w12.setCell ⟨q, 25, none⟩ (.slice bcu cu.length dcu) = w22 at *
  have HN3 := Lib.hid (BoxT.new w22 #[] TUn)
  have g3 : (w22.alloc (.cells #[] TUn)).cell? ⟨q, 26, none⟩ = some (.slice aun un.length cun) := ((S2.out.box.alloc (.cells #[] TUn)).cell 26).trans rfl
  have HL3 : Hid (InL (w22.alloc (.cells #[] TUn)) q 2 (untA w q) (.slice aun un.length cun) un) := Lib.hid (InL.move H6.out.2.2.1 (fun _ _ h => h) (Nat.le_refl _) (S2.out.hb.alloc (by have := S2.out.sz; omega) _))
  have hz3 := S2.out.sz
  go_upto_region 4 with (at_builtin; refine wpList_appL (by rfl) _ _ _ (by rfl) TUn iun (.agg #[.string ⟨#[]⟩, .slice none 0 0]) 2 40 Try.underlying26 hiun zun0 zun1 zun2 (by rfl) (by decide) q (by simp; omega) (untA w q) (untA_one) _ [] (by rfl) (ownA_none HN3.out (by omega)) q _ un (by rfl) HL3.out (by simp; omega) (by decide) ?_; intro L bun dun w13 hL hown hg; have hL2 := hL; simp only [List.nil_append] at hL2; clear hL; subst hL2; have HO3 := Lib.hid hown; have K3 := Lib.hid (S2.out.below (new_below hg)); have NB3 := Lib.hid (new_below hg); have e0 := ((K3.out.box.cell 26).trans rfl : w13.cell? ⟨q, 26, none⟩ = some (.slice aun un.length cun)); have e1 := K3.out.box.frozen 26; have e2 := K3.out.box.lt; clear hown hg)
  have S3 := Lib.hid (K3.out.set 26 (.slice bun un.length dun))
  rw [tb26] at S3
  have O3 := Lib.hid (HO3.out.setq K3.out.box (by decide) 26 (.slice bun un.length dun))
  have O1 := Lib.hid ((O1.out.bel NB3.out).setq K3.out.box (by decide) 26 (.slice bun un.length dun))
  have O2 := Lib.hid ((O2.out.bel NB3.out).setq K3.out.box (by decide) 26 (.slice bun un.length dun))
  clear e0 e1 e2 g3 HL3 HN3 HO3 K3 NB3 S2
  generalize w13.setCell ⟨q, 26, none⟩ (.slice bun un.length dun) = w23 at *
  go_upto_region 6 with fail
  have HP := Lib.hid (BoxT.new w23 (#[pAt q 3, pAt q 10, pAt q 11, pAt q 12, pAt q 13, pAt q 14, pAt q 15, pAt q 17, pAt q 18, pAt q 19, pAt q 20, pAt q 21, pAt q 28, pAt q 29, pAt q 30, pAt q 31, pAt q 32, pAt q 33] : Array Value) TPs)
  have NB := Lib.hid ((Below.refl w23.heap.size w23).alloc (Nat.le_refl _) (.cells #[pAt q 3, pAt q 10, pAt q 11, pAt q 12, pAt q 13, pAt q 14, pAt q 15, pAt q 17, pAt q 18, pAt q 19, pAt q 20, pAt q 21, pAt q 28, pAt q 29, pAt q 30, pAt q 31, pAt q 32, pAt q 33] TPs))
  have S4 := Lib.hid (S3.out.below NB.out)
  have Osh := Lib.hid (O1.out.bel NB.out)
  have Ocu := Lib.hid (O2.out.bel NB.out)
  have Oun := Lib.hid (O3.out.bel NB.out)
  obtain ⟨k, hk, hke⟩ := which_as which
  rw [hke]
  clear hke NB O1 O2 O3 S3
  generalize w23.alloc (.cells #[pAt q 3, pAt q 10, pAt q 11, pAt q 12, pAt q 13, pAt q 14, pAt q 15, pAt q 17, pAt q 18, pAt q 19, pAt q 20, pAt q 21, pAt q 28, pAt q 29, pAt q 30, pAt q 31, pAt q 32, pAt q 33] TPs) = w4 at *
  generalize w23.heap.size = p at *
  have B4 := Lib.hid S4.out.hb
  by_cases hlt : k < 18
  · have hki : (k : Int) < 18 := by omega
    obtain ⟨hj, hjo⟩ := po_fo k hlt
    have hp1 : w4.drew.cell? ⟨p, k, none⟩ = some (pAt q (PO.getD k 0)) := ((BoxT.drew3 HP.out).cell k).trans (po_at q k hlt)
    have hp2 : w4.drew.cell? ⟨q, PO.getD k 0, none⟩ = some (S (f (FO.getD k 0))) := ((BoxT.drew3 S4.out.box).cell _).trans (by rw [← hjo]; exact tb_get _ _ _ _ _ _ _ _ _ hj)
    have hp3 : w4.drew.frozen? ⟨q, PO.getD k 0, none⟩ = false := (BoxT.drew3 S4.out.box).frozen _
    have hp4 : q < w4.drew.heap.size := (BoxT.drew3 S4.out.box).lt
    have hp5 : ¬ 9223372036854775807 < (f (FO.getD k 0)).length + 1 := by have := kfs _ hj; omega
    have HJO := Lib.hid hjo
    have HJ := Lib.hid hj
    clear hjo hj
    generalize PO.getD k 0 = o at *
    generalize FO.getD k 0 = j at *
    go_upto_region 7 with fail
    go_region
    rw [cat_x]
    have KE := Lib.hid ((S4.out.set o (S (f j ++ [120]))).below (Below.refl _ _).drew)
    have hput := tb_put f mg (.slice bsh sh.length dsh) (.slice alo lo.length clo) (.slice ams ms.length cms) (.slice bcu cu.length dcu) (.slice bun un.length dun) (.slice amu mu.length cmu) (f j ++ [120]) j HJ.out
    rw [HJO.out] at hput
    rw [hput] at KE
    have EO1 := Lib.hid ((Osh.out.setq S4.out.box (by decide) o (S (f j ++ [120]))).bel (Below.refl _ _).drew)
    have EO2 := Lib.hid ((Ocu.out.setq S4.out.box (by decide) o (S (f j ++ [120]))).bel (Below.refl _ _).drew)
    have EO3 := Lib.hid ((Oun.out.setq S4.out.box (by decide) o (S (f j ++ [120]))).bel (Below.refl _ _).drew)
    clear hp1 hp2 hp3 hp4 hput
    generalize (w4.setCell ⟨q, o, none⟩ (S (f j ++ [120]))).drew = wE at *
    go_wp2_with (first | (refine wpList_load_box (by rfl) TTb (.tmp 2) (by rfl) q (by rfl) (tbA (fun i => if i = j then f j ++ [120] else f i) mg (.slice bsh sh.length dsh) (.slice alo lo.length clo) (.slice ams ms.length cms) (.slice bcu cu.length dcu) (.slice bun un.length dun) (.slice amu mu.length cmu)) TTb _ KE.out.box Try.underlying31 (by rfl) (tb_info _ _ _ _ _ _ _ _) ?_) | (refine wpList_store_box (by rfl) TTb (.tmp 4) (.tmp 73) (by rfl) (q + 1) _ (tbA (fun i => if i = j then f j ++ [120] else f i) mg (.slice bsh sh.length dsh) (.slice alo lo.length clo) (.slice ams ms.length cms) (.slice bcu cu.length dcu) (.slice bun un.length dun) (.slice amu mu.length cmu)) TTb (by rfl) (by rfl) KE.out.zbox (tb_info _ _ _ _ _ _ _ _) (by rfl) (tb_one (fun i => if i = j then f j ++ [120] else f i) _ _ _ _ _ _ _ _ _ _ _ _ _ _ _ _ _ _ _) ?_; intro wF hxF hgF))
    have hbF : Below q w wF := KE.out.hb.grown hgF (by have := KE.out.sz; omega) (fun j hj => by obtain rfl := Option.some.inj hj; omega)
    have hld := run_loadVar_box (P := Try.prog) hxF Try.underlying31 (by rfl) (tb_info _ _ _ _ _ _ _ _)
    exact bodyPost_ret (v := .tuple #[.agg (tbA (fun i => if i = j then f j ++ [120] else f i) mg (.slice bsh sh.length dsh) (.slice alo lo.length clo) (.slice ams ms.length cms) (.slice bcu cu.length dcu) (.slice bun un.length dun) (.slice amu mu.length cmu)), .bool true]) (by simp [results, Try.results6, asAddr, hld]) rfl ⟨true, _, _, _, _, _, _, _, _, _, _, _, _, _, _, _, _, _, _, _, _, rfl, ⟨fin_row HQ.out.symm hbF EO1.out KE.out.zbox hgF, RowL.move H6.out.2.2.2.1 (fin_le HQ.out.symm hbF) hbF, RowL.move H6.out.2.2.2.2.1 (fin_le HQ.out.symm hbF) hbF, fin_cur HQ.out.symm hbF EO2.out KE.out.zbox hgF, fin_unt HQ.out.symm hbF EO3.out KE.out.zbox hgF, TxL.move H6.out.2.2.2.2.2 (fin_le HQ.out.symm hbF) hbF⟩, by rw [← HQ.out]; exact hbF, .text j HJ.out⟩
  · rcases (show k = 18 ∨ k = 19 ∨ k = 20 ∨ k = 21 ∨ k = 22 ∨ k = 23 ∨ k = 24 ∨ k = 25 ∨ k = 26 by omega) with rfl | rfl | rfl | rfl | rfl | rfl | rfl | rfl | rfl
    · have e0 : w4.cell? ⟨q, 16, none⟩ = some (.int .i64 mg) := (S4.out.box.cell 16).trans rfl
      have e1 := S4.out.box.frozen 16
      have e2 := S4.out.box.lt
      have hm1 := kmg.1
      have hm2 := kmg.2
      go_upto_region 32 with fail
      have KE := Lib.hid (S4.out.set 16 (.int .i64 (mg + 1)))
      rw [tb16] at KE
      have EO1 := Lib.hid (Osh.out.setq S4.out.box (by decide) 16 (.int .i64 (mg + 1)))
      have EO2 := Lib.hid (Ocu.out.setq S4.out.box (by decide) 16 (.int .i64 (mg + 1)))
      have EO3 := Lib.hid (Oun.out.setq S4.out.box (by decide) 16 (.int .i64 (mg + 1)))
      clear e0 e1 e2
      generalize w4.setCell ⟨q, 16, none⟩ (.int .i64 (mg + 1)) = wE at *
      go_wp2_with (first | (refine wpList_load_box (by rfl) TTb (.tmp 2) (by rfl) q (by rfl) (tbA f (mg + 1) (.slice bsh sh.length dsh) (.slice alo lo.length clo) (.slice ams ms.length cms) (.slice bcu cu.length dcu) (.slice bun un.length dun) (.slice amu mu.length cmu)) TTb _ KE.out.box Try.underlying31 (by rfl) (tb_info _ _ _ _ _ _ _ _) ?_) | (refine wpList_store_box (by rfl) TTb (.tmp 4) (.tmp 162) (by rfl) (q + 1) _ (tbA f (mg + 1) (.slice bsh sh.length dsh) (.slice alo lo.length clo) (.slice ams ms.length cms) (.slice bcu cu.length dcu) (.slice bun un.length dun) (.slice amu mu.length cmu)) TTb (by rfl) (by rfl) KE.out.zbox (tb_info _ _ _ _ _ _ _ _) (by rfl) (tb_one f _ _ _ _ _ _ _ _ _ _ _ _ _ _ _ _ _ _ _) ?_; intro wF hxF hgF))
      have hbF : Below q w wF := KE.out.hb.grown hgF (by have := KE.out.sz; omega) (fun j hj => by obtain rfl := Option.some.inj hj; omega)
      have hld := run_loadVar_box (P := Try.prog) hxF Try.underlying31 (by rfl) (tb_info _ _ _ _ _ _ _ _)
      exact bodyPost_ret (v := .tuple #[.agg (tbA f (mg + 1) (.slice bsh sh.length dsh) (.slice alo lo.length clo) (.slice ams ms.length cms) (.slice bcu cu.length dcu) (.slice bun un.length dun) (.slice amu mu.length cmu)), .bool true]) (by simp [results, Try.results6, asAddr, hld]) rfl ⟨true, _, _, _, _, _, _, _, _, _, _, _, _, _, _, _, _, _, _, _, _, rfl, ⟨fin_row HQ.out.symm hbF EO1.out KE.out.zbox hgF, RowL.move H6.out.2.2.2.1 (fin_le HQ.out.symm hbF) hbF, RowL.move H6.out.2.2.2.2.1 (fin_le HQ.out.symm hbF) hbF, fin_cur HQ.out.symm hbF EO2.out KE.out.zbox hgF, fin_unt HQ.out.symm hbF EO3.out KE.out.zbox hgF, TxL.move H6.out.2.2.2.2.2 (fin_le HQ.out.symm hbF) hbF⟩, by rw [← HQ.out]; exact hbF, .mg⟩
    · have Z := Lib.hid (BoxT.new w4 (#[.int .i64 0, .slice none 0 0] : Array Value) TRw)
      have NB := Lib.hid ((Below.refl w4.heap.size w4).alloc (Nat.le_refl _) (.cells (#[.int .i64 0, .slice none 0 0] : Array Value) TRw))
      have hsz := S4.out.sz
      have e0 : w4.cell? ⟨q, 22, none⟩ = some (.slice bsh sh.length dsh) := (S4.out.box.cell 22).trans rfl
      go_upto_region 32 with (at_builtin; refine wpList_appL (by rfl) _ _ _ (by rfl) TRw ish (.agg #[.int .i64 0, .slice none 0 0]) 2 32 Try.underlying24 hish zsh0 zsh1 zsh2 (by rfl) (by decide) q (by simp; omega) (rowA w q) (rowA_one) _ sh (by rfl) (Osh.out.bel NB.out) _ _ [(0, [])] (by rfl) (inL_lit Z.out (by rfl) (Nat.lt_succ_self _) ⟨_, rfl, txL_nil _ _⟩) (by simp; omega) (by decide) ?_; intro L b9 d9 w5 hL hown hg; have HL := Lib.hid hL; have HO := Lib.hid hown; have K5 := Lib.hid ((S4.out.below NB.out).rowA (Osh.out.bel NB.out) (by decide) hg); have FEO2 := Lib.hid ((Ocu.out.bel NB.out).rowA (Osh.out.bel NB.out) (by decide) hg); have FEO3 := Lib.hid ((Oun.out.bel NB.out).rowA (Osh.out.bel NB.out) (by decide) hg); have f0 := ((K5.out.box.cell 22).trans rfl : w5.cell? ⟨q, 22, none⟩ = some (.slice bsh sh.length dsh)); have f1 := K5.out.box.frozen 22; have f2 := K5.out.box.lt; clear hL hown hg)
      have KE := Lib.hid (K5.out.set 22 (.slice b9 L.length d9))
      rw [tb22] at KE
      have EO1 := Lib.hid (HO.out.setq K5.out.box (by decide) 22 (.slice b9 L.length d9))
      have EO2 := Lib.hid (FEO2.out.setq K5.out.box (by decide) 22 (.slice b9 L.length d9))
      have EO3 := Lib.hid (FEO3.out.setq K5.out.box (by decide) 22 (.slice b9 L.length d9))
      clear f0 f1 f2 e0
      generalize w5.setCell ⟨q, 22, none⟩ (.slice b9 L.length d9) = wE at *
      go_wp2_with (first | (refine wpList_load_box (by rfl) TTb (.tmp 2) (by rfl) q (by rfl) (tbA f mg (.slice b9 L.length d9) (.slice alo lo.length clo) (.slice ams ms.length cms) (.slice bcu cu.length dcu) (.slice bun un.length dun) (.slice amu mu.length cmu)) TTb _ KE.out.box Try.underlying31 (by rfl) (tb_info _ _ _ _ _ _ _ _) ?_) | (refine wpList_store_box (by rfl) TTb (.tmp 4) (.tmp 162) (by rfl) (q + 1) _ (tbA f mg (.slice b9 L.length d9) (.slice alo lo.length clo) (.slice ams ms.length cms) (.slice bcu cu.length dcu) (.slice bun un.length dun) (.slice amu mu.length cmu)) TTb (by rfl) (by rfl) KE.out.zbox (tb_info _ _ _ _ _ _ _ _) (by rfl) (tb_one f _ _ _ _ _ _ _ _ _ _ _ _ _ _ _ _ _ _ _) ?_; intro wF hxF hgF))
      have hbF : Below q w wF := KE.out.hb.grown hgF (by have := KE.out.sz; omega) (fun j hj => by obtain rfl := Option.some.inj hj; omega)
      have hld := run_loadVar_box (P := Try.prog) hxF Try.underlying31 (by rfl) (tb_info _ _ _ _ _ _ _ _)
      exact bodyPost_ret (v := .tuple #[.agg (tbA f mg (.slice b9 L.length d9) (.slice alo lo.length clo) (.slice ams ms.length cms) (.slice bcu cu.length dcu) (.slice bun un.length dun) (.slice amu mu.length cmu)), .bool true]) (by simp [results, Try.results6, asAddr, hld]) rfl ⟨true, _, _, _, _, _, _, _, _, _, _, _, _, _, _, _, _, _, _, _, _, rfl, ⟨fin_row HQ.out.symm hbF EO1.out KE.out.zbox hgF, RowL.move H6.out.2.2.2.1 (fin_le HQ.out.symm hbF) hbF, RowL.move H6.out.2.2.2.2.1 (fin_le HQ.out.symm hbF) hbF, fin_cur HQ.out.symm hbF EO2.out KE.out.zbox hgF, fin_unt HQ.out.symm hbF EO3.out KE.out.zbox hgF, TxL.move H6.out.2.2.2.2.2 (fin_le HQ.out.symm hbF) hbF⟩, by rw [← HQ.out]; exact hbF, by rw [← HL.out]; exact .sh⟩
    · have Z := Lib.hid (BoxT.new w4 (#[.int .i64 1, .slice none 0 0] : Array Value) TRw)
      have NB := Lib.hid ((Below.refl w4.heap.size w4).alloc (Nat.le_refl _) (.cells (#[.int .i64 1, .slice none 0 0] : Array Value) TRw))
      have hsz := S4.out.sz
      have K4 := Lib.hid (S4.out.below NB.out)
      have e0 : (w4.alloc (.cells (#[.int .i64 1, .slice none 0 0] : Array Value) TRw)).cell? ⟨q, 23, none⟩ = some (.slice alo lo.length clo) := (K4.out.box.cell 23).trans rfl
      go_upto_region 32 with (at_builtin; refine wpList_appL (by rfl) _ _ _ (by rfl) TRw ish (.agg #[.int .i64 0, .slice none 0 0]) 2 32 Try.underlying24 hish zsh0 zsh1 zsh2 (by rfl) (by decide) q (by simp; omega) (rowA w q) (rowA_one) _ [(1, [])] (by rfl) (ownA_lit Z.out (by rfl) (by omega) ⟨_, rfl, txL_nil _ _⟩) q _ lo (by rfl) (InL.move H6.out.2.2.2.1 (fun _ _ h => h) (Nat.le_refl _) K4.out.hb) (by simp; omega) (by decide) ?_; intro L b9 d9 w5 hL hown hg; have HL := Lib.hid hL; have HO := Lib.hid hown; have N5 := Lib.hid (new_below hg); have K5 := Lib.hid (S4.out.below N5.out); have f0 := ((K5.out.box.cell 23).trans rfl : w5.cell? ⟨q, 23, none⟩ = some (.slice alo lo.length clo)); have f1 := K5.out.box.frozen 23; have f2 := K5.out.box.lt; clear hL hown hg)
      have KE := Lib.hid (K5.out.set 23 (.slice b9 L.length d9))
      rw [tb23] at KE
      have EN := Lib.hid (HO.out.setq K5.out.box (by decide) 23 (.slice b9 L.length d9))
      have EO1 := Lib.hid ((Osh.out.bel N5.out).setq K5.out.box (by decide) 23 (.slice b9 L.length d9))
      have EO2 := Lib.hid ((Ocu.out.bel N5.out).setq K5.out.box (by decide) 23 (.slice b9 L.length d9))
      have EO3 := Lib.hid ((Oun.out.bel N5.out).setq K5.out.box (by decide) 23 (.slice b9 L.length d9))
      clear f0 f1 f2 e0
      generalize w5.setCell ⟨q, 23, none⟩ (.slice b9 L.length d9) = wE at *
      go_wp2_with (first | (refine wpList_load_box (by rfl) TTb (.tmp 2) (by rfl) q (by rfl) (tbA f mg (.slice bsh sh.length dsh) (.slice b9 L.length d9) (.slice ams ms.length cms) (.slice bcu cu.length dcu) (.slice bun un.length dun) (.slice amu mu.length cmu)) TTb _ KE.out.box Try.underlying31 (by rfl) (tb_info _ _ _ _ _ _ _ _) ?_) | (refine wpList_store_box (by rfl) TTb (.tmp 4) (.tmp 162) (by rfl) (q + 1) _ (tbA f mg (.slice bsh sh.length dsh) (.slice b9 L.length d9) (.slice ams ms.length cms) (.slice bcu cu.length dcu) (.slice bun un.length dun) (.slice amu mu.length cmu)) TTb (by rfl) (by rfl) KE.out.zbox (tb_info _ _ _ _ _ _ _ _) (by rfl) (tb_one f _ _ _ _ _ _ _ _ _ _ _ _ _ _ _ _ _ _ _) ?_; intro wF hxF hgF))
      have hbF : Below q w wF := KE.out.hb.grown hgF (by have := KE.out.sz; omega) (fun j hj => by obtain rfl := Option.some.inj hj; omega)
      have hld := run_loadVar_box (P := Try.prog) hxF Try.underlying31 (by rfl) (tb_info _ _ _ _ _ _ _ _)
      exact bodyPost_ret (v := .tuple #[.agg (tbA f mg (.slice bsh sh.length dsh) (.slice b9 L.length d9) (.slice ams ms.length cms) (.slice bcu cu.length dcu) (.slice bun un.length dun) (.slice amu mu.length cmu)), .bool true]) (by simp [results, Try.results6, asAddr, hld]) rfl ⟨true, _, _, _, _, _, _, _, _, _, _, _, _, _, _, _, _, _, _, _, _, rfl, ⟨fin_row HQ.out.symm hbF EO1.out KE.out.zbox hgF, fin_row HQ.out.symm hbF EN.out KE.out.zbox hgF, RowL.move H6.out.2.2.2.2.1 (fin_le HQ.out.symm hbF) hbF, fin_cur HQ.out.symm hbF EO2.out KE.out.zbox hgF, fin_unt HQ.out.symm hbF EO3.out KE.out.zbox hgF, TxL.move H6.out.2.2.2.2.2 (fin_le HQ.out.symm hbF) hbF⟩, by rw [← HQ.out]; exact hbF, by rw [← HL.out]; exact .lo⟩
    · have Z := Lib.hid (BoxT.new w4 (#[.int .i64 1, .slice none 0 0] : Array Value) TRw)
      have NB := Lib.hid ((Below.refl w4.heap.size w4).alloc (Nat.le_refl _) (.cells (#[.int .i64 1, .slice none 0 0] : Array Value) TRw))
      have hsz := S4.out.sz
      have K4 := Lib.hid (S4.out.below NB.out)
      have e0 : (w4.alloc (.cells (#[.int .i64 1, .slice none 0 0] : Array Value) TRw)).cell? ⟨q, 24, none⟩ = some (.slice ams ms.length cms) := (K4.out.box.cell 24).trans rfl
      go_upto_region 32 with (at_builtin; refine wpList_appL (by rfl) _ _ _ (by rfl) TRw ish (.agg #[.int .i64 0, .slice none 0 0]) 2 32 Try.underlying24 hish zsh0 zsh1 zsh2 (by rfl) (by decide) q (by simp; omega) (rowA w q) (rowA_one) _ [(1, [])] (by rfl) (ownA_lit Z.out (by rfl) (by omega) ⟨_, rfl, txL_nil _ _⟩) q _ ms (by rfl) (InL.move H6.out.2.2.2.2.1 (fun _ _ h => h) (Nat.le_refl _) K4.out.hb) (by simp; omega) (by decide) ?_; intro L b9 d9 w5 hL hown hg; have HL := Lib.hid hL; have HO := Lib.hid hown; have N5 := Lib.hid (new_below hg); have K5 := Lib.hid (S4.out.below N5.out); have f0 := ((K5.out.box.cell 24).trans rfl : w5.cell? ⟨q, 24, none⟩ = some (.slice ams ms.length cms)); have f1 := K5.out.box.frozen 24; have f2 := K5.out.box.lt; clear hL hown hg)
      have KE := Lib.hid (K5.out.set 24 (.slice b9 L.length d9))
      rw [tb24] at KE
      have EN := Lib.hid (HO.out.setq K5.out.box (by decide) 24 (.slice b9 L.length d9))
      have EO1 := Lib.hid ((Osh.out.bel N5.out).setq K5.out.box (by decide) 24 (.slice b9 L.length d9))
      have EO2 := Lib.hid ((Ocu.out.bel N5.out).setq K5.out.box (by decide) 24 (.slice b9 L.length d9))
      have EO3 := Lib.hid ((Oun.out.bel N5.out).setq K5.out.box (by decide) 24 (.slice b9 L.length d9))
      clear f0 f1 f2 e0
      generalize w5.setCell ⟨q, 24, none⟩ (.slice b9 L.length d9) = wE at *
      go_wp2_with (first | (refine wpList_load_box (by rfl) TTb (.tmp 2) (by rfl) q (by rfl) (tbA f mg (.slice bsh sh.length dsh) (.slice alo lo.length clo) (.slice b9 L.length d9) (.slice bcu cu.length dcu) (.slice bun un.length dun) (.slice amu mu.length cmu)) TTb _ KE.out.box Try.underlying31 (by rfl) (tb_info _ _ _ _ _ _ _ _) ?_) | (refine wpList_store_box (by rfl) TTb (.tmp 4) (.tmp 162) (by rfl) (q + 1) _ (tbA f mg (.slice bsh sh.length dsh) (.slice alo lo.length clo) (.slice b9 L.length d9) (.slice bcu cu.length dcu) (.slice bun un.length dun) (.slice amu mu.length cmu)) TTb (by rfl) (by rfl) KE.out.zbox (tb_info _ _ _ _ _ _ _ _) (by rfl) (tb_one f _ _ _ _ _ _ _ _ _ _ _ _ _ _ _ _ _ _ _) ?_; intro wF hxF hgF))
      have hbF : Below q w wF := KE.out.hb.grown hgF (by have := KE.out.sz; omega) (fun j hj => by obtain rfl := Option.some.inj hj; omega)
      have hld := run_loadVar_box (P := Try.prog) hxF Try.underlying31 (by rfl) (tb_info _ _ _ _ _ _ _ _)
      exact bodyPost_ret (v := .tuple #[.agg (tbA f mg (.slice bsh sh.length dsh) (.slice alo lo.length clo) (.slice b9 L.length d9) (.slice bcu cu.length dcu) (.slice bun un.length dun) (.slice amu mu.length cmu)), .bool true]) (by simp [results, Try.results6, asAddr, hld]) rfl ⟨true, _, _, _, _, _, _, _, _, _, _, _, _, _, _, _, _, _, _, _, _, rfl, ⟨fin_row HQ.out.symm hbF EO1.out KE.out.zbox hgF, RowL.move H6.out.2.2.2.1 (fin_le HQ.out.symm hbF) hbF, fin_row HQ.out.symm hbF EN.out KE.out.zbox hgF, fin_cur HQ.out.symm hbF EO2.out KE.out.zbox hgF, fin_unt HQ.out.symm hbF EO3.out KE.out.zbox hgF, TxL.move H6.out.2.2.2.2.2 (fin_le HQ.out.symm hbF) hbF⟩, by rw [← HQ.out]; exact hbF, by rw [← HL.out]; exact .ms⟩
    · have Z := Lib.hid (BoxT.new w4 (#[.string ⟨#[]⟩, .string ⟨#[]⟩, .string ⟨#[]⟩, .slice none 0 0, .int .i64 0, .int .i64 0, .int .i64 0, .int .i64 0] : Array Value) TCu)
      have NB := Lib.hid ((Below.refl w4.heap.size w4).alloc (Nat.le_refl _) (.cells (#[.string ⟨#[]⟩, .string ⟨#[]⟩, .string ⟨#[]⟩, .slice none 0 0, .int .i64 0, .int .i64 0, .int .i64 0, .int .i64 0] : Array Value) TCu))
      have hsz := S4.out.sz
      have e0 : w4.cell? ⟨q, 25, none⟩ = some (.slice bcu cu.length dcu) := (S4.out.box.cell 25).trans rfl
      go_upto_region 32 with (at_builtin; refine wpList_appL (by rfl) _ _ _ (by rfl) TCu icu (.agg #[.string ⟨#[]⟩, .string ⟨#[]⟩, .string ⟨#[]⟩, .slice none 0 0, .int .i64 0, .int .i64 0, .int .i64 0, .int .i64 0]) 8 104 Try.underlying25 hicu zcu0 zcu1 zcu2 (by rfl) (by decide) q (by simp; omega) (curA w q) (curA_one) _ cu (by rfl) (Ocu.out.bel NB.out) _ _ [curZ] (by rfl) (inL_lit Z.out (by rfl) (Nat.lt_succ_self _) ⟨_, rfl, txL_nil _ _⟩) (by simp; omega) (by decide) ?_; intro L b9 d9 w5 hL hown hg; have HL := Lib.hid hL; have HO := Lib.hid hown; have K5 := Lib.hid ((S4.out.below NB.out).rowA (Ocu.out.bel NB.out) (by decide) hg); have FEO1 := Lib.hid ((Osh.out.bel NB.out).rowA (Ocu.out.bel NB.out) (by decide) hg); have FEO3 := Lib.hid ((Oun.out.bel NB.out).rowA (Ocu.out.bel NB.out) (by decide) hg); have f0 := ((K5.out.box.cell 25).trans rfl : w5.cell? ⟨q, 25, none⟩ = some (.slice bcu cu.length dcu)); have f1 := K5.out.box.frozen 25; have f2 := K5.out.box.lt; clear hL hown hg)
      have KE := Lib.hid (K5.out.set 25 (.slice b9 L.length d9))
      rw [tb25] at KE
      have EO1 := Lib.hid (FEO1.out.setq K5.out.box (by decide) 25 (.slice b9 L.length d9))
      have EO2 := Lib.hid (HO.out.setq K5.out.box (by decide) 25 (.slice b9 L.length d9))
      have EO3 := Lib.hid (FEO3.out.setq K5.out.box (by decide) 25 (.slice b9 L.length d9))
      clear f0 f1 f2 e0
      generalize w5.setCell ⟨q, 25, none⟩ (.slice b9 L.length d9) = wE at *
      go_wp2_with (first | (refine wpList_load_box (by rfl) TTb (.tmp 2) (by rfl) q (by rfl) (tbA f mg (.slice bsh sh.length dsh) (.slice alo lo.length clo) (.slice ams ms.length cms) (.slice b9 L.length d9) (.slice bun un.length dun) (.slice amu mu.length cmu)) TTb _ KE.out.box Try.underlying31 (by rfl) (tb_info _ _ _ _ _ _ _ _) ?_) | (refine wpList_store_box (by rfl) TTb (.tmp 4) (.tmp 162) (by rfl) (q + 1) _ (tbA f mg (.slice bsh sh.length dsh) (.slice alo lo.length clo) (.slice ams ms.length cms) (.slice b9 L.length d9) (.slice bun un.length dun) (.slice amu mu.length cmu)) TTb (by rfl) (by rfl) KE.out.zbox (tb_info _ _ _ _ _ _ _ _) (by rfl) (tb_one f _ _ _ _ _ _ _ _ _ _ _ _ _ _ _ _ _ _ _) ?_; intro wF hxF hgF))
      have hbF : Below q w wF := KE.out.hb.grown hgF (by have := KE.out.sz; omega) (fun j hj => by obtain rfl := Option.some.inj hj; omega)
      have hld := run_loadVar_box (P := Try.prog) hxF Try.underlying31 (by rfl) (tb_info _ _ _ _ _ _ _ _)
      exact bodyPost_ret (v := .tuple #[.agg (tbA f mg (.slice bsh sh.length dsh) (.slice alo lo.length clo) (.slice ams ms.length cms) (.slice b9 L.length d9) (.slice bun un.length dun) (.slice amu mu.length cmu)), .bool true]) (by simp [results, Try.results6, asAddr, hld]) rfl ⟨true, _, _, _, _, _, _, _, _, _, _, _, _, _, _, _, _, _, _, _, _, rfl, ⟨fin_row HQ.out.symm hbF EO1.out KE.out.zbox hgF, RowL.move H6.out.2.2.2.1 (fin_le HQ.out.symm hbF) hbF, RowL.move H6.out.2.2.2.2.1 (fin_le HQ.out.symm hbF) hbF, fin_cur HQ.out.symm hbF EO2.out KE.out.zbox hgF, fin_unt HQ.out.symm hbF EO3.out KE.out.zbox hgF, TxL.move H6.out.2.2.2.2.2 (fin_le HQ.out.symm hbF) hbF⟩, by rw [← HQ.out]; exact hbF, by rw [← HL.out]; exact .cu⟩
    · have Z := Lib.hid (BoxT.new w4 (#[.string ⟨#[]⟩, .slice none 0 0] : Array Value) TUn)
      have NB := Lib.hid ((Below.refl w4.heap.size w4).alloc (Nat.le_refl _) (.cells (#[.string ⟨#[]⟩, .slice none 0 0] : Array Value) TUn))
      have hsz := S4.out.sz
      have e0 : w4.cell? ⟨q, 26, none⟩ = some (.slice bun un.length dun) := (S4.out.box.cell 26).trans rfl
      go_upto_region 32 with (at_builtin; refine wpList_appL (by rfl) _ _ _ (by rfl) TUn iun (.agg #[.string ⟨#[]⟩, .slice none 0 0]) 2 40 Try.underlying26 hiun zun0 zun1 zun2 (by rfl) (by decide) q (by simp; omega) (untA w q) (untA_one) _ un (by rfl) (Oun.out.bel NB.out) _ _ [([], [])] (by rfl) (inL_lit Z.out (by rfl) (Nat.lt_succ_self _) ⟨_, rfl, txL_nil _ _⟩) (by simp; omega) (by decide) ?_; intro L b9 d9 w5 hL hown hg; have HL := Lib.hid hL; have HO := Lib.hid hown; have K5 := Lib.hid ((S4.out.below NB.out).rowA (Oun.out.bel NB.out) (by decide) hg); have FEO1 := Lib.hid ((Osh.out.bel NB.out).rowA (Oun.out.bel NB.out) (by decide) hg); have FEO2 := Lib.hid ((Ocu.out.bel NB.out).rowA (Oun.out.bel NB.out) (by decide) hg); have f0 := ((K5.out.box.cell 26).trans rfl : w5.cell? ⟨q, 26, none⟩ = some (.slice bun un.length dun)); have f1 := K5.out.box.frozen 26; have f2 := K5.out.box.lt; clear hL hown hg)
      have KE := Lib.hid (K5.out.set 26 (.slice b9 L.length d9))
      rw [tb26] at KE
      have EO1 := Lib.hid (FEO1.out.setq K5.out.box (by decide) 26 (.slice b9 L.length d9))
      have EO2 := Lib.hid (FEO2.out.setq K5.out.box (by decide) 26 (.slice b9 L.length d9))
      have EO3 := Lib.hid (HO.out.setq K5.out.box (by decide) 26 (.slice b9 L.length d9))
      clear f0 f1 f2 e0
      generalize w5.setCell ⟨q, 26, none⟩ (.slice b9 L.length d9) = wE at *
      go_wp2_with (first | (refine wpList_load_box (by rfl) TTb (.tmp 2) (by rfl) q (by rfl) (tbA f mg (.slice bsh sh.length dsh) (.slice alo lo.length clo) (.slice ams ms.length cms) (.slice bcu cu.length dcu) (.slice b9 L.length d9) (.slice amu mu.length cmu)) TTb _ KE.out.box Try.underlying31 (by rfl) (tb_info _ _ _ _ _ _ _ _) ?_) | (refine wpList_store_box (by rfl) TTb (.tmp 4) (.tmp 162) (by rfl) (q + 1) _ (tbA f mg (.slice bsh sh.length dsh) (.slice alo lo.length clo) (.slice ams ms.length cms) (.slice bcu cu.length dcu) (.slice b9 L.length d9) (.slice amu mu.length cmu)) TTb (by rfl) (by rfl) KE.out.zbox (tb_info _ _ _ _ _ _ _ _) (by rfl) (tb_one f _ _ _ _ _ _ _ _ _ _ _ _ _ _ _ _ _ _ _) ?_; intro wF hxF hgF))
      have hbF : Below q w wF := KE.out.hb.grown hgF (by have := KE.out.sz; omega) (fun j hj => by obtain rfl := Option.some.inj hj; omega)
      have hld := run_loadVar_box (P := Try.prog) hxF Try.underlying31 (by rfl) (tb_info _ _ _ _ _ _ _ _)
      exact bodyPost_ret (v := .tuple #[.agg (tbA f mg (.slice bsh sh.length dsh) (.slice alo lo.length clo) (.slice ams ms.length cms) (.slice bcu cu.length dcu) (.slice b9 L.length d9) (.slice amu mu.length cmu)), .bool true]) (by simp [results, Try.results6, asAddr, hld]) rfl ⟨true, _, _, _, _, _, _, _, _, _, _, _, _, _, _, _, _, _, _, _, _, rfl, ⟨fin_row HQ.out.symm hbF EO1.out KE.out.zbox hgF, RowL.move H6.out.2.2.2.1 (fin_le HQ.out.symm hbF) hbF, RowL.move H6.out.2.2.2.2.1 (fin_le HQ.out.symm hbF) hbF, fin_cur HQ.out.symm hbF EO2.out KE.out.zbox hgF, fin_unt HQ.out.symm hbF EO3.out KE.out.zbox hgF, TxL.move H6.out.2.2.2.2.2 (fin_le HQ.out.symm hbF) hbF⟩, by rw [← HQ.out]; exact hbF, by rw [← HL.out]; exact .un⟩
    · obtain ⟨itx, hitx, ztx0, ztx1, ztx2⟩ := info_parts infoTx
      have Z := Lib.hid (BoxT.new w4 (#[.int .i64 0, .string ⟨#[]⟩] : Array Value) TTx)
      have NB := Lib.hid ((Below.refl w4.heap.size w4).alloc (Nat.le_refl _) (.cells (#[.int .i64 0, .string ⟨#[]⟩] : Array Value) TTx))
      have hsz := S4.out.sz
      have K4 := Lib.hid (S4.out.below NB.out)
      have e0 : (w4.alloc (.cells (#[.int .i64 0, .string ⟨#[]⟩] : Array Value) TTx)).cell? ⟨q, 27, none⟩ = some (.slice amu mu.length cmu) := (K4.out.box.cell 27).trans rfl
      go_upto_region 32 with (at_builtin; refine wpList_appL (by rfl) _ _ _ (by rfl) TTx itx (.agg #[.int .i64 0, .string ⟨#[]⟩]) 2 24 Try.underlying27 hitx ztx0 ztx1 ztx2 (by rfl) (by decide) q (by simp; omega) txA (txA_one) _ [(0, [])] (by rfl) (ownA_lit Z.out (by rfl) (by omega) rfl) q _ mu (by rfl) (InL.move H6.out.2.2.2.2.2 (fun _ _ h => h) (Nat.le_refl _) K4.out.hb) (by simp; omega) (by decide) ?_; intro L b9 d9 w5 hL hown hg; have HL := Lib.hid hL; have HO := Lib.hid hown; have N5 := Lib.hid (new_below hg); have K5 := Lib.hid (S4.out.below N5.out); have f0 := ((K5.out.box.cell 27).trans rfl : w5.cell? ⟨q, 27, none⟩ = some (.slice amu mu.length cmu)); have f1 := K5.out.box.frozen 27; have f2 := K5.out.box.lt; clear hL hown hg)
      have KE := Lib.hid (K5.out.set 27 (.slice b9 L.length d9))
      rw [tb27] at KE
      have EN := Lib.hid (HO.out.setq K5.out.box (by decide) 27 (.slice b9 L.length d9))
      have EO1 := Lib.hid ((Osh.out.bel N5.out).setq K5.out.box (by decide) 27 (.slice b9 L.length d9))
      have EO2 := Lib.hid ((Ocu.out.bel N5.out).setq K5.out.box (by decide) 27 (.slice b9 L.length d9))
      have EO3 := Lib.hid ((Oun.out.bel N5.out).setq K5.out.box (by decide) 27 (.slice b9 L.length d9))
      clear f0 f1 f2 e0
      generalize w5.setCell ⟨q, 27, none⟩ (.slice b9 L.length d9) = wE at *
      go_wp2_with (first | (refine wpList_load_box (by rfl) TTb (.tmp 2) (by rfl) q (by rfl) (tbA f mg (.slice bsh sh.length dsh) (.slice alo lo.length clo) (.slice ams ms.length cms) (.slice bcu cu.length dcu) (.slice bun un.length dun) (.slice b9 L.length d9)) TTb _ KE.out.box Try.underlying31 (by rfl) (tb_info _ _ _ _ _ _ _ _) ?_) | (refine wpList_store_box (by rfl) TTb (.tmp 4) (.tmp 162) (by rfl) (q + 1) _ (tbA f mg (.slice bsh sh.length dsh) (.slice alo lo.length clo) (.slice ams ms.length cms) (.slice bcu cu.length dcu) (.slice bun un.length dun) (.slice b9 L.length d9)) TTb (by rfl) (by rfl) KE.out.zbox (tb_info _ _ _ _ _ _ _ _) (by rfl) (tb_one f _ _ _ _ _ _ _ _ _ _ _ _ _ _ _ _ _ _ _) ?_; intro wF hxF hgF))
      have hbF : Below q w wF := KE.out.hb.grown hgF (by have := KE.out.sz; omega) (fun j hj => by obtain rfl := Option.some.inj hj; omega)
      have hld := run_loadVar_box (P := Try.prog) hxF Try.underlying31 (by rfl) (tb_info _ _ _ _ _ _ _ _)
      exact bodyPost_ret (v := .tuple #[.agg (tbA f mg (.slice bsh sh.length dsh) (.slice alo lo.length clo) (.slice ams ms.length cms) (.slice bcu cu.length dcu) (.slice bun un.length dun) (.slice b9 L.length d9)), .bool true]) (by simp [results, Try.results6, asAddr, hld]) rfl ⟨true, _, _, _, _, _, _, _, _, _, _, _, _, _, _, _, _, _, _, _, _, rfl, ⟨fin_row HQ.out.symm hbF EO1.out KE.out.zbox hgF, RowL.move H6.out.2.2.2.1 (fin_le HQ.out.symm hbF) hbF, RowL.move H6.out.2.2.2.2.1 (fin_le HQ.out.symm hbF) hbF, fin_cur HQ.out.symm hbF EO2.out KE.out.zbox hgF, fin_unt HQ.out.symm hbF EO3.out KE.out.zbox hgF, fin_tx HQ.out.symm hbF EN.out KE.out.zbox hgF⟩, by rw [← HQ.out]; exact hbF, by rw [← HL.out]; exact .mu⟩
    · skip
      cases cu with
      | nil =>
        have e0 : w4.cell? ⟨q, 25, none⟩ = some (.slice bcu 0 dcu) := (S4.out.box.cell 25).trans rfl
        go_upto_region 26 with fail
        go_wp2_with (first | (refine wpList_load_box (by rfl) TTb (.tmp 2) (by rfl) q (by rfl) (tbA f mg (.slice bsh sh.length dsh) (.slice alo lo.length clo) (.slice ams ms.length cms) (.slice bcu ([] : List CurM).length dcu) (.slice bun un.length dun) (.slice amu mu.length cmu)) TTb _ S4.out.box Try.underlying31 (by rfl) (tb_info _ _ _ _ _ _ _ _) ?_) | (refine wpList_store_box (by rfl) TTb (.tmp 4) (.tmp 138) (by rfl) (q + 1) _ (tbA f mg (.slice bsh sh.length dsh) (.slice alo lo.length clo) (.slice ams ms.length cms) (.slice bcu ([] : List CurM).length dcu) (.slice bun un.length dun) (.slice amu mu.length cmu)) TTb (by rfl) (by rfl) S4.out.zbox (tb_info _ _ _ _ _ _ _ _) (by rfl) (tb_one f _ _ _ _ _ _ _ _ _ _ _ _ _ _ _ _ _ _ _) ?_; intro wF hxF hgF))
        have hbF : Below q w wF := S4.out.hb.grown hgF (by have := S4.out.sz; omega) (fun j hj => by obtain rfl := Option.some.inj hj; omega)
        have hld := run_loadVar_box (P := Try.prog) hxF Try.underlying31 (by rfl) (tb_info _ _ _ _ _ _ _ _)
        exact bodyPost_ret (v := .tuple #[.agg (tbA f mg (.slice bsh sh.length dsh) (.slice alo lo.length clo) (.slice ams ms.length cms) (.slice bcu ([] : List CurM).length dcu) (.slice bun un.length dun) (.slice amu mu.length cmu)), .bool false]) (by simp [results, Try.results6, asAddr, hld]) rfl ⟨false, _, _, _, _, _, _, _, _, _, _, _, _, _, _, _, _, _, _, _, _, rfl, ⟨fin_row HQ.out.symm hbF Osh.out S4.out.zbox hgF, RowL.move H6.out.2.2.2.1 (fin_le HQ.out.symm hbF) hbF, RowL.move H6.out.2.2.2.2.1 (fin_le HQ.out.symm hbF) hbF, fin_cur HQ.out.symm hbF Ocu.out S4.out.zbox hgF, fin_unt HQ.out.symm hbF Oun.out S4.out.zbox hgF, TxL.move H6.out.2.2.2.2.2 (fin_le HQ.out.symm hbF) hbF⟩, by rw [← HQ.out]; exact hbF, .no⟩
      | cons c cs =>
        obtain ⟨g, cp, cur, c8, hv, hqg, hbx, hA, hcl, hcells, hset⟩ := Ocu.out.head
        injection hv with hv1 hv2 hv3
        subst hv1
        obtain ⟨u, rfl, htx⟩ := hA
        have e0 : w4.cell? ⟨q, 25, none⟩ = some (.slice (some ⟨g, 0, none⟩) (cs.length + 1) dcu) := (S4.out.box.cell 25).trans rfl
        have e1 : w4.cell? ⟨g, 7, none⟩ = some (.int .i64 c.ci) := (hcells 7 (by decide)).trans rfl
        have e2 := hbx.frozen 7
        have e3 := hbx.lt
        have hb0 := (kci c cs rfl).1
        have hb1 := (kci c cs rfl).2
        have hn0 : (0 : Int) < ((cs.length + 1 : Nat) : Int) := by omega
        have HX := Lib.hid hbx
        have HS := Lib.hid hset
        have HTX := Lib.hid htx
        clear hbx hset htx hcells hcl
        go_upto_region 32 with fail
        have KE := Lib.hid (S4.out.other HX.out (by decide) hqg 7 (.int .i64 (c.ci + 1)))
        have EO1 := Lib.hid (Osh.out.setq HX.out (by decide) 7 (.int .i64 (c.ci + 1)))
        have EO2 := Lib.hid (HS.out 7 (.int .i64 (c.ci + 1)) ({ c with ci := c.ci + 1 } : CurM) (by decide) ⟨u, rfl, HTX.out⟩)
        have EO3 := Lib.hid (Oun.out.setq HX.out (by decide) 7 (.int .i64 (c.ci + 1)))
        clear e0 e1 e2 e3
        generalize w4.setCell ⟨g, 7, none⟩ (.int .i64 (c.ci + 1)) = wE at *
        go_wp2_with (first | (refine wpList_load_box (by rfl) TTb (.tmp 2) (by rfl) q (by rfl) (tbA f mg (.slice bsh sh.length dsh) (.slice alo lo.length clo) (.slice ams ms.length cms) (.slice (some ⟨g, 0, none⟩) (({ c with ci := c.ci + 1 } : CurM) :: cs).length dcu) (.slice bun un.length dun) (.slice amu mu.length cmu)) TTb _ KE.out.box Try.underlying31 (by rfl) (tb_info _ _ _ _ _ _ _ _) ?_) | (refine wpList_store_box (by rfl) TTb (.tmp 4) (.tmp 162) (by rfl) (q + 1) _ (tbA f mg (.slice bsh sh.length dsh) (.slice alo lo.length clo) (.slice ams ms.length cms) (.slice (some ⟨g, 0, none⟩) (({ c with ci := c.ci + 1 } : CurM) :: cs).length dcu) (.slice bun un.length dun) (.slice amu mu.length cmu)) TTb (by rfl) (by rfl) KE.out.zbox (tb_info _ _ _ _ _ _ _ _) (by rfl) (tb_one f _ _ _ _ _ _ _ _ _ _ _ _ _ _ _ _ _ _ _) ?_; intro wF hxF hgF))
        have hbF : Below q w wF := KE.out.hb.grown hgF (by have := KE.out.sz; omega) (fun j hj => by obtain rfl := Option.some.inj hj; omega)
        have hld := run_loadVar_box (P := Try.prog) hxF Try.underlying31 (by rfl) (tb_info _ _ _ _ _ _ _ _)
        exact bodyPost_ret (v := .tuple #[.agg (tbA f mg (.slice bsh sh.length dsh) (.slice alo lo.length clo) (.slice ams ms.length cms) (.slice (some ⟨g, 0, none⟩) (({ c with ci := c.ci + 1 } : CurM) :: cs).length dcu) (.slice bun un.length dun) (.slice amu mu.length cmu)), .bool true]) (by simp [results, Try.results6, asAddr, hld]) rfl ⟨true, _, _, _, _, _, _, _, _, _, _, _, _, _, _, _, _, _, _, _, _, rfl, ⟨fin_row HQ.out.symm hbF EO1.out KE.out.zbox hgF, RowL.move H6.out.2.2.2.1 (fin_le HQ.out.symm hbF) hbF, RowL.move H6.out.2.2.2.2.1 (fin_le HQ.out.symm hbF) hbF, fin_cur HQ.out.symm hbF EO2.out KE.out.zbox hgF, fin_unt HQ.out.symm hbF EO3.out KE.out.zbox hgF, TxL.move H6.out.2.2.2.2.2 (fin_le HQ.out.symm hbF) hbF⟩, by rw [← HQ.out]; exact hbF, .ci c cs rfl⟩
    · skip
      cases sh with
      | nil =>
        have e0 : w4.cell? ⟨q, 22, none⟩ = some (.slice bsh 0 dsh) := (S4.out.box.cell 22).trans rfl
        go_upto_region 30 with fail
        go_wp2_with (first | (refine wpList_load_box (by rfl) TTb (.tmp 2) (by rfl) q (by rfl) (tbA f mg (.slice bsh ([] : List RowM).length dsh) (.slice alo lo.length clo) (.slice ams ms.length cms) (.slice bcu cu.length dcu) (.slice bun un.length dun) (.slice amu mu.length cmu)) TTb _ S4.out.box Try.underlying31 (by rfl) (tb_info _ _ _ _ _ _ _ _) ?_) | (refine wpList_store_box (by rfl) TTb (.tmp 4) (.tmp 153) (by rfl) (q + 1) _ (tbA f mg (.slice bsh ([] : List RowM).length dsh) (.slice alo lo.length clo) (.slice ams ms.length cms) (.slice bcu cu.length dcu) (.slice bun un.length dun) (.slice amu mu.length cmu)) TTb (by rfl) (by rfl) S4.out.zbox (tb_info _ _ _ _ _ _ _ _) (by rfl) (tb_one f _ _ _ _ _ _ _ _ _ _ _ _ _ _ _ _ _ _ _) ?_; intro wF hxF hgF))
        have hbF : Below q w wF := S4.out.hb.grown hgF (by have := S4.out.sz; omega) (fun j hj => by obtain rfl := Option.some.inj hj; omega)
        have hld := run_loadVar_box (P := Try.prog) hxF Try.underlying31 (by rfl) (tb_info _ _ _ _ _ _ _ _)
        exact bodyPost_ret (v := .tuple #[.agg (tbA f mg (.slice bsh ([] : List RowM).length dsh) (.slice alo lo.length clo) (.slice ams ms.length cms) (.slice bcu cu.length dcu) (.slice bun un.length dun) (.slice amu mu.length cmu)), .bool false]) (by simp [results, Try.results6, asAddr, hld]) rfl ⟨false, _, _, _, _, _, _, _, _, _, _, _, _, _, _, _, _, _, _, _, _, rfl, ⟨fin_row HQ.out.symm hbF Osh.out S4.out.zbox hgF, RowL.move H6.out.2.2.2.1 (fin_le HQ.out.symm hbF) hbF, RowL.move H6.out.2.2.2.2.1 (fin_le HQ.out.symm hbF) hbF, fin_cur HQ.out.symm hbF Ocu.out S4.out.zbox hgF, fin_unt HQ.out.symm hbF Oun.out S4.out.zbox hgF, TxL.move H6.out.2.2.2.2.2 (fin_le HQ.out.symm hbF) hbF⟩, by rw [← HQ.out]; exact hbF, .no⟩
      | cons r rs =>
        obtain ⟨g, cp, cur, c8, hv, hqg, hbx, hA, hcl, hcells, hset⟩ := Osh.out.head
        injection hv with hv1 hv2 hv3
        subst hv1
        obtain ⟨u, rfl, htx⟩ := hA
        have e0 : w4.cell? ⟨q, 22, none⟩ = some (.slice (some ⟨g, 0, none⟩) (rs.length + 1) dsh) := (S4.out.box.cell 22).trans rfl
        have e1 : w4.cell? ⟨g, 0, none⟩ = some (.int .i64 r.1) := (hcells 0 (by decide)).trans rfl
        have e2 := hbx.frozen 0
        have e3 := hbx.lt
        have hb0 := (kma r rs rfl).1
        have hb1 := (kma r rs rfl).2
        have hn0 : (0 : Int) < ((rs.length + 1 : Nat) : Int) := by omega
        have HX := Lib.hid hbx
        have HS := Lib.hid hset
        have HTX := Lib.hid htx
        clear hbx hset htx hcells hcl
        go_upto_region 32 with fail
        have KE := Lib.hid (S4.out.other HX.out (by decide) hqg 0 (.int .i64 (r.1 + 1)))
        have EO1 := Lib.hid (HS.out 0 (.int .i64 (r.1 + 1)) ((r.1 + 1, r.2) : RowM) (by decide) ⟨u, rfl, HTX.out⟩)
        have EO2 := Lib.hid (Ocu.out.setq HX.out (by decide) 0 (.int .i64 (r.1 + 1)))
        have EO3 := Lib.hid (Oun.out.setq HX.out (by decide) 0 (.int .i64 (r.1 + 1)))
        clear e0 e1 e2 e3
        generalize w4.setCell ⟨g, 0, none⟩ (.int .i64 (r.1 + 1)) = wE at *
        go_wp2_with (first | (refine wpList_load_box (by rfl) TTb (.tmp 2) (by rfl) q (by rfl) (tbA f mg (.slice (some ⟨g, 0, none⟩) (((r.1 + 1, r.2) : RowM) :: rs).length dsh) (.slice alo lo.length clo) (.slice ams ms.length cms) (.slice bcu cu.length dcu) (.slice bun un.length dun) (.slice amu mu.length cmu)) TTb _ KE.out.box Try.underlying31 (by rfl) (tb_info _ _ _ _ _ _ _ _) ?_) | (refine wpList_store_box (by rfl) TTb (.tmp 4) (.tmp 162) (by rfl) (q + 1) _ (tbA f mg (.slice (some ⟨g, 0, none⟩) (((r.1 + 1, r.2) : RowM) :: rs).length dsh) (.slice alo lo.length clo) (.slice ams ms.length cms) (.slice bcu cu.length dcu) (.slice bun un.length dun) (.slice amu mu.length cmu)) TTb (by rfl) (by rfl) KE.out.zbox (tb_info _ _ _ _ _ _ _ _) (by rfl) (tb_one f _ _ _ _ _ _ _ _ _ _ _ _ _ _ _ _ _ _ _) ?_; intro wF hxF hgF))
        have hbF : Below q w wF := KE.out.hb.grown hgF (by have := KE.out.sz; omega) (fun j hj => by obtain rfl := Option.some.inj hj; omega)
        have hld := run_loadVar_box (P := Try.prog) hxF Try.underlying31 (by rfl) (tb_info _ _ _ _ _ _ _ _)
        exact bodyPost_ret (v := .tuple #[.agg (tbA f mg (.slice (some ⟨g, 0, none⟩) (((r.1 + 1, r.2) : RowM) :: rs).length dsh) (.slice alo lo.length clo) (.slice ams ms.length cms) (.slice bcu cu.length dcu) (.slice bun un.length dun) (.slice amu mu.length cmu)), .bool true]) (by simp [results, Try.results6, asAddr, hld]) rfl ⟨true, _, _, _, _, _, _, _, _, _, _, _, _, _, _, _, _, _, _, _, _, rfl, ⟨fin_row HQ.out.symm hbF EO1.out KE.out.zbox hgF, RowL.move H6.out.2.2.2.1 (fin_le HQ.out.symm hbF) hbF, RowL.move H6.out.2.2.2.2.1 (fin_le HQ.out.symm hbF) hbF, fin_cur HQ.out.symm hbF EO2.out KE.out.zbox hgF, fin_unt HQ.out.symm hbF EO3.out KE.out.zbox hgF, TxL.move H6.out.2.2.2.2.2 (fin_le HQ.out.symm hbF) hbF⟩, by rw [← HQ.out]; exact hbF, .mag r rs rfl⟩
end Go.Proofs.Ytkbigfkpgjhojaa
