/- The walk of the law TableBack. -/
import Derived.Test.YtoddggemedhnnaaBkF
import Derived.Laws.BitsAllLaws
namespace Go.Proofs.Ytoddggemedhnnaa
open Go.RowKit Florin
set_option linter.unusedVariables false
set_option linter.unusedSimpArgs false
attribute [local go_sem ↓] Go.wp_at_zero Go.wp_at_succ
theorem and_20 (n : Int) : ∃ k : Nat, k ≤ 1048575 ∧ bits .and .i64 n 1048575 = (k : Int) := by
  refine ⟨(BitVec.ofInt 64 n &&& BitVec.ofInt 64 1048575).toNat, ?_, ?_⟩
  · rw [BitVec.toNat_and]
    have : (BitVec.ofInt 64 (1048575 : Int)).toNat = 1048575 := by decide
    rw [this]
    exact Nat.and_le_right
  · show IntKind.i64.wrap ((BitVec.ofInt 64 n &&& BitVec.ofInt 64 1048575).toNat : Int) = _
    have h1 : (BitVec.ofInt 64 n &&& BitVec.ofInt 64 1048575).toNat ≤ 1048575 := by
      rw [BitVec.toNat_and]
      have : (BitVec.ofInt 64 (1048575 : Int)).toNat = 1048575 := by decide
      rw [this]
      exact Nat.and_le_right
    exact IntWalk.i64_in _ (by omega)
theorem enc_pos (t : TblM) : 0 < (encT t).length := by
  unfold encT
  rw [List.length_append]
  have := eL_pos eTx t.mu
  unfold eTxs
  omega
theorem tx_get (f : Nat → List UInt8) : ∀ k, k < 27 → ((List.range 27).map f).getD k [] = f k := fun k hk => by
  rw [List.getD_eq_getElem?_getD, List.getElem?_map, List.getElem?_range hk]
  rfl
set_option maxRecDepth 100000 in
set_option maxHeartbeats 25600000 in
theorem tableBack_core (f : Nat → List UInt8) (mg : Int) (vsh vlo vms vcu vun vmu : Value) (sh lo ms : List RowM) (cu : List CurM) (un : List UntM) (mu : List TxM) (cut : Int) (w : World) (hg : Good f mg sh lo ms cu un mu) (hs6 : Six w vsh vlo vms vcu vun vmu sh lo ms cu un mu) (hfl : ∀ k, k < 27 → (f k).length ≤ maxLen) (hgc : ∀ c ∈ cu, c.code.length ≤ 1048576 ∧ c.sym.length ≤ 1048576 ∧ c.nar.length ≤ 1048576)
    (hby : ckTb f mg sh lo ms cu un mu → ∀ w', Below w.heap.size w w' → Calls Try.prog 9 #[.agg (tbA f mg vsh vlo vms vcu vun vmu)] w' fun e w'' => e = .returned (S (encT (tmOf f mg sh lo ms cu un mu))) ∧ Below w'.heap.size w' w'') :
    Calls Try.prog 3 #[.agg (tbA f mg vsh vlo vms vcu vun vmu), .int .i64 cut] w fun e w' => e = .returned (.bool true) ∧ Below w.heap.size w w' := by
  have HSX := Lib.hid hs6
  obtain ⟨ash, csh, rfl, _⟩ : ∃ a c, vsh = .slice a sh.length c ∧ True := by obtain ⟨a, c, e, _⟩ := hs6.sh; exact ⟨a, c, e, trivial⟩
  obtain ⟨alo, clo, rfl, _⟩ : ∃ a c, vlo = .slice a lo.length c ∧ True := by obtain ⟨a, c, e, _⟩ := hs6.lo; exact ⟨a, c, e, trivial⟩
  obtain ⟨ams, cms, rfl, _⟩ : ∃ a c, vms = .slice a ms.length c ∧ True := by obtain ⟨a, c, e, _⟩ := hs6.ms; exact ⟨a, c, e, trivial⟩
  obtain ⟨acu, ccu, rfl, _⟩ : ∃ a c, vcu = .slice a cu.length c ∧ True := by obtain ⟨a, c, e, _⟩ := hs6.cu; exact ⟨a, c, e, trivial⟩
  obtain ⟨aun, cun, rfl, _⟩ : ∃ a c, vun = .slice a un.length c ∧ True := by obtain ⟨a, c, e, _⟩ := hs6.un; exact ⟨a, c, e, trivial⟩
  obtain ⟨amu, cmu, rfl, _⟩ : ∃ a c, vmu = .slice a mu.length c ∧ True := by obtain ⟨a, c, e, _⟩ := hs6.mu; exact ⟨a, c, e, trivial⟩
  have HIX := Lib.hid (tb_info f mg (.slice ash sh.length csh) (.slice alo lo.length clo) (.slice ams ms.length cms) (.slice acu cu.length ccu) (.slice aun un.length cun) (.slice amu mu.length cmu))
  have HPL : Hid (∀ w', Below w.heap.size w w' → Calls Try.prog 7 #[.agg (tbA f mg (.slice ash sh.length csh) (.slice alo lo.length clo) (.slice ams ms.length cms) (.slice acu cu.length ccu) (.slice aun un.length cun) (.slice amu mu.length cmu))] w' fun e w'' => CkR e (ckTb f mg sh lo ms cu un mu) ∧ Below w'.heap.size w' w'') := Lib.hid (fun w' hb => plain_as f mg _ _ _ _ _ _ sh lo ms cu un mu w' (hs6.below hb).sh (hs6.below hb).lo (hs6.below hb).ms (hs6.below hb).cu (hs6.below hb).un (hs6.below hb).mu hfl hgc)
  have HEN : Hid (ckTb f mg sh lo ms cu un mu → ∀ w', Below w.heap.size w w' → Calls Try.prog 8 #[.agg (tbA f mg (.slice ash sh.length csh) (.slice alo lo.length clo) (.slice ams ms.length cms) (.slice acu cu.length ccu) (.slice aun un.length cun) (.slice amu mu.length cmu))] w' fun e w'' => e = .returned (S (encT (tmOf f mg sh lo ms cu un mu))) ∧ Below w'.heap.size w' w'') := Lib.hid (fun hk w' hb => encode_tb f mg _ _ _ _ _ _ (tmOf f mg sh lo ms cu un mu) w' w'.heap.size (Nat.le_refl _) rfl rfl (hs6.below hb).sh (hs6.below hb).lo (hs6.below hb).ms (hs6.below hb).cu (hs6.below hb).un (hs6.below hb).mu hg.wmg.2 (nRows_of hg.gsh) (nRows_of hg.glo) (nRows_of hg.gms) (nCurs_of hg.gcu) (nUnts_of hg.gun) (fun x hx => nTx_of (hg.gmu x hx)) (enc_max hg hk))
  have HBY := Lib.hid hby
  have HG := Lib.hid hg
  obtain ⟨X, hX⟩ : ∃ X, X = (tbA f mg (.slice ash sh.length csh) (.slice alo lo.length clo) (.slice ams ms.length cms) (.slice acu cu.length ccu) (.slice aun un.length cun) (.slice amu mu.length cmu)) := ⟨_, rfl⟩
  rw [← hX] at HIX HPL HEN HBY ⊢
  have HXE := Lib.hid hX
  obtain ⟨E, hE⟩ : ∃ E, E = encT (tmOf f mg sh lo ms cu un mu) := ⟨_, rfl⟩
  rw [← hE] at HEN HBY
  have HEE := Lib.hid hE
  clear hX hE hby hg hfl hgc hs6
  obtain ⟨kc, hkc, hkand⟩ := and_20 cut
  have HKA := Lib.hid hkand
  clear hkand
  have HB0 := Lib.hid ((Below.refl w.heap.size w).alloc (Nat.le_refl _) (.cells X TTb))
  have HX0 := Lib.hid (BoxT.new w X TTb)
  go_enter Try.func3, Try.ntmps3
  go_wp2_with fail
  generalize w.alloc (.cells X TTb) = w0 at *
  with_reducible refine (head15 _).mono ?_
  rintro e w1 ⟨rfl, hb⟩
  have B1 := Lib.hid (HB0.out.trans (hb.mono HB0.out.size))
  have X1 := Lib.hid (HX0.out.below hb)
  clear hb HB0 HX0
  go_wp2_with (first | (refine wpList_load_box (by rfl) TTb (.tmp 2) (by rfl) w.heap.size (by rfl) X TTb _ X1.out Try.underlying31 (by rfl) HIX.out ?_))
  with_reducible refine (HPL.out _ B1.out).mono ?_
  rintro e w2 ⟨⟨b, rfl, hck⟩, hb⟩
  have B2 := Lib.hid (B1.out.trans (hb.mono B1.out.size))
  have X2 := Lib.hid (X1.out.below hb)
  clear hb B1 X1 HPL
  cases b with
  | false =>
    clear hck
    go_wp2
    go_ret
    exact ⟨rfl, B2.out⟩
  | true =>
  have HK := Lib.hid (hck rfl)
  clear hck
  go_wp2_with (first | (refine wpList_load_box (by rfl) TTb (.tmp 2) (by rfl) w.heap.size (by rfl) X TTb _ X2.out Try.underlying31 (by rfl) HIX.out ?_))
  with_reducible refine (HEN.out HK.out _ B2.out).mono ?_
  rintro e w3 ⟨rfl, hb⟩
  have B3 := Lib.hid (B2.out.trans (hb.mono B2.out.size))
  have X3 := Lib.hid (X2.out.below hb)
  clear hb B2 X2 HEN
  go_wp2_with (first | (refine wpList_load_box (by rfl) TTb (.tmp 2) (by rfl) w.heap.size (by rfl) X TTb _ X3.out Try.underlying31 (by rfl) HIX.out ?_))
  with_reducible refine (HBY.out HK.out _ B3.out).mono ?_
  rintro e w4 ⟨rfl, hb⟩
  have B4 := Lib.hid (B3.out.trans (hb.mono B3.out.size))
  have X4 := Lib.hid (X3.out.below hb)
  clear hb B3 X3 HBY
  have hel : (⟨E.toArray⟩ : ByteArray).size = E.length := arr_size E
  have HEL := Lib.hid hel
  clear hel
  have hpos : 0 < E.length := by rw [HEE.out]; exact enc_pos _
  have hbig : E.length ≤ 900000000 := by rw [HEE.out]; exact enc_max HG.out HK.out
  by_cases hlong : 65536 < E.length
  · have hlongi : 65536 < (E.length : Int) := by omega
    have HDM := Lib.hid (fun w' : World => decode_many ⟨E.toArray⟩ w' (by rw [arr_size]; exact hlong))
    go_wp2_with fail
    with_reducible refine (HDM.out _).mono ?_
    rintro e w5 ⟨rfl, hb⟩
    have B5 := Lib.hid (B4.out.trans (hb.mono B4.out.size))
    have HX5 := Lib.hid (BoxT.new w5 Z34 TTb)
    have hs5 := B5.out.size
    clear hb B4 X4 HDM
    rw [← Z34_eq] at HX5
    go_upto_region 9 with (refine wpList_store_box (by rfl) TTb (.tmp 6) (.tmp 26) (by rfl) w5.heap.size _ Z34 TTb (by rfl) (by rfl) HX5.out Z34_info (by rw [Z34_eq]) Z34_one ?_; intro w6 hx6 hg6)
    rw [Z34_eq] at *
    have X6 := Lib.hid hx6
    have B6 := Lib.hid (below_grown (B5.out.alloc B5.out.size (.cells Z34 TTb)) (by simp; omega) (by omega) hg6)
    clear hx6 hg6 HX5 B5
    generalize w5.heap.size = q at *
    go_wp2_with (first | (refine wpList_load_boxG (by rfl) TTb (.tmp 6) (by rfl) q (by rfl) Z34 TTb _ X6.out Try.underlying31 (by rfl) Z34_info ?_))
    rw [Z34_eq]
    with_reducible refine (same_zero _).mono ?_
    rintro y w7 ⟨rfl, hb⟩
    have B7 := Lib.hid (B6.out.trans (hb.mono B6.out.size))
    clear hb B6
    go_wp2
    go_ret
    exact ⟨rfl, B7.out⟩
  have hlongi : ¬ 65536 < (E.length : Int) := by omega
  have hshort : E.length ≤ 65536 := by omega
  obtain ⟨t, ht⟩ : ∃ t, t = tmOf f mg sh lo ms cu un mu := ⟨_, rfl⟩
  have hin : inTbl t := by rw [ht]; exact in_of HG.out HK.out
  have h27 : t.tx.length = 27 := by rw [ht]; show ((List.range 27).map f).length = 27; rw [List.length_map, List.length_range]
  have hEt : E = encT t := by rw [ht]; exact HEE.out
  have HD2 := Lib.hid (dec_yes hEt hin h27 hshort)
  obtain ⟨m, hm⟩ : ∃ m, m = kc % E.length := ⟨_, rfl⟩
  have hml : m < E.length := by rw [hm]; exact Nat.mod_lt _ hpos
  have HRM : Hid ((kc : Int).tmod (E.length : Int) = (m : Int)) := Lib.hid (by rw [hm]; exact rem_as _ _)
  have HD3 := Lib.hid (dec_cut hEt hin h27 hshort m hml)
  have hd4 := dec_more hEt hin h27 hshort
  obtain ⟨z4, hz4, hd4⟩ := hd4
  have HD4 := Lib.hid hd4
  have HZ4 := Lib.hid hz4
  have HT := Lib.hid ht
  clear hd4 hz4 hm hEt hin h27 ht HEE
  go_wp2_with fail
  with_reducible refine (HD2.out _).mono ?_
  rintro y w5 ⟨usH, uLo, uMs, uCu, uUn, uMu, rfl, htl, hb⟩
  clear HD2
  obtain ⟨a1, c1, rfl, _⟩ : ∃ a c, usH = .slice a t.sh.length c ∧ True := by obtain ⟨a, c, e, _⟩ := htl.sh; exact ⟨a, c, e, trivial⟩
  obtain ⟨a2, c2, rfl, _⟩ : ∃ a c, uLo = .slice a t.lo.length c ∧ True := by obtain ⟨a, c, e, _⟩ := htl.lo; exact ⟨a, c, e, trivial⟩
  obtain ⟨a3, c3, rfl, _⟩ : ∃ a c, uMs = .slice a t.ms.length c ∧ True := by obtain ⟨a, c, e, _⟩ := htl.ms; exact ⟨a, c, e, trivial⟩
  obtain ⟨a4, c4, rfl, _⟩ : ∃ a c, uCu = .slice a t.cu.length c ∧ True := by obtain ⟨a, c, e, _⟩ := htl.cu; exact ⟨a, c, e, trivial⟩
  obtain ⟨a5, c5, rfl, _⟩ : ∃ a c, uUn = .slice a t.un.length c ∧ True := by obtain ⟨a, c, e, _⟩ := htl.un; exact ⟨a, c, e, trivial⟩
  obtain ⟨a6, c6, rfl, _⟩ : ∃ a c, uMu = .slice a t.mu.length c ∧ True := by obtain ⟨a, c, e, _⟩ := htl.mu; exact ⟨a, c, e, trivial⟩
  have HIN := Lib.hid (tb_info (fun j => t.tx.getD j []) t.mg (.slice a1 t.sh.length c1) (.slice a2 t.lo.length c2) (.slice a3 t.ms.length c3) (.slice a4 t.cu.length c4) (.slice a5 t.un.length c5) (.slice a6 t.mu.length c6))
  have HON := Lib.hid (tb_one (fun j => t.tx.getD j []) t.mg a1 a2 a3 a4 a5 a6 t.sh.length t.lo.length t.ms.length t.cu.length t.un.length t.mu.length c1 c2 c3 c4 c5 c6)
  obtain ⟨XT, hXT⟩ : ∃ X, X = tbA (fun j => t.tx.getD j []) t.mg (.slice a1 t.sh.length c1) (.slice a2 t.lo.length c2) (.slice a3 t.ms.length c3) (.slice a4 t.cu.length c4) (.slice a5 t.un.length c5) (.slice a6 t.mu.length c6) := ⟨_, rfl⟩
  have HSZ : Hid (Z34.size = XT.size) := Lib.hid (by rw [hXT]; rfl)
  dsimp only
  rw [← hXT] at HIN HON ⊢
  have HUE := Lib.hid hXT
  clear hXT
  have HT5 := Lib.hid (Six.of htl)
  have B5 := Lib.hid (B4.out.trans (hb.mono B4.out.size))
  have XR5 := Lib.hid (X4.out.below hb)
  have HX5 := Lib.hid (BoxT.new w5 Z34 TTb)
  have hs5 := B5.out.size
  clear htl hb B4 X4
  rw [← Z34_eq] at HX5
  go_upto_region 9 with (refine wpList_store_box (by rfl) TTb (.tmp 6) (.tmp 26) (by rfl) w5.heap.size _ XT TTb (by rfl) (by rfl) HX5.out HIN.out (by rw [Z34_eq]; exact HSZ.out) HON.out ?_; intro w6 hx6 hg6)
  rw [Z34_eq] at *
  have N6 := Lib.hid (below_grown ((Below.refl w5.heap.size w5).alloc (Nat.le_refl _) (.cells Z34 TTb)) (by simp) (Nat.le_refl _) hg6)
  have U6 := Lib.hid hx6
  have B6 := Lib.hid (B5.out.trans (N6.out.mono hs5))
  have X6 := Lib.hid (XR5.out.below N6.out)
  have T6 := Lib.hid (HT5.out.below N6.out)
  clear hx6 hg6 HX5 B5 XR5 HT5 N6 HSZ HON
  generalize w5.heap.size = qu at *
  have hka := HKA.out
  have hrm := HRM.out
  have hm0 : ¬ (E.length : Int) = 0 := by omega
  have hm1 : (0 : Int) ≤ (m : Int) := by omega
  have hm2 : (m : Int) ≤ (E.length : Int) := by omega
  go_wp2_with fail
  rw [cutE]
  with_reducible refine (HD3.out _).mono ?_
  rintro y w7 ⟨rfl, hb⟩
  have B7 := Lib.hid (B6.out.trans (hb.mono B6.out.size))
  have U7 := Lib.hid (U6.out.below hb)
  have X7 := Lib.hid (X6.out.below hb)
  have T7 := Lib.hid (T6.out.below hb)
  have HX7 := Lib.hid (BoxT.new w7 Z34 TTb)
  have hs7 := B7.out.size
  clear hb B6 U6 X6 T6 HD3 hka hrm hm0 hm1 hm2
  rw [← Z34_eq] at HX7
  go_upto_region 12 with (refine wpList_store_box (by rfl) TTb (.tmp 8) (.tmp 47) (by rfl) w7.heap.size _ Z34 TTb (by rfl) (by rfl) HX7.out Z34_info (by rw [Z34_eq]) Z34_one ?_; intro w8 hx8 hg8)
  rw [Z34_eq] at *
  have N8 := Lib.hid (below_grown ((Below.refl w7.heap.size w7).alloc (Nat.le_refl _) (.cells Z34 TTb)) (by simp) (Nat.le_refl _) hg8)
  have V8 := Lib.hid hx8
  have B8 := Lib.hid (B7.out.trans (N8.out.mono hs7))
  have U8 := Lib.hid (U7.out.below N8.out)
  have X8 := Lib.hid (X7.out.below N8.out)
  have T8 := Lib.hid (T7.out.below N8.out)
  clear hx8 hg8 HX7 B7 U7 X7 T7 N8
  generalize w7.heap.size = qv at *
  have hz0 : ¬ 9223372036854775807 < E.length + 1 := by omega
  go_wp2_with fail
  rw [zcat]
  with_reducible refine (HD4.out _).mono ?_
  rintro y w9 ⟨rfl, hb⟩
  have B9 := Lib.hid (B8.out.trans (hb.mono B8.out.size))
  have U9 := Lib.hid (U8.out.below hb)
  have V9 := Lib.hid (V8.out.below hb)
  have X9 := Lib.hid (X8.out.below hb)
  have T9 := Lib.hid (T8.out.below hb)
  have HX9 := Lib.hid (BoxT.new w9 Z34 TTb)
  have hs9 := B9.out.size
  clear hb B8 U8 V8 X8 T8 HD4 hz0
  rw [← Z34_eq] at HX9
  go_upto_region 13 with (refine wpList_store_box (by rfl) TTb (.tmp 10) (.tmp 53) (by rfl) w9.heap.size _ Z34 TTb (by rfl) (by rfl) HX9.out Z34_info (by rw [Z34_eq]) Z34_one ?_; intro w10 hx10 hg10)
  rw [Z34_eq] at *
  have N10 := Lib.hid (below_grown ((Below.refl w9.heap.size w9).alloc (Nat.le_refl _) (.cells Z34 TTb)) (by simp) (Nat.le_refl _) hg10)
  have Y10 := Lib.hid hx10
  have B10 := Lib.hid (B9.out.trans (N10.out.mono hs9))
  have U10 := Lib.hid (U9.out.below N10.out)
  have V10 := Lib.hid (V9.out.below N10.out)
  have X10 := Lib.hid (X9.out.below N10.out)
  have T10 := Lib.hid (T9.out.below N10.out)
  clear hx10 hg10 HX9 B9 U9 V9 X9 T9 N10
  generalize w9.heap.size = qy at *
  have HSU : Hid (∀ w', Below w10.heap.size w10 w' → Calls Try.prog 11 #[.agg XT, .agg X] w' fun e w'' => e = .returned (.bool true) ∧ Below w'.heap.size w' w'') := Lib.hid (by
    intro w' hb'
    have ht := HT.out
    subst ht
    rw [HUE.out, HXE.out]
    exact same_six (T10.out.below hb') (HSX.out.below (B10.out.trans (hb'.mono B10.out.size))) (tx_get f))
  have HSV : Hid (∀ w', Below w10.heap.size w10 w' → Calls Try.prog 11 #[.agg X, .agg XT] w' fun e w'' => e = .returned (.bool true) ∧ Below w'.heap.size w' w'') := Lib.hid (by
    intro w' hb'
    have ht := HT.out
    subst ht
    rw [HUE.out, HXE.out]
    exact same_six (HSX.out.below (B10.out.trans (hb'.mono B10.out.size))) (T10.out.below hb') (fun k hk => (tx_get f k hk).symm))
  clear T10
  go_wp2_with (first | (refine wpList_load_boxG (by rfl) TTb (.tmp 6) (by rfl) qu (by rfl) XT TTb _ U10.out Try.underlying31 (by rfl) HIN.out ?_) | (refine wpList_load_boxG (by rfl) TTb (.tmp 2) (by rfl) w.heap.size (by rfl) X TTb _ X10.out Try.underlying31 (by rfl) HIX.out ?_))
  with_reducible refine (HSU.out _ (Below.refl _ _)).mono ?_
  rintro y w11 ⟨rfl, hb⟩
  have N11 := Lib.hid hb
  have B11 := Lib.hid (B10.out.trans (hb.mono B10.out.size))
  have U11 := Lib.hid (U10.out.below hb)
  have V11 := Lib.hid (V10.out.below hb)
  have X11 := Lib.hid (X10.out.below hb)
  have Y11 := Lib.hid (Y10.out.below hb)
  clear hb B10 U10 V10 X10 Y10
  go_wp2_with (first | (refine wpList_load_boxG (by rfl) TTb (.tmp 6) (by rfl) qu (by rfl) XT TTb _ U11.out Try.underlying31 (by rfl) HIN.out ?_) | (refine wpList_load_boxG (by rfl) TTb (.tmp 2) (by rfl) w.heap.size (by rfl) X TTb _ X11.out Try.underlying31 (by rfl) HIX.out ?_))
  with_reducible refine (HSV.out _ N11.out).mono ?_
  rintro y w12 ⟨rfl, hb⟩
  have B12 := Lib.hid (B11.out.trans (hb.mono B11.out.size))
  have V12 := Lib.hid (V11.out.below hb)
  have Y12 := Lib.hid (Y11.out.below hb)
  clear HSU HSV N11 hb B11 V11 Y11
  rcases HZ4.out with rfl | rfl
  · go_wp2_with (first | (refine wpList_load_boxG (by rfl) TTb (.tmp 8) (by rfl) qv (by rfl) Z34 TTb _ V12.out Try.underlying31 (by rfl) Z34_info ?_))
    rw [Z34_eq]
    with_reducible refine (same_zero _).mono ?_
    rintro y w13 ⟨rfl, hb⟩
    have B13 := Lib.hid (B12.out.trans (hb.mono B12.out.size))
    have Y13 := Lib.hid (Y12.out.below hb)
    clear hb B12 Y12
    go_wp2_with (first | (refine wpList_load_boxG (by rfl) TTb (.tmp 10) (by rfl) qy (by rfl) Z34 TTb _ Y13.out Try.underlying31 (by rfl) Z34_info ?_))
    rw [Z34_eq]
    with_reducible refine (same_zero _).mono ?_
    rintro y w14 ⟨rfl, hb⟩
    have B14 := Lib.hid (B13.out.trans (hb.mono B13.out.size))
    clear hb B13 
    go_wp2
    go_ret
    exact ⟨rfl, B14.out⟩
  · go_wp2_with (first | (refine wpList_load_boxG (by rfl) TTb (.tmp 8) (by rfl) qv (by rfl) Z34 TTb _ V12.out Try.underlying31 (by rfl) Z34_info ?_))
    rw [Z34_eq]
    with_reducible refine (same_zero _).mono ?_
    rintro y w13 ⟨rfl, hb⟩
    have B13 := Lib.hid (B12.out.trans (hb.mono B12.out.size))
    have Y13 := Lib.hid (Y12.out.below hb)
    clear hb B12 Y12
    go_wp2_with (first | (refine wpList_load_boxG (by rfl) TTb (.tmp 10) (by rfl) qy (by rfl) Z34 TTb _ Y13.out Try.underlying31 (by rfl) Z34_info ?_))
    rw [Z34_eq]
    with_reducible refine (same_zero _).mono ?_
    rintro y w14 ⟨rfl, hb⟩
    have B14 := Lib.hid (B13.out.trans (hb.mono B13.out.size))
    clear hb B13 
    go_wp2
    go_ret
    exact ⟨rfl, B14.out⟩
end Go.Proofs.Ytoddggemedhnnaa
