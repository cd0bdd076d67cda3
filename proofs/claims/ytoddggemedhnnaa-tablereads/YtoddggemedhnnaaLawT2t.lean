/- The walk of the law TableReads. -/
import Derived.Test.YtoddggemedhnnaaTdI
namespace Go.Proofs.Ytoddggemedhnnaa
open Go.RowKit Florin
set_option linter.unusedVariables false
set_option linter.unusedSimpArgs false
attribute [local go_sem ↓] Go.wp_at_zero Go.wp_at_succ
theorem wp_fields {t : TblM} (h : inTbl t) : t.mg ≤ 9223372036854775807 ∧ (∀ r ∈ t.sh, nRow r) ∧ (∀ r ∈ t.lo, nRow r) ∧ (∀ r ∈ t.ms, nRow r) ∧ (∀ c ∈ t.cu, nCur c) ∧ (∀ u ∈ t.un, nUnt u) ∧ (∀ x ∈ t.mu, nTx x) :=
  ⟨h.mg.2, fun r hr => ⟨(h.sh r hr).1.2, fun x hx => ((h.sh r hr).2 x hx).2⟩, fun r hr => ⟨(h.lo r hr).1.2, fun x hx => ((h.lo r hr).2 x hx).2⟩, fun r hr => ⟨(h.ms r hr).1.2, fun x hx => ((h.ms r hr).2 x hx).2⟩,
   fun c hc => ⟨(h.cu c hc).2.1.2, (h.cu c hc).2.2.1.2, (h.cu c hc).2.2.2.1.2, (h.cu c hc).2.2.2.2.2, fun x hx => ((h.cu c hc).1 x hx).2⟩, fun u hu x hx => (h.un u hu x hx).2, fun x hx => (h.mu x hx).2⟩
set_option maxRecDepth 100000 in
set_option maxHeartbeats 12800000 in
theorem tableReads_walk (s : ByteArray) (w : World) (_hs : s.size ≤ maxLen) :
    Calls Try.prog 4 #[.string s] w fun x w' => x = .returned (.bool true) ∧ Below w.heap.size w w' := by
  by_cases hbig : (3000 : Int) < (s.size : Int)
  · go_enter Try.func4, Try.ntmps4
    go_wp2_with fail
    with_reducible refine (head15 _).mono ?_
    rintro x w1 ⟨rfl, hb⟩
    go_wp2
    go_ret
    exact ⟨rfl, hb⟩
  have hsz : s.size ≤ 3000 := by omega
  have hl : s.data.toList.length ≤ 3000 := by rw [size_list]; exact hsz
  obtain ⟨T, hT⟩ : ∃ T, rdTbl (s.data.toList, false) = T := ⟨_, rfl⟩
  have hin : inTbl T.1 := by rw [← hT]; exact rdTbl_all _
  have htx : T.1.tx.length = 27 := by rw [← hT]; exact rdTbl_len _
  have HIT := Lib.hid hin
  have HTX := Lib.hid htx
  clear hin htx
  cases hd : (!T.2.2 && T.2.1.isEmpty) with
  | false =>
    have hdec := decode_no s.data.toList T
    rw [S_list] at hdec
    have HDEC : Hid (∀ w : World, Calls Try.prog 10 #[.string s] w fun e w' => e = .returned (.tuple #[.agg Z34, .int .i64 1]) ∧ Below w.heap.size w w') := Lib.hid (fun w => hdec w hT (by omega) hd)
    clear hdec hT hd hl
    go_enter Try.func4, Try.ntmps4
    go_wp2_with fail
    with_reducible refine (head15 _).mono ?_
    rintro x w1 ⟨rfl, hb⟩
    have HB1 := Lib.hid hb
    clear hb
    go_wp2_with fail
    with_reducible refine (HDEC.out _).mono ?_
    rintro y w2 ⟨rfl, hb2⟩
    have HB2 := Lib.hid (HB1.out.trans (hb2.mono HB1.out.size))
    have HX2 := Lib.hid (BoxT.new w2 Z34 TTb)
    have hs2 := HB2.out.size
    clear hb2 HDEC HB1
    rw [← Z34_eq] at HX2
    go_upto_region 6 with (refine wpList_store_box (by rfl) TTb (.tmp 3) (.tmp 13) (by rfl) w2.heap.size _ Z34 TTb (by rfl) (by rfl) HX2.out Z34_info (by rw [Z34_eq]) Z34_one ?_; intro w3 hx3 hg3)
    rw [Z34_eq] at *
    have HX3 := Lib.hid hx3
    have HB3 := Lib.hid (below_grown (HB2.out.alloc HB2.out.size (.cells Z34 TTb)) (by simp; omega) (by omega) hg3)
    have hsame : Calls Try.prog 11 #[.agg Z34, .agg Z34] w3 fun e w' => e = .returned (.bool true) ∧ Below w3.heap.size w3 w' := by
      refine (same_as _ _ _ _ _ _ _ _ _ _ _ _ _ _ _ _ _ _ _ _ _ _ _ _ _ _ _ _ w3 (rowL_nil _ _) (rowL_nil _ _) (rowL_nil _ _) (rowL_nil _ _) (rowL_nil _ _) (rowL_nil _ _) (curL_nil _ _) (curL_nil _ _) (untL_nil _ _) (untL_nil _ _) (txL_nil _ _) (txL_nil _ _)).mono ?_
      rintro y w7 ⟨⟨z, rfl, hz⟩, hb7⟩
      obtain rfl : z = true := hz.2 ⟨fun k _ => rfl, rfl, rfl, rfl, rfl, rfl, rfl, rfl⟩
      exact ⟨rfl, hb7⟩
    have HSAME := Lib.hid hsame
    clear hx3 hg3 HX2 HB2 hsame
    generalize w2.heap.size = q at *
    go_wp2_with (first | (refine wpList_load_boxG (by rfl) TTb (.tmp 3) (by rfl) q (by rfl) Z34 TTb _ HX3.out Try.underlying31 (by rfl) Z34_info ?_))
    rw [Z34_eq]
    with_reducible refine (HSAME.out).mono ?_
    rintro y w4 ⟨rfl, hb4⟩
    have HB4 := Lib.hid (HB3.out.trans (hb4.mono HB3.out.size))
    clear hb4 HSAME
    go_wp2
    go_ret
    exact ⟨rfl, HB4.out⟩
  | true =>
    have hd2 : T.2 = ([], false) := by
      obtain ⟨t, l2, f2⟩ := T
      simp at hd
      obtain ⟨h1, h2⟩ := hd
      subst h1
      subst h2
      rfl
    have henc : s.data.toList = encT T.1 := by
      have h := rdTbl_sound.1 s.data.toList T.1 [] (by rw [hT, ← hd2])
      rw [List.append_nil] at h
      exact h
    have hdec := decode_yes s.data.toList T
    rw [S_list] at hdec
    have HDEC := Lib.hid (fun w : World => hdec w hT (by omega) hd)
    have HENC := Lib.hid henc
    have HL := Lib.hid hl
    clear hdec hT hd hd2 henc hl
    go_enter Try.func4, Try.ntmps4
    go_wp2_with fail
    with_reducible refine (head15 _).mono ?_
    rintro x w1 ⟨rfl, hb⟩
    have HB1 := Lib.hid hb
    clear hb
    go_wp2_with fail
    with_reducible refine (HDEC.out _).mono ?_
    rintro y w2 ⟨vsh, vlo, vms, vcu, vun, vmu, rfl, htl, hb2⟩
    clear HDEC
    obtain ⟨a1, c1, rfl, _⟩ : ∃ a c, vsh = .slice a T.1.sh.length c ∧ True := by obtain ⟨a, c, e, _⟩ := htl.sh; exact ⟨a, c, e, trivial⟩
    obtain ⟨a2, c2, rfl, _⟩ : ∃ a c, vlo = .slice a T.1.lo.length c ∧ True := by obtain ⟨a, c, e, _⟩ := htl.lo; exact ⟨a, c, e, trivial⟩
    obtain ⟨a3, c3, rfl, _⟩ : ∃ a c, vms = .slice a T.1.ms.length c ∧ True := by obtain ⟨a, c, e, _⟩ := htl.ms; exact ⟨a, c, e, trivial⟩
    obtain ⟨a4, c4, rfl, _⟩ : ∃ a c, vcu = .slice a T.1.cu.length c ∧ True := by obtain ⟨a, c, e, _⟩ := htl.cu; exact ⟨a, c, e, trivial⟩
    obtain ⟨a5, c5, rfl, _⟩ : ∃ a c, vun = .slice a T.1.un.length c ∧ True := by obtain ⟨a, c, e, _⟩ := htl.un; exact ⟨a, c, e, trivial⟩
    obtain ⟨a6, c6, rfl, _⟩ : ∃ a c, vmu = .slice a T.1.mu.length c ∧ True := by obtain ⟨a, c, e, _⟩ := htl.mu; exact ⟨a, c, e, trivial⟩
    have HIN := Lib.hid (tb_info (fun j => T.1.tx.getD j []) T.1.mg (.slice a1 T.1.sh.length c1) (.slice a2 T.1.lo.length c2) (.slice a3 T.1.ms.length c3) (.slice a4 T.1.cu.length c4) (.slice a5 T.1.un.length c5) (.slice a6 T.1.mu.length c6))
    have HON := Lib.hid (tb_one (fun j => T.1.tx.getD j []) T.1.mg a1 a2 a3 a4 a5 a6 T.1.sh.length T.1.lo.length T.1.ms.length T.1.cu.length T.1.un.length T.1.mu.length c1 c2 c3 c4 c5 c6)
    obtain ⟨XT, hXT⟩ : ∃ X, X = tbA (fun j => T.1.tx.getD j []) T.1.mg (.slice a1 T.1.sh.length c1) (.slice a2 T.1.lo.length c2) (.slice a3 T.1.ms.length c3) (.slice a4 T.1.cu.length c4) (.slice a5 T.1.un.length c5) (.slice a6 T.1.mu.length c6) := ⟨_, rfl⟩
    have HSZ : Hid (Z34.size = XT.size) := Lib.hid (by rw [hXT]; rfl)
    rw [← hXT] at HIN HON ⊢
    have HXE := Lib.hid hXT
    clear hXT
    have HT2 := Lib.hid htl
    have HB2 := Lib.hid (HB1.out.trans (hb2.mono HB1.out.size))
    have HX2 := Lib.hid (BoxT.new w2 Z34 TTb)
    have hs2 := HB2.out.size
    clear htl hb2 HB1
    rw [← Z34_eq] at HX2
    go_upto_region 6 with (refine wpList_store_box (by rfl) TTb (.tmp 3) (.tmp 13) (by rfl) w2.heap.size _ XT TTb (by rfl) (by rfl) HX2.out HIN.out (by rw [Z34_eq]; exact HSZ.out) HON.out ?_; intro w3 hx3 hg3)
    rw [Z34_eq] at *
    have HX3 := Lib.hid hx3
    have HB3 := Lib.hid (below_grown (HB2.out.alloc HB2.out.size (.cells Z34 TTb)) (by simp; omega) (by omega) hg3)
    have HK3 := Lib.hid (KeepA.trans (KeepA.below (show Below w2.heap.size w2 (w2.alloc (.cells Z34 TTb)) from (Below.refl _ _).alloc (Nat.le_refl _) _)) (KeepA.of HX2.out (by decide) (by decide) (by decide) (by decide) hg3))
    have HR := Lib.hid ((HT2.out.keep HK3.out).toL)
    have henc : Calls Try.prog 8 #[.agg XT] w3 fun e w' => e = .returned (.string s) ∧ Below w3.heap.size w3 w' := by
      obtain ⟨n1, n2, n3, n4, n5, n6, n7⟩ := wp_fields HIT.out
      have h := encode_tb (fun j => T.1.tx.getD j []) T.1.mg _ _ _ _ _ _ T.1 w3 w3.heap.size (Nat.le_refl _) (get_all _ HTX.out) rfl HR.out.1 HR.out.2.1 HR.out.2.2.1 HR.out.2.2.2.1 HR.out.2.2.2.2.1 HR.out.2.2.2.2.2 n1 n2 n3 n4 n5 n6 n7 (by rw [← HENC.out]; have := HL.out; omega)
      rw [← HENC.out, S_list] at h
      rw [HXE.out]
      exact h
    have HE := Lib.hid henc
    clear hx3 hg3 HX2 HB2 henc HR HK3 HT2
    generalize w2.heap.size = q at *
    go_wp2_with (first | (refine wpList_load_box (by rfl) TTb (.tmp 3) (by rfl) q (by rfl) XT TTb _ HX3.out Try.underlying31 (by rfl) HIN.out ?_))
    with_reducible refine (HE.out).mono ?_
    rintro y w4 ⟨rfl, hb4⟩
    have HB4 := Lib.hid (HB3.out.trans (hb4.mono HB3.out.size))
    clear hb4 HE
    go_wp2
    go_ret
    exact ⟨rfl, HB4.out⟩
end Go.Proofs.Ytoddggemedhnnaa
