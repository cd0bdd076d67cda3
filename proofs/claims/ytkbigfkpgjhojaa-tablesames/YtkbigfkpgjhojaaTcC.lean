/- Tables out of bytes: rows and units are read. -/
import Derived.Test.YtkbigfkpgjhojaaTcB
namespace Go.Proofs.Ytkbigfkpgjhojaa
open Go.RowKit Florin
set_option linter.unusedVariables false
set_option linter.unusedSimpArgs false
attribute [local go_sem ↓] Go.wp_at_zero Go.wp_at_succ
set_option maxRecDepth 100000 in
set_option maxHeartbeats 3200000 in
theorem readRow1_as (r p : Nat) (st : RS) (w : World) (hr : Rdr w r st) (hp : BoxT w p #[ptr r] TPr) (hl : st.1.length ≤ 1000000000) :
    Calls Try.prog 57 #[ptr p] w fun e w' => ∃ u, e = .returned (.agg #[.int .i64 (rdRow st).1.1, u]) ∧ TxT w' u (rdRow st).1.2 ∧ Rdr w' r (rdRow st).2 ∧ w.grownBy w' (some r) := by
  have hpr : p ≠ r := hp.apart hr.box (by decide)
  have hrw := hr.lt
  have hne : w.heap.size ≠ r := by omega
  have HR := Lib.hid (hr.alloc (.cells #[.int .i64 0, .slice none 0 0] TRw))
  have HP := Lib.hid (hp.alloc (.cells #[.int .i64 0, .slice none 0 0] TRw))
  have HX := Lib.hid (BoxT.new w #[.int .i64 0, .slice none 0 0] TRw)
  have HG0 := Lib.hid (grown_alloc (World.grownBy.refl w (some r)) (.cells #[.int .i64 0, .slice none 0 0] TRw))
  have hp0 : (w.alloc (.cells #[.int .i64 0, .slice none 0 0] TRw)).cell? ⟨p, 0, none⟩ = some (ptr r) := HP.out.cell 0
  obtain ⟨m, hm⟩ : ∃ m, m = (numR st).1 := ⟨_, rfl⟩
  obtain ⟨s1, hs1⟩ : ∃ s1, s1 = (numR st).2 := ⟨_, rfl⟩
  have hl1 : s1.1.length ≤ 1000000000 := by rw [hs1]; exact Nat.le_trans (numR_mono st) hl
  obtain ⟨t, ht⟩ : ∃ t, t = (rdTxs s1).1 := ⟨_, rfl⟩
  obtain ⟨s2, hs2⟩ : ∃ s2, s2 = (rdTxs s1).2 := ⟨_, rfl⟩
  have HRD : Hid (rdRow st = ((((m : Nat) : Int), t), s2)) := Lib.hid (by rw [hm, ht, hs2, hs1]; rfl)
  have hcall := rnum_as r st (w.alloc (.cells #[.int .i64 0, .slice none 0 0] TRw)) HR.out hl
  rw [← hm, ← hs1] at hcall
  have HCALL := Lib.hid hcall
  have HG2 : Hid ((rdTxs s1).1 = t ∧ (rdTxs s1).2 = s2) := Lib.hid ⟨ht.symm, hs2.symm⟩
  clear hr hp hm hs1 ht hs2 hcall
  go_enter Try.func57, Try.ntmps57
  go_wp2_with fail
  with_reducible refine (HCALL.out).mono ?_
  rintro y w1 ⟨rfl, hr1, hg1⟩
  have HR1 := Lib.hid hr1
  have HG1 := Lib.hid (grown_trans HG0.out hg1)
  have hp1 : w1.cell? ⟨p, 0, none⟩ = some (ptr r) := (HP.out.grown hg1 (fun e => hpr (Option.some.inj e))).cell 0
  have HX1 := Lib.hid (HX.out.grown hg1 (fun e => hne (Option.some.inj e)))
  clear hr1 hg1 hp0 HCALL
  go_wp2_with fail
  with_reducible refine (readTexts_as r s1 _ HR1.out hl1).mono ?_
  rw [HG2.out.1, HG2.out.2]
  rintro y w2 ⟨u, rfl, hu, hr2, hg2⟩
  have hu2 := hu
  obtain ⟨ua, uc, rfl, _, _, _⟩ := hu2
  have HU := Lib.hid hu
  clear hu
  have HR2 := Lib.hid hr2
  have HG3 := Lib.hid (grown_trans HG1.out hg2)
  have HX2 := Lib.hid (HX1.out.grown hg2 (fun e => hne (Option.some.inj e)))
  have x0 := HX2.out.cell 0
  have x1 := HX2.out.cell 1
  have z0 := HX2.out.frozen 0
  have z1 := HX2.out.frozen 1
  have xl := HX2.out.lt
  simp only [List.getElem?_toArray, List.getElem?_cons_zero, List.getElem?_cons_succ] at x0 x1
  have HRF : Hid (Rdr ((w2.setCell ⟨w.heap.size, 0, none⟩ (.int .i64 ((m : Nat) : Int))).setCell ⟨w.heap.size, 1, none⟩ (.slice ua t.length uc)) r s2) := Lib.hid ((HR2.out.box.other (a := ⟨w.heap.size, 0, none⟩) (Ne.symm hne) _).other (a := ⟨w.heap.size, 1, none⟩) (Ne.symm hne) _)
  have HGF : Hid (w.grownBy ((w2.setCell ⟨w.heap.size, 0, none⟩ (.int .i64 ((m : Nat) : Int))).setCell ⟨w.heap.size, 1, none⟩ (.slice ua t.length uc)) (some r)) := Lib.hid (grown_new (grown_new HG3.out (Nat.le_refl _) 0 _) (Nat.le_refl _) 1 _)
  have HUF : Hid (TxT ((w2.setCell ⟨w.heap.size, 0, none⟩ (.int .i64 ((m : Nat) : Int))).setCell ⟨w.heap.size, 1, none⟩ (.slice ua t.length uc)) (.slice ua t.length uc) t) := Lib.hid (TxT.keep HU.out ((KeepB.set HX2.out (by decide) 0 _).trans (KeepB.set (HX2.out.set0 _) (by decide) 1 _)))
  clear hr2 hg2 hp1
  go_wp2
  exact bodyPost_ret (v := .agg #[.int .i64 ((m : Nat) : Int), .slice ua t.length uc]) (by simp [results, Try.results57, go_sem, x0, x1]) rfl ⟨_, by rw [HRD.out], by rw [HRD.out]; exact HUF.out, by rw [HRD.out]; exact HRF.out, HGF.out⟩
set_option maxRecDepth 100000 in
set_option maxHeartbeats 3200000 in
theorem readLR_as (r p : Nat) (st : RS) (w : World) (hr : Rdr w r st) (hp : BoxT w p #[ptr r] TPr) (hl : st.1.length ≤ 1000000000) :
    Calls Try.prog 56 #[ptr r, .func (Fn.func 57) #[] #[ptr p]] w fun e w' => ∃ v, e = .returned v ∧ InT w' TRw 2 (rowB w') v (rdList rdRow st).1 ∧ Rdr w' r (rdList rdRow st).2 ∧ w.grownBy w' (some r) := by
  obtain ⟨i0, hi, hz0, hz1, hz2⟩ := info_parts infoRw
  have HR := Lib.hid hr
  have HP := Lib.hid hp
  have hrw := hr.lt
  have hpr : p ≠ r := hp.apart hr.box (by decide)
  obtain ⟨n, hn⟩ : ∃ n, n = (cntR st 65536).1 := ⟨_, rfl⟩
  obtain ⟨st1, hst1⟩ : ∃ st1, st1 = (cntR st 65536).2 := ⟨_, rfl⟩
  have hn6 : n ≤ 65536 := by rw [hn]; exact cnt_le st
  have hl1 : st1.1.length ≤ 1000000000 := by rw [hst1]; exact Nat.le_trans (cntR_mono 65536 st) hl
  have HRES : Hid (rdList rdRow st = rdLs rdRow n [] st1) := Lib.hid (by rw [hn, hst1]; rfl)
  have HN : Hid ((cntR st 65536).1 = n ∧ (cntR st 65536).2 = st1) := Lib.hid ⟨hn.symm, hst1.symm⟩
  clear hr hp hn hst1
  go_enter Try.func56, Try.ntmps56
  go_wp2_with fail
  with_reducible refine (rcnt_as r st 65536 _ HR.out hl).mono ?_
  rw [HN.out.1, HN.out.2]
  rintro y w1 ⟨rfl, hr1, hg1⟩
  have HR1 := Lib.hid hr1
  have HG1 := Lib.hid hg1
  have hs1 := hg1.size
  clear hr1 hg1
  go_wp2_with fail
  go_loopw [5, 9] (fun v i wr => ∃ (k : Nat) (acc : List RowM) (s2 : RS), k ≤ n ∧ acc.length = k ∧ i = .int .i64 (k : Int) ∧ OwnA wr w.heap.size TRw 2 (rowB wr) v acc ∧ Rdr wr r s2 ∧ s2.1.length ≤ 1000000000 ∧ rdLs rdRow (n - k) acc s2 = rdLs rdRow n [] st1 ∧ w.grownBy wr (some r)) (fun _ i _ => n - (intOf i).toNat)
  case atStart => exact ⟨0, [], st1, Nat.zero_le _, rfl, rfl, OwnA.nil _ _ _ _ _, HR1.out, hl1, rfl, HG1.out⟩
  case round =>
    obtain ⟨k, acc, s2, hk, hacc, rfl, hown, hr2, hl2, hres, hg⟩ := hrel
    have HO := Lib.hid hown
    have HR2 := Lib.hid hr2
    have HE := Lib.hid hres
    have HG := Lib.hid hg
    have HACC := Lib.hid hacc
    have hws := hg.size
    have hrr := hr2.lt
    clear hown hr2 hres hg hacc HR1
    by_cases hlt : k < n
    · have hki : (k : Int) < (n : Int) := by omega
      have hp1 : BoxT wr p #[ptr r] TPr := HP.out.grown HG.out (fun e => hpr (Option.some.inj e))
      obtain ⟨x, hx⟩ : ∃ x, x = (rdRow s2).1 := ⟨_, rfl⟩
      obtain ⟨s3, hs3⟩ : ∃ s3, s3 = (rdRow s2).2 := ⟨_, rfl⟩
      have hcl := readRow1_as r p s2 wr HR2.out hp1 hl2
      have hl3 : s3.1.length ≤ 1000000000 := by rw [hs3]; exact Nat.le_trans (rdRow_mono s2) hl2
      rw [← hx, ← hs3] at hcl
      have HCL := Lib.hid hcl
      have HX3 : Hid (rdRow s2 = (x, s3)) := Lib.hid (by rw [hx, hs3])
      clear hcl hx hs3 hp1
      obtain ⟨l3, f3⟩ := s3
      go_wp2_with fail
      with_reducible refine (HCL.out).mono ?_
      rintro y w2 ⟨u, rfl, hu, hr3, hg3⟩
      have hu2 := hu
      obtain ⟨ua, uc, rfl, _, _, _⟩ := hu2
      have HU := Lib.hid hu
      clear hu
      have HR3 := Lib.hid (hr3.alloc (.cells #[.int .i64 x.1, .slice ua x.2.length uc] TRw))
      have HK := Lib.hid (KeepB.of (T := TRw) HR2.out.box (by decide) hg3)
      have HKX := Lib.hid (KeepB.of (T := TTx) HR2.out.box (by decide) hg3)
      have HG3 := Lib.hid (grown_trans HG.out hg3)
      have hs3 := hg3.size
      have HR3B := Lib.hid hr3
      clear hr3 hg3
      cases f3 with
      | true =>
        have HB1 : Hid (rdList rdRow st = ([], (l3, true))) := Lib.hid (by
          rw [HRES.out, ← HE.out, show n - k = (n - k - 1) + 1 by omega, rdLs_bad1 (by rw [HX3.out]), HX3.out])
        go_wp2_with fail
        with_reducible refine (ok_as r l3 true _ HR3.out).mono ?_
        rintro y wn ⟨rfl, rfl⟩
        go_wp2
        go_ret
        exact ⟨_, rfl, by rw [HB1.out]; exact InT.nil _ _ _ _, by rw [HB1.out]; exact HR3.out, grown_alloc HG3.out _⟩
      | false =>
        have HB1 : Hid (rdLs rdRow (n - (k + 1)) (acc ++ [x]) (l3, false) = rdLs rdRow n [] st1) := Lib.hid (by
          rw [← HE.out, show n - k = (n - (k + 1)) + 1 by omega, rdLs_ok1 (by rw [HX3.out]), HX3.out])
        go_wp2_with fail
        with_reducible refine (ok_as r l3 false _ HR3.out).mono ?_
        rintro y wn ⟨rfl, rfl⟩
        obtain ⟨xs, hox, hex⟩ := HO.out
        have HEX := Lib.hid hex
        have hox3 : (w2.alloc (.cells #[.int .i64 x.1, .slice ua x.2.length uc] TRw)).ownsRow w.heap.size TRw 2 u5 k xs := by
          have h := (own_keep hox HK.out).alloc (.cells #[.int .i64 x.1, .slice ua x.2.length uc] TRw)
          rw [HACC.out] at h
          exact h
        have HO3 := Lib.hid hox3
        have HO4 := Lib.hid (hox3.alloc (.cells #[.int .i64 x.1, .slice ua x.2.length uc] TRw))
        have HXL : Hid (xs.length = acc.length * 2) := Lib.hid hox.1
        clear hox hex hox3
        go_wp2_with (at_builtin; refine wpList_append_own _ rfl _ _ 24 rfl w.heap.size TRw i0 (.agg #[.int .i64 0, .slice none 0 0]) 2 32 Try.underlying24 hi hz0 hz1 hz2 rfl (by decide) _ k _ rfl HO4.out ⟨w2.heap.size + 1, 0, none⟩ 1 1 [.int .i64 x.1, .slice ua x.2.length uc] rfl rfl (lit_at (w2.alloc (.cells #[.int .i64 x.1, .slice ua x.2.length uc] TRw)) [.int .i64 x.1, .slice ua x.2.length uc] TRw (w2.heap.size + 1) (by simp)) (by simp [Value.oneCell']) (len_max (by omega)) (by omega) (by simp; omega) ?_; intro v8 w8 hown8 hgr8 _)
        have HGG := Lib.hid (grown_own (grown_alloc (grown_alloc HG3.out (.cells #[.int .i64 x.1, .slice ua x.2.length uc] TRw)) (.cells #[.int .i64 x.1, .slice ua x.2.length uc] TRw)) hgr8 (fun q hq => (World.ownsRow.lt HO4.out q hq).1))
        have HRR : Hid (Rdr w8 r (l3, false)) := Lib.hid (KeepB.own HO4.out (by decide) hgr8 _ _ ((HR3.out.alloc (.cells #[.int .i64 x.1, .slice ua x.2.length uc] TRw)).box))
        have KX : KeepB TTx w2 w8 := (KeepB.below ((((Below.refl w2.heap.size w2).alloc (Nat.le_refl _) (.cells #[.int .i64 x.1, .slice ua x.2.length uc] TRw))).alloc (by simp) (.cells #[.int .i64 x.1, .slice ua x.2.length uc] TRw))).trans (KeepB.own HO4.out (by decide) hgr8)
        have HOA : Hid (OwnA w8 w.heap.size TRw 2 (rowB w8) v8 (acc ++ [x])) := Lib.hid ⟨_, by rw [List.length_append, HACC.out]; exact hown8, Elts.snoc (HEX.out.mono (rowB.keep (HKX.out.trans KX))) (show rowB w8 x [.int .i64 x.1, .slice ua x.2.length uc] from ⟨_, rfl, TxT.keep HU.out KX⟩) rfl HXL.out⟩
        clear KX
        clear hown8 hgr8
        go_wp2
        go_roundw
        case rel => exact ⟨k + 1, acc ++ [x], (l3, false), by omega, by rw [List.length_append, HACC.out]; rfl, by go_num, HOA.out, HRR.out, hl3, HB1.out, HGG.out⟩
        case measure => simp [intOf]; omega
    · have HB1 : Hid (rdList rdRow st = (acc, s2)) := Lib.hid (by rw [HRES.out, ← HE.out, show n - k = 0 by omega]; rfl)
      go_wp2
      go_ret
      exact ⟨_, rfl, by rw [HB1.out]; exact HO.out.inT, by rw [HB1.out]; exact HR2.out, HG.out⟩
set_option maxRecDepth 100000 in
set_option maxHeartbeats 1600000 in
theorem readRows_as (r : Nat) (st : RS) (w : World) (hr : Rdr w r st) (hl : st.1.length ≤ 1000000000) :
    Calls Try.prog 41 #[ptr r] w fun e w' => ∃ v, e = .returned v ∧ InT w' TRw 2 (rowB w') v (rdRows st).1 ∧ Rdr w' r (rdRows st).2 ∧ w.grownBy w' (some r) := by
  have HR := Lib.hid (hr.alloc (.cells #[ptr r] TPr))
  have HP := Lib.hid (BoxT.new w #[ptr r] TPr)
  have HG := Lib.hid (grown_alloc (World.grownBy.refl w (some r)) (.cells #[ptr r] TPr))
  clear hr
  go_enter Try.func41, Try.ntmps41
  go_wp2_with fail
  generalize w.alloc (.cells #[ptr r] TPr) = w0 at *
  generalize w.heap.size = p at *
  with_reducible refine (readLR_as r p st _ HR.out HP.out hl).mono ?_
  rintro y w3 ⟨v, rfl, hv, hr3, hg3⟩
  have HV := Lib.hid hv
  have HR3 := Lib.hid hr3
  have HG3 := Lib.hid (grown_trans HG.out hg3)
  obtain ⟨va, vc, rfl, _, _, _⟩ := hv
  clear hr3 hg3
  go_wp2
  go_ret
  exact ⟨_, rfl, HV.out, HR3.out, HG3.out⟩
set_option maxRecDepth 100000 in
set_option maxHeartbeats 3200000 in
theorem readUnt1_as (r p : Nat) (st : RS) (w : World) (hr : Rdr w r st) (hp : BoxT w p #[ptr r] TPr) (hl : st.1.length ≤ 1000000000) :
    Calls Try.prog 46 #[ptr p] w fun e w' => ∃ u, e = .returned (.agg #[S (rdUnt st).1.1, u]) ∧ TxT w' u (rdUnt st).1.2 ∧ Rdr w' r (rdUnt st).2 ∧ w.grownBy w' (some r) := by
  have hpr : p ≠ r := hp.apart hr.box (by decide)
  have hrw := hr.lt
  have hne : w.heap.size ≠ r := by omega
  have HR := Lib.hid (hr.alloc (.cells #[.string ⟨#[]⟩, .slice none 0 0] TUn))
  have HP := Lib.hid (hp.alloc (.cells #[.string ⟨#[]⟩, .slice none 0 0] TUn))
  have HX := Lib.hid (BoxT.new w #[.string ⟨#[]⟩, .slice none 0 0] TUn)
  have HG0 := Lib.hid (grown_alloc (World.grownBy.refl w (some r)) (.cells #[.string ⟨#[]⟩, .slice none 0 0] TUn))
  have hp0 : (w.alloc (.cells #[.string ⟨#[]⟩, .slice none 0 0] TUn)).cell? ⟨p, 0, none⟩ = some (ptr r) := HP.out.cell 0
  obtain ⟨m, hm⟩ : ∃ m, m = (textR st).1 := ⟨_, rfl⟩
  obtain ⟨s1, hs1⟩ : ∃ s1, s1 = (textR st).2 := ⟨_, rfl⟩
  have hl1 : s1.1.length ≤ 1000000000 := by rw [hs1]; exact Nat.le_trans (textR_mono st) hl
  obtain ⟨t, ht⟩ : ∃ t, t = (rdTxs s1).1 := ⟨_, rfl⟩
  obtain ⟨s2, hs2⟩ : ∃ s2, s2 = (rdTxs s1).2 := ⟨_, rfl⟩
  have HRD : Hid (rdUnt st = ((m, t), s2)) := Lib.hid (by rw [hm, ht, hs2, hs1]; rfl)
  have hcall := rtext_as r st (w.alloc (.cells #[.string ⟨#[]⟩, .slice none 0 0] TUn)) HR.out hl
  rw [← hm, ← hs1] at hcall
  have HCALL := Lib.hid hcall
  have HG2 : Hid ((rdTxs s1).1 = t ∧ (rdTxs s1).2 = s2) := Lib.hid ⟨ht.symm, hs2.symm⟩
  clear hr hp hm hs1 ht hs2 hcall
  go_enter Try.func46, Try.ntmps46
  go_wp2_with fail
  with_reducible refine (HCALL.out).mono ?_
  rintro y w1 ⟨rfl, hr1, hg1⟩
  have HR1 := Lib.hid hr1
  have HG1 := Lib.hid (grown_trans HG0.out hg1)
  have hp1 : w1.cell? ⟨p, 0, none⟩ = some (ptr r) := (HP.out.grown hg1 (fun e => hpr (Option.some.inj e))).cell 0
  have HX1 := Lib.hid (HX.out.grown hg1 (fun e => hne (Option.some.inj e)))
  clear hr1 hg1 hp0 HCALL
  go_wp2_with fail
  with_reducible refine (readTexts_as r s1 _ HR1.out hl1).mono ?_
  rw [HG2.out.1, HG2.out.2]
  rintro y w2 ⟨u, rfl, hu, hr2, hg2⟩
  have hu2 := hu
  obtain ⟨ua, uc, rfl, _, _, _⟩ := hu2
  have HU := Lib.hid hu
  clear hu
  have HR2 := Lib.hid hr2
  have HG3 := Lib.hid (grown_trans HG1.out hg2)
  have HX2 := Lib.hid (HX1.out.grown hg2 (fun e => hne (Option.some.inj e)))
  have x0 := HX2.out.cell 0
  have x1 := HX2.out.cell 1
  have z0 := HX2.out.frozen 0
  have z1 := HX2.out.frozen 1
  have xl := HX2.out.lt
  simp only [List.getElem?_toArray, List.getElem?_cons_zero, List.getElem?_cons_succ] at x0 x1
  have HRF : Hid (Rdr ((w2.setCell ⟨w.heap.size, 0, none⟩ (S m)).setCell ⟨w.heap.size, 1, none⟩ (.slice ua t.length uc)) r s2) := Lib.hid ((HR2.out.box.other (a := ⟨w.heap.size, 0, none⟩) (Ne.symm hne) _).other (a := ⟨w.heap.size, 1, none⟩) (Ne.symm hne) _)
  have HGF : Hid (w.grownBy ((w2.setCell ⟨w.heap.size, 0, none⟩ (S m)).setCell ⟨w.heap.size, 1, none⟩ (.slice ua t.length uc)) (some r)) := Lib.hid (grown_new (grown_new HG3.out (Nat.le_refl _) 0 _) (Nat.le_refl _) 1 _)
  have HUF : Hid (TxT ((w2.setCell ⟨w.heap.size, 0, none⟩ (S m)).setCell ⟨w.heap.size, 1, none⟩ (.slice ua t.length uc)) (.slice ua t.length uc) t) := Lib.hid (TxT.keep HU.out ((KeepB.set HX2.out (by decide) 0 _).trans (KeepB.set (HX2.out.set0 _) (by decide) 1 _)))
  clear hr2 hg2 hp1
  go_wp2
  exact bodyPost_ret (v := .agg #[S m, .slice ua t.length uc]) (by simp [results, Try.results46, go_sem, x0, x1]) rfl ⟨_, by rw [HRD.out], by rw [HRD.out]; exact HUF.out, by rw [HRD.out]; exact HRF.out, HGF.out⟩
set_option maxRecDepth 100000 in
set_option maxHeartbeats 3200000 in
theorem readLU_as (r p : Nat) (st : RS) (w : World) (hr : Rdr w r st) (hp : BoxT w p #[ptr r] TPr) (hl : st.1.length ≤ 1000000000) :
    Calls Try.prog 45 #[ptr r, .func (Fn.func 46) #[] #[ptr p]] w fun e w' => ∃ v, e = .returned v ∧ InT w' TUn 2 (untB w') v (rdList rdUnt st).1 ∧ Rdr w' r (rdList rdUnt st).2 ∧ w.grownBy w' (some r) := by
  obtain ⟨i0, hi, hz0, hz1, hz2⟩ := info_parts infoUn
  have HR := Lib.hid hr
  have HP := Lib.hid hp
  have hrw := hr.lt
  have hpr : p ≠ r := hp.apart hr.box (by decide)
  obtain ⟨n, hn⟩ : ∃ n, n = (cntR st 65536).1 := ⟨_, rfl⟩
  obtain ⟨st1, hst1⟩ : ∃ st1, st1 = (cntR st 65536).2 := ⟨_, rfl⟩
  have hn6 : n ≤ 65536 := by rw [hn]; exact cnt_le st
  have hl1 : st1.1.length ≤ 1000000000 := by rw [hst1]; exact Nat.le_trans (cntR_mono 65536 st) hl
  have HRES : Hid (rdList rdUnt st = rdLs rdUnt n [] st1) := Lib.hid (by rw [hn, hst1]; rfl)
  have HN : Hid ((cntR st 65536).1 = n ∧ (cntR st 65536).2 = st1) := Lib.hid ⟨hn.symm, hst1.symm⟩
  clear hr hp hn hst1
  go_enter Try.func45, Try.ntmps45
  go_wp2_with fail
  with_reducible refine (rcnt_as r st 65536 _ HR.out hl).mono ?_
  rw [HN.out.1, HN.out.2]
  rintro y w1 ⟨rfl, hr1, hg1⟩
  have HR1 := Lib.hid hr1
  have HG1 := Lib.hid hg1
  have hs1 := hg1.size
  clear hr1 hg1
  go_wp2_with fail
  go_loopw [5, 9] (fun v i wr => ∃ (k : Nat) (acc : List UntM) (s2 : RS), k ≤ n ∧ acc.length = k ∧ i = .int .i64 (k : Int) ∧ OwnA wr w.heap.size TUn 2 (untB wr) v acc ∧ Rdr wr r s2 ∧ s2.1.length ≤ 1000000000 ∧ rdLs rdUnt (n - k) acc s2 = rdLs rdUnt n [] st1 ∧ w.grownBy wr (some r)) (fun _ i _ => n - (intOf i).toNat)
  case atStart => exact ⟨0, [], st1, Nat.zero_le _, rfl, rfl, OwnA.nil _ _ _ _ _, HR1.out, hl1, rfl, HG1.out⟩
  case round =>
    obtain ⟨k, acc, s2, hk, hacc, rfl, hown, hr2, hl2, hres, hg⟩ := hrel
    have HO := Lib.hid hown
    have HR2 := Lib.hid hr2
    have HE := Lib.hid hres
    have HG := Lib.hid hg
    have HACC := Lib.hid hacc
    have hws := hg.size
    have hrr := hr2.lt
    clear hown hr2 hres hg hacc HR1
    by_cases hlt : k < n
    · have hki : (k : Int) < (n : Int) := by omega
      have hp1 : BoxT wr p #[ptr r] TPr := HP.out.grown HG.out (fun e => hpr (Option.some.inj e))
      obtain ⟨x, hx⟩ : ∃ x, x = (rdUnt s2).1 := ⟨_, rfl⟩
      obtain ⟨s3, hs3⟩ : ∃ s3, s3 = (rdUnt s2).2 := ⟨_, rfl⟩
      have hcl := readUnt1_as r p s2 wr HR2.out hp1 hl2
      have hl3 : s3.1.length ≤ 1000000000 := by rw [hs3]; exact Nat.le_trans (rdUnt_mono s2) hl2
      rw [← hx, ← hs3] at hcl
      have HCL := Lib.hid hcl
      have HX3 : Hid (rdUnt s2 = (x, s3)) := Lib.hid (by rw [hx, hs3])
      clear hcl hx hs3 hp1
      obtain ⟨l3, f3⟩ := s3
      go_wp2_with fail
      with_reducible refine (HCL.out).mono ?_
      rintro y w2 ⟨u, rfl, hu, hr3, hg3⟩
      have hu2 := hu
      obtain ⟨ua, uc, rfl, _, _, _⟩ := hu2
      have HU := Lib.hid hu
      clear hu
      have HR3 := Lib.hid (hr3.alloc (.cells #[S x.1, .slice ua x.2.length uc] TUn))
      have HK := Lib.hid (KeepB.of (T := TUn) HR2.out.box (by decide) hg3)
      have HKX := Lib.hid (KeepB.of (T := TTx) HR2.out.box (by decide) hg3)
      have HG3 := Lib.hid (grown_trans HG.out hg3)
      have hs3 := hg3.size
      have HR3B := Lib.hid hr3
      clear hr3 hg3
      cases f3 with
      | true =>
        have HB1 : Hid (rdList rdUnt st = ([], (l3, true))) := Lib.hid (by
          rw [HRES.out, ← HE.out, show n - k = (n - k - 1) + 1 by omega, rdLs_bad1 (by rw [HX3.out]), HX3.out])
        go_wp2_with fail
        with_reducible refine (ok_as r l3 true _ HR3.out).mono ?_
        rintro y wn ⟨rfl, rfl⟩
        go_wp2
        go_ret
        exact ⟨_, rfl, by rw [HB1.out]; exact InT.nil _ _ _ _, by rw [HB1.out]; exact HR3.out, grown_alloc HG3.out _⟩
      | false =>
        have HB1 : Hid (rdLs rdUnt (n - (k + 1)) (acc ++ [x]) (l3, false) = rdLs rdUnt n [] st1) := Lib.hid (by
          rw [← HE.out, show n - k = (n - (k + 1)) + 1 by omega, rdLs_ok1 (by rw [HX3.out]), HX3.out])
        go_wp2_with fail
        with_reducible refine (ok_as r l3 false _ HR3.out).mono ?_
        rintro y wn ⟨rfl, rfl⟩
        obtain ⟨xs, hox, hex⟩ := HO.out
        have HEX := Lib.hid hex
        have hox3 : (w2.alloc (.cells #[S x.1, .slice ua x.2.length uc] TUn)).ownsRow w.heap.size TUn 2 u5 k xs := by
          have h := (own_keep hox HK.out).alloc (.cells #[S x.1, .slice ua x.2.length uc] TUn)
          rw [HACC.out] at h
          exact h
        have HO3 := Lib.hid hox3
        have HO4 := Lib.hid (hox3.alloc (.cells #[S x.1, .slice ua x.2.length uc] TUn))
        have HXL : Hid (xs.length = acc.length * 2) := Lib.hid hox.1
        clear hox hex hox3
        go_wp2_with (at_builtin; refine wpList_append_own _ rfl _ _ 26 rfl w.heap.size TUn i0 (.agg #[.string ⟨#[]⟩, .slice none 0 0]) 2 40 Try.underlying26 hi hz0 hz1 hz2 rfl (by decide) _ k _ rfl HO4.out ⟨w2.heap.size + 1, 0, none⟩ 1 1 [S x.1, .slice ua x.2.length uc] rfl rfl (lit_at (w2.alloc (.cells #[S x.1, .slice ua x.2.length uc] TUn)) [S x.1, .slice ua x.2.length uc] TUn (w2.heap.size + 1) (by simp)) (by simp [Value.oneCell']) (len_max (by omega)) (by omega) (by simp; omega) ?_; intro v8 w8 hown8 hgr8 _)
        have HGG := Lib.hid (grown_own (grown_alloc (grown_alloc HG3.out (.cells #[S x.1, .slice ua x.2.length uc] TUn)) (.cells #[S x.1, .slice ua x.2.length uc] TUn)) hgr8 (fun q hq => (World.ownsRow.lt HO4.out q hq).1))
        have HRR : Hid (Rdr w8 r (l3, false)) := Lib.hid (KeepB.own HO4.out (by decide) hgr8 _ _ ((HR3.out.alloc (.cells #[S x.1, .slice ua x.2.length uc] TUn)).box))
        have KX : KeepB TTx w2 w8 := (KeepB.below ((((Below.refl w2.heap.size w2).alloc (Nat.le_refl _) (.cells #[S x.1, .slice ua x.2.length uc] TUn))).alloc (by simp) (.cells #[S x.1, .slice ua x.2.length uc] TUn))).trans (KeepB.own HO4.out (by decide) hgr8)
        have HOA : Hid (OwnA w8 w.heap.size TUn 2 (untB w8) v8 (acc ++ [x])) := Lib.hid ⟨_, by rw [List.length_append, HACC.out]; exact hown8, Elts.snoc (HEX.out.mono (untB.keep (HKX.out.trans KX))) (show untB w8 x [S x.1, .slice ua x.2.length uc] from ⟨_, rfl, TxT.keep HU.out KX⟩) rfl HXL.out⟩
        clear KX
        clear hown8 hgr8
        go_wp2
        go_roundw
        case rel => exact ⟨k + 1, acc ++ [x], (l3, false), by omega, by rw [List.length_append, HACC.out]; rfl, by go_num, HOA.out, HRR.out, hl3, HB1.out, HGG.out⟩
        case measure => simp [intOf]; omega
    · have HB1 : Hid (rdList rdUnt st = (acc, s2)) := Lib.hid (by rw [HRES.out, ← HE.out, show n - k = 0 by omega]; rfl)
      go_wp2
      go_ret
      exact ⟨_, rfl, by rw [HB1.out]; exact HO.out.inT, by rw [HB1.out]; exact HR2.out, HG.out⟩
end Go.Proofs.Ytkbigfkpgjhojaa
