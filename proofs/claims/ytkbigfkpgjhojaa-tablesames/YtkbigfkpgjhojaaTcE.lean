/- Tables out of bytes: lists of currencies are read. -/
import Derived.Test.YtkbigfkpgjhojaaTcD
namespace Go.Proofs.Ytkbigfkpgjhojaa
open Go.RowKit Florin
set_option linter.unusedVariables false
set_option linter.unusedSimpArgs false
attribute [local go_sem ↓] Go.wp_at_zero Go.wp_at_succ
set_option maxRecDepth 100000 in
set_option maxHeartbeats 6400000 in
theorem readCur1_as (r p : Nat) (st : RS) (w : World) (hr : Rdr w r st) (hp : BoxT w p #[ptr r] TPr) (hl : st.1.length ≤ 1000000000) :
    Calls Try.prog 43 #[ptr p] w fun e w' => ∃ u, e = .returned (.agg #[S (rdCur st).1.code, S (rdCur st).1.sym, S (rdCur st).1.nar, u, .int .i64 (rdCur st).1.d, .int .i64 (rdCur st).1.i, .int .i64 (rdCur st).1.cd, .int .i64 (rdCur st).1.ci]) ∧ TxT w' u (rdCur st).1.names ∧ Rdr w' r (rdCur st).2 ∧ w.grownBy w' (some r) := by
  have hrw := hr.lt
  have hne : w.heap.size ≠ r := by omega
  have HR := Lib.hid (hr.alloc (.cells #[.string ⟨#[]⟩, .string ⟨#[]⟩, .string ⟨#[]⟩, .slice none 0 0, .int .i64 0, .int .i64 0, .int .i64 0, .int .i64 0] TCu))
  have HP := Lib.hid (hp.alloc (.cells #[.string ⟨#[]⟩, .string ⟨#[]⟩, .string ⟨#[]⟩, .slice none 0 0, .int .i64 0, .int .i64 0, .int .i64 0, .int .i64 0] TCu))
  have HQ := Lib.hid (BoxT.new w #[.string ⟨#[]⟩, .string ⟨#[]⟩, .string ⟨#[]⟩, .slice none 0 0, .int .i64 0, .int .i64 0, .int .i64 0, .int .i64 0] TCu)
  have HG := Lib.hid (grown_alloc (World.grownBy.refl w (some r)) (.cells #[.string ⟨#[]⟩, .string ⟨#[]⟩, .string ⟨#[]⟩, .slice none 0 0, .int .i64 0, .int .i64 0, .int .i64 0, .int .i64 0] TCu))
  have hp0 : (w.alloc (.cells #[.string ⟨#[]⟩, .string ⟨#[]⟩, .string ⟨#[]⟩, .slice none 0 0, .int .i64 0, .int .i64 0, .int .i64 0, .int .i64 0] TCu)).cell? ⟨p, 0, none⟩ = some (ptr r) := HP.out.cell 0
  have hcall := readCur_as r st (w.alloc (.cells #[.string ⟨#[]⟩, .string ⟨#[]⟩, .string ⟨#[]⟩, .slice none 0 0, .int .i64 0, .int .i64 0, .int .i64 0, .int .i64 0] TCu)) HR.out hl
  obtain ⟨x, hx⟩ : ∃ x, x = (rdCur st).1 := ⟨_, rfl⟩
  obtain ⟨s1, hs1⟩ : ∃ s1, s1 = (rdCur st).2 := ⟨_, rfl⟩
  rw [← hx, ← hs1] at hcall ⊢
  have HCALL := Lib.hid hcall
  clear hr hp hx hs1 hcall
  go_enter Try.func43, Try.ntmps43
  go_wp2_with fail
  with_reducible refine (HCALL.out).mono ?_
  rintro y w1 ⟨u, rfl, hu, hr1, hg1⟩
  have hu2 := hu
  obtain ⟨ua, uc, rfl, _, _, _⟩ := hu2
  have HQ1 := Lib.hid (HQ.out.grown hg1 (fun e => hne (Option.some.inj e)))
  have HRF := Lib.hid (hr1.box.other8 (q := w.heap.size) (Ne.symm hne) (S x.code) (S x.sym) (S x.nar) (.slice ua x.names.length uc) (.int .i64 x.d) (.int .i64 x.i) (.int .i64 x.cd) (.int .i64 x.ci))
  have HGF := Lib.hid (grown_new8 (q := w.heap.size) (grown_trans HG.out hg1) (Nat.le_refl _) (S x.code) (S x.sym) (S x.nar) (.slice ua x.names.length uc) (.int .i64 x.d) (.int .i64 x.i) (.int .i64 x.cd) (.int .i64 x.ci))
  have HUF := Lib.hid (TxT.keep hu (KeepB.set8 HQ1.out (by decide) (S x.code) (S x.sym) (S x.nar) (.slice ua x.names.length uc) (.int .i64 x.d) (.int .i64 x.i) (.int .i64 x.cd) (.int .i64 x.ci)))
  have y0 := HQ1.out.cell 0
  have f0 := HQ1.out.frozen 0
  have y1 := HQ1.out.cell 1
  have f1 := HQ1.out.frozen 1
  have y2 := HQ1.out.cell 2
  have f2 := HQ1.out.frozen 2
  have y3 := HQ1.out.cell 3
  have f3 := HQ1.out.frozen 3
  have y4 := HQ1.out.cell 4
  have f4 := HQ1.out.frozen 4
  have y5 := HQ1.out.cell 5
  have f5 := HQ1.out.frozen 5
  have y6 := HQ1.out.cell 6
  have f6 := HQ1.out.frozen 6
  have y7 := HQ1.out.cell 7
  have f7 := HQ1.out.frozen 7
  have ql := HQ1.out.lt
  simp only [List.getElem?_toArray, List.getElem?_cons_zero, List.getElem?_cons_succ] at y0 y1 y2 y3 y4 y5 y6 y7
  clear hu hr1 hg1 hp0
  go_wp2
  exact bodyPost_ret (v := .agg #[S x.code, S x.sym, S x.nar, .slice ua x.names.length uc, .int .i64 x.d, .int .i64 x.i, .int .i64 x.cd, .int .i64 x.ci]) (by simp [results, Try.results43, go_sem, y0, y1, y2, y3, y4, y5, y6, y7]) rfl ⟨_, rfl, HUF.out, HRF.out, HGF.out⟩
set_option maxRecDepth 100000 in
set_option maxHeartbeats 3200000 in
theorem readLC_as (r p : Nat) (st : RS) (w : World) (hr : Rdr w r st) (hp : BoxT w p #[ptr r] TPr) (hl : st.1.length ≤ 1000000000) :
    Calls Try.prog 42 #[ptr r, .func (Fn.func 43) #[] #[ptr p]] w fun e w' => ∃ v, e = .returned v ∧ InT w' TCu 8 (curB w') v (rdList rdCur st).1 ∧ Rdr w' r (rdList rdCur st).2 ∧ w.grownBy w' (some r) := by
  obtain ⟨i0, hi, hz0, hz1, hz2⟩ := info_parts infoCu
  have HR := Lib.hid hr
  have HP := Lib.hid hp
  have hrw := hr.lt
  have hpr : p ≠ r := hp.apart hr.box (by decide)
  obtain ⟨n, hn⟩ : ∃ n, n = (cntR st 65536).1 := ⟨_, rfl⟩
  obtain ⟨st1, hst1⟩ : ∃ st1, st1 = (cntR st 65536).2 := ⟨_, rfl⟩
  have hn6 : n ≤ 65536 := by rw [hn]; exact cnt_le st
  have hl1 : st1.1.length ≤ 1000000000 := by rw [hst1]; exact Nat.le_trans (cntR_mono 65536 st) hl
  have HRES : Hid (rdList rdCur st = rdLs rdCur n [] st1) := Lib.hid (by rw [hn, hst1]; rfl)
  have HN : Hid ((cntR st 65536).1 = n ∧ (cntR st 65536).2 = st1) := Lib.hid ⟨hn.symm, hst1.symm⟩
  clear hr hp hn hst1
  go_enter Try.func42, Try.ntmps42
  go_wp2_with fail
  with_reducible refine (rcnt_as r st 65536 _ HR.out hl).mono ?_
  rw [HN.out.1, HN.out.2]
  rintro y w1 ⟨rfl, hr1, hg1⟩
  have HR1 := Lib.hid hr1
  have HG1 := Lib.hid hg1
  have hs1 := hg1.size
  clear hr1 hg1
  go_wp2_with fail
  go_loopw [5, 9] (fun v i wr => ∃ (k : Nat) (acc : List CurM) (s2 : RS), k ≤ n ∧ acc.length = k ∧ i = .int .i64 (k : Int) ∧ OwnA wr w.heap.size TCu 8 (curB wr) v acc ∧ Rdr wr r s2 ∧ s2.1.length ≤ 1000000000 ∧ rdLs rdCur (n - k) acc s2 = rdLs rdCur n [] st1 ∧ w.grownBy wr (some r)) (fun _ i _ => n - (intOf i).toNat)
  case atStart => exact ⟨0, [], st1, Nat.zero_le _, rfl, rfl, OwnA.nil _ _ _ _ _, HR1.out, hl1, rfl, HG1.out⟩
  case round =>
    obtain ⟨k, acc, s2, hk, hacc, rfl, hown, hr2, hl2, hres, hg⟩ := hrel
    have HO := Lib.hid hown
    have HR2 := Lib.hid hr2
    have HE := Lib.hid hres
    have HG := Lib.hid hg
    have HACC := Lib.hid hacc
    have hws := hg.size
    have hrr := hr2.lt
    clear hown hr2 hres hg hacc HR1
    by_cases hlt : k < n
    · have hki : (k : Int) < (n : Int) := by omega
      have hp1 : BoxT wr p #[ptr r] TPr := HP.out.grown HG.out (fun e => hpr (Option.some.inj e))
      obtain ⟨x, hx⟩ : ∃ x, x = (rdCur s2).1 := ⟨_, rfl⟩
      obtain ⟨s3, hs3⟩ : ∃ s3, s3 = (rdCur s2).2 := ⟨_, rfl⟩
      have hcl := readCur1_as r p s2 wr HR2.out hp1 hl2
      have hl3 : s3.1.length ≤ 1000000000 := by rw [hs3]; exact Nat.le_trans (rdCur_mono s2) hl2
      rw [← hx, ← hs3] at hcl
      have HCL := Lib.hid hcl
      have HX3 : Hid (rdCur s2 = (x, s3)) := Lib.hid (by rw [hx, hs3])
      clear hcl hx hs3 hp1
      obtain ⟨l3, f3⟩ := s3
      go_wp2_with fail
      with_reducible refine (HCL.out).mono ?_
      rintro y w2 ⟨u, rfl, hu, hr3, hg3⟩
      have hu2 := hu
      obtain ⟨ua, uc, rfl, _, _, _⟩ := hu2
      have HU := Lib.hid hu
      clear hu
      have HR3 := Lib.hid (hr3.alloc (.cells #[S x.code, S x.sym, S x.nar, .slice ua x.names.length uc, .int .i64 x.d, .int .i64 x.i, .int .i64 x.cd, .int .i64 x.ci] TCu))
      have HK := Lib.hid (KeepB.of (T := TCu) HR2.out.box (by decide) hg3)
      have HKX := Lib.hid (KeepB.of (T := TTx) HR2.out.box (by decide) hg3)
      have HG3 := Lib.hid (grown_trans HG.out hg3)
      have hs3 := hg3.size
      have HR3B := Lib.hid hr3
      clear hr3 hg3
      cases f3 with
      | true =>
        have HB1 : Hid (rdList rdCur st = ([], (l3, true))) := Lib.hid (by
          rw [HRES.out, ← HE.out, show n - k = (n - k - 1) + 1 by omega, rdLs_bad1 (by rw [HX3.out]), HX3.out])
        go_wp2_with fail
        with_reducible refine (ok_as r l3 true _ HR3.out).mono ?_
        rintro y wn ⟨rfl, rfl⟩
        go_wp2
        go_ret
        exact ⟨_, rfl, by rw [HB1.out]; exact InT.nil _ _ _ _, by rw [HB1.out]; exact HR3.out, grown_alloc HG3.out _⟩
      | false =>
        have HB1 : Hid (rdLs rdCur (n - (k + 1)) (acc ++ [x]) (l3, false) = rdLs rdCur n [] st1) := Lib.hid (by
          rw [← HE.out, show n - k = (n - (k + 1)) + 1 by omega, rdLs_ok1 (by rw [HX3.out]), HX3.out])
        go_wp2_with fail
        with_reducible refine (ok_as r l3 false _ HR3.out).mono ?_
        rintro y wn ⟨rfl, rfl⟩
        obtain ⟨xs, hox, hex⟩ := HO.out
        have HEX := Lib.hid hex
        have hox3 : (w2.alloc (.cells #[S x.code, S x.sym, S x.nar, .slice ua x.names.length uc, .int .i64 x.d, .int .i64 x.i, .int .i64 x.cd, .int .i64 x.ci] TCu)).ownsRow w.heap.size TCu 8 u5 k xs := by
          have h := (own_keep hox HK.out).alloc (.cells #[S x.code, S x.sym, S x.nar, .slice ua x.names.length uc, .int .i64 x.d, .int .i64 x.i, .int .i64 x.cd, .int .i64 x.ci] TCu)
          rw [HACC.out] at h
          exact h
        have HO3 := Lib.hid hox3
        have HO4 := Lib.hid (hox3.alloc (.cells #[S x.code, S x.sym, S x.nar, .slice ua x.names.length uc, .int .i64 x.d, .int .i64 x.i, .int .i64 x.cd, .int .i64 x.ci] TCu))
        have HXL : Hid (xs.length = acc.length * 8) := Lib.hid hox.1
        clear hox hex hox3
        go_wp2_with (at_builtin; refine wpList_append_own _ rfl _ _ 25 rfl w.heap.size TCu i0 (.agg #[.string ⟨#[]⟩, .string ⟨#[]⟩, .string ⟨#[]⟩, .slice none 0 0, .int .i64 0, .int .i64 0, .int .i64 0, .int .i64 0]) 8 104 Try.underlying25 hi hz0 hz1 hz2 rfl (by decide) _ k _ rfl HO4.out ⟨w2.heap.size + 1, 0, none⟩ 1 1 [S x.code, S x.sym, S x.nar, .slice ua x.names.length uc, .int .i64 x.d, .int .i64 x.i, .int .i64 x.cd, .int .i64 x.ci] rfl rfl (lit_at (w2.alloc (.cells #[S x.code, S x.sym, S x.nar, .slice ua x.names.length uc, .int .i64 x.d, .int .i64 x.i, .int .i64 x.cd, .int .i64 x.ci] TCu)) [S x.code, S x.sym, S x.nar, .slice ua x.names.length uc, .int .i64 x.d, .int .i64 x.i, .int .i64 x.cd, .int .i64 x.ci] TCu (w2.heap.size + 1) (by simp)) (by simp [Value.oneCell']) (len_max (by omega)) (by omega) (by simp; omega) ?_; intro v8 w8 hown8 hgr8 _)
        have HGG := Lib.hid (grown_own (grown_alloc (grown_alloc HG3.out (.cells #[S x.code, S x.sym, S x.nar, .slice ua x.names.length uc, .int .i64 x.d, .int .i64 x.i, .int .i64 x.cd, .int .i64 x.ci] TCu)) (.cells #[S x.code, S x.sym, S x.nar, .slice ua x.names.length uc, .int .i64 x.d, .int .i64 x.i, .int .i64 x.cd, .int .i64 x.ci] TCu)) hgr8 (fun q hq => (World.ownsRow.lt HO4.out q hq).1))
        have HRR : Hid (Rdr w8 r (l3, false)) := Lib.hid (KeepB.own HO4.out (by decide) hgr8 _ _ ((HR3.out.alloc (.cells #[S x.code, S x.sym, S x.nar, .slice ua x.names.length uc, .int .i64 x.d, .int .i64 x.i, .int .i64 x.cd, .int .i64 x.ci] TCu)).box))
        have KX : KeepB TTx w2 w8 := (KeepB.below ((((Below.refl w2.heap.size w2).alloc (Nat.le_refl _) (.cells #[S x.code, S x.sym, S x.nar, .slice ua x.names.length uc, .int .i64 x.d, .int .i64 x.i, .int .i64 x.cd, .int .i64 x.ci] TCu))).alloc (by simp) (.cells #[S x.code, S x.sym, S x.nar, .slice ua x.names.length uc, .int .i64 x.d, .int .i64 x.i, .int .i64 x.cd, .int .i64 x.ci] TCu))).trans (KeepB.own HO4.out (by decide) hgr8)
        have HOA : Hid (OwnA w8 w.heap.size TCu 8 (curB w8) v8 (acc ++ [x])) := Lib.hid ⟨_, by rw [List.length_append, HACC.out]; exact hown8, Elts.snoc (HEX.out.mono (curB.keep (HKX.out.trans KX))) (show curB w8 x [S x.code, S x.sym, S x.nar, .slice ua x.names.length uc, .int .i64 x.d, .int .i64 x.i, .int .i64 x.cd, .int .i64 x.ci] from ⟨_, rfl, TxT.keep HU.out KX⟩) rfl HXL.out⟩
        clear KX
        clear hown8 hgr8
        go_wp2
        go_roundw
        case rel => exact ⟨k + 1, acc ++ [x], (l3, false), by omega, by rw [List.length_append, HACC.out]; rfl, by go_num, HOA.out, HRR.out, hl3, HB1.out, HGG.out⟩
        case measure => simp [intOf]; omega
    · have HB1 : Hid (rdList rdCur st = (acc, s2)) := Lib.hid (by rw [HRES.out, ← HE.out, show n - k = 0 by omega]; rfl)
      go_wp2
      go_ret
      exact ⟨_, rfl, by rw [HB1.out]; exact HO.out.inT, by rw [HB1.out]; exact HR2.out, HG.out⟩
end Go.Proofs.Ytkbigfkpgjhojaa
