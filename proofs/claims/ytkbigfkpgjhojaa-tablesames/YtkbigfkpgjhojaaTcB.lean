/- Tables out of bytes: lists of texts are read. -/
import Derived.Test.YtkbigfkpgjhojaaTcA
namespace Go.Proofs.Ytkbigfkpgjhojaa
open Go.RowKit Florin
set_option linter.unusedVariables false
set_option linter.unusedSimpArgs false
attribute [local go_sem ↓] Go.wp_at_zero Go.wp_at_succ
theorem lit_at (w : World) (l : List Value) (e : TypeId) (q : Nat) (hq : w.heap.size = q) : ∀ j u, l[j]? = some u → (w.alloc (.cells l.toArray e)).cell? ((⟨q, 0, none⟩ : Addr).add j) = some u := by subst hq; exact lit_cells w l e
theorem grown_own {a b c : World} {r : Nat} {row : Option Nat} (h : a.grownBy b (some r)) (k : b.grownBy c row) (hrow : ∀ q, row = some q → a.heap.size ≤ q) : a.grownBy c (some r) :=
  ⟨k.os.trans h.os, k.tape.trans h.tape, k.output.trans h.output, Nat.le_trans h.size k.size, fun i hi hn => (k.block i (Nat.lt_of_lt_of_le hi h.size) (fun e => by have := hrow i e.symm; omega)).trans (h.block i hi hn)⟩
theorem grown_new {a b : World} {r q : Nat} (h : a.grownBy b (some r)) (hq : a.heap.size ≤ q) (i : Nat) (v : Value) : a.grownBy (b.setCell ⟨q, i, none⟩ v) (some r) :=
  ⟨h.os, h.tape, h.output, by simpa [World.setCell] using h.size, fun j hj hn => (Below.heap_setCell _ _ _ _ (fun e => by simp only at e; omega)).trans (h.block j hj hn)⟩
theorem KeepB.set {T U : TypeId} {w : World} {q : Nat} {ds : Array Value} (hx : BoxT w q ds U) (hn : T ≠ U) (i : Nat) (v : Value) : KeepB T w (w.setCell ⟨q, i, none⟩ v) := fun b cs g => g.other (a := ⟨q, i, none⟩) (g.apart hx hn) v
set_option maxRecDepth 100000 in
set_option maxHeartbeats 3200000 in
theorem readText1_as (r p : Nat) (st : RS) (w : World) (hr : Rdr w r st) (hp : BoxT w p #[ptr r] TPr) (hl : st.1.length ≤ 1000000000) :
    Calls Try.prog 60 #[ptr p] w fun e w' => e = .returned (.agg #[.int .i64 (rdTx st).1.1, S (rdTx st).1.2]) ∧ Rdr w' r (rdTx st).2 ∧ w.grownBy w' (some r) := by
  have hpr : p ≠ r := hp.apart hr.box (by decide)
  have hrw := hr.lt
  have hne : w.heap.size ≠ r := by omega
  have HR := Lib.hid (hr.alloc (.cells #[.int .i64 0, .string ⟨#[]⟩] TTx))
  have HP := Lib.hid (hp.alloc (.cells #[.int .i64 0, .string ⟨#[]⟩] TTx))
  have HX := Lib.hid (BoxT.new w #[.int .i64 0, .string ⟨#[]⟩] TTx)
  have HG0 := Lib.hid (grown_alloc (World.grownBy.refl w (some r)) (.cells #[.int .i64 0, .string ⟨#[]⟩] TTx))
  have hp0 : (w.alloc (.cells #[.int .i64 0, .string ⟨#[]⟩] TTx)).cell? ⟨p, 0, none⟩ = some (ptr r) := HP.out.cell 0
  obtain ⟨m, hm⟩ : ∃ m, m = (numR st).1 := ⟨_, rfl⟩
  obtain ⟨s1, hs1⟩ : ∃ s1, s1 = (numR st).2 := ⟨_, rfl⟩
  have hl1 : s1.1.length ≤ 1000000000 := by rw [hs1]; exact Nat.le_trans (numR_mono st) hl
  obtain ⟨t, ht⟩ : ∃ t, t = (textR s1).1 := ⟨_, rfl⟩
  obtain ⟨s2, hs2⟩ : ∃ s2, s2 = (textR s1).2 := ⟨_, rfl⟩
  have HRD : Hid (rdTx st = ((((m : Nat) : Int), t), s2)) := Lib.hid (by rw [hm, ht, hs2, hs1]; rfl)
  have hcall := rnum_as r st (w.alloc (.cells #[.int .i64 0, .string ⟨#[]⟩] TTx)) HR.out hl
  rw [← hm, ← hs1] at hcall
  have HCALL := Lib.hid hcall
  have HG2 : Hid ((textR s1).1 = t ∧ (textR s1).2 = s2) := Lib.hid ⟨ht.symm, hs2.symm⟩
  clear hr hp hm hs1 ht hs2 hcall
  go_enter Try.func60, Try.ntmps60
  go_wp2_with fail
  with_reducible refine (HCALL.out).mono ?_
  rintro y w1 ⟨rfl, hr1, hg1⟩
  have HR1 := Lib.hid hr1
  have HG1 := Lib.hid (grown_trans HG0.out hg1)
  have hp1 : w1.cell? ⟨p, 0, none⟩ = some (ptr r) := (HP.out.grown hg1 (fun e => hpr (Option.some.inj e))).cell 0
  have HX1 := Lib.hid (HX.out.grown hg1 (fun e => hne (Option.some.inj e)))
  clear hr1 hg1 hp0 HCALL
  go_wp2_with fail
  with_reducible refine (rtext_as r s1 _ HR1.out hl1).mono ?_
  rw [HG2.out.1, HG2.out.2]
  rintro y w2 ⟨rfl, hr2, hg2⟩
  have HR2 := Lib.hid hr2
  have HG3 := Lib.hid (grown_trans HG1.out hg2)
  have HX2 := Lib.hid (HX1.out.grown hg2 (fun e => hne (Option.some.inj e)))
  have x0 := HX2.out.cell 0
  have x1 := HX2.out.cell 1
  have z0 := HX2.out.frozen 0
  have z1 := HX2.out.frozen 1
  have xl := HX2.out.lt
  simp only [List.getElem?_toArray, List.getElem?_cons_zero, List.getElem?_cons_succ] at x0 x1
  have HRF : Hid (Rdr ((w2.setCell ⟨w.heap.size, 0, none⟩ (.int .i64 ((m : Nat) : Int))).setCell ⟨w.heap.size, 1, none⟩ (S t)) r s2) := Lib.hid ((HR2.out.box.other (a := ⟨w.heap.size, 0, none⟩) (Ne.symm hne) _).other (a := ⟨w.heap.size, 1, none⟩) (Ne.symm hne) _)
  have HGF : Hid (w.grownBy ((w2.setCell ⟨w.heap.size, 0, none⟩ (.int .i64 ((m : Nat) : Int))).setCell ⟨w.heap.size, 1, none⟩ (S t)) (some r)) := Lib.hid (grown_new (grown_new HG3.out (Nat.le_refl _) 0 _) (Nat.le_refl _) 1 _)
  clear hr2 hg2 hp1
  go_wp2
  exact bodyPost_ret (v := .agg #[.int .i64 ((m : Nat) : Int), S t]) (by simp [results, Try.results60, go_sem, x0, x1]) rfl ⟨by rw [HRD.out], by rw [HRD.out]; exact HRF.out, HGF.out⟩
set_option maxRecDepth 100000 in
set_option maxHeartbeats 3200000 in
theorem readLT_as (r p : Nat) (st : RS) (w : World) (hr : Rdr w r st) (hp : BoxT w p #[ptr r] TPr) (hl : st.1.length ≤ 1000000000) :
    Calls Try.prog 59 #[ptr r, .func (Fn.func 60) #[] #[ptr p]] w fun e w' => ∃ v, e = .returned v ∧ InT w' TTx 2 (txA) v (rdList rdTx st).1 ∧ Rdr w' r (rdList rdTx st).2 ∧ w.grownBy w' (some r) := by
  obtain ⟨i0, hi, hz0, hz1, hz2⟩ := info_parts infoTx
  have HR := Lib.hid hr
  have HP := Lib.hid hp
  have hrw := hr.lt
  have hpr : p ≠ r := hp.apart hr.box (by decide)
  obtain ⟨n, hn⟩ : ∃ n, n = (cntR st 65536).1 := ⟨_, rfl⟩
  obtain ⟨st1, hst1⟩ : ∃ st1, st1 = (cntR st 65536).2 := ⟨_, rfl⟩
  have hn6 : n ≤ 65536 := by rw [hn]; exact cnt_le st
  have hl1 : st1.1.length ≤ 1000000000 := by rw [hst1]; exact Nat.le_trans (cntR_mono 65536 st) hl
  have HRES : Hid (rdList rdTx st = rdLs rdTx n [] st1) := Lib.hid (by rw [hn, hst1]; rfl)
  have HN : Hid ((cntR st 65536).1 = n ∧ (cntR st 65536).2 = st1) := Lib.hid ⟨hn.symm, hst1.symm⟩
  clear hr hp hn hst1
  go_enter Try.func59, Try.ntmps59
  go_wp2_with fail
  with_reducible refine (rcnt_as r st 65536 _ HR.out hl).mono ?_
  rw [HN.out.1, HN.out.2]
  rintro y w1 ⟨rfl, hr1, hg1⟩
  have HR1 := Lib.hid hr1
  have HG1 := Lib.hid hg1
  have hs1 := hg1.size
  clear hr1 hg1
  go_wp2_with fail
  go_loopw [5, 9] (fun v i wr => ∃ (k : Nat) (acc : List TxM) (s2 : RS), k ≤ n ∧ acc.length = k ∧ i = .int .i64 (k : Int) ∧ OwnA wr w.heap.size TTx 2 (txA) v acc ∧ Rdr wr r s2 ∧ s2.1.length ≤ 1000000000 ∧ rdLs rdTx (n - k) acc s2 = rdLs rdTx n [] st1 ∧ w.grownBy wr (some r)) (fun _ i _ => n - (intOf i).toNat)
  case atStart => exact ⟨0, [], st1, Nat.zero_le _, rfl, rfl, OwnA.nil _ _ _ _ _, HR1.out, hl1, rfl, HG1.out⟩
  case round =>
    obtain ⟨k, acc, s2, hk, hacc, rfl, hown, hr2, hl2, hres, hg⟩ := hrel
    have HO := Lib.hid hown
    have HR2 := Lib.hid hr2
    have HE := Lib.hid hres
    have HG := Lib.hid hg
    have HACC := Lib.hid hacc
    have hws := hg.size
    have hrr := hr2.lt
    clear hown hr2 hres hg hacc HR1
    by_cases hlt : k < n
    · have hki : (k : Int) < (n : Int) := by omega
      have hp1 : BoxT wr p #[ptr r] TPr := HP.out.grown HG.out (fun e => hpr (Option.some.inj e))
      obtain ⟨x, hx⟩ : ∃ x, x = (rdTx s2).1 := ⟨_, rfl⟩
      obtain ⟨s3, hs3⟩ : ∃ s3, s3 = (rdTx s2).2 := ⟨_, rfl⟩
      have hcl := readText1_as r p s2 wr HR2.out hp1 hl2
      have hl3 : s3.1.length ≤ 1000000000 := by rw [hs3]; exact Nat.le_trans (rdTx_mono s2) hl2
      rw [← hx, ← hs3] at hcl
      have HCL := Lib.hid hcl
      have HX3 : Hid (rdTx s2 = (x, s3)) := Lib.hid (by rw [hx, hs3])
      clear hcl hx hs3 hp1
      obtain ⟨l3, f3⟩ := s3
      go_wp2_with fail
      with_reducible refine (HCL.out).mono ?_
      rintro y w2 ⟨rfl, hr3, hg3⟩
      have HR3 := Lib.hid (hr3.alloc (.cells #[.int .i64 x.1, S x.2] TTx))
      have HK := Lib.hid (KeepB.of (T := TTx) HR2.out.box (by decide) hg3)
      have HKX := Lib.hid (KeepB.of (T := TTx) HR2.out.box (by decide) hg3)
      have HG3 := Lib.hid (grown_trans HG.out hg3)
      have hs3 := hg3.size
      have HR3B := Lib.hid hr3
      clear hr3 hg3
      cases f3 with
      | true =>
        have HB1 : Hid (rdList rdTx st = ([], (l3, true))) := Lib.hid (by
          rw [HRES.out, ← HE.out, show n - k = (n - k - 1) + 1 by omega, rdLs_bad1 (by rw [HX3.out]), HX3.out])
        go_wp2_with fail
        with_reducible refine (ok_as r l3 true _ HR3.out).mono ?_
        rintro y wn ⟨rfl, rfl⟩
        go_wp2
        go_ret
        exact ⟨_, rfl, by rw [HB1.out]; exact InT.nil _ _ _ _, by rw [HB1.out]; exact HR3.out, grown_alloc HG3.out _⟩
      | false =>
        have HB1 : Hid (rdLs rdTx (n - (k + 1)) (acc ++ [x]) (l3, false) = rdLs rdTx n [] st1) := Lib.hid (by
          rw [← HE.out, show n - k = (n - (k + 1)) + 1 by omega, rdLs_ok1 (by rw [HX3.out]), HX3.out])
        go_wp2_with fail
        with_reducible refine (ok_as r l3 false _ HR3.out).mono ?_
        rintro y wn ⟨rfl, rfl⟩
        obtain ⟨xs, hox, hex⟩ := HO.out
        have HEX := Lib.hid hex
        have hox3 : (w2.alloc (.cells #[.int .i64 x.1, S x.2] TTx)).ownsRow w.heap.size TTx 2 u5 k xs := by
          have h := (own_keep hox HK.out).alloc (.cells #[.int .i64 x.1, S x.2] TTx)
          rw [HACC.out] at h
          exact h
        have HO3 := Lib.hid hox3
        have HO4 := Lib.hid (hox3.alloc (.cells #[.int .i64 x.1, S x.2] TTx))
        have HXL : Hid (xs.length = acc.length * 2) := Lib.hid hox.1
        clear hox hex hox3
        go_wp2_with (at_builtin; refine wpList_append_own _ rfl _ _ 27 rfl w.heap.size TTx i0 (.agg #[.int .i64 0, .string ⟨#[]⟩]) 2 24 Try.underlying27 hi hz0 hz1 hz2 rfl (by decide) _ k _ rfl HO4.out ⟨w2.heap.size + 1, 0, none⟩ 1 1 [.int .i64 x.1, S x.2] rfl rfl (lit_at (w2.alloc (.cells #[.int .i64 x.1, S x.2] TTx)) [.int .i64 x.1, S x.2] TTx (w2.heap.size + 1) (by simp)) (by simp [Value.oneCell']) (len_max (by omega)) (by omega) (by simp; omega) ?_; intro v8 w8 hown8 hgr8 _)
        have HGG := Lib.hid (grown_own (grown_alloc (grown_alloc HG3.out (.cells #[.int .i64 x.1, S x.2] TTx)) (.cells #[.int .i64 x.1, S x.2] TTx)) hgr8 (fun q hq => (World.ownsRow.lt HO4.out q hq).1))
        have HRR : Hid (Rdr w8 r (l3, false)) := Lib.hid (KeepB.own HO4.out (by decide) hgr8 _ _ ((HR3.out.alloc (.cells #[.int .i64 x.1, S x.2] TTx)).box))
        have HOA : Hid (OwnA w8 w.heap.size TTx 2 txA v8 (acc ++ [x])) := Lib.hid ⟨_, by rw [List.length_append, HACC.out]; exact hown8, Elts.snoc HEX.out (show txA x [.int .i64 x.1, S x.2] from rfl) rfl HXL.out⟩
        clear hown8 hgr8
        go_wp2
        go_roundw
        case rel => exact ⟨k + 1, acc ++ [x], (l3, false), by omega, by rw [List.length_append, HACC.out]; rfl, by go_num, HOA.out, HRR.out, hl3, HB1.out, HGG.out⟩
        case measure => simp [intOf]; omega
    · have HB1 : Hid (rdList rdTx st = (acc, s2)) := Lib.hid (by rw [HRES.out, ← HE.out, show n - k = 0 by omega]; rfl)
      go_wp2
      go_ret
      exact ⟨_, rfl, by rw [HB1.out]; exact HO.out.inT, by rw [HB1.out]; exact HR2.out, HG.out⟩
set_option maxRecDepth 100000 in
set_option maxHeartbeats 1600000 in
theorem readTexts_as (r : Nat) (st : RS) (w : World) (hr : Rdr w r st) (hl : st.1.length ≤ 1000000000) :
    Calls Try.prog 47 #[ptr r] w fun e w' => ∃ v, e = .returned v ∧ InT w' TTx 2 (txA) v (rdTxs st).1 ∧ Rdr w' r (rdTxs st).2 ∧ w.grownBy w' (some r) := by
  have HR := Lib.hid (hr.alloc (.cells #[ptr r] TPr))
  have HP := Lib.hid (BoxT.new w #[ptr r] TPr)
  have HG := Lib.hid (grown_alloc (World.grownBy.refl w (some r)) (.cells #[ptr r] TPr))
  clear hr
  go_enter Try.func47, Try.ntmps47
  go_wp2_with fail
  generalize w.alloc (.cells #[ptr r] TPr) = w0 at *
  generalize w.heap.size = p at *
  with_reducible refine (readLT_as r p st _ HR.out HP.out hl).mono ?_
  rintro y w3 ⟨v, rfl, hv, hr3, hg3⟩
  have HV := Lib.hid hv
  have HR3 := Lib.hid hr3
  have HG3 := Lib.hid (grown_trans HG.out hg3)
  obtain ⟨va, vc, rfl, _, _, _⟩ := hv
  clear hr3 hg3
  go_wp2
  go_ret
  exact ⟨_, rfl, HV.out, HR3.out, HG3.out⟩
end Go.Proofs.Ytkbigfkpgjhojaa
