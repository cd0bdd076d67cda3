/- Parse of patterns: the pattern that a text is, or its first error and where it stands. -/
import Derived.Test.YtmmllhdphlnpjaaDoorPtN
namespace Florin
inductive PtRes where
  | ok (x : PatT)
  | err (c k : Nat)
def parseQ (l : List UInt8) : PtRes :=
  if 100 < l.length then .err 2 0
  else match wsQ l with
    | some r => .err 1 (l.length - r.length)
    | none => match patP l with
      | .bad r => .err 1 (l.length - r.length)
      | .ok x _ => .ok x
theorem parse_q1 {l : List UInt8} (h : 100 < l.length) : parseQ l = .err 2 0 := by unfold parseQ; rw [if_pos h]
theorem parse_q2 {l r : List UInt8} (h : ¬ 100 < l.length) (h2 : wsQ l = some r) : parseQ l = .err 1 (l.length - r.length) := by unfold parseQ; rw [if_neg h, h2]
theorem parse_q3 {l r : List UInt8} (h : ¬ 100 < l.length) (h2 : wsQ l = none) (h3 : patP l = .bad r) : parseQ l = .err 1 (l.length - r.length) := by unfold parseQ; rw [if_neg h, h2]; dsimp only; rw [h3]
theorem parse_q4 {l r : List UInt8} {x : PatT} (h : ¬ 100 < l.length) (h2 : wsQ l = none) (h3 : patP l = .ok x r) : parseQ l = .ok x := by unfold parseQ; rw [if_neg h, h2]; dsimp only; rw [h3]
end Florin
namespace Go.Proofs.YtmmllhdphlnpjaaDoor
open Go.RowKit Florin
set_option linter.unusedVariables false
set_option linter.unusedSimpArgs false
attribute [local go_sem ↓] Go.wp_at_zero Go.wp_at_succ
def PTd (w' : World) (R : PtRes) (e : Ending) : Prop := match R with
  | .err c k => e = .returned (.tuple #[.agg Z0, .int .i64 (c : Int), .int .i64 (k : Int)])
  | .ok x => ∃ v, e = .returned (.tuple #[v, .int .i64 0, .int .i64 0]) ∧ PatV w' x v
theorem PatV.keep {w w' : World} {x : PatT} {v : Value} (h : PatV w x v) (hk : KeepB TPc w w') : PatV w' x v := by
  obtain ⟨a, b, c, d, e, h1, h2, h3, h4⟩ := h
  exact ⟨a, b, c, d, e, h1.keep hk, h2.keep hk, h3.keep hk, h4.keep hk⟩
theorem res_parse {w : World} {o e a : Nat} {X : Array Value} {c k : Int} (h : BoxT w o X TP) (hi : (Tryd.prog.info? TP).map (·.size) = some X.size) (h2 : BoxT w e #[.int .i64 c] TEr) (h3 : BoxT w a #[.int .i64 k] TIn) (tm : Array Value)
    (t2 : tm[2]?.getD undef = .pointer (some ⟨o, 0, none⟩)) (t3 : tm[3]?.getD undef = .pointer (some ⟨e, 0, none⟩)) (t4 : tm[4]?.getD undef = .pointer (some ⟨a, 0, none⟩)) :
    (results Tryd.f7 tm).run Tryd.prog w = .ok (.tuple #[.agg X, .int .i64 c, .int .i64 k]) w := by
  have hld := run_loadVar_box (P := Tryd.prog) h Tryd.underlying27 (by rfl) hi
  have e0 := h2.cell 0
  have a0 := h3.cell 0
  simp at e0 a0
  have hle : (loadVar TEr ⟨e, 0, none⟩).run Tryd.prog w = .ok (.int .i64 c) w := by simp [go_sem, e0]
  have hla : (loadVar TIn ⟨a, 0, none⟩).run Tryd.prog w = .ok (.int .i64 k) w := by simp [go_sem, a0]
  simp [results, Tryd.results7, t2, t3, t4, asAddr, hld, hle, hla]
set_option maxRecDepth 100000 in
set_option maxHeartbeats 1600000 in
theorem tight_as (s : ByteArray) (w : World) : Calls Tryd.prog 15 #[.string s] w fun z w' => z = .returned (.agg #[.string s, .int .i64 0, .bool true]) ∧ w.alloc (.cells #[.string s, .int .i64 0, .bool true] 47) = w' := by
  go_enter Tryd.func15, Tryd.ntmps15
  go_wp2
  exact bodyPost_ret (v := .agg #[.string s, .int .i64 0, .bool true]) (by simp [results, Tryd.results15, go_sem]) rfl ⟨rfl, rfl⟩
abbrev W3 (w : World) : World := ((w.alloc (.cells Z0 TP)).alloc (.cells #[.int .i64 0] TEr)).alloc (.cells #[.int .i64 0] TIn)
theorem w3_o (w : World) : BoxT (W3 w) w.heap.size Z0 TP := ((BoxT.new w Z0 TP).alloc _).alloc _
theorem w3_e (w : World) : BoxT (W3 w) (w.heap.size + 1) #[.int .i64 0] TEr := by
  have h := (BoxT.new (w.alloc (.cells Z0 TP)) #[.int .i64 0] TEr).alloc (.cells #[.int .i64 0] TIn)
  rw [show (w.alloc (.cells Z0 TP)).heap.size = w.heap.size + 1 by simp] at h
  exact h
theorem w3_a (w : World) : BoxT (W3 w) (w.heap.size + 1 + 1) #[.int .i64 0] TIn := by
  have h := BoxT.new ((w.alloc (.cells Z0 TP)).alloc (.cells #[.int .i64 0] TEr)) #[.int .i64 0] TIn
  rw [show ((w.alloc (.cells Z0 TP)).alloc (.cells #[.int .i64 0] TEr)).heap.size = w.heap.size + 1 + 1 by simp] at h
  exact h
theorem w3_below (w : World) : Below w.heap.size w (W3 w) := (((Below.refl _ _).alloc (Nat.le_refl _) _).alloc (by simp) _).alloc (by simp; omega) _
theorem w3_size (w : World) : (W3 w).heap.size = w.heap.size + 1 + 1 + 1 := by simp [W3]
set_option maxRecDepth 100000 in
set_option maxHeartbeats 3200000 in
theorem pparse_as (s : ByteArray) (w : World) (hE : EnvP w) (hs : s.size ≤ maxLen) (R : PtRes) (hR : parseQ s.data.toList = R) :
    Calls Tryd.prog 7 #[.string s] w fun e w' => PTd w' R e ∧ Below w.heap.size w w' := by
  have hmf : ∀ (fn : Fn) (first cap : Array Value) (w : World), (Instr.makeFunc fn first cap).run Tryd.prog w = .ok (.func fn first cap) w := fun _ _ _ _ => rfl
  have hls : s.data.toList.length = s.size := size_list s
  have O3 := Lib.hid (w3_o w)
  have E3 := Lib.hid (w3_e w)
  have A3 := Lib.hid (w3_a w)
  have B3 := Lib.hid (w3_below w)
  have hs3 := w3_size w
  by_cases hbig : 100 < s.size
  · have hsi : (100 : Int) < (s.size : Int) := by omega
    have HQ : Hid (.err 2 0 = R) := Lib.hid (by rw [← hR, parse_q1 (by omega)])
    clear hR hE
    go_enter_defers Tryd.func7, Tryd.ntmps7
    go_wp2_with (refine wpList_store_box (by rfl) TP (.tmp 2) (.tmp 9) (by rfl) w.heap.size Z0 Z0 TP (by rfl) (by rfl) O3.out z0_info rfl z0_one ?_; intro w1 hx1 hg1; have e1 := E3.out.grown hg1 (fun h => by have := Option.some.inj h; omega); have a1 := A3.out.grown hg1 (fun h => by have := Option.some.inj h; omega); have ec := e1.cell 0; have ez := e1.frozen 0; have el := e1.lt; have ac := a1.cell 0; have az := a1.frozen 0; have al := a1.lt; simp at ec ac)
    rw [← HQ.out]
    have nea : w.heap.size + 1 ≠ w.heap.size + 1 + 1 := by omega
    refine ⟨_, res_parse ((hx1.other (a := ⟨w.heap.size + 1, 0, none⟩) (show w.heap.size ≠ w.heap.size + 1 by omega) _).other (a := ⟨w.heap.size + 1 + 1, 0, none⟩) (show w.heap.size ≠ w.heap.size + 1 + 1 by omega) _) z0_info ((show BoxT _ _ #[.int .i64 2] TEr from e1.set 0 (.int .i64 2)).other (a := ⟨w.heap.size + 1 + 1, 0, none⟩) nea _) (show BoxT _ _ #[.int .i64 0] TIn from (a1.other (a := ⟨w.heap.size + 1, 0, none⟩) (fun h => nea h.symm) _).set 0 (.int .i64 0)) _ rfl rfl rfl, rfl, ?_⟩
    exact ((B3.out.grown hg1 B3.out.size (fun k h => by cases h; exact Nat.le_refl _)).setCell (p := ⟨w.heap.size + 1, 0, none⟩) (show w.heap.size ≤ w.heap.size + 1 by omega) _).setCell (p := ⟨w.heap.size + 1 + 1, 0, none⟩) (show w.heap.size ≤ w.heap.size + 1 + 1 by omega) _
  have hsi : ¬ (100 : Int) < (s.size : Int) := by omega
  have hT : s.size ≤ 1000 := by omega
  have V3 := Lib.hid ((EnvP.below hE (w3_below w)))
  have nea : w.heap.size + 1 ≠ w.heap.size + 1 + 1 := by omega
  obtain ⟨R1, hR1⟩ : ∃ R1, wsQ s.data.toList = R1 := ⟨_, rfl⟩
  have HR1 := Lib.hid hR1
  have HQ := Lib.hid hR
  have HBIG : Hid (¬ 100 < s.data.toList.length) := Lib.hid (by omega)
  clear hR hR1 hE
  go_enter_defers Tryd.func7, Tryd.ntmps7
  go_wp2_with fail
  with_reducible refine (signs_as s _ hT V3.out.e R1 HR1.out).mono ?_
  intro e w1 ht
  cases R1 with
  | some r =>
    obtain ⟨⟨p, rfl, hat⟩, hb⟩ := ht
    obtain rfl : p = s.size - r.length := by have h1 := hat.len; have h2 := hat.le; omega
    have HQE : Hid (.err 1 (s.size - r.length) = R) := Lib.hid (by rw [← HQ.out, parse_q2 HBIG.out HR1.out, hls])
    have O4 := Lib.hid (O3.out.below hb)
    have E4 := Lib.hid (E3.out.below hb)
    have A4 := Lib.hid (A3.out.below hb)
    have B4 := Lib.hid (B3.out.trans (hb.mono B3.out.size))
    have hs4 := hb.size
    clear hat hb
    go_wp2
    refine leaves_cons (f := 13) (args := #[.pointer (some ⟨w.heap.size, 0, none⟩), .pointer (some ⟨w.heap.size + 1, 0, none⟩), .pointer (some ⟨w.heap.size + 1 + 1, 0, none⟩)]) (by simp) (by simp [go_sem]) ?_
    refine (catch_fault w.heap.size (w.heap.size) (w.heap.size + 1) (w.heap.size + 1 + 1) 1 _ w1 O4.out E4.out A4.out (Nat.le_refl _) (by omega) (by omega) (by omega)).mono ?_
    rintro z u' w'' ⟨rfl, rfl, ho, he, ha, hb⟩
    rw [← HQE.out]
    exact ⟨_, res_parse ho z0_info he ha _ rfl rfl rfl, rfl, B4.out.trans hb⟩
  | none =>
    obtain ⟨rfl, hb⟩ := ht
    have O4 := Lib.hid (((O3.out.below hb).alloc (.cells #[.string s, .int .i64 0, .bool true] 47)).alloc (.cells #[.string s, .int .i64 0, .bool true] 50))
    have E4 := Lib.hid (((E3.out.below hb).alloc (.cells #[.string s, .int .i64 0, .bool true] 47)).alloc (.cells #[.string s, .int .i64 0, .bool true] 50))
    have A4 := Lib.hid (((A3.out.below hb).alloc (.cells #[.string s, .int .i64 0, .bool true] 47)).alloc (.cells #[.string s, .int .i64 0, .bool true] 50))
    have hs4 := hb.size
    have B4 := Lib.hid (((B3.out.trans (hb.mono B3.out.size)).alloc (by omega) (.cells #[.string s, .int .i64 0, .bool true] 47)).alloc (by simp; omega) (.cells #[.string s, .int .i64 0, .bool true] 50))
    have V4 := Lib.hid (((V3.out.below hb).alloc (.cells #[.string s, .int .i64 0, .bool true] 47)).alloc (.cells #[.string s, .int .i64 0, .bool true] 50))
    have R4 : Hid (Rd ((w1.alloc (.cells #[.string s, .int .i64 0, .bool true] 47)).alloc (.cells #[.string s, .int .i64 0, .bool true] 50)) (w1.heap.size + 1) s 0) := Lib.hid (by
      have h := BoxT.new (w1.alloc (.cells #[.string s, .int .i64 0, .bool true] 47)) #[.string s, .int .i64 0, .bool true] 50
      rw [show (w1.alloc (.cells #[.string s, .int .i64 0, .bool true] 47)).heap.size = w1.heap.size + 1 by simp] at h
      exact h)
    have hsz4 : ((w1.alloc (.cells #[.string s, .int .i64 0, .bool true] 47)).alloc (.cells #[.string s, .int .i64 0, .bool true] 50)).heap.size = w1.heap.size + 1 + 1 := by simp
    clear hb O3 E3 A3 B3 V3
    go_wp2_with fail
    with_reducible refine (tight_as s _).mono ?_
    rintro x wq ⟨rfl, rfl⟩
    go_wp2_with fail
    generalize (w1.alloc (.cells #[.string s, .int .i64 0, .bool true] 47)).alloc (.cells #[.string s, .int .i64 0, .bool true] 50) = w2 at *
    obtain ⟨R2, hR2⟩ : ∃ R2, patP s.data.toList = R2 := ⟨_, rfl⟩
    have HR2 := Lib.hid hR2
    clear hR2
    with_reducible refine (pattern_as (w1.heap.size + 1) s 0 s.data.toList w2 R4.out ⟨Nat.zero_le _, rfl⟩ hT V4.out R2 HR2.out).mono ?_
    intro e w5 ht
    cases R2 with
    | bad r =>
      obtain ⟨p, rfl, hat, hg⟩ := ht
      obtain rfl : p = s.size - r.length := by have h1 := hat.len; have h2 := hat.le; omega
      have HQE : Hid (.err 1 (s.size - r.length) = R) := Lib.hid (by rw [← HQ.out, parse_q3 HBIG.out HR1.out HR2.out, hls])
      have O5 := Lib.hid (O4.out.grown hg (fun h => by have := Option.some.inj h; omega))
      have E5 := Lib.hid (E4.out.grown hg (fun h => by have := Option.some.inj h; omega))
      have A5 := Lib.hid (A4.out.grown hg (fun h => by have := Option.some.inj h; omega))
      have hs5 := hg.size
      have B5 := Lib.hid (B4.out.grown hg B4.out.size (fun k h => by cases h; omega))
      clear hat hg
      go_wp2
      refine leaves_cons (f := 13) (args := #[.pointer (some ⟨w.heap.size, 0, none⟩), .pointer (some ⟨w.heap.size + 1, 0, none⟩), .pointer (some ⟨w.heap.size + 1 + 1, 0, none⟩)]) (by simp) (by simp [go_sem]) ?_
      refine (catch_fault w.heap.size (w.heap.size) (w.heap.size + 1) (w.heap.size + 1 + 1) 1 _ w5 O5.out E5.out A5.out (Nat.le_refl _) (by omega) (by omega) (by omega)).mono ?_
      rintro z u' w'' ⟨rfl, rfl, ho, he, ha, hb⟩
      rw [← HQE.out]
      exact ⟨_, res_parse ho z0_info he ha _ rfl rfl rfl, rfl, B5.out.trans hb⟩
    | ok x r =>
      obtain ⟨v, p, rfl, hv, hat, hr, hg⟩ := ht
      have HQE : Hid (.ok x = R) := Lib.hid (by rw [← HQ.out, parse_q4 HBIG.out HR1.out HR2.out])
      have O5 := Lib.hid (O4.out.grown hg (fun h => by have := Option.some.inj h; omega))
      have E5 := Lib.hid (E4.out.grown hg (fun h => by have := Option.some.inj h; omega))
      have A5 := Lib.hid (A4.out.grown hg (fun h => by have := Option.some.inj h; omega))
      have hs5 := hg.size
      have B5 := Lib.hid (B4.out.grown hg B4.out.size (fun k h => by cases h; omega))
      have HV := Lib.hid hv
      obtain ⟨vp, vs, np, ns, rfl, h1, h2, h3, h4⟩ := hv
      obtain ⟨b1, c1, rfl⟩ := h1.slice
      obtain ⟨b2, c2, rfl⟩ := h2.slice
      obtain ⟨b3, c3, rfl⟩ := h3.slice
      obtain ⟨b4, c4, rfl⟩ := h4.slice
      have HIN := Lib.hid (infoPX (X := HC x.pos.num (.slice b1 x.pos.pre.length c1) (.slice b2 x.pos.suf.length c2) (.slice b3 (negPre x).length c3) (.slice b4 (negSuf x).length c4) x.neg.isSome) rfl)
      have HON := Lib.hid (hc_one x.pos.num b1 b2 b3 b4 x.pos.pre.length x.pos.suf.length (negPre x).length (negSuf x).length c1 c2 c3 c4 x.neg.isSome)
      have HSZ : Hid (Z0.size = (HC x.pos.num (.slice b1 x.pos.pre.length c1) (.slice b2 x.pos.suf.length c2) (.slice b3 (negPre x).length c3) (.slice b4 (negSuf x).length c4) x.neg.isSome).size) := Lib.hid rfl
      generalize HC x.pos.num (.slice b1 x.pos.pre.length c1) (.slice b2 x.pos.suf.length c2) (.slice b3 (negPre x).length c3) (.slice b4 (negSuf x).length c4) x.neg.isSome = X at *
      clear hat hr hg h1 h2 h3 h4 O4 E4 A4 B4 R4 V4
      go_wp2_with (refine wpList_store_box (by rfl) TP (.tmp 2) (.tmp 16) (by rfl) w.heap.size Z0 X TP (by rfl) (by rfl) O5.out HIN.out HSZ.out HON.out ?_; intro w6 hx6 hg6; have e6 := E5.out.grown hg6 (fun h => by have := Option.some.inj h; omega); have a6 := A5.out.grown hg6 (fun h => by have := Option.some.inj h; omega); have ec := e6.cell 0; have ez := e6.frozen 0; have el := e6.lt; have ac := a6.cell 0; have az := a6.frozen 0; have al := a6.lt; simp at ec ac)
      refine leaves_cons (f := 13) (args := #[.pointer (some ⟨w.heap.size, 0, none⟩), .pointer (some ⟨w.heap.size + 1, 0, none⟩), .pointer (some ⟨w.heap.size + 1 + 1, 0, none⟩)]) (by simp) (by simp [go_sem]) ?_
      refine (catch_idle (w.heap.size) (w.heap.size + 1) (w.heap.size + 1 + 1) _).mono ?_
      rintro z u' w'' ⟨rfl, rfl, rfl⟩
      rw [← HQE.out]
      have e7 : BoxT ((w6.setCell ⟨w.heap.size + 1, 0, none⟩ (.int .i64 0)).setCell ⟨w.heap.size + 1 + 1, 0, none⟩ (.int .i64 0)) (w.heap.size + 1) #[.int .i64 0] TEr := (show BoxT _ _ #[.int .i64 0] TEr from e6.set 0 (.int .i64 0)).other (a := ⟨w.heap.size + 1 + 1, 0, none⟩) nea _
      have a7 : BoxT ((w6.setCell ⟨w.heap.size + 1, 0, none⟩ (.int .i64 0)).setCell ⟨w.heap.size + 1 + 1, 0, none⟩ (.int .i64 0)) (w.heap.size + 1 + 1) #[.int .i64 0] TIn := (a6.other (a := ⟨w.heap.size + 1, 0, none⟩) (fun h => nea h.symm) _).set 0 (.int .i64 0)
      have x7 := (hx6.other (a := ⟨w.heap.size + 1, 0, none⟩) (show w.heap.size ≠ w.heap.size + 1 by omega) (.int .i64 0)).other (a := ⟨w.heap.size + 1 + 1, 0, none⟩) (show w.heap.size ≠ w.heap.size + 1 + 1 by omega) (.int .i64 0)
      have k7 : KeepB TPc w5 ((w6.setCell ⟨w.heap.size + 1, 0, none⟩ (.int .i64 0)).setCell ⟨w.heap.size + 1 + 1, 0, none⟩ (.int .i64 0)) := ((KeepB.of O5.out (by decide) hg6).trans (KeepB.set1 e6 (by decide) 0 (.int .i64 0))).trans (KeepB.set1 (a6.other (a := ⟨w.heap.size + 1, 0, none⟩) (fun h => nea h.symm) (.int .i64 0)) (by decide) 0 (.int .i64 0))
      refine ⟨_, res_parse (x7.alloc _) HIN.out (e7.alloc _) (a7.alloc _) _ rfl rfl rfl, ⟨_, rfl, (HV.out.keep k7).keep (KeepB.below (below_alloc _ _))⟩, ?_⟩
      exact (((B5.out.grown hg6 B5.out.size (fun k h => by cases h; exact Nat.le_refl _)).setCell (p := ⟨w.heap.size + 1, 0, none⟩) (show w.heap.size ≤ w.heap.size + 1 by omega) _).setCell (p := ⟨w.heap.size + 1 + 1, 0, none⟩) (show w.heap.size ≤ w.heap.size + 1 + 1 by omega) _).alloc (by have h := hg6.size; simp [World.setCell]; omega) _
end Go.Proofs.YtmmllhdphlnpjaaDoor
