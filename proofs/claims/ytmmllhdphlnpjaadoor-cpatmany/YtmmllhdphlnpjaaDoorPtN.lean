/- Parse of patterns: what is caught at its face. -/
import Derived.Test.YtmmllhdphlnpjaaDoorPtM
import Derived.Defers
import Derived.Recover
namespace Go.Proofs.YtmmllhdphlnpjaaDoor
open Go.RowKit Florin
set_option linter.unusedVariables false
set_option linter.unusedSimpArgs false
attribute [local go_sem ↓] Go.wp_at_zero Go.wp_at_succ
abbrev TFt : TypeId := 43
abbrev TEr : TypeId := 30
abbrev TIn : TypeId := 3
theorem step_store_box {P : Program} {ops : Array Oper} {op : Oper} {a : Act} {w : World} {K : Act → World → Prop} {Q : Exit → Act → World → Prop} {E : Prop} (hgd : op.guard = none) (ty : TypeId) (x y : Operand) (ho : op.op = .store ty x y)
    (b : Nat) (old X : Array Value) (T : TypeId) (hx : a.eval x = .pointer (some ⟨b, 0, none⟩)) (hy : a.eval y = .agg X) (hb : BoxT w b old T)
    (hi : (P.info? ty).map (·.size) = some X.size) (hs : old.size = X.size) (h1 : X.all (·.oneCell') = true)
    (h : ∀ w', BoxT w' b X T → w.grownBy w' (some b) → K (a.put op.dst undef) w') :
    if Region.wanted op (yielded ops a.tmps) = true then Oper.wp P op a w K Q else E := by
  have hw : Region.wanted op (yielded ops a.tmps) = true := by simp [Region.wanted, hgd]
  rw [if_pos hw]
  unfold Oper.wp execOp
  simp only [ho, hx, hy, Instr.storeAt, Instr.sureAddr, Sem.run_bind, Sem.run_pure, Result.andThen_ok, run_storeVar_row w b T ty old X hb hi hs h1]
  exact h _ (setRow_heap w b old X T (0, 0) hb) (grown_row w b X)
theorem assert_nil (w : World) : Sem.run Tryd.prog (Instr.typeAssert .nilIface 20 43 true) w = .ok (.tuple #[.agg #[.int .i64 0, .int .i64 0], .bool false]) w := by kernel_rfl
attribute [local go_sem ↓] assert_nil
set_option maxRecDepth 100000 in
set_option maxHeartbeats 400000 in
theorem catch_idle (o e a : Nat) (w : World) :
    CallsD Tryd.prog 13 #[.pointer (some ⟨o, 0, none⟩), .pointer (some ⟨e, 0, none⟩), .pointer (some ⟨a, 0, none⟩)] .returning w fun z u' w' => z = .returned (.tuple #[]) ∧ u' = .returning ∧ w' = (w.alloc (.cells #[.int .i64 0, .int .i64 0] 43)) := by
  refine callsD_of_wpS Tryd.func13 rfl fun c₀ cs hu => ?_
  simp only [Tryd.ntmps13, List.size_toArray, List.length_cons, List.length_nil, Nat.reduceAdd, Nat.reduceSub, Array.replicate_succ, Array.replicate_zero, List.push_toArray, List.append_toArray, List.nil_append, List.cons_append]
  apply wpS_seq
  apply wpS_region
  simp [wpOpsS, go_sem, recoverD, hu, Exit.thenS]
  refine wpS_of_wp ?_
  generalize hQ : (fun (ex : Exit) (a' : Act) (w' : World) => bodyPostS Tryd.prog Tryd.f13 c₀ cs (fun z u' w' => z = Ending.returned (Value.tuple #[]) ∧ u' = FrameMode.returning ∧ w' = (w.alloc (.cells #[.int .i64 0, .int .i64 0] 43))) ex a' (c₀ :: cs) w') = Q
  have HQ := Lib.hid hQ
  clear hQ
  go_wp2
  rw [← HQ.out]
  cases c₀
  simp_all [bodyPostS, results, Tryd.results13]
theorem assert_fault (c q : Int) (w : World) : Sem.run Tryd.prog (Instr.typeAssert (.iface 43 (.agg #[.int .i64 c, .int .i64 q])) 20 43 true) w = .ok (.tuple #[.agg #[.int .i64 c, .int .i64 q], .bool true]) w := by kernel_rfl
attribute [local go_sem ↓] assert_fault
theorem z0_one : Z0.all (·.oneCell') = true := by simp [Z0, Value.oneCell']
theorem z0_info : (Tryd.prog.info? TP).map (·.size) = some Z0.size := infoP
theorem below_three {B o e a : Nat} {w W : World} (h : Below B w W) (h1 : B ≤ o) {w' : World} (hB : B ≤ W.heap.size) (hg : W.grownBy w' (some o)) : Below B w w' := h.grown hg hB (fun k e => by cases e; exact h1)
theorem Rd_other11 {W : World} {b n : Nat} {cs : Array Value} {t : TypeId} (h : BoxT W b cs t) (hn : b ≠ n) (v0 v1 v2 v3 v4 v5 v6 v7 v8 v9 v10 : Value) : BoxT (put11 W n v0 v1 v2 v3 v4 v5 v6 v7 v8 v9 v10) b cs t :=
  ((((((((((h.other (a := ⟨n, 0, none⟩) hn v0).other (a := ⟨n, 1, none⟩) hn v1).other (a := ⟨n, 2, none⟩) hn v2).other (a := ⟨n, 3, none⟩) hn v3).other (a := ⟨n, 4, none⟩) hn v4).other (a := ⟨n, 5, none⟩) hn v5).other (a := ⟨n, 6, none⟩) hn v6).other (a := ⟨n, 7, none⟩) hn v7).other (a := ⟨n, 8, none⟩) hn v8).other (a := ⟨n, 9, none⟩) hn v9).other (a := ⟨n, 10, none⟩) hn v10
theorem below_put11 {B : Nat} {w W : World} (h : Below B w W) {n : Nat} (hn : B ≤ n) (v0 v1 v2 v3 v4 v5 v6 v7 v8 v9 v10 : Value) : Below B w (put11 W n v0 v1 v2 v3 v4 v5 v6 v7 v8 v9 v10) :=
  ((((((((((h.setCell (p := ⟨n, 0, none⟩) hn v0).setCell (p := ⟨n, 1, none⟩) hn v1).setCell (p := ⟨n, 2, none⟩) hn v2).setCell (p := ⟨n, 3, none⟩) hn v3).setCell (p := ⟨n, 4, none⟩) hn v4).setCell (p := ⟨n, 5, none⟩) hn v5).setCell (p := ⟨n, 6, none⟩) hn v6).setCell (p := ⟨n, 7, none⟩) hn v7).setCell (p := ⟨n, 8, none⟩) hn v8).setCell (p := ⟨n, 9, none⟩) hn v9).setCell (p := ⟨n, 10, none⟩) hn v10
set_option maxRecDepth 100000 in
set_option maxHeartbeats 3200000 in
theorem catch_fault (B o e a : Nat) (c q : Int) (w : World) (ho : BoxT w o Z0 TP) (he : BoxT w e #[.int .i64 0] TEr) (ha : BoxT w a #[.int .i64 0] TIn) (h1 : B ≤ o) (h2 : B ≤ e) (h3 : B ≤ a) (hB : B ≤ w.heap.size) :
    CallsD Tryd.prog 13 #[.pointer (some ⟨o, 0, none⟩), .pointer (some ⟨e, 0, none⟩), .pointer (some ⟨a, 0, none⟩)] (.panicking [{ v := .iface 43 (.agg #[.int .i64 c, .int .i64 q]), recovered := false }]) w fun z u' w' =>
      z = .returned (.tuple #[]) ∧ u' = .panicking [{ v := .iface 43 (.agg #[.int .i64 c, .int .i64 q]), recovered := true }] ∧ BoxT w' o Z0 TP ∧ BoxT w' e #[.int .i64 c] TEr ∧ BoxT w' a #[.int .i64 q] TIn ∧ Below B w w' := by
  have noe : o ≠ e := ho.apart he (by decide)
  have noa : o ≠ a := ho.apart ha (by decide)
  have nea : e ≠ a := he.apart ha (by decide)
  have HO := Lib.hid (ho.alloc (.cells #[.int .i64 c, .int .i64 q] TFt))
  have HE := Lib.hid (he.alloc (.cells #[.int .i64 c, .int .i64 q] TFt))
  have HA := Lib.hid (ha.alloc (.cells #[.int .i64 c, .int .i64 q] TFt))
  have HF := Lib.hid (BoxT.new w #[.int .i64 c, .int .i64 q] TFt)
  have HB := Lib.hid ((Below.refl B w).alloc hB (.cells #[.int .i64 c, .int .i64 q] TFt))
  have lo := ho.lt
  have le := he.lt
  have la := ha.lt
  clear ho he ha
  refine callsD_of_wpS Tryd.func13 rfl fun c₀ cs hu => ?_
  simp only [Tryd.ntmps13, List.size_toArray, List.length_cons, List.length_nil, Nat.reduceAdd, Nat.reduceSub, Array.replicate_succ, Array.replicate_zero, List.push_toArray, List.append_toArray, List.nil_append, List.cons_append]
  apply wpS_seq
  apply wpS_region
  simp [wpOpsS, go_sem, recoverD, hu, Exit.thenS]
  refine wpS_of_wp (wp_mono (Q := fun ex a' w' => ex = Exit.normal ∧ a'.defers = [] ∧ (BoxT w' o Z0 TP ∧ BoxT w' e #[.int .i64 c] TEr ∧ BoxT w' a #[.int .i64 q] TIn ∧ Below B w w')) ?_ ?_)
  case refine_2 =>
    intro ex a' w' hh
    obtain ⟨rfl, hd, hw⟩ := hh
    exact ⟨hd, _, rfl, _, by simp [results, Tryd.results13, go_sem], rfl, rfl, hw⟩
  go_wp2_with fail
  generalize w.alloc (.cells #[.int .i64 c, .int .i64 q] TFt) = w1 at *
  refine wp_region_held_drew (S := fun w' => BoxT w' w.heap.size #[.int .i64 c, .int .i64 q] TFt) (by kernel_rfl) (show BoxT w1.drew _ _ _ from HF.out) (fun hHeld => ?_)
  refine wpAnyH_take (i := 0) (oi := { dst := some 13, op := Go.Op.build 27 #[], type := 27, pos := "pattern.go:63", after := #[], guard := none }) (v := ?_) rfl (by kernel_rfl) (by kernel_rfl) (by kernel_rfl) (fun _ _ _ h => nomatch h.1) (Or.inl ⟨by rfl, ?_⟩) hHeld ?_
  case refine_2 => (intro w hSw; (try dsimp only at hSw); have k0 := hSw.cell 0; have k1 := hSw.cell 1; simp at k0 k1; go_simp <;> with_reducible rfl)
  try simp only [Act.put, List.setIfInBounds_toArray, List.set_cons_zero, List.set_cons_succ]
  refine wpAnyH_take (i := 1) (oi := { dst := some 14, op := Go.Op.fieldAddr 43 (Go.Operand.tmp 4) 0, type := 0, pos := "pattern.go:63", after := #[{ on := 5, ground := Go.Ground.gcOnly Go.Departure.lateStores }], guard := none }) (v := ?_) rfl (by kernel_rfl) (by kernel_rfl) (by kernel_rfl) (fun _ _ _ h => nomatch h.1) (Or.inl ⟨by rfl, ?_⟩) hHeld ?_
  case refine_2 => (intro w hSw; (try dsimp only at hSw); have k0 := hSw.cell 0; have k1 := hSw.cell 1; simp at k0 k1; go_simp <;> with_reducible rfl)
  try simp only [Act.put, List.setIfInBounds_toArray, List.set_cons_zero, List.set_cons_succ]
  refine wpAnyH_take (i := 2) (oi := { dst := some 15, op := Go.Op.load 30 (Go.Operand.tmp 14), type := 30, pos := "pattern.go:63", after := #[{ on := 1, ground := Go.Ground.data }, { on := 5, ground := Go.Ground.gcOnly Go.Departure.lateStores }], guard := none }) (v := ?_) rfl (by kernel_rfl) (by kernel_rfl) (by kernel_rfl) (fun _ _ _ h => nomatch h.1) (Or.inl ⟨by rfl, ?_⟩) hHeld ?_
  case refine_2 => (intro w hSw; (try dsimp only at hSw); have k0 := hSw.cell 0; have k1 := hSw.cell 1; simp at k0 k1; go_simp <;> with_reducible rfl)
  try simp only [Act.put, List.setIfInBounds_toArray, List.set_cons_zero, List.set_cons_succ]
  refine wpAnyH_take (i := 3) (oi := { dst := some 16, op := Go.Op.fieldAddr 43 (Go.Operand.tmp 4) 1, type := 0, pos := "pattern.go:63", after := #[{ on := 6, ground := Go.Ground.gcOnly Go.Departure.lateStores }], guard := none }) (v := ?_) rfl (by kernel_rfl) (by kernel_rfl) (by kernel_rfl) (fun _ _ _ h => nomatch h.1) (Or.inl ⟨by rfl, ?_⟩) hHeld ?_
  case refine_2 => (intro w hSw; (try dsimp only at hSw); have k0 := hSw.cell 0; have k1 := hSw.cell 1; simp at k0 k1; go_simp <;> with_reducible rfl)
  try simp only [Act.put, List.setIfInBounds_toArray, List.set_cons_zero, List.set_cons_succ]
  refine wpAnyH_take (i := 4) (oi := { dst := some 17, op := Go.Op.load 3 (Go.Operand.tmp 16), type := 3, pos := "pattern.go:63", after := #[{ on := 3, ground := Go.Ground.data }, { on := 6, ground := Go.Ground.gcOnly Go.Departure.lateStores }], guard := none }) (v := ?_) rfl (by kernel_rfl) (by kernel_rfl) (by kernel_rfl) (fun _ _ _ h => nomatch h.1) (Or.inl ⟨by rfl, ?_⟩) hHeld ?_
  case refine_2 => (intro w hSw; (try dsimp only at hSw); have k0 := hSw.cell 0; have k1 := hSw.cell 1; simp at k0 k1; go_simp <;> with_reducible rfl)
  try simp only [Act.put, List.setIfInBounds_toArray, List.set_cons_zero, List.set_cons_succ]
  refine wpAnyH_ready (rs := [5]) (by kernel_rfl) (by simp) ?_
  refine AllReadyH.cons (o := { dst := none, op := Go.Op.store 27 (Go.Operand.tmp 0) (Go.Operand.tmp 13), type := 0, pos := "pattern.go:63", after := #[{ on := 0, ground := Go.Ground.data }, { on := 0, ground := Go.Ground.phase }, { on := 1, ground := Go.Ground.textOnly Go.Departure.lateStores }, { on := 2, ground := Go.Ground.textOnly Go.Departure.lateStores }, { on := 3, ground := Go.Ground.textOnly Go.Departure.lateStores }, { on := 4, ground := Go.Ground.textOnly Go.Departure.lateStores }], guard := none }) rfl (fun KK hK => ?_) AllReadyH.nil
  refine step_store_box (by rfl) TP (.tmp 0) (.tmp 13) (by rfl) o Z0 Z0 TP (by rfl) (by rfl) (show BoxT w1.drew o Z0 TP from HO.out) z0_info rfl z0_one ?_
  intro w2 hx2 hg2
  have X2 := Lib.hid hx2
  have E2 := Lib.hid ((show BoxT w1.drew e #[.int .i64 0] TEr from HE.out).grown hg2 (fun h => noe (Option.some.inj h).symm))
  have A2 := Lib.hid ((show BoxT w1.drew a #[.int .i64 0] TIn from HA.out).grown hg2 (fun h => noa (Option.some.inj h).symm))
  have F2 := Lib.hid ((show BoxT w1.drew w.heap.size #[.int .i64 c, .int .i64 q] TFt from HF.out).grown hg2 (fun h => by have := Option.some.inj h; omega))
  have B2 := Lib.hid ((HB.out.drew).grown hg2 (Nat.le_trans hB HB.out.size) (fun k h => by cases h; exact h1))
  clear hx2 hg2
  refine hK.out _ _ F2.out (fun hHeld2 => ?_)
  clear hK hHeld
  have hHeld := hHeld2
  clear hHeld2
  try simp only [Act.put, List.setIfInBounds_toArray, List.set_cons_zero, List.set_cons_succ]
  have ec := E2.out.cell 0
  have ez := E2.out.frozen 0
  have el := E2.out.lt
  simp at ec
  refine wpAnyH_ready (rs := [6]) (by kernel_rfl) (by simp) ?_
  refine AllReadyH.cons (o := { dst := none, op := Go.Op.store 30 (Go.Operand.tmp 1) (Go.Operand.tmp 15), type := 0, pos := "pattern.go:63", after := #[{ on := 2, ground := Go.Ground.data }, { on := 5, ground := Go.Ground.chain }, { on := 0, ground := Go.Ground.phase }, { on := 1, ground := Go.Ground.phase }, { on := 2, ground := Go.Ground.phase }, { on := 3, ground := Go.Ground.textOnly Go.Departure.lateStores }, { on := 4, ground := Go.Ground.textOnly Go.Departure.lateStores }, { on := 5, ground := Go.Ground.phase }], guard := none }) rfl (fun KK hK => ?_) AllReadyH.nil
  go_simp
  refine hK.out _ _ (F2.out.other (a := ⟨e, 0, none⟩) (show w.heap.size ≠ e by omega) (.int .i64 c)) (fun hHeld2 => ?_)
  clear hK hHeld
  have hHeld := hHeld2
  clear hHeld2
  try simp only [Act.put, List.setIfInBounds_toArray, List.set_cons_zero, List.set_cons_succ]
  have X3 := Lib.hid (X2.out.other (a := ⟨e, 0, none⟩) noe (.int .i64 c))
  have E3 : Hid (BoxT (w2.setCell ⟨e, 0, none⟩ (.int .i64 c)) e #[.int .i64 c] TEr) := Lib.hid (E2.out.set 0 (.int .i64 c))
  have A3 := Lib.hid (A2.out.other (a := ⟨e, 0, none⟩) (fun h => nea h.symm) (.int .i64 c))
  have B3 := Lib.hid (B2.out.setCell (p := ⟨e, 0, none⟩) h2 (.int .i64 c))
  have F3 := Lib.hid (F2.out.other (a := ⟨e, 0, none⟩) (show w.heap.size ≠ e by omega) (.int .i64 c))
  clear ec ez el X2 E2 A2 B2 F2
  generalize w2.setCell ⟨e, 0, none⟩ (.int .i64 c) = w3 at *
  have ac := A3.out.cell 0
  have az := A3.out.frozen 0
  have al := A3.out.lt
  simp at ac
  refine wpAnyH_ready (rs := [7]) (by kernel_rfl) (by simp) ?_
  refine AllReadyH.cons (o := { dst := none, op := Go.Op.store 3 (Go.Operand.tmp 2) (Go.Operand.tmp 17), type := 0, pos := "pattern.go:63", after := #[{ on := 4, ground := Go.Ground.data }, { on := 6, ground := Go.Ground.chain }, { on := 0, ground := Go.Ground.phase }, { on := 1, ground := Go.Ground.phase }, { on := 2, ground := Go.Ground.phase }, { on := 3, ground := Go.Ground.phase }, { on := 4, ground := Go.Ground.phase }, { on := 5, ground := Go.Ground.phase }, { on := 6, ground := Go.Ground.phase }], guard := none }) rfl (fun KK hK => ?_) AllReadyH.nil
  go_simp
  refine hK.out _ _ (F3.out.other (a := ⟨a, 0, none⟩) (show w.heap.size ≠ a by omega) (.int .i64 q)) (fun hHeld2 => ?_)
  clear hK hHeld
  have hHeld := hHeld2
  clear hHeld2
  try simp only [Act.put, List.setIfInBounds_toArray, List.set_cons_zero, List.set_cons_succ]
  refine wpAnyH_done (by kernel_rfl) ?_ _
  clear hHeld
  exact ⟨rfl, rfl, X3.out.other (a := ⟨a, 0, none⟩) noa (.int .i64 q), E3.out.other (a := ⟨a, 0, none⟩) nea (.int .i64 q), A3.out.set 0 (.int .i64 q), B3.out.setCell (p := ⟨a, 0, none⟩) h3 (.int .i64 q)⟩
end Go.Proofs.YtmmllhdphlnpjaaDoor
