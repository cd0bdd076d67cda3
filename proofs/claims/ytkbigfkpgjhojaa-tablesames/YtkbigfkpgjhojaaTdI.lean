/- The document's own example of tables. -/
import Derived.Test.YtkbigfkpgjhojaaTdH
import Derived.Test.YtkbigfkpgjhojaaTPlain3
import Derived.Test.YtkbigfkpgjhojaaTbE2
namespace Go.Proofs.Ytkbigfkpgjhojaa
open Go.RowKit Florin
set_option linter.unusedVariables false
set_option linter.unusedSimpArgs false
attribute [local go_sem ↓] Go.wp_at_zero Go.wp_at_succ
theorem yieldsIf_load_box {P : Program} {ops : Array Oper} {S : World → Prop} {op : Oper} {a : Act} (hw : Region.wanted op (yielded ops a.tmps) = true) (ty : TypeId) (x : Operand) (ho : op.op = .load ty x)
    (b : Nat) (hx : a.eval x = .pointer (some ⟨b, 0, none⟩)) (X : Array Value) (T : TypeId) (d : TypeDesc) (hS : ∀ w, S w → BoxT w b X T)
    (hu : P.underlying ty = some d) (hd : (match d with | .struct _ | .array _ _ => true | _ => false) = true) (hi : (P.info? ty).map (·.size) = some X.size) : YieldsIf P ops S op (.agg X) a :=
  .inl ⟨hw, fun w hw' => by
    unfold execOp
    simp only [ho, hx, Instr.loadAt, Instr.sureAddr, Sem.run_bind, Sem.run_pure, Result.andThen_ok, run_loadVar_box (hS w hw') hu hd hi]⟩
theorem wpList_load_boxG {P : Program} {ops : Array Oper} {rest : List Oper} {op : Oper} {a : Act} {w : World} {Q : Exit → Act → World → Prop} (hw : Region.wanted op (yielded ops a.tmps) = true) (ty : TypeId) (x : Operand) (ho : op.op = .load ty x)
    (b : Nat) (hx : a.eval x = .pointer (some ⟨b, 0, none⟩)) (X : Array Value) (T : TypeId) (d : TypeDesc) (hb : BoxT w b X T)
    (hu : P.underlying ty = some d) (hd : (match d with | .struct _ | .array _ _ => true | _ => false) = true) (hi : (P.info? ty).map (·.size) = some X.size)
    (h : wpList P ops Q rest (a.put op.dst (.agg X)) w) : wpList P ops Q (op :: rest) a w :=
  wpList_step fun K hK => by
    rw [if_pos hw]
    unfold Oper.wp execOp
    simp only [ho, hx, Instr.loadAt, Instr.sureAddr, Sem.run_bind, Sem.run_pure, Result.andThen_ok, run_loadVar_box hb hu hd hi]
    exact hK _ _ h
theorem BoxT.drew3 {w : World} {b : Nat} {cs : Array Value} {t : TypeId} (h : BoxT w b cs t) : BoxT w.drew b cs t := h.below (Below.refl _ w).drew
theorem inL_nil {α : Type} (w : World) (lim sz : Nat) (A : α → List Value → Prop) : InL w lim sz A (.slice none 0 0) [] := ⟨none, 0, rfl, Nat.le_refl _, Nat.zero_le _, fun h => absurd h (Nat.lt_irrefl _)⟩
theorem rowL_nil (w : World) (lim : Nat) : RowL w lim (.slice none 0 0) [] := inL_nil _ _ _ _
theorem curL_nil (w : World) (lim : Nat) : CurL w lim (.slice none 0 0) [] := inL_nil _ _ _ _
theorem untL_nil (w : World) (lim : Nat) : UntL w lim (.slice none 0 0) [] := inL_nil _ _ _ _
theorem txL_nil (w : World) (lim : Nat) : TxL w lim (.slice none 0 0) [] := inL_nil _ _ _ _
theorem TxT.toL {w : World} {v : Value} {l : List TxM} (h : TxT w v l) : TxL w w.heap.size v l := InT.inL h (fun _ _ h => h)
theorem RowT.toL {w : World} {v : Value} {l : List RowM} (h : RowT w v l) : RowL w w.heap.size v l := InT.inL h (fun x c ⟨u, e, g⟩ => ⟨u, e, TxT.toL g⟩)
theorem UntT.toL {w : World} {v : Value} {l : List UntM} (h : UntT w v l) : UntL w w.heap.size v l := InT.inL h (fun x c ⟨u, e, g⟩ => ⟨u, e, TxT.toL g⟩)
theorem CurT.toL {w : World} {v : Value} {l : List CurM} (h : CurT w v l) : CurL w w.heap.size v l := InT.inL h (fun x c ⟨u, e, g⟩ => ⟨u, e, TxT.toL g⟩)
theorem TbL.toL {w : World} {vsh vlo vms vcu vun vmu : Value} {sh lo ms : List RowM} {cu : List CurM} {un : List UntM} {mu : List TxM} (h : TbL w vsh vlo vms vcu vun vmu sh lo ms cu un mu) :
    RowL w w.heap.size vsh sh ∧ RowL w w.heap.size vlo lo ∧ RowL w w.heap.size vms ms ∧ CurL w w.heap.size vcu cu ∧ UntL w w.heap.size vun un ∧ TxL w w.heap.size vmu mu := ⟨h.sh.toL, h.lo.toL, h.ms.toL, h.cu.toL, h.un.toL, h.mu.toL⟩
theorem KeepA.below {w w' : World} (h : Below w.heap.size w w') : KeepA w w' := ⟨KeepB.below h, KeepB.below h, KeepB.below h, KeepB.below h⟩
theorem repl_nil (k : Nat) : (List.replicate 27 ([] : List UInt8)).getD k [] = [] := by
  rw [List.getD_eq_getElem?_getD, List.getElem?_replicate]
  split <;> rfl
/-- Encode, of a table told by its texts. -/
theorem encode_tb (f : Nat → List UInt8) (mg : Int) (vsh vlo vms vcu vun vmu : Value) (t : TblM) (w : World) (lim : Nat) (hlim : lim ≤ w.heap.size) (hf : (List.range 27).map f = t.tx) (hmg : mg = t.mg) (hsh : RowL w lim vsh t.sh) (hlo : RowL w lim vlo t.lo) (hms : RowL w lim vms t.ms) (hcu : CurL w lim vcu t.cu) (hun : UntL w lim vun t.un) (hmu : TxL w lim vmu t.mu) (hi : mg ≤ 9223372036854775807)
    (nsh : ∀ r ∈ t.sh, nRow r) (nlo : ∀ r ∈ t.lo, nRow r) (nms : ∀ r ∈ t.ms, nRow r) (ncu : ∀ c ∈ t.cu, nCur c) (nun : ∀ u ∈ t.un, nUnt u) (nmu : ∀ x ∈ t.mu, nTx x) (hl : (encT t).length ≤ 900000000) :
    Calls Try.prog 8 #[.agg (tbA f mg vsh vlo vms vcu vun vmu)] w fun e w' => e = .returned (S (encT t)) ∧ Below w.heap.size w w' := by
  obtain ⟨tx, tmg, sh, lo, ms, cu, un, mu⟩ := t
  dsimp only at hf hmg hsh hlo hms hcu hun hmu nsh nlo nms ncu nun nmu
  subst hf
  subst hmg
  exact encode_as lim (f 0) (f 1) (f 2) (f 3) (f 4) (f 5) (f 6) (f 7) (f 8) (f 9) (f 10) (f 11) (f 12) (f 13) (f 14) (f 15) (f 16) (f 17) (f 18) (f 19) (f 20) (f 21) (f 22) (f 23) (f 24) (f 25) (f 26) mg vsh vlo vms vcu vun vmu sh lo ms cu un mu w hsh hlo hms hcu hun hmu hlim hi nsh nlo nms ncu nun nmu hl
theorem no_mem {α : Type} {P : α → Prop} : ∀ x ∈ ([] : List α), P x := fun x h => by cases h
theorem encode_zero (w : World) : Calls Try.prog 8 #[.agg Z34] w fun e w' => e = .returned (S (List.replicate 34 0)) ∧ Below w.heap.size w w' := by
  have h := encode_tb (fun _ => []) 0 (.slice none 0 0) (.slice none 0 0) (.slice none 0 0) (.slice none 0 0) (.slice none 0 0) (.slice none 0 0) tblZ w w.heap.size (Nat.le_refl _) rfl rfl (rowL_nil _ _) (rowL_nil _ _) (rowL_nil _ _) (curL_nil _ _) (untL_nil _ _) (txL_nil _ _) (by decide) no_mem no_mem no_mem no_mem no_mem no_mem (by rw [encZ, List.length_replicate]; decide)
  rw [encZ] at h
  exact h
def zz (k : Nat) : List UInt8 := List.replicate k 0
theorem zz_len (k : Nat) : (zz k).length = k := by unfold zz; rw [List.length_replicate]
theorem zz_cat (k : Nat) : (⟨(zz k).toArray⟩ : ByteArray) ++ ⟨#[0]⟩ = ⟨(zz (k + 1)).toArray⟩ := by
  unfold zz
  rw [List.replicate_succ']
  apply ByteArray.ext
  apply Array.ext'
  simp
theorem encode_z (w : World) : Calls Try.prog 8 #[.agg Z34] w fun e w' => e = .returned (S (zz 34)) ∧ Below w.heap.size w w' := encode_zero w
theorem rdZ34 : rdTbl (zz 34, false) = (tblZ, ([], false)) := rdZ
set_option maxRecDepth 100000 in
set_option maxHeartbeats 12800000 in
theorem head15 (w : World) :
    Calls Try.prog 4 #[] w fun e w' => e = .returned (.bool true) ∧ Below w.heap.size w w' := by
  go_enter Try.func4, Try.ntmps4
  go_wp2_with fail
  rw [Z34_eq]
  with_reducible refine (encode_z w).mono ?_
  rintro y w1 ⟨rfl, hb1⟩
  have HB1 := Lib.hid hb1
  have hs1 := hb1.size
  clear hb1
  go_wp2_with fail
  go_loopw [2, 3] (fun x i wr => ∃ k : Nat, k ≤ 34 ∧ i = .int .i64 (k : Int) ∧ x = S (zz k) ∧ wr = w1) (fun _ i _ => 34 - (intOf i).toNat)
  case atStart => exact ⟨0, Nat.zero_le _, rfl, rfl, rfl⟩
  case round =>
    obtain ⟨k, hk, rfl, rfl, rfl⟩ := hrel
    by_cases hlt : k < 34
    · have hki : (k : Int) < 34 := by omega
      have hsz : (⟨(zz k).toArray⟩ : ByteArray).size = k := by rw [arr_size, zz_len]
      have hn2 : ¬ 9223372036854775807 < (zz k).length + 1 := by rw [zz_len]; omega
      go_wp2
      go_roundw
      case rel => exact ⟨k + 1, by omega, by go_num, by first | rw [zz_cat] | rw [← zz_cat], by first | rfl | trivial⟩
      case measure => simp [intOf]; omega
    · obtain rfl : k = 34 := by omega
      have HDY := Lib.hid (decode_yes (zz 34) (tblZ, ([], false)) wr rdZ34 (by rw [zz_len]; decide) rfl)
      go_wp2_with fail
      with_reducible refine (HDY.out).mono ?_
      rintro y w2 ⟨vsh, vlo, vms, vcu, vun, vmu, rfl, htl, hb2⟩
      clear HDY
      obtain ⟨a1, c1, rfl, _⟩ : ∃ a c, vsh = .slice a 0 c ∧ True := by obtain ⟨a, c, e, _⟩ := htl.sh; exact ⟨a, c, e, trivial⟩
      obtain ⟨a2, c2, rfl, _⟩ : ∃ a c, vlo = .slice a 0 c ∧ True := by obtain ⟨a, c, e, _⟩ := htl.lo; exact ⟨a, c, e, trivial⟩
      obtain ⟨a3, c3, rfl, _⟩ : ∃ a c, vms = .slice a 0 c ∧ True := by obtain ⟨a, c, e, _⟩ := htl.ms; exact ⟨a, c, e, trivial⟩
      obtain ⟨a4, c4, rfl, _⟩ : ∃ a c, vcu = .slice a 0 c ∧ True := by obtain ⟨a, c, e, _⟩ := htl.cu; exact ⟨a, c, e, trivial⟩
      obtain ⟨a5, c5, rfl, _⟩ : ∃ a c, vun = .slice a 0 c ∧ True := by obtain ⟨a, c, e, _⟩ := htl.un; exact ⟨a, c, e, trivial⟩
      obtain ⟨a6, c6, rfl, _⟩ : ∃ a c, vmu = .slice a 0 c ∧ True := by obtain ⟨a, c, e, _⟩ := htl.mu; exact ⟨a, c, e, trivial⟩
      have HIN := Lib.hid (tb_info (fun j => (List.replicate 27 ([] : List UInt8)).getD j []) 0 (.slice a1 0 c1) (.slice a2 0 c2) (.slice a3 0 c3) (.slice a4 0 c4) (.slice a5 0 c5) (.slice a6 0 c6))
      have HON := Lib.hid (tb_one (fun j => (List.replicate 27 ([] : List UInt8)).getD j []) 0 a1 a2 a3 a4 a5 a6 0 0 0 0 0 0 c1 c2 c3 c4 c5 c6)
      obtain ⟨XT, hXT⟩ : ∃ X, X = tbA (fun j => (List.replicate 27 ([] : List UInt8)).getD j []) 0 (.slice a1 0 c1) (.slice a2 0 c2) (.slice a3 0 c3) (.slice a4 0 c4) (.slice a5 0 c5) (.slice a6 0 c6) := ⟨_, rfl⟩
      have HX00 : Hid (XT[0]? = some (S [])) := Lib.hid (by rw [hXT]; rfl)
      have HSZ : Hid (Z34.size = XT.size) := Lib.hid (by rw [hXT]; rfl)
      rw [← hXT] at HIN HON ⊢
      have HXE := Lib.hid hXT
      clear hXT
      have HT2 := Lib.hid htl
      have HB2 := Lib.hid (HB1.out.trans (hb2.mono hs1))
      have HX2 := Lib.hid (BoxT.new w2 Z34 TTb)
      have hs2 := HB2.out.size
      clear htl hb2
      rw [← Z34_eq] at HX2
      go_wp2_with (refine wpList_store_box (by rfl) TTb (.tmp 4) (.tmp 17) (by rfl) w2.heap.size _ XT TTb (by rfl) (by rfl) HX2.out HIN.out (by rw [Z34_eq]; exact HSZ.out) HON.out ?_; intro w3 hx3 hg3)
      rw [Z34_eq] at *
      have HX3 := Lib.hid hx3
      have HB3 := Lib.hid (below_grown (HB2.out.alloc HB2.out.size (.cells Z34 TTb)) (by simp; omega) (by omega) hg3)
      have HK3 := Lib.hid (KeepA.trans (KeepA.below (show Below w2.heap.size w2 (w2.alloc (.cells Z34 TTb)) from (Below.refl _ _).alloc (Nat.le_refl _) _)) (KeepA.of HX2.out (by decide) (by decide) (by decide) (by decide) hg3))
      have HR := Lib.hid ((HT2.out.keep (HK3.out.trans (KeepA.below (show Below w3.heap.size w3 w3.drew from (Below.refl _ _).drew)))).toL)
      clear hx3 hg3 HX2 HB2
      generalize w2.heap.size = q at *
      have hsame : Calls Try.prog 7 #[.agg XT, .agg Z34] w3.drew fun e w' => e = .returned (.bool true) ∧ Below w3.drew.heap.size w3.drew w' := by
        rw [HXE.out]
        refine (same_as _ _ _ _ _ _ _ _ _ _ _ _ _ _ _ _ _ _ _ _ _ _ _ _ _ _ _ _ _ HR.out.1 (rowL_nil _ _) HR.out.2.1 (rowL_nil _ _) HR.out.2.2.1 (rowL_nil _ _) HR.out.2.2.2.1 (curL_nil _ _) HR.out.2.2.2.2.1 (untL_nil _ _) HR.out.2.2.2.2.2 (txL_nil _ _)).mono ?_
        rintro y w7 ⟨⟨z, rfl, hz⟩, hb7⟩
        obtain rfl : z = true := hz.2 ⟨fun k _ => repl_nil k, rfl, rfl, rfl, rfl, rfl, rfl, rfl⟩
        exact ⟨rfl, hb7⟩
      have HSAME := Lib.hid hsame
      clear hsame
      refine wp_region_held_drew (S := fun w' => BoxT w' q XT TTb) (by kernel_rfl) HX3.out.drew3 (fun hHeld => ?_)
      refine wpAnyH_take (i := 0) (oi := { dst := some 19, op := Go.Op.move (Go.Operand.tmp 1), type := 9, pos := "law.go:20", after := #[], guard := none }) (v := ?_) rfl (by kernel_rfl) (by kernel_rfl) (by kernel_rfl) (fun _ _ _ h => h) (Or.inl ⟨by rfl, ?_⟩) hHeld ?_
      case refine_2 => (intro w hSw; (try dsimp only at hSw); go_simp <;> with_reducible rfl)
      try simp only [Act.put, List.setIfInBounds_toArray, List.set_cons_zero, List.set_cons_succ]
      refine wpAnyH_take (i := 1) (oi := { dst := some 20, op := Go.Op.move (Go.Operand.tmp 2), type := 9, pos := "law.go:20", after := #[], guard := none }) (v := ?_) rfl (by kernel_rfl) (by kernel_rfl) (by kernel_rfl) (fun _ _ _ h => h) (Or.inl ⟨by rfl, ?_⟩) hHeld ?_
      case refine_2 => (intro w hSw; (try dsimp only at hSw); go_simp <;> with_reducible rfl)
      try simp only [Act.put, List.setIfInBounds_toArray, List.set_cons_zero, List.set_cons_succ]
      refine wpAnyH_take (i := 2) (oi := { dst := some 21, op := Go.Op.binOp Go.BinOp.eql 9 (Go.Operand.tmp 19) (Go.Operand.tmp 20) 9, type := 4, pos := "law.go:20", after := #[{ on := 0, ground := Go.Ground.data }, { on := 1, ground := Go.Ground.data }], guard := none }) (v := ?_) rfl (by kernel_rfl) (by kernel_rfl) (by kernel_rfl) (fun _ _ _ h => h) (Or.inl ⟨by rfl, ?_⟩) hHeld ?_
      case refine_2 => (intro w hSw; (try dsimp only at hSw); go_simp <;> with_reducible rfl)
      try simp only [Act.put, List.setIfInBounds_toArray, List.set_cons_zero, List.set_cons_succ]
      refine wpAnyH_take (i := 3) (oi := { dst := some 22, op := Go.Op.move (Go.Operand.tmp 21), type := 4, pos := "law.go:20", after := #[{ on := 2, ground := Go.Ground.data }], guard := none }) (v := ?_) rfl (by kernel_rfl) (by kernel_rfl) (by kernel_rfl) (fun _ _ _ h => h) (Or.inl ⟨by rfl, ?_⟩) hHeld ?_
      case refine_2 => (intro w hSw; (try dsimp only at hSw); go_simp <;> with_reducible rfl)
      try simp only [Act.put, List.setIfInBounds_toArray, List.set_cons_zero, List.set_cons_succ]
      refine wpAnyH_take (i := 4) (oi := { dst := some 23, op := Go.Op.move (Go.Operand.tmp 5), type := 42, pos := "law.go:20", after := #[{ on := 3, ground := Go.Ground.guard }], guard := some (3, true) }) (v := ?_) rfl (by kernel_rfl) (by kernel_rfl) (by kernel_rfl) (fun _ _ _ h => h) (Or.inl ⟨by rfl, ?_⟩) hHeld ?_
      case refine_2 => (intro w hSw; (try dsimp only at hSw); go_simp <;> with_reducible rfl)
      try simp only [Act.put, List.setIfInBounds_toArray, List.set_cons_zero, List.set_cons_succ]
      refine wpAnyH_take (i := 5) (oi := { dst := some 24, op := Go.Op.binOp Go.BinOp.eql 42 (Go.Operand.tmp 23) (Go.Operand.const (Go.Value.int Go.IntKind.i64 0)) 42, type := 4, pos := "law.go:20", after := #[{ on := 4, ground := Go.Ground.data }, { on := 3, ground := Go.Ground.guard }], guard := some (3, true) }) (v := ?_) rfl (by kernel_rfl) (by kernel_rfl) (by kernel_rfl) (fun _ _ _ h => h) (Or.inl ⟨by rfl, ?_⟩) hHeld ?_
      case refine_2 => (intro w hSw; (try dsimp only at hSw); go_simp <;> with_reducible rfl)
      try simp only [Act.put, List.setIfInBounds_toArray, List.set_cons_zero, List.set_cons_succ]
      refine wpAnyH_take (i := 6) (oi := { dst := some 25, op := Go.Op.pick (Go.Operand.tmp 22) (Go.Operand.tmp 24) (Go.Operand.const (Go.Value.bool false)), type := 4, pos := "law.go:20", after := #[{ on := 3, ground := Go.Ground.data }, { on := 5, ground := Go.Ground.data }], guard := none }) (v := ?_) rfl (by kernel_rfl) (by kernel_rfl) (by kernel_rfl) (fun _ _ _ h => h) (Or.inl ⟨by rfl, ?_⟩) hHeld ?_
      case refine_2 => (intro w hSw; (try dsimp only at hSw); go_simp <;> with_reducible rfl)
      try simp only [Act.put, List.setIfInBounds_toArray, List.set_cons_zero, List.set_cons_succ]
      refine wpAnyH_take (i := 7) (oi := { dst := some 26, op := Go.Op.move (Go.Operand.tmp 25), type := 4, pos := "law.go:20", after := #[{ on := 6, ground := Go.Ground.data }, { on := 3, ground := Go.Ground.chain }], guard := none }) (v := ?_) rfl (by kernel_rfl) (by kernel_rfl) (by kernel_rfl) (fun _ _ _ h => h) (Or.inl ⟨by rfl, ?_⟩) hHeld ?_
      case refine_2 => (intro w hSw; (try dsimp only at hSw); go_simp <;> with_reducible rfl)
      try simp only [Act.put, List.setIfInBounds_toArray, List.set_cons_zero, List.set_cons_succ]
      refine wpAnyH_take (i := 8) (oi := { dst := some 27, op := Go.Op.load 31 (Go.Operand.tmp 4), type := 31, pos := "law.go:20", after := #[{ on := 7, ground := Go.Ground.guard }], guard := some (7, true) }) (v := .agg XT) rfl (by kernel_rfl) (by kernel_rfl) (by kernel_rfl) (fun _ _ _ h => h) (yieldsIf_load_box (by rfl) TTb (.tmp 4) (by rfl) q (by rfl) XT TTb _ (fun _ h => h) Try.underlying31 (by rfl) HIN.out) hHeld ?_
      try simp only [Act.put, List.setIfInBounds_toArray, List.set_cons_zero, List.set_cons_succ]
      refine wpAnyH_take (i := 9) (oi := { dst := some 28, op := Go.Op.build 31 #[], type := 31, pos := "law.go:20", after := #[{ on := 7, ground := Go.Ground.guard }], guard := some (7, true) }) (v := ?_) rfl (by kernel_rfl) (by kernel_rfl) (by kernel_rfl) (fun _ _ _ h => h) (Or.inl ⟨by rfl, ?_⟩) hHeld ?_
      case refine_2 => (intro w hSw; (try dsimp only at hSw); go_simp <;> with_reducible rfl)
      try simp only [Act.put, List.setIfInBounds_toArray, List.set_cons_zero, List.set_cons_succ]
      refine wpAnyH_ready (rs := [10]) (by kernel_rfl) (by simp) ?_
      refine AllReadyH.cons (o := { dst := some 29, op := Go.Op.call { callee := Go.Callee.value (Go.Operand.func 7), args := #[Go.Operand.tmp 27, Go.Operand.tmp 28], argTypes := #[31, 31] }, type := 4, pos := "law.go:20", after := #[{ on := 8, ground := Go.Ground.data }, { on := 9, ground := Go.Ground.data }, { on := 7, ground := Go.Ground.chain }, { on := 7, ground := Go.Ground.guard }], guard := some (7, true) }) rfl (fun KK hK => ?_) AllReadyH.nil
      go_simp
      rw [Z34_eq]
      with_reducible refine (HSAME.out).mono ?_
      rintro y w7 ⟨rfl, hb7⟩
      have H7 := Lib.hid (HX3.out.drew3.below hb7)
      have B7 := Lib.hid (HB3.out.trans ((drewL hb7).mono HB3.out.size))
      clear hb7
      go_wp2_with fail
      refine hK.out _ _ H7.out (fun hHeld2 => ?_)
      clear hK hHeld
      have hHeld := hHeld2
      clear hHeld2
      try simp only [Act.put, List.setIfInBounds_toArray, List.set_cons_zero, List.set_cons_succ]
      refine wpAnyH_take (i := 11) (oi := { dst := some 30, op := Go.Op.pick (Go.Operand.tmp 26) (Go.Operand.tmp 29) (Go.Operand.const (Go.Value.bool false)), type := 4, pos := "law.go:20", after := #[{ on := 7, ground := Go.Ground.data }, { on := 10, ground := Go.Ground.data }], guard := none }) (v := ?_) rfl (by kernel_rfl) (by kernel_rfl) (by kernel_rfl) (fun _ _ _ h => h) (Or.inl ⟨by rfl, ?_⟩) hHeld ?_
      case refine_2 => (intro w hSw; (try dsimp only at hSw); go_simp <;> with_reducible rfl)
      try simp only [Act.put, List.setIfInBounds_toArray, List.set_cons_zero, List.set_cons_succ]
      refine wpAnyH_take (i := 12) (oi := { dst := some 31, op := Go.Op.move (Go.Operand.tmp 30), type := 4, pos := "law.go:20", after := #[{ on := 11, ground := Go.Ground.data }, { on := 10, ground := Go.Ground.chain }], guard := none }) (v := ?_) rfl (by kernel_rfl) (by kernel_rfl) (by kernel_rfl) (fun _ _ _ h => h) (Or.inl ⟨by rfl, ?_⟩) hHeld ?_
      case refine_2 => (intro w hSw; (try dsimp only at hSw); go_simp <;> with_reducible rfl)
      try simp only [Act.put, List.setIfInBounds_toArray, List.set_cons_zero, List.set_cons_succ]
      refine wpAnyH_take (i := 13) (oi := { dst := some 32, op := Go.Op.load 31 (Go.Operand.tmp 4), type := 31, pos := "law.go:20", after := #[{ on := 12, ground := Go.Ground.guard }], guard := some (12, true) }) (v := .agg XT) rfl (by kernel_rfl) (by kernel_rfl) (by kernel_rfl) (fun _ _ _ h => h) (yieldsIf_load_box (by rfl) TTb (.tmp 4) (by rfl) q (by rfl) XT TTb _ (fun _ h => h) Try.underlying31 (by rfl) HIN.out) hHeld ?_
      try simp only [Act.put, List.setIfInBounds_toArray, List.set_cons_zero, List.set_cons_succ]
      refine wpAnyH_ready (rs := [14]) (by kernel_rfl) (by simp) ?_
      refine AllReadyH.cons (o := { dst := some 33, op := Go.Op.call { callee := Go.Callee.value (Go.Operand.func 10), args := #[Go.Operand.const (Go.Value.int Go.IntKind.i64 0)], argTypes := #[3] }, type := 31, pos := "law.go:20", after := #[{ on := 12, ground := Go.Ground.chain }, { on := 12, ground := Go.Ground.guard }], guard := some (12, true) }) rfl (fun KK hK => ?_) AllReadyH.nil
      go_simp
      with_reducible refine (lbase_as _).mono ?_
      rintro y w8 ⟨⟨XB, rfl, hxs, hx0⟩, hb8⟩
      have H8 := Lib.hid (H7.out.below hb8)
      have B8 := Lib.hid (B7.out.trans (hb8.mono B7.out.size))
      have HXS := Lib.hid hxs
      have HX0 := Lib.hid hx0
      clear hxs hx0 hb8
      go_wp2_with fail
      refine hK.out _ _ H8.out (fun hHeld2 => ?_)
      clear hK hHeld
      have hHeld := hHeld2
      clear hHeld2
      try simp only [Act.put, List.setIfInBounds_toArray, List.set_cons_zero, List.set_cons_succ]
      refine wpAnyH_ready (rs := [15]) (by kernel_rfl) (by simp) ?_
      refine AllReadyH.cons (o := { dst := some 34, op := Go.Op.call { callee := Go.Callee.value (Go.Operand.func 7), args := #[Go.Operand.tmp 32, Go.Operand.tmp 33], argTypes := #[31, 31] }, type := 4, pos := "law.go:20", after := #[{ on := 13, ground := Go.Ground.data }, { on := 14, ground := Go.Ground.data }, { on := 14, ground := Go.Ground.chain }, { on := 12, ground := Go.Ground.guard }], guard := some (12, true) }) rfl (fun KK hK => ?_) AllReadyH.nil
      go_simp
      with_reducible refine (same_no [] [48] XT XB _ HIN.out (Xinfo HXS.out) HX00.out HX0.out (by decide)).mono ?_
      rintro y w9 ⟨rfl, hb9⟩
      have H9 := Lib.hid (H8.out.below hb9)
      have B9 := Lib.hid (B8.out.trans (hb9.mono B8.out.size))
      clear hb9
      go_wp2_with fail
      refine hK.out _ _ H9.out (fun hHeld2 => ?_)
      clear hK hHeld
      have hHeld := hHeld2
      clear hHeld2
      try simp only [Act.put, List.setIfInBounds_toArray, List.set_cons_zero, List.set_cons_succ]
      refine wpAnyH_take (i := 16) (oi := { dst := some 35, op := Go.Op.unOp Go.UnOp.not 4 (Go.Operand.tmp 34), type := 4, pos := "law.go:20", after := #[{ on := 15, ground := Go.Ground.data }, { on := 12, ground := Go.Ground.guard }], guard := some (12, true) }) (v := ?_) rfl (by kernel_rfl) (by kernel_rfl) (by kernel_rfl) (fun _ _ _ h => h) (Or.inl ⟨by rfl, ?_⟩) hHeld ?_
      case refine_2 => (intro w hSw; (try dsimp only at hSw); go_simp <;> with_reducible rfl)
      try simp only [Act.put, List.setIfInBounds_toArray, List.set_cons_zero, List.set_cons_succ]
      refine wpAnyH_take (i := 17) (oi := { dst := some 36, op := Go.Op.pick (Go.Operand.tmp 31) (Go.Operand.tmp 35) (Go.Operand.const (Go.Value.bool false)), type := 4, pos := "law.go:20", after := #[{ on := 12, ground := Go.Ground.data }, { on := 16, ground := Go.Ground.data }], guard := none }) (v := ?_) rfl (by kernel_rfl) (by kernel_rfl) (by kernel_rfl) (fun _ _ _ h => h) (Or.inl ⟨by rfl, ?_⟩) hHeld ?_
      case refine_2 => (intro w hSw; (try dsimp only at hSw); go_simp <;> with_reducible rfl)
      try simp only [Act.put, List.setIfInBounds_toArray, List.set_cons_zero, List.set_cons_succ]
      refine wpAnyH_take (i := 18) (oi := { dst := some 0, op := Go.Op.assign (Go.Operand.tmp 36), type := 4, pos := "law.go:20", after := #[{ on := 17, ground := Go.Ground.data }, { on := 15, ground := Go.Ground.chain }, { on := 0, ground := Go.Ground.phase }, { on := 1, ground := Go.Ground.phase }, { on := 2, ground := Go.Ground.phase }, { on := 3, ground := Go.Ground.phase }, { on := 4, ground := Go.Ground.phase }, { on := 5, ground := Go.Ground.phase }, { on := 6, ground := Go.Ground.phase }, { on := 7, ground := Go.Ground.phase }, { on := 8, ground := Go.Ground.phase }, { on := 9, ground := Go.Ground.phase }, { on := 10, ground := Go.Ground.phase }, { on := 11, ground := Go.Ground.phase }, { on := 12, ground := Go.Ground.phase }, { on := 13, ground := Go.Ground.phase }, { on := 14, ground := Go.Ground.phase }, { on := 15, ground := Go.Ground.phase }, { on := 16, ground := Go.Ground.phase }, { on := 17, ground := Go.Ground.phase }], guard := none }) (v := ?_) rfl (by kernel_rfl) (by kernel_rfl) (by kernel_rfl) (fun _ _ _ h => h) (Or.inl ⟨by rfl, ?_⟩) hHeld ?_
      case refine_2 => (intro w hSw; (try dsimp only at hSw); go_simp <;> with_reducible rfl)
      try simp only [Act.put, List.setIfInBounds_toArray, List.set_cons_zero, List.set_cons_succ]
      refine wpAnyH_done (by kernel_rfl) ?_ _
      clear hHeld
      go_wp2
      go_ret
      exact ⟨rfl, B9.out⟩
end Go.Proofs.Ytkbigfkpgjhojaa
