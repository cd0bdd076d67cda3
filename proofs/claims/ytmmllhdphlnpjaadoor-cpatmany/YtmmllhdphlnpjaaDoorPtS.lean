/- Patterns as they are written: the document's example, in full. -/
import Derived.Test.YtmmllhdphlnpjaaDoorPtR
namespace Go.Proofs.YtmmllhdphlnpjaaDoor
open Go.RowKit Florin
set_option linter.unusedVariables false
set_option linter.unusedSimpArgs false
attribute [local go_sem ↓] Go.wp_at_zero Go.wp_at_succ
theorem bld_below {B c : Nat} {bs : List Value} {w w' : World} (h : Lib.IsBuilder TB 5 B c bs w) (hb : Below w.heap.size w w') : Lib.IsBuilder TB 5 B c bs w' := by
  have key : ∀ p, Lib.BuilderAt TB 5 B c p bs w → Lib.BuilderAt TB 5 B c p bs w' := by
    intro p h
    have hl := h.lt
    obtain ⟨hB, v, hbk, hown, hn⟩ := h
    exact ⟨hB, v, (hb.block c hl).trans hbk, own_below hown hb, hn⟩
  rcases h with h | h
  · exact .inl (key _ h)
  · exact .inr (key _ h)
abbrev MARKS : ByteArray := ⟨#[35, 48, 49, 50, 51, 52, 53, 54, 55, 56, 57, 44, 46, 59, 64, 42, 45, 43, 37, 226, 128, 176, 194, 164]⟩
theorem mio_ascii : ∀ (j : Nat) b, MIO.data.toList[j]? = some b → b.toNat < 128 := fun j b h => by
  match j, h with
  | 0, h => cases h; decide
  | 1, h => cases h; decide
  | 2, h => cases h; decide
  | 3, h => cases h; decide
  | n + 4, h => cases h
set_option maxRecDepth 100000 in
theorem mio_any : Lib.indexAny MIO.data.toList MARKS.data.toList = -1 := by kernel_rfl
set_option maxRecDepth 100000 in
theorem mio_rep : Lib.replaceAll MIO.data.toList (⟨#[39]⟩ : ByteArray).data.toList (⟨#[39, 39]⟩ : ByteArray).data.toList = [32, 77, 105, 111] := by kernel_rfl
set_option maxRecDepth 100000 in
theorem mio_cnt : Lib.countB MIO ⟨#[39]⟩ = 0 := by kernel_rfl
theorem anyMio (w : World) : Calls Tryd.prog 59 #[.string MIO, .string MARKS] w fun e w' => e = .returned (.bool false) ∧ Below w.heap.size w w' := by
  have h := Tryd.strings_IndexAny_short MIO MARKS w (by decide) (by decide) mio_ascii
  rw [mio_any] at h
  have H := Lib.hid h
  clear h
  go_enter Tryd.func59, Tryd.ntmps59
  go_wp2_with fail
  with_reducible refine (H.out).mono ?_
  rintro e w1 ⟨rfl, pos, rfl⟩
  go_wp2
  go_ret
  exact ⟨rfl, below_alloc _ _⟩
theorem repMio (w : World) (hE : Env w) : Calls Tryd.prog 58 #[.string MIO, .string ⟨#[39]⟩, .string ⟨#[39, 39]⟩] w fun e w' => e = .returned (.string MIO) ∧ Below w.heap.size w w' := by
  obtain ⟨m, hm⟩ := hE.m
  have h := Tryd.strings_ReplaceAll MIO ⟨#[39]⟩ ⟨#[39, 39]⟩ m w (by decide) hm (by decide) (by rw [mio_cnt]; decide)
  rw [mio_rep] at h
  exact h
theorem literal_s (w : World) (hE : Env w) : Calls Tryd.prog 53 #[.string MIO] w fun e w' => e = .returned (.string MIO) ∧ Below w.heap.size w w' := by
  have HE := Lib.hid hE
  clear hE
  go_enter Tryd.func53, Tryd.ntmps53
  go_wp2_with fail
  with_reducible refine (repMio _ HE.out).mono ?_
  rintro e w1 ⟨rfl, hb⟩
  have B1 := Lib.hid hb
  clear hb
  go_wp2_with fail
  with_reducible refine (anyMio _).mono ?_
  rintro e w2 ⟨rfl, hb⟩
  have B2 := Lib.hid (B1.out.trans (hb.mono B1.out.size))
  clear hb
  go_wp2
  go_ret
  exact ⟨rfl, B2.out⟩
set_option maxRecDepth 100000 in
set_option maxHeartbeats 3200000 in
theorem written_s (w : World) (hE : Env w) : Calls Tryd.prog 46 #[.agg #[.int .i64 0, .string MIO, .int .i64 0]] w fun e w' => e = .returned (.string MIO) ∧ Below w.heap.size w w' := by
  have X0 := Lib.hid (BoxT.new w #[.int .i64 0, .string MIO, .int .i64 0] TPc)
  have B0 := Lib.hid (below_alloc w (.cells #[.int .i64 0, .string MIO, .int .i64 0] TPc))
  have E0 := Lib.hid (hE.below (below_alloc w (.cells #[.int .i64 0, .string MIO, .int .i64 0] TPc)))
  clear hE
  go_enter Tryd.func46, Tryd.ntmps46
  go_upto_region 1 with fail
  generalize w.alloc (.cells #[.int .i64 0, .string MIO, .int .i64 0] TPc) = w0 at *
  have x0 := X0.out.cell 0
  have x1 := X0.out.cell 1
  simp at x0 x1
  go_wp2_with fail
  with_reducible refine (literal_s _ E0.out).mono ?_
  rintro e w1 ⟨rfl, hb⟩
  have B1 := Lib.hid (B0.out.trans (hb.mono B0.out.size))
  clear hb
  go_wp2
  go_ret
  exact ⟨rfl, B1.out⟩
set_option maxRecDepth 100000 in
set_option maxHeartbeats 3200000 in
theorem affix_nil (b1 : Option Addr) (d1 : Nat) (w : World) : Calls Tryd.prog 38 #[.slice b1 0 d1] w fun e w' => e = .returned (.string ⟨#[]⟩) ∧ Below w.heap.size w w' := by
  have HBD := Lib.hid (Lib.fresh_isBuilder TB 5 w)
  have B0 := Lib.hid (below_alloc w (.cells #[.pointer none, .slice none 0 0] TB))
  go_enter Tryd.func38, Tryd.ntmps38
  go_wp2_with fail
  go_loopw [8] (fun i wr => i = .int .i64 0 ∧ wr = w.alloc (.cells #[.pointer none, .slice none 0 0] TB)) (fun _ _ => 0)
  case atStart => exact ⟨rfl, rfl⟩
  case round =>
    obtain ⟨rfl, rfl⟩ := hrel
    go_wp2_with fail
    with_reducible refine (Tryd.Builder_String_any _ _ [] _ HBD.out (by simp)).mono ?_
    rintro e w4 ⟨rfl, hbl⟩
    go_wp2
    go_ret
    exact ⟨rfl, B0.out.trans (hbl.mono (Nat.le_refl _))⟩
set_option maxRecDepth 100000 in
set_option maxHeartbeats 3200000 in
theorem affix_s (v : Value) (w : World) (hE : Env w) (hv : PcL w v [⟨0, [32, 77, 105, 111], 0⟩]) : Calls Tryd.prog 38 #[v] w fun e w' => e = .returned (.string MIO) ∧ Below w.heap.size w w' := by
  obtain ⟨a, c, rfl, hc, hm, hx⟩ := hv
  obtain ⟨bb, cs, rfl, hbx, hel⟩ := hx (by decide)
  obtain ⟨d, hA, _, hq⟩ := hel 0 (by decide)
  obtain rfl : d = (pcC ⟨0, [32, 77, 105, 111], 0⟩).toList := hA
  have q0 : cs[0]? = some (.int .i64 0) := by have h := hq 0 (by decide); rw [Array.getElem?_toList] at h; exact h
  have q1 : cs[1]? = some (.string MIO) := by have h := hq 1 (by decide); rw [Array.getElem?_toList] at h; exact h
  have q2 : cs[2]? = some (.int .i64 0) := by have h := hq 2 (by decide); rw [Array.getElem?_toList] at h; exact h
  have HX := Lib.hid (hbx.alloc (.cells #[.pointer none, .slice none 0 0] TB))
  have HBD := Lib.hid (Lib.fresh_isBuilder TB 5 w)
  have B0 := Lib.hid (below_alloc w (.cells #[.pointer none, .slice none 0 0] TB))
  have E0 := Lib.hid (hE.below (below_alloc w (.cells #[.pointer none, .slice none 0 0] TB)))
  have hsz : (w.alloc (.cells #[.pointer none, .slice none 0 0] TB)).heap.size = w.heap.size + 1 := by simp
  have hcl : (1 : Int) ≤ (c : Int) := by simp at hc; omega
  have hbl : bb < w.heap.size := hbx.lt
  clear hq hel hbx hE hx hc
  go_enter Tryd.func38, Tryd.ntmps38
  go_wp2_with fail
  go_loopw [8] (fun i wr => (i = .int .i64 0 ∧ wr = w.alloc (.cells #[.pointer none, .slice none 0 0] TB)) ∨ (i = .int .i64 1 ∧ Lib.IsBuilder TB 5 w.heap.size w.heap.size (Lib.byteCells [32, 77, 105, 111]) wr ∧ Below w.heap.size w wr)) (fun i _ => 2 - (intOf i).toNat)
  case atStart => exact .inl ⟨rfl, rfl⟩
  case round =>
    rcases hrel with ⟨rfl, rfl⟩ | ⟨rfl, hbd, hbw⟩
    · generalize w.alloc (.cells #[.pointer none, .slice none 0 0] TB) = w0 at *
      have p0 := (HX.out.cell 0).trans q0
      have p1 := (HX.out.cell 1).trans q1
      have p2 := (HX.out.cell 2).trans q2
      have N1 := Lib.hid (BoxT.new w0 #[.int .i64 0, .string MIO, .int .i64 0] TPc)
      rw [hsz] at N1
      go_upto_region 5 with fail
      have B1 := Lib.hid (B0.out.alloc B0.out.size (.cells #[.int .i64 0, .string MIO, .int .i64 0] TPc))
      have E1 := Lib.hid (E0.out.below (below_alloc w0 (.cells #[.int .i64 0, .string MIO, .int .i64 0] TPc)))
      have D1 : Hid (Lib.IsBuilder TB 5 w.heap.size w.heap.size [] (w0.alloc (.cells #[.int .i64 0, .string MIO, .int .i64 0] TPc))) := Lib.hid (bld_below HBD.out (below_alloc w0 _))
      have hs0 : (w0.alloc (.cells #[.int .i64 0, .string MIO, .int .i64 0] TPc)).heap.size = w0.heap.size + 1 := by simp
      generalize w0.alloc (.cells #[.int .i64 0, .string MIO, .int .i64 0] TPc) = w1 at *
      have n0 := N1.out.cell 0
      have n1 := N1.out.cell 1
      have n2 := N1.out.cell 2
      simp at n0 n1 n2
      go_wp2_with fail
      with_reducible refine (written_s _ E1.out).mono ?_
      rintro e w2 ⟨rfl, hb⟩
      have B2 := Lib.hid (B1.out.trans (hb.mono B1.out.size))
      have D2 := Lib.hid (bld_below D1.out hb)
      clear hb
      go_wp2_with fail
      with_reducible refine (wstr_as w.heap.size w.heap.size _ MIO _ D2.out (by decide) B2.out.size).mono ?_
      rintro e w3 ⟨rfl, hbd, hbl3, hkt⟩
      have D3 : Hid (Lib.IsBuilder TB 5 w.heap.size w.heap.size (Lib.byteCells [32, 77, 105, 111]) w3) := Lib.hid (.inr hbd)
      have B3 := Lib.hid (B2.out.trans hbl3)
      clear hbd hbl3 hkt
      go_wp2
      go_roundw
      case rel => exact .inr ⟨rfl, D3.out, B3.out⟩
      case measure => simp [intOf]
    · have BB := Lib.hid hbw
      have DD := Lib.hid hbd
      clear hbd hbw
      go_wp2_with fail
      with_reducible refine (Tryd.Builder_String_any _ _ _ _ DD.out BB.out.size).mono ?_
      rintro e w4 ⟨rfl, hbl⟩
      go_wp2
      go_ret
      exact ⟨rfl, BB.out.trans hbl⟩
set_option maxRecDepth 100000 in
theorem cat_mio : (((⟨#[]⟩ : ByteArray) ++ ⟨#[48, 48]⟩) ++ MIO) = ⟨#[48, 48, 32, 77, 105, 111]⟩ := by kernel_rfl
set_option maxRecDepth 100000 in
set_option maxHeartbeats 3200000 in
theorem around_s (b1 : Option Addr) (d1 : Nat) (v : Value) (w : World) (hE : Env w) (hv : PcL w v [⟨0, [32, 77, 105, 111], 0⟩]) : Calls Tryd.prog 28 #[.agg #[.slice b1 0 d1, v], .string ⟨#[48, 48]⟩] w fun e w' => e = .returned (.string ⟨#[48, 48, 32, 77, 105, 111]⟩) ∧ Below w.heap.size w w' := by
  have X0 := Lib.hid (BoxT.new w #[.slice b1 0 d1, v] TSd)
  have B0 := Lib.hid (below_alloc w (.cells #[.slice b1 0 d1, v] TSd))
  have E0 := Lib.hid (hE.below (below_alloc w (.cells #[.slice b1 0 d1, v] TSd)))
  have V0 := Lib.hid (hv.keep (KeepB.below (below_alloc w (.cells #[.slice b1 0 d1, v] TSd))))
  clear hE hv
  go_enter Tryd.func28, Tryd.ntmps28
  go_upto_region 1 with fail
  generalize w.alloc (.cells #[.slice b1 0 d1, v] TSd) = w0 at *
  have hn1 : ¬ 9223372036854775807 < (⟨#[]⟩ : ByteArray).size + (⟨#[48, 48]⟩ : ByteArray).size := by decide
  have hn2 : ¬ 9223372036854775807 < ((⟨#[]⟩ : ByteArray) ++ ⟨#[48, 48]⟩).size + MIO.size := by decide
  refine wp_region_held_drew (S := fun w' => BoxT w' w.heap.size #[.slice b1 0 d1, v] TSd) (by kernel_rfl) (show BoxT w0.drew _ _ _ from X0.out) (fun hHeld => ?_)
  refine wpAnyH_take (i := 0) (oi := { dst := some 5, op := Go.Op.fieldAddr 25 (Go.Operand.tmp 2) 0, type := 0, pos := "pattern.go:104", after := #[], guard := none }) (v := ?_) rfl (by kernel_rfl) (by kernel_rfl) (by kernel_rfl) (fun _ _ _ h => h) (Or.inl ⟨by rfl, ?_⟩) hHeld ?_
  case refine_2 => (intro w hSw; (try dsimp only at hSw); go_simp <;> with_reducible rfl)
  try simp only [Act.put, List.setIfInBounds_toArray, List.set_cons_zero, List.set_cons_succ]
  refine wpAnyH_take (i := 1) (oi := { dst := some 6, op := Go.Op.load 23 (Go.Operand.tmp 5), type := 23, pos := "pattern.go:104", after := #[{ on := 0, ground := Go.Ground.data }], guard := none }) (v := .slice b1 0 d1) rfl (by kernel_rfl) (by kernel_rfl) (by kernel_rfl) (fun _ _ _ h => h) (Or.inl ⟨by rfl, ?_⟩) hHeld ?_
  case refine_1 => (intro w hSw; (try dsimp only at hSw); have k := BoxT.cell hSw 0; simp at k; go_simp <;> with_reducible rfl)
  try simp only [Act.put, List.setIfInBounds_toArray, List.set_cons_zero, List.set_cons_succ]
  refine wpAnyH_take (i := 3) (oi := { dst := some 8, op := Go.Op.move (Go.Operand.tmp 1), type := 9, pos := "pattern.go:104", after := #[], guard := none }) (v := ?_) rfl (by kernel_rfl) (by kernel_rfl) (by kernel_rfl) (fun _ _ _ h => h) (Or.inl ⟨by rfl, ?_⟩) hHeld ?_
  case refine_2 => (intro w hSw; (try dsimp only at hSw); go_simp <;> with_reducible rfl)
  try simp only [Act.put, List.setIfInBounds_toArray, List.set_cons_zero, List.set_cons_succ]
  refine wpAnyH_take (i := 5) (oi := { dst := some 10, op := Go.Op.fieldAddr 25 (Go.Operand.tmp 2) 1, type := 0, pos := "pattern.go:104", after := #[], guard := none }) (v := ?_) rfl (by kernel_rfl) (by kernel_rfl) (by kernel_rfl) (fun _ _ _ h => h) (Or.inl ⟨by rfl, ?_⟩) hHeld ?_
  case refine_2 => (intro w hSw; (try dsimp only at hSw); go_simp <;> with_reducible rfl)
  try simp only [Act.put, List.setIfInBounds_toArray, List.set_cons_zero, List.set_cons_succ]
  refine wpAnyH_take (i := 6) (oi := { dst := some 11, op := Go.Op.load 23 (Go.Operand.tmp 10), type := 23, pos := "pattern.go:104", after := #[{ on := 5, ground := Go.Ground.data }], guard := none }) (v := v) rfl (by kernel_rfl) (by kernel_rfl) (by kernel_rfl) (fun _ _ _ h => h) (Or.inl ⟨by rfl, ?_⟩) hHeld ?_
  case refine_1 => (intro w hSw; (try dsimp only at hSw); have k := BoxT.cell hSw 1; simp at k; go_simp <;> with_reducible rfl)
  try simp only [Act.put, List.setIfInBounds_toArray, List.set_cons_zero, List.set_cons_succ]
  refine wpAnyH_ready (rs := [2]) (by kernel_rfl) (by simp) ?_
  refine AllReadyH.cons (o := { dst := some 7, op := Go.Op.call { callee := Go.Callee.value (Go.Operand.func 38), args := #[Go.Operand.tmp 6], argTypes := #[23] }, type := 9, pos := "pattern.go:104", after := #[{ on := 1, ground := Go.Ground.data }], guard := none }) rfl (fun KK hK => ?_) AllReadyH.nil
  go_simp
  with_reducible refine (affix_nil b1 d1 _).mono ?_
  rintro e w1 ⟨rfl, hb⟩
  have X1 := Lib.hid ((show BoxT w0.drew _ _ _ from X0.out).below hb)
  have B1 := Lib.hid (B0.out.drew.trans (hb.mono B0.out.size))
  have E1 := Lib.hid ((E0.out.below (Below.refl _ _).drew).below hb)
  have V1 := Lib.hid ((V0.out.keep (KeepB.below (show Below w0.heap.size w0 w0.drew from (Below.refl _ _).drew))).keep (KeepB.below hb))
  clear hb
  go_wp2_with fail
  refine hK.out _ _ (X1.out) (fun hHeld2 => ?_)
  clear hK hHeld
  have hHeld := hHeld2
  clear hHeld2
  try simp only [Act.put, List.setIfInBounds_toArray, List.set_cons_zero, List.set_cons_succ]
  refine wpAnyH_take (i := 4) (oi := { dst := some 9, op := Go.Op.binOp Go.BinOp.add 9 (Go.Operand.tmp 7) (Go.Operand.tmp 8) 9, type := 9, pos := "pattern.go:104", after := #[{ on := 2, ground := Go.Ground.data }, { on := 3, ground := Go.Ground.data }], guard := none }) (v := ?_) rfl (by kernel_rfl) (by kernel_rfl) (by kernel_rfl) (fun _ _ _ h => h) (Or.inl ⟨by rfl, ?_⟩) hHeld ?_
  case refine_2 => (intro w hSw; (try dsimp only at hSw); go_simp <;> with_reducible rfl)
  try simp only [Act.put, List.setIfInBounds_toArray, List.set_cons_zero, List.set_cons_succ]
  refine wpAnyH_ready (rs := [7]) (by kernel_rfl) (by simp) ?_
  refine AllReadyH.cons (o := { dst := some 12, op := Go.Op.call { callee := Go.Callee.value (Go.Operand.func 38), args := #[Go.Operand.tmp 11], argTypes := #[23] }, type := 9, pos := "pattern.go:104", after := #[{ on := 6, ground := Go.Ground.data }, { on := 2, ground := Go.Ground.chain }], guard := none }) rfl (fun KK hK => ?_) AllReadyH.nil
  go_simp
  with_reducible refine (affix_s v _ E1.out V1.out).mono ?_
  rintro e w2 ⟨rfl, hb⟩
  have X2 := Lib.hid (X1.out.below hb)
  have B2 := Lib.hid (B1.out.trans (hb.mono B1.out.size))
  clear hb
  go_wp2_with fail
  refine hK.out _ _ (X2.out) (fun hHeld2 => ?_)
  clear hK hHeld
  have hHeld := hHeld2
  clear hHeld2
  try simp only [Act.put, List.setIfInBounds_toArray, List.set_cons_zero, List.set_cons_succ]
  refine wpAnyH_take (i := 8) (oi := { dst := some 13, op := Go.Op.binOp Go.BinOp.add 9 (Go.Operand.tmp 9) (Go.Operand.tmp 12) 9, type := 9, pos := "pattern.go:104", after := #[{ on := 4, ground := Go.Ground.data }, { on := 7, ground := Go.Ground.data }], guard := none }) (v := ?_) rfl (by kernel_rfl) (by kernel_rfl) (by kernel_rfl) (fun _ _ _ h => h) (Or.inl ⟨by rfl, ?_⟩) hHeld ?_
  case refine_2 => (intro w hSw; (try dsimp only at hSw); go_simp <;> with_reducible rfl)
  try simp only [Act.put, List.setIfInBounds_toArray, List.set_cons_zero, List.set_cons_succ]
  refine wpAnyH_take (i := 9) (oi := { dst := some 4, op := Go.Op.assign (Go.Operand.tmp 13), type := 9, pos := "pattern.go:104", after := #[{ on := 8, ground := Go.Ground.data }, { on := 7, ground := Go.Ground.chain }, { on := 0, ground := Go.Ground.phase }, { on := 1, ground := Go.Ground.phase }, { on := 2, ground := Go.Ground.phase }, { on := 3, ground := Go.Ground.phase }, { on := 4, ground := Go.Ground.phase }, { on := 5, ground := Go.Ground.phase }, { on := 6, ground := Go.Ground.phase }, { on := 7, ground := Go.Ground.phase }, { on := 8, ground := Go.Ground.phase }], guard := none }) (v := ?_) rfl (by kernel_rfl) (by kernel_rfl) (by kernel_rfl) (fun _ _ _ h => h) (Or.inl ⟨by rfl, ?_⟩) hHeld ?_
  case refine_2 => (intro w hSw; (try dsimp only at hSw); go_simp <;> with_reducible rfl)
  try simp only [Act.put, List.setIfInBounds_toArray, List.set_cons_zero, List.set_cons_succ]
  refine wpAnyH_done (by kernel_rfl) ?_ _
  clear hHeld
  try rw [cat_mio]
  go_wp2
  go_ret
  exact ⟨by first | rfl | rw [cat_mio], B2.out⟩
set_option maxRecDepth 100000 in
theorem cat_e : (⟨#[48, 48]⟩ : ByteArray) ++ ⟨#[]⟩ = ⟨#[48, 48]⟩ := by kernel_rfl
set_option maxRecDepth 100000 in
set_option maxHeartbeats 3200000 in
theorem string_s (b1 : Option Addr) (d1 : Nat) (v np ns : Value) (w : World) (hE : Env w) (hv : PcL w v [⟨0, [32, 77, 105, 111], 0⟩]) : Calls Tryd.prog 18 #[.agg (XM (.slice b1 0 d1) v np ns)] w fun e w' => e = .returned (.string ⟨#[48, 48, 32, 77, 105, 111]⟩) ∧ Below w.heap.size w w' := by
  have X0 := Lib.hid (BoxT.new w (XM (.slice b1 0 d1) v np ns) TP)
  have B0 := Lib.hid (below_alloc w (.cells (XM (.slice b1 0 d1) v np ns) TP))
  have E0 := Lib.hid (hE.below (below_alloc w (.cells (XM (.slice b1 0 d1) v np ns) TP)))
  have V0 := Lib.hid (hv.keep (KeepB.below (below_alloc w (.cells (XM (.slice b1 0 d1) v np ns) TP))))
  clear hE hv
  go_enter Tryd.func18, Tryd.ntmps18
  go_upto_region 1 with fail
  generalize w.alloc (.cells (XM (.slice b1 0 d1) v np ns) TP) = w0 at *
  refine wp_region_held_drew (S := fun w' => BoxT w' w.heap.size (XM (.slice b1 0 d1) v np ns) TP) (by kernel_rfl) (show BoxT w0.drew _ _ _ from X0.out) (fun hHeld => ?_)
  refine wpAnyH_take (i := 0) (oi := { dst := some 5, op := Go.Op.load 27 (Go.Operand.tmp 1), type := 27, pos := "pattern.go:89", after := #[], guard := none }) (v := .agg (XM (.slice b1 0 d1) v np ns)) rfl (by kernel_rfl) (by kernel_rfl) (by kernel_rfl) (fun _ _ _ h => h) (yieldsIf_load_box (by rfl) TP (.tmp 1) (by rfl) w.heap.size (by rfl) (XM (.slice b1 0 d1) v np ns) TP _ (fun _ h => h) Tryd.underlying27 (by rfl) (xm_info _ _ _ _)) hHeld ?_
  try simp only [Act.put, List.setIfInBounds_toArray, List.set_cons_zero, List.set_cons_succ]
  refine wpAnyH_take (i := 2) (oi := { dst := some 7, op := Go.Op.load 27 (Go.Operand.tmp 1), type := 27, pos := "pattern.go:89", after := #[], guard := none }) (v := .agg (XM (.slice b1 0 d1) v np ns)) rfl (by kernel_rfl) (by kernel_rfl) (by kernel_rfl) (fun _ _ _ h => h) (yieldsIf_load_box (by rfl) TP (.tmp 1) (by rfl) w.heap.size (by rfl) (XM (.slice b1 0 d1) v np ns) TP _ (fun _ h => h) Tryd.underlying27 (by rfl) (xm_info _ _ _ _)) hHeld ?_
  try simp only [Act.put, List.setIfInBounds_toArray, List.set_cons_zero, List.set_cons_succ]
  refine wpAnyH_ready (rs := [1]) (by kernel_rfl) (by simp) ?_
  refine AllReadyH.cons (o := { dst := some 6, op := Go.Op.call { callee := Go.Callee.value (Go.Operand.func 26), args := #[Go.Operand.tmp 5], argTypes := #[27] }, type := 9, pos := "pattern.go:89", after := #[{ on := 0, ground := Go.Ground.data }], guard := none }) rfl (fun KK hK => ?_) AllReadyH.nil
  go_simp
  with_reducible refine (places_s _ _ _ _ _).mono ?_
  rintro e w1 ⟨rfl, hb⟩
  have X1 := Lib.hid ((show BoxT w0.drew _ _ _ from X0.out).below hb)
  have B1 := Lib.hid (B0.out.drew.trans (hb.mono B0.out.size))
  have E1 := Lib.hid ((E0.out.below (Below.refl _ _).drew).below hb)
  have V1 := Lib.hid ((V0.out.keep (KeepB.below (show Below w0.heap.size w0 w0.drew from (Below.refl _ _).drew))).keep (KeepB.below hb))
  clear hb
  go_wp2_with fail
  refine hK.out _ _ (X1.out) (fun hHeld2 => ?_)
  clear hK hHeld
  have hHeld := hHeld2
  clear hHeld2
  try simp only [Act.put, List.setIfInBounds_toArray, List.set_cons_zero, List.set_cons_succ]
  refine wpAnyH_ready (rs := [3]) (by kernel_rfl) (by simp) ?_
  refine AllReadyH.cons (o := { dst := some 8, op := Go.Op.call { callee := Go.Callee.value (Go.Operand.func 27), args := #[Go.Operand.tmp 7], argTypes := #[27] }, type := 9, pos := "pattern.go:89", after := #[{ on := 2, ground := Go.Ground.data }, { on := 1, ground := Go.Ground.chain }], guard := none }) rfl (fun KK hK => ?_) AllReadyH.nil
  go_simp
  with_reducible refine (behind_s _ _ _ _ _).mono ?_
  rintro e w2 ⟨rfl, hb⟩
  have X2 := Lib.hid (X1.out.below hb)
  have B2 := Lib.hid (B1.out.trans (hb.mono B1.out.size))
  have E2 := Lib.hid (E1.out.below hb)
  have V2 := Lib.hid (V1.out.keep (KeepB.below hb))
  clear hb
  go_wp2_with fail
  refine hK.out _ _ (X2.out) (fun hHeld2 => ?_)
  clear hK hHeld
  have hHeld := hHeld2
  clear hHeld2
  try simp only [Act.put, List.setIfInBounds_toArray, List.set_cons_zero, List.set_cons_succ]
  refine wpAnyH_take (i := 4) (oi := { dst := some 9, op := Go.Op.binOp Go.BinOp.add 9 (Go.Operand.tmp 6) (Go.Operand.tmp 8) 9, type := 9, pos := "pattern.go:89", after := #[{ on := 1, ground := Go.Ground.data }, { on := 3, ground := Go.Ground.data }], guard := none }) (v := ?_) rfl (by kernel_rfl) (by kernel_rfl) (by kernel_rfl) (fun _ _ _ h => h) (Or.inl ⟨by rfl, ?_⟩) hHeld ?_
  case refine_2 => (intro w hSw; (try dsimp only at hSw); go_simp <;> with_reducible rfl)
  try simp only [Act.put, List.setIfInBounds_toArray, List.set_cons_zero, List.set_cons_succ]
  refine wpAnyH_take (i := 5) (oi := { dst := some 3, op := Go.Op.assign (Go.Operand.tmp 9), type := 9, pos := "pattern.go:89", after := #[{ on := 4, ground := Go.Ground.data }, { on := 3, ground := Go.Ground.chain }, { on := 0, ground := Go.Ground.phase }, { on := 1, ground := Go.Ground.phase }, { on := 2, ground := Go.Ground.phase }, { on := 3, ground := Go.Ground.phase }, { on := 4, ground := Go.Ground.phase }], guard := none }) (v := ?_) rfl (by kernel_rfl) (by kernel_rfl) (by kernel_rfl) (fun _ _ _ h => h) (Or.inl ⟨by rfl, ?_⟩) hHeld ?_
  case refine_2 => (intro w hSw; (try dsimp only at hSw); go_simp <;> with_reducible rfl)
  try simp only [Act.put, List.setIfInBounds_toArray, List.set_cons_zero, List.set_cons_succ]
  refine wpAnyH_done (by kernel_rfl) ?_ _
  clear hHeld
  generalize hcat : (⟨#[48, 48]⟩ : ByteArray) ++ ⟨#[]⟩ = SX at *
  obtain rfl : SX = ⟨#[48, 48]⟩ := hcat.symm.trans cat_e
  clear hcat
  have x0 := (X2.out.cell 0).trans (xm0 _ _ _ _)
  have x1 := (X2.out.cell 1).trans (xm1 _ _ _ _)
  go_wp2_with fail
  with_reducible refine (around_s b1 d1 v _ E2.out V2.out).mono ?_
  rintro e w3 ⟨rfl, hb⟩
  have B3 := Lib.hid (B2.out.trans (hb.mono B2.out.size))
  have x4 := ((X2.out.below hb).cell 4).trans (xm_two _ _ _ _)
  clear hb x0 x1
  go_wp2
  go_ret
  exact ⟨rfl, B3.out⟩
/-- The cells of the document's compact pattern. -/
def YM (vp vs np ns : Value) : Array Value := CC NM false vp vs np ns false
theorem ym_info (vp vs np ns : Value) : (Tryd.prog.info? TC).map (·.size) = some (YM vp vs np ns).size := cc_info rfl
set_option maxRecDepth 100000 in
set_option maxHeartbeats 3200000 in
theorem shift_s (vp vs np ns : Value) (w : World) : Calls Tryd.prog 10 #[.agg (YM vp vs np ns), .int .i64 7] w fun e w' => e = .returned (.int .i64 6) ∧ Below w.heap.size w w' := by
  have X0 := Lib.hid (BoxT.new w (YM vp vs np ns) TC)
  have B0 := Lib.hid (below_alloc w (.cells (YM vp vs np ns) TC))
  go_enter Tryd.func10, Tryd.ntmps10
  go_upto_region 1 with fail
  generalize w.alloc (.cells (YM vp vs np ns) TC) = w0 at *
  have x0 : w0.cell? ⟨w.heap.size, 0, none⟩ = some (.int .i64 2) := X0.out.cell 0
  have x1 : w0.cell? ⟨w.heap.size, 1, none⟩ = some (.bool false) := X0.out.cell 1
  go_wp2
  go_ret
  exact ⟨rfl, B0.out⟩
set_option maxRecDepth 100000 in
set_option maxHeartbeats 3200000 in
theorem cstring_s (b1 b3 b4 : Option Addr) (d1 n3 d3 n4 d4 : Nat) (v : Value) (w : World) (hE : Env w) (hv : PcL w v [⟨0, [32, 77, 105, 111], 0⟩]) : Calls Tryd.prog 11 #[.agg (YM (.slice b1 0 d1) v (.slice b3 n3 d3) (.slice b4 n4 d4))] w fun e w' => e = .returned (.string ⟨#[48, 48, 32, 77, 105, 111]⟩) ∧ Below w.heap.size w w' := by
  have X0 := Lib.hid (BoxT.new w (YM (.slice b1 0 d1) v (.slice b3 n3 d3) (.slice b4 n4 d4)) TC)
  have B0 := Lib.hid (below_alloc w (.cells (YM (.slice b1 0 d1) v (.slice b3 n3 d3) (.slice b4 n4 d4)) TC))
  have E0 := Lib.hid (hE.below (below_alloc w (.cells (YM (.slice b1 0 d1) v (.slice b3 n3 d3) (.slice b4 n4 d4)) TC)))
  have V0 := Lib.hid (hv.keep (KeepB.below (below_alloc w (.cells (YM (.slice b1 0 d1) v (.slice b3 n3 d3) (.slice b4 n4 d4)) TC))))
  clear hE hv
  go_enter Tryd.func11, Tryd.ntmps11
  go_upto_region 1 with fail
  generalize w.alloc (.cells (YM (.slice b1 0 d1) v (.slice b3 n3 d3) (.slice b4 n4 d4)) TC) = w0 at *
  have x2 : w0.cell? ⟨w.heap.size, 2, none⟩ = some (.slice b1 0 d1) := X0.out.cell 2
  have x3 : w0.cell? ⟨w.heap.size, 3, none⟩ = some v := X0.out.cell 3
  have x4 : w0.cell? ⟨w.heap.size, 4, none⟩ = some (.slice b3 n3 d3) := X0.out.cell 4
  have x5 : w0.cell? ⟨w.heap.size, 5, none⟩ = some (.slice b4 n4 d4) := X0.out.cell 5
  have x6 : w0.cell? ⟨w.heap.size, 6, none⟩ = some (.bool false) := X0.out.cell 6
  have x7 : w0.cell? ⟨w.heap.size, 7, none⟩ = some (.int .i64 0) := X0.out.cell 7
  have x8 : w0.cell? ⟨w.heap.size, 8, none⟩ = some (.int .i64 2) := X0.out.cell 8
  have x9 : w0.cell? ⟨w.heap.size, 9, none⟩ = some (.int .i64 0) := X0.out.cell 9
  have x10 : w0.cell? ⟨w.heap.size, 10, none⟩ = some (.int .i64 0) := X0.out.cell 10
  have x11 : w0.cell? ⟨w.heap.size, 11, none⟩ = some (.int .i64 0) := X0.out.cell 11
  have x12 : w0.cell? ⟨w.heap.size, 12, none⟩ = some (.int .i64 0) := X0.out.cell 12
  have HS := Lib.hid (string_s b1 d1 v (.slice b3 n3 d3) (.slice b4 n4 d4) w0 E0.out V0.out)
  simp [XM, HC] at HS
  go_wp2_with fail
  with_reducible refine (HS.out).mono ?_
  rintro e w1 ⟨rfl, hb⟩
  have B1 := Lib.hid (B0.out.trans (hb.mono B0.out.size))
  clear hb
  go_wp2
  go_ret
  exact ⟨rfl, B1.out⟩
end Go.Proofs.YtmmllhdphlnpjaaDoor
