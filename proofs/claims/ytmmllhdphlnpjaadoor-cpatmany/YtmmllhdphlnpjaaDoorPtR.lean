/- Patterns as they are written: that of the document's example. -/
import Derived.Test.YtmmllhdphlnpjaaDoorPtQ
import Derived.Test.YtmmllhdphlnpjaaDoorShelf4
namespace Go.Proofs.YtmmllhdphlnpjaaDoor
open Go.RowKit Florin
set_option linter.unusedVariables false
set_option linter.unusedSimpArgs false
attribute [local go_sem ↓] Go.wp_at_zero Go.wp_at_succ
abbrev MIO : ByteArray := ⟨#[32, 77, 105, 111]⟩
theorem times_zero (s : ByteArray) (w : World) : Calls Tryd.prog 35 #[.string s, .int .i64 0] w fun e w' => e = .returned (.string ⟨#[]⟩) ∧ w = w' := by
  go_enter Tryd.func35, Tryd.ntmps35
  go_wp2_with fail
  rw [show (min 0 100 : Int) = 0 from rfl]
  with_reducible refine (Tryd.strings_Repeat_zero s _).mono ?_
  rintro e w1 ⟨rfl, rfl⟩
  go_wp2
  go_ret
  exact ⟨rfl, rfl⟩
set_option maxRecDepth 100000 in
theorem rep_two : Lib.repeatL (⟨#[48]⟩ : ByteArray).data.toList 2 = [48, 48] := by kernel_rfl
theorem times_two (w : World) : Calls Tryd.prog 35 #[.string ⟨#[48]⟩, .int .i64 2] w fun e w' => e = .returned (.string ⟨#[48, 48]⟩) ∧ Below w.heap.size w w' := by
  have h := Tryd.strings_Repeat ⟨#[48]⟩ 2 w (by decide) (by decide)
  rw [rep_two] at h
  have H : Hid (Calls Tryd.prog 43 #[.string ⟨#[48]⟩, .int .i64 2] w fun e w' => e = .returned (.string ⟨([48, 48] : List UInt8).toArray⟩) ∧ Below w.heap.size w w') := Lib.hid h
  clear h
  go_enter Tryd.func35, Tryd.ntmps35
  go_wp2_with fail
  rw [show (min (max 2 0) 100 : Int) = 2 from rfl]
  with_reducible refine (H.out).mono ?_
  rintro e w1 ⟨rfl, hb⟩
  go_wp2
  go_ret
  exact ⟨rfl, hb⟩
set_option maxHeartbeats 2000000 in
set_option maxRecDepth 100000 in
theorem wbyte_as (B b : Nat) (bs : List Value) (c : UInt8) (w : World) (h : Lib.IsBuilder TB 5 B b bs w) (hlen : bs.length ≤ 100000) (hBw : B ≤ w.heap.size) :
    Calls Tryd.prog 36 #[.pointer (some ⟨b, 0, none⟩), .int .u8 (c.toNat : Int)] w fun e w' => e = .returned .nilIface ∧ Lib.BuilderAt TB 5 B b (.pointer (some ⟨b, 0, none⟩)) (bs ++ [.int .u8 (c.toNat : Int)]) w' ∧ Below B w w' := by
  obtain ⟨i0, hi, hz0, hz1, hz2⟩ := info_parts infoB
  go_enter Tryd.func36, Tryd.ntmps36
  go_wp2_with fail
  with_reducible refine (check_as B b bs _ h).mono ?_
  rintro e w1 ⟨rfl, h1, hb1, hkt⟩
  clear hkt
  obtain ⟨hB, v, hbk, hown, hne⟩ := h1
  have hbs := hb1.size
  have c0 : w1.cell? ⟨b, 0, none⟩ = some (.pointer (some ⟨b, 0, none⟩)) := by rw [Lib.cell_of_heap hbk]; rfl
  have c1 : w1.cell? ⟨b, 1, none⟩ = some v := by rw [Lib.cell_of_heap hbk]; rfl
  have hlt : b < w1.heap.size := by
    rcases Nat.lt_or_ge b w1.heap.size with h' | h'
    · exact h'
    · simp [Array.getElem?_eq_none h'] at hbk
  have HOA := Lib.hid (own_below hown (below_alloc w1 (.cells #[.int .u8 (c.toNat : Int)] 5)))
  go_wp2_with (at_builtin; refine wpList_append_lies _ rfl _ _ _ rfl B 5 i0 (.int .u8 0) 1 1 Tryd.underlying69 hi hz0 hz1 hz2 rfl (by omega) v bs.length bs rfl (own_below hown (below_alloc _ _)) ⟨w1.heap.size, 0, none⟩ 1 1 [.int .u8 (c.toNat : Int)] rfl rfl (World.news_of_block (heap_alloc_new _ _)) (by simp [Value.oneCell']) (by omega) (by unfold maxLen; omega) (by omega) (by simp; omega) _ rfl ?_; intro g2 cap2 w5 hown2 hgr hat5 hlt5; have hb2 : w5.heap[b]? = some (.cells #[.pointer (some ⟨b, 0, none⟩), v] TB (0, 0)) := (hgr.block b (by simp; omega) (fun e => hne e.symm)).trans ((Below.heap_alloc w1 _ b hlt).trans hbk); have d0 : w5.cell? ⟨b, 0, none⟩ = some (.pointer (some ⟨b, 0, none⟩)) := (by rw [Lib.cell_of_heap hb2]; rfl); have d1 : w5.cell? ⟨b, 1, none⟩ = some v := (by rw [Lib.cell_of_heap hb2]; rfl); have f1 : w5.frozen? ⟨b, 1, none⟩ = false := Lib.frozen_of_heap hb2 1)
  go_ret
  refine ⟨rfl, ?_, ?_⟩
  · exact Lib.BuilderAt.put (T := TB) (e := 5) hB hb2 (bs' := bs ++ [.int .u8 (c.toNat : Int)]) (by simpa using hown2) (by decide)
  · exact ((hb1.alloc (by omega) (.cells #[.int .u8 (c.toNat : Int)] 5)).grown hgr (by simp; omega) (fun k hk => (World.ownsRow.lt HOA.out k hk).1)).setCell (p := ⟨b, 1, none⟩) hB _
theorem BoxT.belowB {w w' : World} {b : Nat} {cs : Array Value} {t : TypeId} (h : BoxT w b cs t) {B : Nat} (hb : Below B w w') (hB : b < B) : BoxT w' b cs t := (hb.block b hB).trans h
abbrev NM : NumT := ⟨0, 2, 0, 0, 0, 0⟩
/-- The cells of the document's pattern: two noughts, a text behind them. -/
def XM (vp vs np ns : Value) : Array Value := HC NM vp vs np ns false
theorem xm_info (vp vs np ns : Value) : (Tryd.prog.info? TP).map (·.size) = some (XM vp vs np ns).size := infoPX rfl
theorem xm3 (vp vs np ns : Value) : (XM vp vs np ns)[5]? = some (.int .i64 0) := rfl
theorem xm4 (vp vs np ns : Value) : (XM vp vs np ns)[6]? = some (.int .i64 2) := rfl
theorem xm5 (vp vs np ns : Value) : (XM vp vs np ns)[7]? = some (.int .i64 0) := rfl
theorem xm6 (vp vs np ns : Value) : (XM vp vs np ns)[8]? = some (.int .i64 0) := rfl
theorem xm7 (vp vs np ns : Value) : (XM vp vs np ns)[9]? = some (.int .i64 0) := rfl
theorem xm8 (vp vs np ns : Value) : (XM vp vs np ns)[10]? = some (.int .i64 0) := rfl
theorem xm0 (vp vs np ns : Value) : (XM vp vs np ns)[0]? = some vp := rfl
theorem xm1 (vp vs np ns : Value) : (XM vp vs np ns)[1]? = some vs := rfl
theorem xm_two (vp vs np ns : Value) : (XM vp vs np ns)[4]? = some (.bool false) := rfl
theorem cat00 : (⟨#[]⟩ : ByteArray) ++ ⟨#[48, 48]⟩ = ⟨#[48, 48]⟩ := rfl
theorem cat_nil (s : ByteArray) : s ++ (⟨#[]⟩ : ByteArray) = s := by apply ByteArray.ext; simp
theorem nil_cat (s : ByteArray) : (⟨#[]⟩ : ByteArray) ++ s = s := by apply ByteArray.ext; simp
set_option maxRecDepth 100000 in
set_option maxHeartbeats 3200000 in
theorem places_s (vp vs np ns : Value) (w : World) : Calls Tryd.prog 26 #[.agg (XM vp vs np ns)] w fun e w' => e = .returned (.string ⟨#[48, 48]⟩) ∧ Below w.heap.size w w' := by
  have X0 := Lib.hid (BoxT.new w (XM vp vs np ns) TP)
  have B0 := Lib.hid (below_alloc w (.cells (XM vp vs np ns) TP))
  go_enter Tryd.func26, Tryd.ntmps26
  go_upto_region 1 with fail
  generalize w.alloc (.cells (XM vp vs np ns) TP) = w0 at *
  refine wp_region_held_drew (S := fun w' => BoxT w' w.heap.size (XM vp vs np ns) TP) (by kernel_rfl) (show BoxT w0.drew _ _ _ from X0.out) (fun hHeld => ?_)
  refine wpAnyH_take (i := 0) (oi := { dst := some 7, op := Go.Op.fieldAddr 27 (Go.Operand.tmp 1) 3, type := 0, pos := "pattern.go:109", after := #[], guard := none }) (v := ?_) rfl (by kernel_rfl) (by kernel_rfl) (by kernel_rfl) (fun _ _ _ h => h) (Or.inl ⟨by rfl, ?_⟩) hHeld ?_
  case refine_2 => (intro w hSw; (try dsimp only at hSw); go_simp <;> with_reducible rfl)
  try simp only [Act.put, List.setIfInBounds_toArray, List.set_cons_zero, List.set_cons_succ]
  refine wpAnyH_take (i := 1) (oi := { dst := some 8, op := Go.Op.load 3 (Go.Operand.tmp 7), type := 3, pos := "pattern.go:109", after := #[{ on := 0, ground := Go.Ground.data }], guard := none }) (v := .int .i64 0) rfl (by kernel_rfl) (by kernel_rfl) (by kernel_rfl) (fun _ _ _ h => h) (Or.inl ⟨by rfl, ?_⟩) hHeld ?_
  case refine_1 => (intro w hSw; (try dsimp only at hSw); have k := (BoxT.cell hSw 5).trans (xm3 vp vs np ns); go_simp <;> with_reducible rfl)
  try simp only [Act.put, List.setIfInBounds_toArray, List.set_cons_zero, List.set_cons_succ]
  refine wpAnyH_take (i := 3) (oi := { dst := some 10, op := Go.Op.fieldAddr 27 (Go.Operand.tmp 1) 4, type := 0, pos := "pattern.go:109", after := #[], guard := none }) (v := ?_) rfl (by kernel_rfl) (by kernel_rfl) (by kernel_rfl) (fun _ _ _ h => h) (Or.inl ⟨by rfl, ?_⟩) hHeld ?_
  case refine_2 => (intro w hSw; (try dsimp only at hSw); go_simp <;> with_reducible rfl)
  try simp only [Act.put, List.setIfInBounds_toArray, List.set_cons_zero, List.set_cons_succ]
  refine wpAnyH_take (i := 4) (oi := { dst := some 11, op := Go.Op.load 3 (Go.Operand.tmp 10), type := 3, pos := "pattern.go:109", after := #[{ on := 3, ground := Go.Ground.data }], guard := none }) (v := .int .i64 2) rfl (by kernel_rfl) (by kernel_rfl) (by kernel_rfl) (fun _ _ _ h => h) (Or.inl ⟨by rfl, ?_⟩) hHeld ?_
  case refine_1 => (intro w hSw; (try dsimp only at hSw); have k := (BoxT.cell hSw 6).trans (xm4 vp vs np ns); go_simp <;> with_reducible rfl)
  try simp only [Act.put, List.setIfInBounds_toArray, List.set_cons_zero, List.set_cons_succ]
  refine wpAnyH_ready (rs := [2]) (by kernel_rfl) (by simp) ?_
  refine AllReadyH.cons (o := { dst := some 9, op := Go.Op.call { callee := Go.Callee.value (Go.Operand.func 35), args := #[Go.Operand.const (Go.Value.string { data := #[35] }), Go.Operand.tmp 8], argTypes := #[9, 3] }, type := 9, pos := "pattern.go:109", after := #[{ on := 1, ground := Go.Ground.data }], guard := none }) rfl (fun KK hK => ?_) AllReadyH.nil
  go_simp
  with_reducible refine (times_zero _ _).mono ?_
  rintro e w1 ⟨rfl, rfl⟩
  go_wp2_with fail
  refine hK.out _ _ (show BoxT w0.drew _ _ _ from X0.out) (fun hHeld2 => ?_)
  clear hK hHeld
  have hHeld := hHeld2
  clear hHeld2
  try simp only [Act.put, List.setIfInBounds_toArray, List.set_cons_zero, List.set_cons_succ]
  refine wpAnyH_ready (rs := [5]) (by kernel_rfl) (by simp) ?_
  refine AllReadyH.cons (o := { dst := some 12, op := Go.Op.call { callee := Go.Callee.value (Go.Operand.func 35), args := #[Go.Operand.const (Go.Value.string { data := #[48] }), Go.Operand.tmp 11], argTypes := #[9, 3] }, type := 9, pos := "pattern.go:109", after := #[{ on := 4, ground := Go.Ground.data }, { on := 2, ground := Go.Ground.chain }], guard := none }) rfl (fun KK hK => ?_) AllReadyH.nil
  go_simp
  with_reducible refine (times_two _).mono ?_
  rintro e w2 ⟨rfl, hb⟩
  have X2 := Lib.hid ((show BoxT w0.drew _ _ _ from X0.out).below hb)
  have B2 := Lib.hid (B0.out.drew.trans (hb.mono B0.out.size))
  clear hb
  go_wp2_with fail
  refine hK.out _ _ (X2.out) (fun hHeld2 => ?_)
  clear hK hHeld
  have hHeld := hHeld2
  clear hHeld2
  try simp only [Act.put, List.setIfInBounds_toArray, List.set_cons_zero, List.set_cons_succ]
  refine wpAnyH_take (i := 6) (oi := { dst := some 13, op := Go.Op.binOp Go.BinOp.add 9 (Go.Operand.tmp 9) (Go.Operand.tmp 12) 9, type := 9, pos := "pattern.go:109", after := #[{ on := 2, ground := Go.Ground.data }, { on := 5, ground := Go.Ground.data }], guard := none }) (v := ?_) rfl (by kernel_rfl) (by kernel_rfl) (by kernel_rfl) (fun _ _ _ h => h) (Or.inl ⟨by rfl, ?_⟩) hHeld ?_
  case refine_2 => (intro w hSw; (try dsimp only at hSw); go_simp <;> with_reducible rfl)
  try simp only [Act.put, List.setIfInBounds_toArray, List.set_cons_zero, List.set_cons_succ]
  refine wpAnyH_take (i := 7) (oi := { dst := some 3, op := Go.Op.assign (Go.Operand.tmp 13), type := 9, pos := "pattern.go:109", after := #[{ on := 6, ground := Go.Ground.data }, { on := 5, ground := Go.Ground.chain }, { on := 0, ground := Go.Ground.phase }, { on := 1, ground := Go.Ground.phase }, { on := 2, ground := Go.Ground.phase }, { on := 3, ground := Go.Ground.phase }, { on := 4, ground := Go.Ground.phase }, { on := 5, ground := Go.Ground.phase }, { on := 6, ground := Go.Ground.phase }], guard := none }) (v := ?_) rfl (by kernel_rfl) (by kernel_rfl) (by kernel_rfl) (fun _ _ _ h => h) (Or.inl ⟨by rfl, ?_⟩) hHeld ?_
  case refine_2 => (intro w hSw; (try dsimp only at hSw); go_simp <;> with_reducible rfl)
  try simp only [Act.put, List.setIfInBounds_toArray, List.set_cons_zero, List.set_cons_succ]
  refine wpAnyH_done (by kernel_rfl) ?_ _
  clear hHeld
  generalize hcat : (⟨#[]⟩ : ByteArray) ++ ⟨#[48, 48]⟩ = ST at *
  obtain rfl : ST = ⟨#[48, 48]⟩ := hcat.symm.trans cat00
  clear hcat
  have hs2 := B2.out.size
  have HBD := Lib.hid (Lib.fresh_isBuilder TB 5 w2)
  have X3 := Lib.hid (X2.out.alloc (.cells #[.pointer none, .slice none 0 0] TB))
  have B3 := Lib.hid (B2.out.alloc hs2 (.cells #[.pointer none, .slice none 0 0] TB))
  have hs3 := X3.out.lt
  go_wp2_with fail
  go_loopw [16] (fun i wr => ∃ k : Nat, k ≤ 2 ∧ i = .int .i64 (k : Int) ∧ Lib.IsBuilder TB 5 w2.heap.size w2.heap.size (Lib.byteCells (List.replicate k 48)) wr ∧ BoxT wr w.heap.size (XM vp vs np ns) TP ∧ Below w.heap.size w wr ∧ w2.heap.size ≤ wr.heap.size) (fun i _ => 2 - (intOf i).toNat)
  case atStart => exact ⟨0, by decide, rfl, HBD.out, X3.out, B3.out, by simp⟩
  case round =>
    obtain ⟨k, hk, rfl, hbd, hx, hb, hsz⟩ := hrel
    have BM := Lib.hid hbd
    have XX := Lib.hid hx
    have BB := Lib.hid hb
    have xw : w.heap.size < w2.heap.size := X2.out.lt
    clear hbd hx hb HBD X3 B3
    rcases (show k = 0 ∨ k = 1 ∨ k = 2 by omega) with rfl | rfl | rfl
    · have x9 := (XX.out.cell 9).trans (xm7 vp vs np ns)
      have x10 := (XX.out.cell 10).trans (xm8 vp vs np ns)
      go_wp2_with fail
      with_reducible refine (wbyte_as w2.heap.size w2.heap.size _ ((⟨#[48, 48]⟩ : ByteArray)[0]'(by decide)) _ BM.out (by simp [Lib.byteCells_length]) hsz).mono ?_
      rintro e w4 ⟨rfl, hbd, hbl⟩
      have X4 := Lib.hid (XX.out.belowB hbl xw)
      have B4 := Lib.hid (BB.out.trans (hbl.mono (by omega)))
      have D4 : Hid (Lib.IsBuilder TB 5 w2.heap.size w2.heap.size (Lib.byteCells (List.replicate 1 48)) w4) := Lib.hid (.inr hbd)
      have hs4 := hbl.size
      clear hbd hbl
      go_wp2
      go_roundw
      case rel => exact ⟨1, by decide, by go_num, D4.out, X4.out, B4.out, by omega⟩
      case measure => simp [intOf]
    · have x9 := (XX.out.cell 9).trans (xm7 vp vs np ns)
      have x10 := (XX.out.cell 10).trans (xm8 vp vs np ns)
      go_wp2_with fail
      with_reducible refine (wbyte_as w2.heap.size w2.heap.size _ ((⟨#[48, 48]⟩ : ByteArray)[1]'(by decide)) _ BM.out (by simp [Lib.byteCells_length]) hsz).mono ?_
      rintro e w4 ⟨rfl, hbd, hbl⟩
      have X4 := Lib.hid (XX.out.belowB hbl xw)
      have B4 := Lib.hid (BB.out.trans (hbl.mono (by omega)))
      have D4 : Hid (Lib.IsBuilder TB 5 w2.heap.size w2.heap.size (Lib.byteCells (List.replicate 2 48)) w4) := Lib.hid (.inr hbd)
      have hs4 := hbl.size
      clear hbd hbl
      go_wp2
      go_roundw
      case rel => exact ⟨2, by decide, by go_num, D4.out, X4.out, B4.out, by omega⟩
      case measure => simp [intOf]
    · go_wp2_with fail
      with_reducible refine (Tryd.Builder_String_any _ _ _ _ BM.out hsz).mono ?_
      rintro e w4 ⟨rfl, hbl⟩
      go_wp2
      go_ret
      exact ⟨rfl, BB.out.trans (hbl.mono (by omega))⟩
set_option maxRecDepth 100000 in
set_option maxHeartbeats 3200000 in
theorem behind_s (vp vs np ns : Value) (w : World) : Calls Tryd.prog 27 #[.agg (XM vp vs np ns)] w fun e w' => e = .returned (.string ⟨#[]⟩) ∧ Below w.heap.size w w' := by
  have X0 := Lib.hid (BoxT.new w (XM vp vs np ns) TP)
  have B0 := Lib.hid (below_alloc w (.cells (XM vp vs np ns) TP))
  go_enter Tryd.func27, Tryd.ntmps27
  go_upto_region 1 with fail
  generalize w.alloc (.cells (XM vp vs np ns) TP) = w0 at *
  refine wp_region_held_drew (S := fun w' => BoxT w' w.heap.size (XM vp vs np ns) TP) (by kernel_rfl) (show BoxT w0.drew _ _ _ from X0.out) (fun hHeld => ?_)
  refine wpAnyH_take (i := 0) (oi := { dst := some 4, op := Go.Op.fieldAddr 27 (Go.Operand.tmp 1) 5, type := 0, pos := "pattern.go:123", after := #[], guard := none }) (v := ?_) rfl (by kernel_rfl) (by kernel_rfl) (by kernel_rfl) (fun _ _ _ h => h) (Or.inl ⟨by rfl, ?_⟩) hHeld ?_
  case refine_2 => (intro w hSw; (try dsimp only at hSw); go_simp <;> with_reducible rfl)
  try simp only [Act.put, List.setIfInBounds_toArray, List.set_cons_zero, List.set_cons_succ]
  refine wpAnyH_take (i := 1) (oi := { dst := some 5, op := Go.Op.load 3 (Go.Operand.tmp 4), type := 3, pos := "pattern.go:123", after := #[{ on := 0, ground := Go.Ground.data }], guard := none }) (v := .int .i64 0) rfl (by kernel_rfl) (by kernel_rfl) (by kernel_rfl) (fun _ _ _ h => h) (Or.inl ⟨by rfl, ?_⟩) hHeld ?_
  case refine_1 => (intro w hSw; (try dsimp only at hSw); have k := (BoxT.cell hSw 7).trans (xm5 vp vs np ns); go_simp <;> with_reducible rfl)
  try simp only [Act.put, List.setIfInBounds_toArray, List.set_cons_zero, List.set_cons_succ]
  refine wpAnyH_take (i := 3) (oi := { dst := some 7, op := Go.Op.fieldAddr 27 (Go.Operand.tmp 1) 6, type := 0, pos := "pattern.go:123", after := #[], guard := none }) (v := ?_) rfl (by kernel_rfl) (by kernel_rfl) (by kernel_rfl) (fun _ _ _ h => h) (Or.inl ⟨by rfl, ?_⟩) hHeld ?_
  case refine_2 => (intro w hSw; (try dsimp only at hSw); go_simp <;> with_reducible rfl)
  try simp only [Act.put, List.setIfInBounds_toArray, List.set_cons_zero, List.set_cons_succ]
  refine wpAnyH_take (i := 4) (oi := { dst := some 8, op := Go.Op.load 3 (Go.Operand.tmp 7), type := 3, pos := "pattern.go:123", after := #[{ on := 3, ground := Go.Ground.data }], guard := none }) (v := .int .i64 0) rfl (by kernel_rfl) (by kernel_rfl) (by kernel_rfl) (fun _ _ _ h => h) (Or.inl ⟨by rfl, ?_⟩) hHeld ?_
  case refine_1 => (intro w hSw; (try dsimp only at hSw); have k := (BoxT.cell hSw 8).trans (xm6 vp vs np ns); go_simp <;> with_reducible rfl)
  try simp only [Act.put, List.setIfInBounds_toArray, List.set_cons_zero, List.set_cons_succ]
  refine wpAnyH_take (i := 5) (oi := { dst := some 9, op := Go.Op.fieldAddr 27 (Go.Operand.tmp 1) 5, type := 0, pos := "pattern.go:123", after := #[], guard := none }) (v := ?_) rfl (by kernel_rfl) (by kernel_rfl) (by kernel_rfl) (fun _ _ _ h => h) (Or.inl ⟨by rfl, ?_⟩) hHeld ?_
  case refine_2 => (intro w hSw; (try dsimp only at hSw); go_simp <;> with_reducible rfl)
  try simp only [Act.put, List.setIfInBounds_toArray, List.set_cons_zero, List.set_cons_succ]
  refine wpAnyH_take (i := 6) (oi := { dst := some 10, op := Go.Op.load 3 (Go.Operand.tmp 9), type := 3, pos := "pattern.go:123", after := #[{ on := 5, ground := Go.Ground.data }], guard := none }) (v := .int .i64 0) rfl (by kernel_rfl) (by kernel_rfl) (by kernel_rfl) (fun _ _ _ h => h) (Or.inl ⟨by rfl, ?_⟩) hHeld ?_
  case refine_1 => (intro w hSw; (try dsimp only at hSw); have k := (BoxT.cell hSw 7).trans (xm5 vp vs np ns); go_simp <;> with_reducible rfl)
  try simp only [Act.put, List.setIfInBounds_toArray, List.set_cons_zero, List.set_cons_succ]
  refine wpAnyH_take (i := 7) (oi := { dst := some 11, op := Go.Op.binOp Go.BinOp.sub 3 (Go.Operand.tmp 8) (Go.Operand.tmp 10) 3, type := 3, pos := "pattern.go:123", after := #[{ on := 4, ground := Go.Ground.data }, { on := 6, ground := Go.Ground.data }], guard := none }) (v := ?_) rfl (by kernel_rfl) (by kernel_rfl) (by kernel_rfl) (fun _ _ _ h => h) (Or.inl ⟨by rfl, ?_⟩) hHeld ?_
  case refine_2 => (intro w hSw; (try dsimp only at hSw); go_simp <;> with_reducible rfl)
  try simp only [Act.put, List.setIfInBounds_toArray, List.set_cons_zero, List.set_cons_succ]
  refine wpAnyH_ready (rs := [2]) (by kernel_rfl) (by simp) ?_
  refine AllReadyH.cons (o := { dst := some 6, op := Go.Op.call { callee := Go.Callee.value (Go.Operand.func 35), args := #[Go.Operand.const (Go.Value.string { data := #[48] }), Go.Operand.tmp 5], argTypes := #[9, 3] }, type := 9, pos := "pattern.go:123", after := #[{ on := 1, ground := Go.Ground.data }], guard := none }) rfl (fun KK hK => ?_) AllReadyH.nil
  go_simp
  with_reducible refine (times_zero _ _).mono ?_
  rintro e w1 ⟨rfl, rfl⟩
  go_wp2_with fail
  refine hK.out _ _ (show BoxT w0.drew _ _ _ from X0.out) (fun hHeld2 => ?_)
  clear hK hHeld
  have hHeld := hHeld2
  clear hHeld2
  try simp only [Act.put, List.setIfInBounds_toArray, List.set_cons_zero, List.set_cons_succ]
  refine wpAnyH_ready (rs := [8]) (by kernel_rfl) (by simp) ?_
  refine AllReadyH.cons (o := { dst := some 12, op := Go.Op.call { callee := Go.Callee.value (Go.Operand.func 35), args := #[Go.Operand.const (Go.Value.string { data := #[35] }), Go.Operand.tmp 11], argTypes := #[9, 3] }, type := 9, pos := "pattern.go:123", after := #[{ on := 7, ground := Go.Ground.data }, { on := 2, ground := Go.Ground.chain }], guard := none }) rfl (fun KK hK => ?_) AllReadyH.nil
  go_simp
  rw [show IntKind.i64.wrap 0 = 0 from rfl]
  with_reducible refine (times_zero _ _).mono ?_
  rintro e w2 ⟨rfl, rfl⟩
  go_wp2_with fail
  refine hK.out _ _ (show BoxT w0.drew _ _ _ from X0.out) (fun hHeld2 => ?_)
  clear hK hHeld
  have hHeld := hHeld2
  clear hHeld2
  try simp only [Act.put, List.setIfInBounds_toArray, List.set_cons_zero, List.set_cons_succ]
  refine wpAnyH_take (i := 9) (oi := { dst := some 13, op := Go.Op.binOp Go.BinOp.add 9 (Go.Operand.tmp 6) (Go.Operand.tmp 12) 9, type := 9, pos := "pattern.go:123", after := #[{ on := 2, ground := Go.Ground.data }, { on := 8, ground := Go.Ground.data }], guard := none }) (v := ?_) rfl (by kernel_rfl) (by kernel_rfl) (by kernel_rfl) (fun _ _ _ h => h) (Or.inl ⟨by rfl, ?_⟩) hHeld ?_
  case refine_2 => (intro w hSw; (try dsimp only at hSw); go_simp <;> with_reducible rfl)
  try simp only [Act.put, List.setIfInBounds_toArray, List.set_cons_zero, List.set_cons_succ]
  refine wpAnyH_take (i := 10) (oi := { dst := some 3, op := Go.Op.assign (Go.Operand.tmp 13), type := 9, pos := "pattern.go:123", after := #[{ on := 9, ground := Go.Ground.data }, { on := 8, ground := Go.Ground.chain }, { on := 0, ground := Go.Ground.phase }, { on := 1, ground := Go.Ground.phase }, { on := 2, ground := Go.Ground.phase }, { on := 3, ground := Go.Ground.phase }, { on := 4, ground := Go.Ground.phase }, { on := 5, ground := Go.Ground.phase }, { on := 6, ground := Go.Ground.phase }, { on := 7, ground := Go.Ground.phase }, { on := 8, ground := Go.Ground.phase }, { on := 9, ground := Go.Ground.phase }], guard := none }) (v := ?_) rfl (by kernel_rfl) (by kernel_rfl) (by kernel_rfl) (fun _ _ _ h => h) (Or.inl ⟨by rfl, ?_⟩) hHeld ?_
  case refine_2 => (intro w hSw; (try dsimp only at hSw); go_simp <;> with_reducible rfl)
  try simp only [Act.put, List.setIfInBounds_toArray, List.set_cons_zero, List.set_cons_succ]
  refine wpAnyH_done (by kernel_rfl) ?_ _
  clear hHeld
  have hcat : (⟨#[]⟩ : ByteArray) ++ ⟨#[]⟩ = ⟨#[]⟩ := rfl
  try rw [hcat]
  go_wp2
  go_ret
  exact ⟨rfl, B0.out.drew⟩
end Go.Proofs.YtmmllhdphlnpjaaDoor
