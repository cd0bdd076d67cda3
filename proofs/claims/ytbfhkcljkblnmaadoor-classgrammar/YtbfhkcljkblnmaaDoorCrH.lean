/- All of a class's text, as the reader reads it. -/
import Derived.Test.YtbfhkcljkblnmaaDoorCrG
import Derived.Test.YtbfhkcljkblnmaaDoorClI
namespace Go.Proofs.YtbfhkcljkblnmaaDoor
open Go.RowKit Florin
set_option linter.unusedVariables false
set_option linter.unusedSimpArgs false
attribute [local go_sem ↓] Go.wp_at_zero Go.wp_at_succ
theorem OwnC.grown {w w' : World} {B b : Nat} {v : Value} {c : List (Int × Int)} (h : OwnC w B v c) (hg : w.grownBy w' (some b)) (hb : b < B) : OwnC w' B v c := by
  refine World.ownsRow.kept h hg ?_
  rcases h.2 with ⟨rfl, _⟩ | ⟨g, cap, cur, rfl, h2, _⟩
  · exact .inl rfl
  · right
    intro e
    have : g = b := Option.some.inj e
    omega
theorem grown_own {a b c : World} {r row : Option Nat} (h : a.grownBy b r) (hg : b.grownBy c row) (hrow : ∀ k, row = some k → a.heap.size ≤ k) : a.grownBy c r :=
  ⟨hg.os.trans h.os, hg.tape.trans h.tape, hg.output.trans h.output, Nat.le_trans h.size hg.size, fun i hi hn => (hg.block i (Nat.lt_of_lt_of_le hi h.size) (fun e => by have := hrow i e.symm; omega)).trans (h.block i hi hn)⟩
theorem Rd.own {w w' : World} {b : Nat} {T : ByteArray} {p : Nat} {row : Option Nat} (h : Rd w b T p) (hg : w.grownBy w' row) (hrow : ∀ k, row = some k → b < k) : Rd w' b T p :=
  (hg.block b h.lt (fun e => by have := hrow b e.symm; omega)).trans h
theorem pos_ok {c xs : List (Int × Int)} (h : ∀ r, memC c r ↔ 0 ≤ r ∧ r ≤ cTop ∧ memC xs r) (z : Int) : memC c z ↔ 0 ≤ z ∧ z ≤ cTop ∧ (false != hasC xs z) = true := by
  rw [h z, ← hasC_iff]
  simp
theorem neg_ok {c d xs : List (Int × Int)} (h : ∀ r, memC c r ↔ 0 ≤ r ∧ r ≤ cTop ∧ memC xs r) (hd : ∀ r, memC d r ↔ 0 ≤ r ∧ r ≤ cTop ∧ hasC c r = false) (z : Int) : memC d z ↔ 0 ≤ z ∧ z ≤ cTop ∧ (true != hasC xs z) = true := by
  rw [hd z]
  constructor
  · rintro ⟨h0, h1, h2⟩
    refine ⟨h0, h1, ?_⟩
    cases hx : hasC xs z with
    | false => rfl
    | true =>
      have := (hasC_iff c z).2 ((h z).2 ⟨h0, h1, (hasC_iff xs z).1 hx⟩)
      rw [h2] at this
      cases this
  · rintro ⟨h0, h1, h2⟩
    refine ⟨h0, h1, ?_⟩
    cases hx : hasC c z with
    | false => rfl
    | true =>
      have h3 := (h z).1 ((hasC_iff c z).1 hx)
      rw [(hasC_iff xs z).2 h3.2.2] at h2
      cases h2
theorem not_ok {c : List (Int × Int)} (hc : settledC c) : settledC (opC (fun a b => !a) c []) ∧ ∀ r, memC (opC (fun a b => !a) c []) r ↔ 0 ≤ r ∧ r ≤ cTop ∧ hasC c r = false := by
  have h := opC_ok (f := fun a b => !a) hc (o := []) trivial
  refine ⟨h.1, fun r => ?_⟩
  rw [h.2 r]
  simp
/-- What the reader tells of all the text. -/
def ClsTold (w w' : World) (b : Nat) (T : ByteArray) (l : List UInt8) (e : Ending) : Prop :=
  ∃ v ok q r, e = .returned (.tuple #[v, .bool ok]) ∧ ok = (classP l).2.2.1 ∧ At T q r ∧ bl r = (classP l).2.2.2 ∧ Rd w' b T q ∧ w.grownBy w' (some b) ∧
    (ok = true → ∃ c, OwnC w' w.heap.size v c ∧ settledC c ∧ ∀ z, memC c z ↔ 0 ≤ z ∧ z ≤ cTop ∧ ((classP l).2.1 != hasC (classP l).1 z) = true)
theorem class_no {l : List UInt8} (h : ctk [91] l = false) : classP l = ([], false, false, bl l) := by
  unfold classP; rw [if_neg (by rw [h]; decide)]
theorem class_yes {l : List UInt8} (h : ctk [91] l = true) {S : List (Int × Int) × Bool × List UInt8} (hS : spansP ((inP l).length + 1) (inP l) = S) : classP l = (S.1, ctk [94] (ctkR [91] l), S.2.1 && (bl S.2.2).isEmpty, bl S.2.2) := by
  unfold classP; rw [if_pos h, hS]
theorem ctkR_no {g l : List UInt8} (h : ctk g l = false) : ctkR g l = bl l := by unfold ctkR; rw [if_neg (by rw [h]; decide)]
theorem in_len (l : List UInt8) : (inP l).length ≤ l.length := Nat.le_trans (ctkR_le _ _) (ctkR_le _ _)
theorem At.size {T : ByteArray} {p : Nat} {l : List UInt8} (h : At T p l) : l.length ≤ T.size := by have := h.len; omega
set_option maxRecDepth 100000 in
set_option maxHeartbeats 6400000 in
theorem classR_as (b : Nat) (T : ByteArray) (p : Nat) (l : List UInt8) (w : World) (h : Rd w b T p) (ha : At T p l) (hT : T.size ≤ 1000000) (hTab : Tabs w) :
    Calls Tryd.prog 39 #[.pointer (some ⟨b, 0, none⟩)] w fun e w' => ClsTold w w' b T l e := by
  obtain ⟨i0, hi, hz0, hz1, hz2⟩ := info_parts infoC
  have bl0 := h.lt
  have HR := Lib.hid h
  have HA := Lib.hid ha
  have HTab := Lib.hid hTab
  clear h ha hTab
  cases hc : ctk [91] l with
  | false =>
    have HC := Lib.hid hc
    clear hc
    go_enter Tryd.func39, Tryd.ntmps39
    go_wp2_with fail
    with_reducible refine (takes_false [91] b T p l _ HR.out HA.out hT HC.out).mono ?_
    rintro e w1 ⟨q, rfl, hat, hr1, hg1⟩
    go_wp2
    go_ret2
    rw [ctkR_no HC.out] at hat
    exact ⟨_, _, q, bl l, rfl, by rw [class_no HC.out], hat, by rw [class_no HC.out, bl_idem], hr1, hg1, fun h => by cases h⟩
  | true =>
    have HC := Lib.hid hc
    obtain ⟨S0, hS⟩ : ∃ S, spansP ((inP l).length + 1) (inP l) = S := ⟨_, rfl⟩
    have HCL := Lib.hid (class_yes hc hS)
    have HS := Lib.hid hS
    clear hc hS
    obtain ⟨nt, hnt⟩ : ∃ z, ctk [94] (ctkR [91] l) = z := ⟨_, rfl⟩
    have HNT := Lib.hid hnt
    have HTK : Hid (∀ (q : Nat) (W : World), Rd W b T q → At T q (ctkR [91] l) → Calls Tryd.prog 52 #[.pointer (some ⟨b, 0, none⟩), S [94]] W fun e w' => ∃ q, e = .returned (.bool nt) ∧ At T q (inP l) ∧ Rd w' b T q ∧ W.grownBy w' (some b)) := Lib.hid (by
      intro q W hr hat
      cases nt with
      | true => exact takes_true [94] b T q _ W hr hat hT hnt
      | false => exact takes_false [94] b T q _ W hr hat hT hnt)
    clear hnt
    go_enter Tryd.func39, Tryd.ntmps39
    go_wp2_with fail
    with_reducible refine (takes_true [91] b T p l _ HR.out HA.out hT HC.out).mono ?_
    rintro e w1 ⟨q, rfl, hat, hr1, hg1⟩
    have R1 := Lib.hid hr1
    have G1 := Lib.hid hg1
    have A1 := Lib.hid hat
    clear hr1 hg1 hat
    go_wp2_with fail
    with_reducible refine (HTK.out q _ R1.out A1.out).mono ?_
    rintro e w2 ⟨q2, rfl, hat, hr2, hg2⟩
    have R2 := Lib.hid hr2
    have G2 := Lib.hid (grown_trans G1.out hg2)
    have A2 := Lib.hid hat
    clear hr2 hg2 hat R1 G1 A1 HA
    go_wp2_with fail
    go_loopg [5] (inP l).length (fun g u wr => ∃ q m xs, g = m.length ∧ At T q m ∧ Rd wr b T q ∧ w.grownBy wr (some b) ∧ OwnC wr w.heap.size u xs ∧ S0 = (xs ++ (spansP (m.length + 1) m).1, (spansP (m.length + 1) m).2))
    case atStart => exact ⟨q2, inP l, [], rfl, A2.out, R2.out, G2.out, World.ownsRow_nil _ _ _ _, by rw [HS.out]; rfl⟩
    case round =>
      obtain ⟨q, m, xs, hk, hat, hr, hg, ho, hs⟩ := hrel
      have HK := Lib.hid hk
      have AM := Lib.hid hat
      have RM := Lib.hid hr
      have GM := Lib.hid hg
      have OM := Lib.hid ho
      have SM := Lib.hid hs
      have hxl : xs.length ≤ 1000000 := by
        have h1 := spans_len ((inP l).length + 1) (inP l)
        rw [HS.out, hs] at h1
        simp only [List.length_append] at h1
        have h2 := A2.out.size
        omega
      obtain ⟨ao, cp, rfl, hcap, hm, _⟩ := ho.inC
      clear hk hat hr hg ho hs A2 R2 G2
      cases hc : ctk [93] m with
      | true =>
        have HCM := Lib.hid hc
        have hend := spans_end hc
        have hS2 := SM.out
        rw [hend] at hS2
        have HS2 : Hid (S0 = (xs, true, ctkR [93] m)) := Lib.hid (by rw [hS2]; simp)
        clear hc hend hS2
        go_wp2_with fail
        with_reducible refine (takes_true [93] b T q m _ RM.out AM.out hT HCM.out).mono ?_
        rintro e w3 ⟨q3, rfl, hat, hr3, hg3⟩
        have A3 := Lib.hid hat
        have R3 := Lib.hid hr3
        have G3 := Lib.hid (grown_trans GM.out hg3)
        have O3 := Lib.hid (OM.out.grown hg3 bl0)
        clear hat hr3 hg3
        go_wp2_with fail
        with_reducible refine (made_as _ _ xs O3.out.inC hxl).mono ?_
        rintro e w4 ⟨v4, c4, rfl, hs4, hm4, ho4, hb4⟩
        have R4 := Lib.hid (R3.out.below hb4)
        have G4 := Lib.hid (grown_trans G3.out (grown_of_below hb4 (some b)))
        have O4 : Hid (OwnC w4 w.heap.size v4 c4) := Lib.hid (ho4.down G3.out.size)
        have HM4 := Lib.hid hm4
        have HS4 := Lib.hid hs4
        clear hs4 hm4 ho4 hb4
        obtain ⟨z, hz⟩ : ∃ z, (bl (ctkR [93] m)).isEmpty = z := ⟨_, rfl⟩
        have HZ := Lib.hid hz
        clear hz
        cases nt with
        | false =>
          go_wp2_with fail
          with_reducible refine (ended_as b T q3 (ctkR [93] m) _ R4.out A3.out hT z HZ.out).mono ?_
          rintro e w5 ⟨q5, rfl, hat5, hr5, hg5⟩
          have A5 := Lib.hid hat5
          have R5 := Lib.hid hr5
          have G5 := Lib.hid (grown_trans G4.out hg5)
          have O5 := Lib.hid (O4.out.grown hg5 bl0)
          clear hat5 hr5 hg5
          go_wp2
          go_ret2
          exact ⟨v4, z, q5, bl (ctkR [93] m), rfl, by rw [HCL.out, HS2.out, ← HZ.out]; rfl, A5.out, by rw [HCL.out, HS2.out, bl_idem], R5.out, G5.out, fun _ => ⟨c4, O5.out, HS4.out, fun y => by rw [HCL.out, HS2.out, HNT.out]; exact pos_ok HM4.out y⟩⟩
        | true =>
          go_wp2_with fail
          with_reducible refine (cnot_as w4 v4 c4 O4.out.inC HS4.out).mono ?_
          rintro e w5 ⟨v5, rfl, ho5, hb5⟩
          have R5 := Lib.hid (R4.out.below hb5)
          have G5 := Lib.hid (grown_trans G4.out (grown_of_below hb5 (some b)))
          have O5 : Hid (OwnC w5 w.heap.size v5 _) := Lib.hid (ho5.down G4.out.size)
          clear ho5 hb5
          go_wp2_with fail
          with_reducible refine (ended_as b T q3 (ctkR [93] m) _ R5.out A3.out hT z HZ.out).mono ?_
          rintro e w6 ⟨q6, rfl, hat6, hr6, hg6⟩
          have A6 := Lib.hid hat6
          have R6 := Lib.hid hr6
          have G6 := Lib.hid (grown_trans G5.out hg6)
          have O6 := Lib.hid (O5.out.grown hg6 bl0)
          clear hat6 hr6 hg6
          go_wp2
          go_ret2
          exact ⟨v5, z, q6, bl (ctkR [93] m), rfl, by rw [HCL.out, HS2.out, ← HZ.out]; rfl, A6.out, by rw [HCL.out, HS2.out, bl_idem], R6.out, G6.out, fun _ => ⟨_, O6.out, (not_ok HS4.out).1, fun y => by rw [HCL.out, HS2.out, HNT.out]; exact neg_ok HM4.out (not_ok HS4.out).2 y⟩⟩
      | false =>
        have HCM := Lib.hid hc
        obtain ⟨⟨x1, x2⟩, ok, r, hsp⟩ : ∃ x ok r, spanP (bl m) = (x, ok, r) := ⟨_, _, _, rfl⟩
        have HSP := Lib.hid hsp
        clear hc hsp
        go_wp2_with fail
        with_reducible refine (takes_false [93] b T q m _ RM.out AM.out hT HCM.out).mono ?_
        rintro e w3 ⟨q3, rfl, hat, hr3, hg3⟩
        have A3 : Hid (At T q3 (bl m)) := Lib.hid (by rw [ctkR_no HCM.out] at hat; exact hat)
        have R3 := Lib.hid hr3
        have G3 := Lib.hid (grown_trans GM.out hg3)
        have O3 := Lib.hid (OM.out.grown hg3 bl0)
        have T3 := Lib.hid (HTab.out.grown HR.out G3.out)
        clear hat hr3 hg3
        go_wp2_with fail
        with_reducible refine (span_as b T q3 (bl m) _ R3.out A3.out hT T3.out (x1, x2) ok r HSP.out).mono ?_
        rintro e w4 ⟨q4, rfl, hat, hr4, hg4⟩
        have A4 := Lib.hid hat
        have R4 := Lib.hid hr4
        have G4 := Lib.hid (grown_trans G3.out hg4)
        have O4 := Lib.hid (O3.out.grown hg4 bl0)
        clear hat hr4 hg4
        cases ok with
        | false =>
          have hbad := spans_bad HCM.out (by rw [HSP.out])
          rw [HSP.out] at hbad
          have hS2 := SM.out
          rw [hbad] at hS2
          have HS2 := Lib.hid hS2
          clear hbad hS2
          go_wp2
          go_ret2
          exact ⟨_, _, q4, r, rfl, by rw [HCL.out, HS2.out]; rfl, A4.out, by rw [HCL.out, HS2.out], R4.out.alloc _, grown_alloc G4.out _, fun h => by cases h⟩
        | true =>
          have hok := spans_ok HCM.out (by rw [HSP.out])
          rw [HSP.out] at hok
          have hS2 := SM.out
          rw [hok] at hS2
          have HS2 := Lib.hid hS2
          have hlt := (span_le (bl m)).2 (by rw [HSP.out])
          rw [HSP.out] at hlt
          have hml := bl_le m
          have HLT : Hid (r.length < m.length) := Lib.hid (by have := hlt.1; simp only at this; omega)
          clear hok hS2 hlt hml
          have OW1 : Hid ((w4.alloc (.cells #[.int .i32 x1, .int .i32 x2] 28)).ownsRow w.heap.size 28 2 (.slice ao xs.length cp) xs.length (cC xs)) := Lib.hid (O4.out.alloc _)
          have HW1 : Hid (w4.heap.size + 1 = (w4.alloc (.cells #[.int .i32 x1, .int .i32 x2] 28)).heap.size) := Lib.hid (by simp)
          have hsz := G4.out.size
          go_wp2_with (at_builtin; refine wpList_append_own _ rfl _ _ 22 rfl w.heap.size 28 i0 (.agg #[.int .i32 0, .int .i32 0]) 2 8 Tryd.underlying22 hi hz0 hz1 hz2 rfl (by decide) _ _ _ rfl (OW1.out.alloc _) ⟨w4.heap.size + 1, 0, none⟩ 1 1 [.int .i32 x1, .int .i32 x2] rfl rfl (lit_cells3 _ _ _ _ _ HW1.out) (by simp [Value.oneCell']) (by unfold maxLen; omega) (by omega) (by simp; omega) ?_; intro v8 w8 hown8 hgr8 _)
          have OW8 : Hid (OwnC w8 w.heap.size v8 (xs ++ [(x1, x2)])) := Lib.hid (by
            show w8.ownsRow _ _ _ _ _ _
            rw [cC_append, List.length_append]
            exact hown8)
          have HLT8 : ∀ k, _ → w.heap.size ≤ k := fun k hk => (OW1.out.lt k hk).1
          have G8 : Hid (w.grownBy w8 (some b)) := Lib.hid (grown_own (grown_alloc (grown_alloc G4.out _) _) hgr8 HLT8)
          have R8 : Hid (Rd w8 b T q4) := Lib.hid (Rd.own ((R4.out.alloc _).alloc _) hgr8 (fun k hk => Nat.lt_of_lt_of_le bl0 (HLT8 k hk)))
          clear HLT8
          clear hown8 hgr8
          go_wp2
          go_roundg r.length
          case measure => rw [HK.out]; exact HLT.out
          case rel => exact ⟨q4, r, xs ++ [(x1, x2)], rfl, A4.out, R8.out, G8.out, OW8.out, by rw [HS2.out]; simp⟩
/-- What Parse tells of a text. -/
def ParTold (w w' : World) (s : ByteArray) (e : Ending) : Prop :=
  if (classP s.data.toList).2.2.1 = true then ∃ v c, e = .returned (.tuple #[v, .int .i64 0, .int .i64 0]) ∧ OwnC w' w.heap.size v c ∧ settledC c ∧ (∀ z, memC c z ↔ 0 ≤ z ∧ z ≤ cTop ∧ ((classP s.data.toList).2.1 != hasC (classP s.data.toList).1 z) = true) ∧ Below w.heap.size w w'
  else e = .returned (.tuple #[.slice none 0 0, .int .i64 1, .int .i64 ((s.size - (classP s.data.toList).2.2.2.length : Nat) : Int)]) ∧ Below w.heap.size w w'
theorem below_of_grown {w w' : World} (o : Obj) (h : (w.alloc o).grownBy w' (some w.heap.size)) : Below w.heap.size w w' := by
  have h1 := (Below.refl w.heap.size w).alloc (Nat.le_refl _) o
  exact h1.grown h (by simp) (fun k hk => by cases hk; exact Nat.le_refl _)
set_option maxRecDepth 100000 in
set_option maxHeartbeats 1600000 in
theorem of_as (s : ByteArray) (w : World) :
    Calls Tryd.prog 38 #[.string s] w fun e w' => e = .returned (.agg #[.string s, .int .i64 0, .bool false]) ∧ Below w.heap.size w w' := by
  go_enter Tryd.func38, Tryd.ntmps38
  go_wp2
  have D := BoxT.new w #[.string s, .int .i64 0, .bool false] 72
  have r0 := D.cell 0
  have r1 := D.cell 1
  have r2 := D.cell 2
  simp at r0 r1 r2
  refine bodyPost_ret (v := .agg #[.string s, .int .i64 0, .bool false]) (by simp [results, Tryd.results38, go_sem, r0, r1, r2]) rfl ⟨rfl, (Below.refl _ _).alloc (Nat.le_refl _) _⟩
set_option maxRecDepth 100000 in
set_option maxHeartbeats 1600000 in
theorem parse_as (s : ByteArray) (w : World) (hT : s.size ≤ 1000000) (hTab : Tabs w) :
    Calls Tryd.prog 23 #[.string s] w fun e w' => ParTold w w' s e := by
  have HTab := Lib.hid hTab
  clear hTab
  go_enter Tryd.func23, Tryd.ntmps23
  go_wp2_with fail
  with_reducible refine (of_as s w).mono ?_
  rintro e w1 ⟨rfl, hb1⟩
  have HB1 := Lib.hid hb1
  have R0 := Lib.hid (show Rd (w1.alloc (.cells #[.string s, .int .i64 0, .bool false] 75)) w1.heap.size s 0 from BoxT.new w1 _ _)
  have T0 := Lib.hid ((HTab.out.below hb1).below ((Below.refl _ w1).alloc (Nat.le_refl _) (.cells #[.string s, .int .i64 0, .bool false] 75)))
  have A0 : Hid (At s 0 s.data.toList) := Lib.hid ⟨Nat.zero_le _, rfl⟩
  clear hb1
  go_wp2_with fail
  with_reducible refine (classR_as w1.heap.size s 0 s.data.toList _ R0.out A0.out hT T0.out).mono ?_
  rintro e w2 ⟨v, ok, q, r, rfl, hok, hat, hbl, hr2, hg2, hcls⟩
  have A2 := Lib.hid hat
  have R2 := Lib.hid hr2
  have B2 := Lib.hid (HB1.out.trans ((below_of_grown _ hg2).mono HB1.out.size))
  have G2 := Lib.hid hg2
  have HBL := Lib.hid hbl
  have HOK := Lib.hid hok
  have HCLS := Lib.hid hcls
  clear hok hat hbl hr2 hg2 hcls
  cases ok with
  | true =>
    obtain ⟨c, ho, hs, hm⟩ := HCLS.out rfl
    have hb := HB1.out.size
    have HO : Hid (OwnC w2 w.heap.size v c) := Lib.hid (ho.down (by simp; omega))
    have HS := Lib.hid hs
    have HM := Lib.hid hm
    clear ho hs hm
    go_wp2
    refine bodyPost_ret (v := .tuple #[v, .int .i64 0, .int .i64 0]) (by simp [results, Tryd.results23, go_sem]) rfl ?_
    unfold ParTold
    rw [if_pos HOK.out.symm]
    exact ⟨v, c, rfl, HO.out, HS.out, HM.out, B2.out⟩
  | false =>
    go_wp2_with fail
    with_reducible refine (rest_as w1.heap.size s q r _ R2.out A2.out hT).mono ?_
    rintro e w3 ⟨q3, rfl, hat3, hr3, hg3⟩
    have B3 := Lib.hid (HB1.out.trans ((below_of_grown _ (grown_trans G2.out hg3)).mono HB1.out.size))
    have hq3 : q3 = s.size - (classP s.data.toList).2.2.2.length := by
      have h1 := hat3.len
      have h2 := hat3.le
      rw [HBL.out] at h1
      omega
    have HQ3 := Lib.hid hq3
    clear hq3 hat3 hr3 hg3
    go_wp2
    refine bodyPost_ret (v := .tuple #[.slice none 0 0, .int .i64 1, .int .i64 (q3 : Int)]) (by simp [results, Tryd.results23, go_sem]) rfl ?_
    unfold ParTold
    rw [if_neg (by rw [← HOK.out]; decide)]
    exact ⟨by rw [HQ3.out], B3.out⟩
end Go.Proofs.YtbfhkcljkblnmaaDoor
