/- Tables out of bytes: readTable. -/
import Derived.Test.YtkbigfkpgjhojaaTcF
namespace Go.Proofs.Ytkbigfkpgjhojaa
open Go.RowKit Florin
set_option linter.unusedVariables false
set_option linter.unusedSimpArgs false
attribute [local go_sem ↓] Go.wp_at_zero Go.wp_at_succ
theorem rdTs_start (s0 : RS) : rdTs 27 s0 = ([] ++ (rdTs (27 - 0) s0).1, (rdTs (27 - 0) s0).2) := by
  rw [List.nil_append, Nat.sub_zero]
theorem rdTs_end (s0 s1 : RS) (acc : List (List UInt8)) (h : rdTs 27 s0 = (acc ++ (rdTs (27 - 27) s1).1, (rdTs (27 - 27) s1).2)) : rdTs 27 s0 = (acc, s1) := by
  rw [h, Nat.sub_self]
  show (acc ++ [], s1) = _
  rw [List.append_nil]
theorem Z34_eq : (#[.string ⟨#[]⟩, .string ⟨#[]⟩, .string ⟨#[]⟩, .string ⟨#[]⟩, .string ⟨#[]⟩, .string ⟨#[]⟩, .string ⟨#[]⟩, .string ⟨#[]⟩, .string ⟨#[]⟩, .string ⟨#[]⟩, .string ⟨#[]⟩, .string ⟨#[]⟩, .string ⟨#[]⟩, .string ⟨#[]⟩, .string ⟨#[]⟩, .string ⟨#[]⟩, .int .i64 0, .string ⟨#[]⟩, .string ⟨#[]⟩, .string ⟨#[]⟩, .string ⟨#[]⟩, .string ⟨#[]⟩, .slice none 0 0, .slice none 0 0, .slice none 0 0, .slice none 0 0, .slice none 0 0, .slice none 0 0, .string ⟨#[]⟩, .string ⟨#[]⟩, .string ⟨#[]⟩, .string ⟨#[]⟩, .string ⟨#[]⟩, .string ⟨#[]⟩] : Array Value) = Z34 := rfl
abbrev RowT (w : World) (v : Value) (l : List RowM) : Prop := InT w TRw 2 (rowB w) v l
abbrev UntT (w : World) (v : Value) (l : List UntM) : Prop := InT w TUn 2 (untB w) v l
abbrev CurT (w : World) (v : Value) (l : List CurM) : Prop := InT w TCu 8 (curB w) v l
theorem RowT.keep {w w' : World} {v : Value} {l : List RowM} (h : RowT w v l) (h1 : KeepB TRw w w') (h2 : KeepB TTx w w') : RowT w' v l := InT.keep h h1 (rowB.keep h2)
theorem UntT.keep {w w' : World} {v : Value} {l : List UntM} (h : UntT w v l) (h1 : KeepB TUn w w') (h2 : KeepB TTx w w') : UntT w' v l := InT.keep h h1 (untB.keep h2)
theorem CurT.keep {w w' : World} {v : Value} {l : List CurM} (h : CurT w v l) (h1 : KeepB TCu w w') (h2 : KeepB TTx w w') : CurT w' v l := InT.keep h h1 (curB.keep h2)
theorem tb_one (f : Nat → List UInt8) (mg : Int) (a1 a2 a3 a4 a5 a6 : Option Addr) (n1 n2 n3 n4 n5 n6 c1 c2 c3 c4 c5 c6 : Nat) : (tbA f mg (.slice a1 n1 c1) (.slice a2 n2 c2) (.slice a3 n3 c3) (.slice a4 n4 c4) (.slice a5 n5 c5) (.slice a6 n6 c6)).all (·.oneCell') = true := by
  simp [tbA, Value.oneCell']
/-- All four kinds of rows stay. -/
def KeepA (w w' : World) : Prop := KeepB TTx w w' ∧ KeepB TRw w w' ∧ KeepB TCu w w' ∧ KeepB TUn w w'
theorem KeepA.of {U : TypeId} {w w' : World} {r : Nat} {ds : Array Value} (hr : BoxT w r ds U) (h1 : TTx ≠ U) (h2 : TRw ≠ U) (h3 : TCu ≠ U) (h4 : TUn ≠ U) (hg : w.grownBy w' (some r)) : KeepA w w' := ⟨KeepB.of hr h1 hg, KeepB.of hr h2 hg, KeepB.of hr h3 hg, KeepB.of hr h4 hg⟩
theorem grown_setq {w : World} (q i : Nat) (v : Value) : w.grownBy (w.setCell ⟨q, i, none⟩ v) (some q) := grown_set (World.grownBy.refl w (some q)) i v
theorem KeepA.trans {w w' w'' : World} (h : KeepA w w') (k : KeepA w' w'') : KeepA w w'' := ⟨h.1.trans k.1, h.2.1.trans k.2.1, h.2.2.1.trans k.2.2.1, h.2.2.2.trans k.2.2.2⟩
/-- A table's six lists in memory. -/
structure TbL (w : World) (vsh vlo vms vcu vun vmu : Value) (sh lo ms : List RowM) (cu : List CurM) (un : List UntM) (mu : List TxM) : Prop where
  sh : RowT w vsh sh
  lo : RowT w vlo lo
  ms : RowT w vms ms
  cu : CurT w vcu cu
  un : UntT w vun un
  mu : TxT w vmu mu
theorem TbL.keep {w w' : World} {vsh vlo vms vcu vun vmu : Value} {sh lo ms : List RowM} {cu : List CurM} {un : List UntM} {mu : List TxM} (h : TbL w vsh vlo vms vcu vun vmu sh lo ms cu un mu) (k : KeepA w w') : TbL w' vsh vlo vms vcu vun vmu sh lo ms cu un mu :=
  ⟨h.sh.keep k.2.1 k.1, h.lo.keep k.2.1 k.1, h.ms.keep k.2.1 k.1, h.cu.keep k.2.2.1 k.1, h.un.keep k.2.2.2 k.1, h.mu.keep k.1⟩
theorem TbL.nil (w : World) : TbL w (.slice none 0 0) (.slice none 0 0) (.slice none 0 0) (.slice none 0 0) (.slice none 0 0) (.slice none 0 0) [] [] [] [] [] [] := ⟨InT.nil _ _ _ _, InT.nil _ _ _ _, InT.nil _ _ _ _, InT.nil _ _ _ _, InT.nil _ _ _ _, InT.nil _ _ _ _⟩
set_option maxRecDepth 100000 in
set_option maxHeartbeats 12800000 in
theorem readTable_as (r : Nat) (s0 : RS) (w : World) (hr : Rdr w r s0) (hl0 : s0.1.length ≤ 1000000000) :
    Calls Try.prog 26 #[ptr r] w fun e w' => ∃ vsh vlo vms vcu vun vmu, e = .returned (.agg (tbA (fun j => (rdTbl s0).1.tx.getD j []) (rdTbl s0).1.mg vsh vlo vms vcu vun vmu)) ∧ TbL w' vsh vlo vms vcu vun vmu (rdTbl s0).1.sh (rdTbl s0).1.lo (rdTbl s0).1.ms (rdTbl s0).1.cu (rdTbl s0).1.un (rdTbl s0).1.mu ∧ (∃ a1 a2 a3 a4 a5 a6 n1 n2 n3 n4 n5 n6 c1 c2 c3 c4 c5 c6, vsh = .slice a1 n1 c1 ∧ vlo = .slice a2 n2 c2 ∧ vms = .slice a3 n3 c3 ∧ vcu = .slice a4 n4 c4 ∧ vun = .slice a5 n5 c5 ∧ vmu = .slice a6 n6 c6) ∧ Rdr w' r (rdTbl s0).2 ∧ w.grownBy w' (some r) := by
  have hrw := hr.lt
  have hpr : w.heap.size ≠ r := by omega
  have hq0 : w.heap.size + 1 ≠ r := by omega
  have hq1 : w.heap.size + 1 + 1 ≠ r := by omega
  have HR := Lib.hid (((hr.alloc (.cells #[ptr r] TPr)).alloc (.cells #[.string ⟨#[]⟩, .string ⟨#[]⟩, .string ⟨#[]⟩, .string ⟨#[]⟩, .string ⟨#[]⟩, .string ⟨#[]⟩, .string ⟨#[]⟩, .string ⟨#[]⟩, .string ⟨#[]⟩, .string ⟨#[]⟩, .string ⟨#[]⟩, .string ⟨#[]⟩, .string ⟨#[]⟩, .string ⟨#[]⟩, .string ⟨#[]⟩, .string ⟨#[]⟩, .int .i64 0, .string ⟨#[]⟩, .string ⟨#[]⟩, .string ⟨#[]⟩, .string ⟨#[]⟩, .string ⟨#[]⟩, .slice none 0 0, .slice none 0 0, .slice none 0 0, .slice none 0 0, .slice none 0 0, .slice none 0 0, .string ⟨#[]⟩, .string ⟨#[]⟩, .string ⟨#[]⟩, .string ⟨#[]⟩, .string ⟨#[]⟩, .string ⟨#[]⟩] TTb)).alloc (.cells #[.string ⟨#[]⟩, .string ⟨#[]⟩, .string ⟨#[]⟩, .string ⟨#[]⟩, .string ⟨#[]⟩, .string ⟨#[]⟩, .string ⟨#[]⟩, .string ⟨#[]⟩, .string ⟨#[]⟩, .string ⟨#[]⟩, .string ⟨#[]⟩, .string ⟨#[]⟩, .string ⟨#[]⟩, .string ⟨#[]⟩, .string ⟨#[]⟩, .string ⟨#[]⟩, .int .i64 0, .string ⟨#[]⟩, .string ⟨#[]⟩, .string ⟨#[]⟩, .string ⟨#[]⟩, .string ⟨#[]⟩, .slice none 0 0, .slice none 0 0, .slice none 0 0, .slice none 0 0, .slice none 0 0, .slice none 0 0, .string ⟨#[]⟩, .string ⟨#[]⟩, .string ⟨#[]⟩, .string ⟨#[]⟩, .string ⟨#[]⟩, .string ⟨#[]⟩] TTb))
  have HP := Lib.hid (((BoxT.new w #[ptr r] TPr).alloc (.cells #[.string ⟨#[]⟩, .string ⟨#[]⟩, .string ⟨#[]⟩, .string ⟨#[]⟩, .string ⟨#[]⟩, .string ⟨#[]⟩, .string ⟨#[]⟩, .string ⟨#[]⟩, .string ⟨#[]⟩, .string ⟨#[]⟩, .string ⟨#[]⟩, .string ⟨#[]⟩, .string ⟨#[]⟩, .string ⟨#[]⟩, .string ⟨#[]⟩, .string ⟨#[]⟩, .int .i64 0, .string ⟨#[]⟩, .string ⟨#[]⟩, .string ⟨#[]⟩, .string ⟨#[]⟩, .string ⟨#[]⟩, .slice none 0 0, .slice none 0 0, .slice none 0 0, .slice none 0 0, .slice none 0 0, .slice none 0 0, .string ⟨#[]⟩, .string ⟨#[]⟩, .string ⟨#[]⟩, .string ⟨#[]⟩, .string ⟨#[]⟩, .string ⟨#[]⟩] TTb)).alloc (.cells #[.string ⟨#[]⟩, .string ⟨#[]⟩, .string ⟨#[]⟩, .string ⟨#[]⟩, .string ⟨#[]⟩, .string ⟨#[]⟩, .string ⟨#[]⟩, .string ⟨#[]⟩, .string ⟨#[]⟩, .string ⟨#[]⟩, .string ⟨#[]⟩, .string ⟨#[]⟩, .string ⟨#[]⟩, .string ⟨#[]⟩, .string ⟨#[]⟩, .string ⟨#[]⟩, .int .i64 0, .string ⟨#[]⟩, .string ⟨#[]⟩, .string ⟨#[]⟩, .string ⟨#[]⟩, .string ⟨#[]⟩, .slice none 0 0, .slice none 0 0, .slice none 0 0, .slice none 0 0, .slice none 0 0, .slice none 0 0, .string ⟨#[]⟩, .string ⟨#[]⟩, .string ⟨#[]⟩, .string ⟨#[]⟩, .string ⟨#[]⟩, .string ⟨#[]⟩] TTb))
  have HQ := Lib.hid ((BoxT.new (w.alloc (.cells #[ptr r] TPr)) #[.string ⟨#[]⟩, .string ⟨#[]⟩, .string ⟨#[]⟩, .string ⟨#[]⟩, .string ⟨#[]⟩, .string ⟨#[]⟩, .string ⟨#[]⟩, .string ⟨#[]⟩, .string ⟨#[]⟩, .string ⟨#[]⟩, .string ⟨#[]⟩, .string ⟨#[]⟩, .string ⟨#[]⟩, .string ⟨#[]⟩, .string ⟨#[]⟩, .string ⟨#[]⟩, .int .i64 0, .string ⟨#[]⟩, .string ⟨#[]⟩, .string ⟨#[]⟩, .string ⟨#[]⟩, .string ⟨#[]⟩, .slice none 0 0, .slice none 0 0, .slice none 0 0, .slice none 0 0, .slice none 0 0, .slice none 0 0, .string ⟨#[]⟩, .string ⟨#[]⟩, .string ⟨#[]⟩, .string ⟨#[]⟩, .string ⟨#[]⟩, .string ⟨#[]⟩] TTb).alloc (.cells #[.string ⟨#[]⟩, .string ⟨#[]⟩, .string ⟨#[]⟩, .string ⟨#[]⟩, .string ⟨#[]⟩, .string ⟨#[]⟩, .string ⟨#[]⟩, .string ⟨#[]⟩, .string ⟨#[]⟩, .string ⟨#[]⟩, .string ⟨#[]⟩, .string ⟨#[]⟩, .string ⟨#[]⟩, .string ⟨#[]⟩, .string ⟨#[]⟩, .string ⟨#[]⟩, .int .i64 0, .string ⟨#[]⟩, .string ⟨#[]⟩, .string ⟨#[]⟩, .string ⟨#[]⟩, .string ⟨#[]⟩, .slice none 0 0, .slice none 0 0, .slice none 0 0, .slice none 0 0, .slice none 0 0, .slice none 0 0, .string ⟨#[]⟩, .string ⟨#[]⟩, .string ⟨#[]⟩, .string ⟨#[]⟩, .string ⟨#[]⟩, .string ⟨#[]⟩] TTb))
  have HX := Lib.hid (BoxT.new ((w.alloc (.cells #[ptr r] TPr)).alloc (.cells #[.string ⟨#[]⟩, .string ⟨#[]⟩, .string ⟨#[]⟩, .string ⟨#[]⟩, .string ⟨#[]⟩, .string ⟨#[]⟩, .string ⟨#[]⟩, .string ⟨#[]⟩, .string ⟨#[]⟩, .string ⟨#[]⟩, .string ⟨#[]⟩, .string ⟨#[]⟩, .string ⟨#[]⟩, .string ⟨#[]⟩, .string ⟨#[]⟩, .string ⟨#[]⟩, .int .i64 0, .string ⟨#[]⟩, .string ⟨#[]⟩, .string ⟨#[]⟩, .string ⟨#[]⟩, .string ⟨#[]⟩, .slice none 0 0, .slice none 0 0, .slice none 0 0, .slice none 0 0, .slice none 0 0, .slice none 0 0, .string ⟨#[]⟩, .string ⟨#[]⟩, .string ⟨#[]⟩, .string ⟨#[]⟩, .string ⟨#[]⟩, .string ⟨#[]⟩] TTb)) #[.string ⟨#[]⟩, .string ⟨#[]⟩, .string ⟨#[]⟩, .string ⟨#[]⟩, .string ⟨#[]⟩, .string ⟨#[]⟩, .string ⟨#[]⟩, .string ⟨#[]⟩, .string ⟨#[]⟩, .string ⟨#[]⟩, .string ⟨#[]⟩, .string ⟨#[]⟩, .string ⟨#[]⟩, .string ⟨#[]⟩, .string ⟨#[]⟩, .string ⟨#[]⟩, .int .i64 0, .string ⟨#[]⟩, .string ⟨#[]⟩, .string ⟨#[]⟩, .string ⟨#[]⟩, .string ⟨#[]⟩, .slice none 0 0, .slice none 0 0, .slice none 0 0, .slice none 0 0, .slice none 0 0, .slice none 0 0, .string ⟨#[]⟩, .string ⟨#[]⟩, .string ⟨#[]⟩, .string ⟨#[]⟩, .string ⟨#[]⟩, .string ⟨#[]⟩] TTb)
  rw [show ((w.alloc (.cells #[ptr r] TPr)).alloc (.cells #[.string ⟨#[]⟩, .string ⟨#[]⟩, .string ⟨#[]⟩, .string ⟨#[]⟩, .string ⟨#[]⟩, .string ⟨#[]⟩, .string ⟨#[]⟩, .string ⟨#[]⟩, .string ⟨#[]⟩, .string ⟨#[]⟩, .string ⟨#[]⟩, .string ⟨#[]⟩, .string ⟨#[]⟩, .string ⟨#[]⟩, .string ⟨#[]⟩, .string ⟨#[]⟩, .int .i64 0, .string ⟨#[]⟩, .string ⟨#[]⟩, .string ⟨#[]⟩, .string ⟨#[]⟩, .string ⟨#[]⟩, .slice none 0 0, .slice none 0 0, .slice none 0 0, .slice none 0 0, .slice none 0 0, .slice none 0 0, .string ⟨#[]⟩, .string ⟨#[]⟩, .string ⟨#[]⟩, .string ⟨#[]⟩, .string ⟨#[]⟩, .string ⟨#[]⟩] TTb)).heap.size = w.heap.size + 1 + 1 by simp, Z34_eq] at HX
  rw [show (w.alloc (.cells #[ptr r] TPr)).heap.size = w.heap.size + 1 by simp, Z34_eq] at HQ
  have HG := Lib.hid (grown_alloc (grown_alloc (grown_alloc (World.grownBy.refl w (some r)) (.cells #[ptr r] TPr)) (.cells #[.string ⟨#[]⟩, .string ⟨#[]⟩, .string ⟨#[]⟩, .string ⟨#[]⟩, .string ⟨#[]⟩, .string ⟨#[]⟩, .string ⟨#[]⟩, .string ⟨#[]⟩, .string ⟨#[]⟩, .string ⟨#[]⟩, .string ⟨#[]⟩, .string ⟨#[]⟩, .string ⟨#[]⟩, .string ⟨#[]⟩, .string ⟨#[]⟩, .string ⟨#[]⟩, .int .i64 0, .string ⟨#[]⟩, .string ⟨#[]⟩, .string ⟨#[]⟩, .string ⟨#[]⟩, .string ⟨#[]⟩, .slice none 0 0, .slice none 0 0, .slice none 0 0, .slice none 0 0, .slice none 0 0, .slice none 0 0, .string ⟨#[]⟩, .string ⟨#[]⟩, .string ⟨#[]⟩, .string ⟨#[]⟩, .string ⟨#[]⟩, .string ⟨#[]⟩] TTb)) (.cells #[.string ⟨#[]⟩, .string ⟨#[]⟩, .string ⟨#[]⟩, .string ⟨#[]⟩, .string ⟨#[]⟩, .string ⟨#[]⟩, .string ⟨#[]⟩, .string ⟨#[]⟩, .string ⟨#[]⟩, .string ⟨#[]⟩, .string ⟨#[]⟩, .string ⟨#[]⟩, .string ⟨#[]⟩, .string ⟨#[]⟩, .string ⟨#[]⟩, .string ⟨#[]⟩, .int .i64 0, .string ⟨#[]⟩, .string ⟨#[]⟩, .string ⟨#[]⟩, .string ⟨#[]⟩, .string ⟨#[]⟩, .slice none 0 0, .slice none 0 0, .slice none 0 0, .slice none 0 0, .slice none 0 0, .slice none 0 0, .string ⟨#[]⟩, .string ⟨#[]⟩, .string ⟨#[]⟩, .string ⟨#[]⟩, .string ⟨#[]⟩, .string ⟨#[]⟩] TTb))
  clear hr
  rw [Z34_eq] at *
  go_enter Try.func26, Try.ntmps26
  go_wp2_with fail
  rw [Z34_eq] at *
  generalize ((w.alloc (.cells #[ptr r] TPr)).alloc (.cells Z34 TTb)).alloc (.cells Z34 TTb) = w0 at *
  have hpq : w.heap.size ≠ w.heap.size + 1 + 1 := by omega
  generalize hp0 : w.heap.size = p at *
  have HPE := Lib.hid hp0
  clear hp0
  with_reducible refine (texts_as (p + 1 + 1) _).mono ?_
  rintro y w1 ⟨v, rfl, how, hb1⟩
  obtain ⟨g, cap, cur, rfl, hgb, hgc, hcl1, hcl2, hcl3, hcl4⟩ : ∃ g cap cur, v = .slice (some ⟨g, 0, none⟩) 27 cap ∧ w0.heap.size ≤ g ∧ w1.heap[g]? = some (.cells cur TPs (0, 0)) ∧ 27 ≤ cap ∧ cap ≤ maxLen ∧ cur.size = cap * 1 ∧ cur.toList.take (27 * 1) = offT.map (pAt (p + 1 + 1)) := by
    rcases how.2 with ⟨_, h0⟩ | ⟨g, cap, cur, h1, h2, h3, h4, h5, h6, h7⟩
    · cases h0
    · exact ⟨g, cap, cur, h1, h2, h3, h4, h5, h6, h7⟩
  have HGR : Hid (BoxT w1 g cur TPs) := Lib.hid hgc
  have HCU : Hid (∀ k, k < 27 → cur[k]? = some (pAt (p + 1 + 1) (offT.getD k 0))) := Lib.hid (by
    intro k hk
    have h := congrArg (fun l : List Value => l[k]?) hcl4
    simp only [List.getElem?_take, if_pos (show k < 27 * 1 by omega), Array.getElem?_toList] at h
    rw [h]
    have : k < offT.length := hk
    simp [List.getD_eq_getElem?_getD, this])
  have HR1 := Lib.hid (HR.out.below hb1)
  have HP1 := Lib.hid (HP.out.below hb1)
  have HQ1 := Lib.hid (HQ.out.below hb1)
  have HX1 := Lib.hid (HX.out.below hb1)
  have HG1 := Lib.hid (grown_trans HG.out (grown_of_below hb1 (some r)))
  have hcap : (27 : Int) ≤ (cap : Int) := by omega
  have hcapm : (cap : Int) ≤ 9223372036854775807 := by unfold maxLen at hcl2; omega
  clear how hb1 hgc hcl1 hcl2 hcl3 hcl4 hgb HR HP HQ HX HG
  go_wp2_with fail
  go_loopw [8] (fun i wr => ∃ (k : Nat) (acc : List (List UInt8)) (s1 : RS), k ≤ 27 ∧ acc.length = k ∧ i = .int .i64 (k : Int) ∧ BoxT wr (p + 1 + 1) (tbA (fun j => acc.getD j []) 0 (.slice none 0 0) (.slice none 0 0) (.slice none 0 0) (.slice none 0 0) (.slice none 0 0) (.slice none 0 0)) TTb ∧ BoxT wr p #[ptr r] TPr ∧ BoxT wr (p + 1) Z34 TTb ∧ BoxT wr g cur TPs ∧ Rdr wr r s1 ∧ s1.1.length ≤ 1000000000 ∧ rdTs 27 s0 = (acc ++ (rdTs (27 - k) s1).1, (rdTs (27 - k) s1).2) ∧ w.grownBy wr (some r)) (fun i _ => 27 - (intOf i).toNat)
  case atStart => exact ⟨0, [], s0, Nat.zero_le _, rfl, rfl, HX1.out, HP1.out, HQ1.out, HGR.out, HR1.out, hl0, rdTs_start s0, HG1.out⟩
  case round =>
    obtain ⟨k, acc, s1, hk, hacc, rfl, hx, hpb, hqb, hgb, hrd, hl1, hrs, hgw⟩ := hrel
    have HX := Lib.hid hx
    have HP := Lib.hid hpb
    have HQ := Lib.hid hqb
    have HGC := Lib.hid hgb
    have HR := Lib.hid hrd
    have HRS := Lib.hid hrs
    have HG := Lib.hid hgw
    have HACC := Lib.hid hacc
    clear hx hqb hrd hrs hgw hacc HX1 HP1 HQ1 HGR HR1 HG1
    by_cases hlt : k < 27
    · have hki : (k : Int) < 27 := by omega
      have q0 : wr.cell? ⟨g, k, none⟩ = some (pAt (p + 1 + 1) (offT.getD k 0)) := (hgb.cell k).trans (HCU.out k hlt)
      have hp0 : wr.cell? ⟨p, 0, none⟩ = some (ptr r) := hpb.cell 0
      obtain ⟨t, ht⟩ : ∃ t, t = (textR s1).1 := ⟨_, rfl⟩
      obtain ⟨s2, hs2⟩ : ∃ s2, s2 = (textR s1).2 := ⟨_, rfl⟩
      have hl2 : s2.1.length ≤ 1000000000 := by rw [hs2]; exact Nat.le_trans (textR_mono s1) hl1
      have HT : Hid ((textR s1).1 = t ∧ (textR s1).2 = s2) := Lib.hid ⟨ht.symm, hs2.symm⟩
      have HRS2 : Hid (rdTs 27 s0 = ((acc ++ [t]) ++ (rdTs (27 - (k + 1)) s2).1, (rdTs (27 - (k + 1)) s2).2)) := Lib.hid (by
        rw [HRS.out, show 27 - k = (27 - (k + 1)) + 1 by omega, rdTs_succ, ← ht, ← hs2]
        simp)
      have htg := tb_get (fun j => acc.getD j []) 0 (.slice none 0 0) (.slice none 0 0) (.slice none 0 0) (.slice none 0 0) (.slice none 0 0) (.slice none 0 0) k hlt
      have htp := tb_put (fun j => acc.getD j []) 0 (.slice none 0 0) (.slice none 0 0) (.slice none 0 0) (.slice none 0 0) (.slice none 0 0) (.slice none 0 0) t k hlt
      rw [← getD_snoc acc t k HACC.out] at htp
      obtain ⟨ok, hok⟩ : ∃ ok, ok = offT.getD k 0 := ⟨_, rfl⟩
      rw [← hok] at htg htp q0
      have HTG := Lib.hid htg
      have HTP := Lib.hid htp
      clear hgb hpb ht hs2 htg htp hok HRS
      go_wp2_with fail
      with_reducible refine (rtext_as r s1 _ HR.out hl1).mono ?_
      rw [HT.out.1, HT.out.2]
      rintro y w2 ⟨rfl, hr2, hg2⟩
      have HX2 := Lib.hid (HX.out.grown hg2 (fun e => hq1 (Option.some.inj e)))
      have x0 : w2.cell? ⟨p + 1 + 1, ok, none⟩ = some _ := (HX2.out.cell ok).trans HTG.out
      have z0 := HX2.out.frozen ok
      have xl := HX2.out.lt
      have hgr : g ≠ r := HGC.out.apart HR.out.box (by decide)
      have hgq : g ≠ p + 1 + 1 := HGC.out.apart HX.out (by decide)
      have HXF : Hid (BoxT (w2.setCell ⟨p + 1 + 1, ok, none⟩ (S t)) (p + 1 + 1) _ TTb) := Lib.hid (by have h := HX2.out.set ok (S t); rw [HTP.out] at h; exact h)
      have HPF := Lib.hid ((HP.out.grown hg2 (fun e => hpr (Option.some.inj e))).other (a := ⟨p + 1 + 1, ok, none⟩) hpq (S t))
      have HQF := Lib.hid ((HQ.out.grown hg2 (fun e => hq0 (Option.some.inj e))).other (a := ⟨p + 1 + 1, ok, none⟩) (by simp) (S t))
      have HGF := Lib.hid ((HGC.out.grown hg2 (fun e => hgr (Option.some.inj e))).other (a := ⟨p + 1 + 1, ok, none⟩) hgq (S t))
      have HRF := Lib.hid (hr2.box.other (a := ⟨p + 1 + 1, ok, none⟩) (Ne.symm hq1) (S t))
      have HWF := Lib.hid (grown_new (q := p + 1 + 1) (grown_trans HG.out hg2) (by rw [HPE.out]; omega) ok (S t))
      clear hr2 hg2 hp0 q0
      go_wp2
      go_roundw
      case rel => exact ⟨k + 1, acc ++ [t], s2, by omega, by rw [List.length_append, HACC.out]; rfl, by go_num, HXF.out, HPF.out, HQF.out, HGF.out, HRF.out, hl2, HRS2.out, HWF.out⟩
      case measure => simp [intOf]; omega
    · obtain rfl : k = 27 := by omega
      have HTX : Hid (rdTs 27 s0 = (acc, s1)) := Lib.hid (rdTs_end s0 s1 acc HRS.out)
      clear HRS HGC HACC hgb hpb
      have HL := Lib.hid (TbL.nil wr)
      obtain ⟨mg, hmg⟩ : ∃ y, y = (numR s1).1 := ⟨_, rfl⟩
      obtain ⟨s2, hs2⟩ : ∃ y, y = (numR s1).2 := ⟨_, rfl⟩
      have hl2 : s2.1.length ≤ 1000000000 := by rw [hs2]; exact Nat.le_trans (numR_mono s1) hl1
      have E0 : Hid ((numR s1).1 = mg ∧ (numR s1).2 = s2) := Lib.hid ⟨hmg.symm, hs2.symm⟩
      clear hmg hs2
      have pp0 : wr.cell? ⟨p, 0, none⟩ = some (ptr r) := HP.out.cell 0
      go_wp2_with fail
      with_reducible refine (rnum_as r s1 _ HR.out hl1).mono ?_
      rw [E0.out.1, E0.out.2]
      rintro y wa0 ⟨rfl, hr2, hg2⟩
      have KA := KeepA.of HR.out.box (by decide) (by decide) (by decide) (by decide) hg2
      have HX2 := Lib.hid (HX.out.grown hg2 (fun e => hq1 (Option.some.inj e)))
      have KB := KeepA.of HX2.out (by decide) (by decide) (by decide) (by decide) (grown_setq (p + 1 + 1) 16 (.int .i64 ((mg : Nat) : Int)))
      have x0 := HX2.out.cell 16
      have z0 := HX2.out.frozen 16
      have xl := HX2.out.lt
      rw [show (tbA (fun j => acc.getD j []) 0 (.slice none 0 0) (.slice none 0 0) (.slice none 0 0) (.slice none 0 0) (.slice none 0 0) (.slice none 0 0))[16]? = some (.int .i64 0) from rfl] at x0
      have HXF : Hid (BoxT (wa0.setCell ⟨p + 1 + 1, 16, none⟩ (.int .i64 ((mg : Nat) : Int))) (p + 1 + 1) (tbA (fun j => acc.getD j []) ((mg : Nat) : Int) (.slice none 0 0) (.slice none 0 0) (.slice none 0 0) (.slice none 0 0) (.slice none 0 0) (.slice none 0 0)) TTb) := Lib.hid (HX2.out.set 16 (.int .i64 ((mg : Nat) : Int)))
      have HPF := Lib.hid ((HP.out.grown hg2 (fun e => hpr (Option.some.inj e))).other (a := ⟨p + 1 + 1, 16, none⟩) hpq (.int .i64 ((mg : Nat) : Int)))
      have HQF := Lib.hid ((HQ.out.grown hg2 (fun e => hq0 (Option.some.inj e))).other (a := ⟨p + 1 + 1, 16, none⟩) (by simp) (.int .i64 ((mg : Nat) : Int)))
      have HRF : Hid (Rdr (wa0.setCell ⟨p + 1 + 1, 16, none⟩ (.int .i64 ((mg : Nat) : Int))) r s2) := Lib.hid (hr2.box.other (a := ⟨p + 1 + 1, 16, none⟩) (Ne.symm hq1) (.int .i64 ((mg : Nat) : Int)))
      have HWF := Lib.hid (grown_new (q := p + 1 + 1) (grown_trans HG.out hg2) (by rw [HPE.out]; omega) 16 (.int .i64 ((mg : Nat) : Int)))
      have HLF : Hid (TbL (wa0.setCell ⟨p + 1 + 1, 16, none⟩ (.int .i64 ((mg : Nat) : Int))) (.slice none 0 0) (.slice none 0 0) (.slice none 0 0) (.slice none 0 0) (.slice none 0 0) (.slice none 0 0) [] [] [] [] [] []) := Lib.hid (HL.out.keep (KA.trans KB))
      clear hr2 hg2 KA KB HX HP HQ HR HG HL HX2 pp0
      skip
      have HX := HXF
      have HP := HPF
      have HQ := HQF
      have HR := HRF
      have HG := HWF
      have HL := HLF
      clear HXF HPF HQF HRF HWF HLF
      obtain ⟨sh, hsh⟩ : ∃ y, y = (rdRows s2).1 := ⟨_, rfl⟩
      obtain ⟨s3, hs3⟩ : ∃ y, y = (rdRows s2).2 := ⟨_, rfl⟩
      have hl3 : s3.1.length ≤ 1000000000 := by rw [hs3]; exact Nat.le_trans (rdRows_mono s2) hl2
      have E1 : Hid ((rdRows s2).1 = sh ∧ (rdRows s2).2 = s3) := Lib.hid ⟨hsh.symm, hs3.symm⟩
      clear hsh hs3
      have pp1 : (wa0.setCell ⟨p + 1 + 1, 16, none⟩ (.int .i64 ((mg : Nat) : Int))).cell? ⟨p, 0, none⟩ = some (ptr r) := HP.out.cell 0
      go_wp2_with fail
      clear x0 z0 xl
      with_reducible refine (readRows_as r s2 _ HR.out hl2).mono ?_
      rw [E1.out.1, E1.out.2]
      rintro y wa1 ⟨vsh, rfl, hv, hr2, hg2⟩
      obtain ⟨ash, csh, hve, _, _, _⟩ := id hv
      subst hve
      have KA := KeepA.of HR.out.box (by decide) (by decide) (by decide) (by decide) hg2
      have HX2 := Lib.hid (HX.out.grown hg2 (fun e => hq1 (Option.some.inj e)))
      have KB := KeepA.of HX2.out (by decide) (by decide) (by decide) (by decide) (grown_setq (p + 1 + 1) 22 (.slice ash sh.length csh))
      have x0 := HX2.out.cell 22
      have z0 := HX2.out.frozen 22
      have xl := HX2.out.lt
      rw [show (tbA (fun j => acc.getD j []) ((mg : Nat) : Int) (.slice none 0 0) (.slice none 0 0) (.slice none 0 0) (.slice none 0 0) (.slice none 0 0) (.slice none 0 0))[22]? = some (.slice none 0 0) from rfl] at x0
      have HXF : Hid (BoxT (wa1.setCell ⟨p + 1 + 1, 22, none⟩ (.slice ash sh.length csh)) (p + 1 + 1) (tbA (fun j => acc.getD j []) ((mg : Nat) : Int) (.slice ash sh.length csh) (.slice none 0 0) (.slice none 0 0) (.slice none 0 0) (.slice none 0 0) (.slice none 0 0)) TTb) := Lib.hid (HX2.out.set 22 (.slice ash sh.length csh))
      have HPF := Lib.hid ((HP.out.grown hg2 (fun e => hpr (Option.some.inj e))).other (a := ⟨p + 1 + 1, 22, none⟩) hpq (.slice ash sh.length csh))
      have HQF := Lib.hid ((HQ.out.grown hg2 (fun e => hq0 (Option.some.inj e))).other (a := ⟨p + 1 + 1, 22, none⟩) (by simp) (.slice ash sh.length csh))
      have HRF : Hid (Rdr (wa1.setCell ⟨p + 1 + 1, 22, none⟩ (.slice ash sh.length csh)) r s3) := Lib.hid (hr2.box.other (a := ⟨p + 1 + 1, 22, none⟩) (Ne.symm hq1) (.slice ash sh.length csh))
      have HWF := Lib.hid (grown_new (q := p + 1 + 1) (grown_trans HG.out hg2) (by rw [HPE.out]; omega) 22 (.slice ash sh.length csh))
      have HLK := HL.out.keep (KA.trans KB)
      have HLF : Hid (TbL (wa1.setCell ⟨p + 1 + 1, 22, none⟩ (.slice ash sh.length csh)) (.slice ash sh.length csh) (.slice none 0 0) (.slice none 0 0) (.slice none 0 0) (.slice none 0 0) (.slice none 0 0) sh [] [] [] [] []) := Lib.hid { HLK with sh := RowT.keep hv KB.2.1 KB.1 }
      clear HLK hv
      clear hr2 hg2 KA KB HX HP HQ HR HG HL HX2 pp1
      skip
      have HX := HXF
      have HP := HPF
      have HQ := HQF
      have HR := HRF
      have HG := HWF
      have HL := HLF
      clear HXF HPF HQF HRF HWF HLF
      obtain ⟨lo, hlo⟩ : ∃ y, y = (rdRows s3).1 := ⟨_, rfl⟩
      obtain ⟨s4, hs4⟩ : ∃ y, y = (rdRows s3).2 := ⟨_, rfl⟩
      have hl4 : s4.1.length ≤ 1000000000 := by rw [hs4]; exact Nat.le_trans (rdRows_mono s3) hl3
      have E2 : Hid ((rdRows s3).1 = lo ∧ (rdRows s3).2 = s4) := Lib.hid ⟨hlo.symm, hs4.symm⟩
      clear hlo hs4
      have pp2 : (wa1.setCell ⟨p + 1 + 1, 22, none⟩ (.slice ash sh.length csh)).cell? ⟨p, 0, none⟩ = some (ptr r) := HP.out.cell 0
      go_wp2_with fail
      clear x0 z0 xl
      with_reducible refine (readRows_as r s3 _ HR.out hl3).mono ?_
      rw [E2.out.1, E2.out.2]
      rintro y wa2 ⟨vlo, rfl, hv, hr2, hg2⟩
      obtain ⟨alo, clo, hve, _, _, _⟩ := id hv
      subst hve
      have KA := KeepA.of HR.out.box (by decide) (by decide) (by decide) (by decide) hg2
      have HX2 := Lib.hid (HX.out.grown hg2 (fun e => hq1 (Option.some.inj e)))
      have KB := KeepA.of HX2.out (by decide) (by decide) (by decide) (by decide) (grown_setq (p + 1 + 1) 23 (.slice alo lo.length clo))
      have x0 := HX2.out.cell 23
      have z0 := HX2.out.frozen 23
      have xl := HX2.out.lt
      rw [show (tbA (fun j => acc.getD j []) ((mg : Nat) : Int) (.slice ash sh.length csh) (.slice none 0 0) (.slice none 0 0) (.slice none 0 0) (.slice none 0 0) (.slice none 0 0))[23]? = some (.slice none 0 0) from rfl] at x0
      have HXF : Hid (BoxT (wa2.setCell ⟨p + 1 + 1, 23, none⟩ (.slice alo lo.length clo)) (p + 1 + 1) (tbA (fun j => acc.getD j []) ((mg : Nat) : Int) (.slice ash sh.length csh) (.slice alo lo.length clo) (.slice none 0 0) (.slice none 0 0) (.slice none 0 0) (.slice none 0 0)) TTb) := Lib.hid (HX2.out.set 23 (.slice alo lo.length clo))
      have HPF := Lib.hid ((HP.out.grown hg2 (fun e => hpr (Option.some.inj e))).other (a := ⟨p + 1 + 1, 23, none⟩) hpq (.slice alo lo.length clo))
      have HQF := Lib.hid ((HQ.out.grown hg2 (fun e => hq0 (Option.some.inj e))).other (a := ⟨p + 1 + 1, 23, none⟩) (by simp) (.slice alo lo.length clo))
      have HRF : Hid (Rdr (wa2.setCell ⟨p + 1 + 1, 23, none⟩ (.slice alo lo.length clo)) r s4) := Lib.hid (hr2.box.other (a := ⟨p + 1 + 1, 23, none⟩) (Ne.symm hq1) (.slice alo lo.length clo))
      have HWF := Lib.hid (grown_new (q := p + 1 + 1) (grown_trans HG.out hg2) (by rw [HPE.out]; omega) 23 (.slice alo lo.length clo))
      have HLK := HL.out.keep (KA.trans KB)
      have HLF : Hid (TbL (wa2.setCell ⟨p + 1 + 1, 23, none⟩ (.slice alo lo.length clo)) (.slice ash sh.length csh) (.slice alo lo.length clo) (.slice none 0 0) (.slice none 0 0) (.slice none 0 0) (.slice none 0 0) sh lo [] [] [] []) := Lib.hid { HLK with lo := RowT.keep hv KB.2.1 KB.1 }
      clear HLK hv
      clear hr2 hg2 KA KB HX HP HQ HR HG HL HX2 pp2
      skip
      have HX := HXF
      have HP := HPF
      have HQ := HQF
      have HR := HRF
      have HG := HWF
      have HL := HLF
      clear HXF HPF HQF HRF HWF HLF
      obtain ⟨ms, hms⟩ : ∃ y, y = (rdRows s4).1 := ⟨_, rfl⟩
      obtain ⟨s5, hs5⟩ : ∃ y, y = (rdRows s4).2 := ⟨_, rfl⟩
      have hl5 : s5.1.length ≤ 1000000000 := by rw [hs5]; exact Nat.le_trans (rdRows_mono s4) hl4
      have E3 : Hid ((rdRows s4).1 = ms ∧ (rdRows s4).2 = s5) := Lib.hid ⟨hms.symm, hs5.symm⟩
      clear hms hs5
      have pp3 : (wa2.setCell ⟨p + 1 + 1, 23, none⟩ (.slice alo lo.length clo)).cell? ⟨p, 0, none⟩ = some (ptr r) := HP.out.cell 0
      go_wp2_with fail
      clear x0 z0 xl
      with_reducible refine (readRows_as r s4 _ HR.out hl4).mono ?_
      rw [E3.out.1, E3.out.2]
      rintro y wa3 ⟨vms, rfl, hv, hr2, hg2⟩
      obtain ⟨ams, cms, hve, _, _, _⟩ := id hv
      subst hve
      have KA := KeepA.of HR.out.box (by decide) (by decide) (by decide) (by decide) hg2
      have HX2 := Lib.hid (HX.out.grown hg2 (fun e => hq1 (Option.some.inj e)))
      have KB := KeepA.of HX2.out (by decide) (by decide) (by decide) (by decide) (grown_setq (p + 1 + 1) 24 (.slice ams ms.length cms))
      have x0 := HX2.out.cell 24
      have z0 := HX2.out.frozen 24
      have xl := HX2.out.lt
      rw [show (tbA (fun j => acc.getD j []) ((mg : Nat) : Int) (.slice ash sh.length csh) (.slice alo lo.length clo) (.slice none 0 0) (.slice none 0 0) (.slice none 0 0) (.slice none 0 0))[24]? = some (.slice none 0 0) from rfl] at x0
      have HXF : Hid (BoxT (wa3.setCell ⟨p + 1 + 1, 24, none⟩ (.slice ams ms.length cms)) (p + 1 + 1) (tbA (fun j => acc.getD j []) ((mg : Nat) : Int) (.slice ash sh.length csh) (.slice alo lo.length clo) (.slice ams ms.length cms) (.slice none 0 0) (.slice none 0 0) (.slice none 0 0)) TTb) := Lib.hid (HX2.out.set 24 (.slice ams ms.length cms))
      have HPF := Lib.hid ((HP.out.grown hg2 (fun e => hpr (Option.some.inj e))).other (a := ⟨p + 1 + 1, 24, none⟩) hpq (.slice ams ms.length cms))
      have HQF := Lib.hid ((HQ.out.grown hg2 (fun e => hq0 (Option.some.inj e))).other (a := ⟨p + 1 + 1, 24, none⟩) (by simp) (.slice ams ms.length cms))
      have HRF : Hid (Rdr (wa3.setCell ⟨p + 1 + 1, 24, none⟩ (.slice ams ms.length cms)) r s5) := Lib.hid (hr2.box.other (a := ⟨p + 1 + 1, 24, none⟩) (Ne.symm hq1) (.slice ams ms.length cms))
      have HWF := Lib.hid (grown_new (q := p + 1 + 1) (grown_trans HG.out hg2) (by rw [HPE.out]; omega) 24 (.slice ams ms.length cms))
      have HLK := HL.out.keep (KA.trans KB)
      have HLF : Hid (TbL (wa3.setCell ⟨p + 1 + 1, 24, none⟩ (.slice ams ms.length cms)) (.slice ash sh.length csh) (.slice alo lo.length clo) (.slice ams ms.length cms) (.slice none 0 0) (.slice none 0 0) (.slice none 0 0) sh lo ms [] [] []) := Lib.hid { HLK with ms := RowT.keep hv KB.2.1 KB.1 }
      clear HLK hv
      clear hr2 hg2 KA KB HX HP HQ HR HG HL HX2 pp3
      skip
      have HX := HXF
      have HP := HPF
      have HQ := HQF
      have HR := HRF
      have HG := HWF
      have HL := HLF
      clear HXF HPF HQF HRF HWF HLF
      obtain ⟨cu, hcu⟩ : ∃ y, y = (rdCurs s5).1 := ⟨_, rfl⟩
      obtain ⟨s6, hs6⟩ : ∃ y, y = (rdCurs s5).2 := ⟨_, rfl⟩
      have hl6 : s6.1.length ≤ 1000000000 := by rw [hs6]; exact Nat.le_trans (rdCurs_mono s5) hl5
      have E4 : Hid ((rdCurs s5).1 = cu ∧ (rdCurs s5).2 = s6) := Lib.hid ⟨hcu.symm, hs6.symm⟩
      clear hcu hs6
      have pp4 : (wa3.setCell ⟨p + 1 + 1, 24, none⟩ (.slice ams ms.length cms)).cell? ⟨p, 0, none⟩ = some (ptr r) := HP.out.cell 0
      go_wp2_with fail
      clear x0 z0 xl
      have hcall := readLC_as r p s5 (wa3.setCell ⟨p + 1 + 1, 24, none⟩ (.slice ams ms.length cms)) HR.out HP.out hl5
      have hcall2 : Calls _ _ _ _ (fun e w' => ∃ v, e = .returned v ∧ CurT w' v (rdCurs s5).1 ∧ Rdr w' r (rdCurs s5).2 ∧ (wa3.setCell ⟨p + 1 + 1, 24, none⟩ (.slice ams ms.length cms)).grownBy w' (some r)) := hcall
      with_reducible refine (hcall2).mono ?_
      rw [E4.out.1, E4.out.2]
      rintro y wa4 ⟨vcu, rfl, hv, hr2, hg2⟩
      obtain ⟨acu, ccu, hve, _, _, _⟩ := id hv
      subst hve
      have KA := KeepA.of HR.out.box (by decide) (by decide) (by decide) (by decide) hg2
      have HX2 := Lib.hid (HX.out.grown hg2 (fun e => hq1 (Option.some.inj e)))
      have KB := KeepA.of HX2.out (by decide) (by decide) (by decide) (by decide) (grown_setq (p + 1 + 1) 25 (.slice acu cu.length ccu))
      have x0 := HX2.out.cell 25
      have z0 := HX2.out.frozen 25
      have xl := HX2.out.lt
      rw [show (tbA (fun j => acc.getD j []) ((mg : Nat) : Int) (.slice ash sh.length csh) (.slice alo lo.length clo) (.slice ams ms.length cms) (.slice none 0 0) (.slice none 0 0) (.slice none 0 0))[25]? = some (.slice none 0 0) from rfl] at x0
      have HXF : Hid (BoxT (wa4.setCell ⟨p + 1 + 1, 25, none⟩ (.slice acu cu.length ccu)) (p + 1 + 1) (tbA (fun j => acc.getD j []) ((mg : Nat) : Int) (.slice ash sh.length csh) (.slice alo lo.length clo) (.slice ams ms.length cms) (.slice acu cu.length ccu) (.slice none 0 0) (.slice none 0 0)) TTb) := Lib.hid (HX2.out.set 25 (.slice acu cu.length ccu))
      have HPF := Lib.hid ((HP.out.grown hg2 (fun e => hpr (Option.some.inj e))).other (a := ⟨p + 1 + 1, 25, none⟩) hpq (.slice acu cu.length ccu))
      have HQF := Lib.hid ((HQ.out.grown hg2 (fun e => hq0 (Option.some.inj e))).other (a := ⟨p + 1 + 1, 25, none⟩) (by simp) (.slice acu cu.length ccu))
      have HRF : Hid (Rdr (wa4.setCell ⟨p + 1 + 1, 25, none⟩ (.slice acu cu.length ccu)) r s6) := Lib.hid (hr2.box.other (a := ⟨p + 1 + 1, 25, none⟩) (Ne.symm hq1) (.slice acu cu.length ccu))
      have HWF := Lib.hid (grown_new (q := p + 1 + 1) (grown_trans HG.out hg2) (by rw [HPE.out]; omega) 25 (.slice acu cu.length ccu))
      have HLK := HL.out.keep (KA.trans KB)
      have HLF : Hid (TbL (wa4.setCell ⟨p + 1 + 1, 25, none⟩ (.slice acu cu.length ccu)) (.slice ash sh.length csh) (.slice alo lo.length clo) (.slice ams ms.length cms) (.slice acu cu.length ccu) (.slice none 0 0) (.slice none 0 0) sh lo ms cu [] []) := Lib.hid { HLK with cu := CurT.keep hv KB.2.2.1 KB.1 }
      clear HLK hv
      clear hr2 hg2 KA KB HX HP HQ HR HG HL HX2 pp4
      skip
      have HX := HXF
      have HP := HPF
      have HQ := HQF
      have HR := HRF
      have HG := HWF
      have HL := HLF
      clear HXF HPF HQF HRF HWF HLF
      obtain ⟨un, hun⟩ : ∃ y, y = (rdUnts s6).1 := ⟨_, rfl⟩
      obtain ⟨s7, hs7⟩ : ∃ y, y = (rdUnts s6).2 := ⟨_, rfl⟩
      have hl7 : s7.1.length ≤ 1000000000 := by rw [hs7]; exact Nat.le_trans (rdUnts_mono s6) hl6
      have E5 : Hid ((rdUnts s6).1 = un ∧ (rdUnts s6).2 = s7) := Lib.hid ⟨hun.symm, hs7.symm⟩
      clear hun hs7
      have pp5 : (wa4.setCell ⟨p + 1 + 1, 25, none⟩ (.slice acu cu.length ccu)).cell? ⟨p, 0, none⟩ = some (ptr r) := HP.out.cell 0
      go_wp2_with fail
      clear x0 z0 xl
      have hcall := readLU_as r p s6 (wa4.setCell ⟨p + 1 + 1, 25, none⟩ (.slice acu cu.length ccu)) HR.out HP.out hl6
      have hcall2 : Calls _ _ _ _ (fun e w' => ∃ v, e = .returned v ∧ UntT w' v (rdUnts s6).1 ∧ Rdr w' r (rdUnts s6).2 ∧ (wa4.setCell ⟨p + 1 + 1, 25, none⟩ (.slice acu cu.length ccu)).grownBy w' (some r)) := hcall
      with_reducible refine (hcall2).mono ?_
      rw [E5.out.1, E5.out.2]
      rintro y wa5 ⟨vun, rfl, hv, hr2, hg2⟩
      obtain ⟨aun, cun, hve, _, _, _⟩ := id hv
      subst hve
      have KA := KeepA.of HR.out.box (by decide) (by decide) (by decide) (by decide) hg2
      have HX2 := Lib.hid (HX.out.grown hg2 (fun e => hq1 (Option.some.inj e)))
      have KB := KeepA.of HX2.out (by decide) (by decide) (by decide) (by decide) (grown_setq (p + 1 + 1) 26 (.slice aun un.length cun))
      have x0 := HX2.out.cell 26
      have z0 := HX2.out.frozen 26
      have xl := HX2.out.lt
      rw [show (tbA (fun j => acc.getD j []) ((mg : Nat) : Int) (.slice ash sh.length csh) (.slice alo lo.length clo) (.slice ams ms.length cms) (.slice acu cu.length ccu) (.slice none 0 0) (.slice none 0 0))[26]? = some (.slice none 0 0) from rfl] at x0
      have HXF : Hid (BoxT (wa5.setCell ⟨p + 1 + 1, 26, none⟩ (.slice aun un.length cun)) (p + 1 + 1) (tbA (fun j => acc.getD j []) ((mg : Nat) : Int) (.slice ash sh.length csh) (.slice alo lo.length clo) (.slice ams ms.length cms) (.slice acu cu.length ccu) (.slice aun un.length cun) (.slice none 0 0)) TTb) := Lib.hid (HX2.out.set 26 (.slice aun un.length cun))
      have HPF := Lib.hid ((HP.out.grown hg2 (fun e => hpr (Option.some.inj e))).other (a := ⟨p + 1 + 1, 26, none⟩) hpq (.slice aun un.length cun))
      have HQF := Lib.hid ((HQ.out.grown hg2 (fun e => hq0 (Option.some.inj e))).other (a := ⟨p + 1 + 1, 26, none⟩) (by simp) (.slice aun un.length cun))
      have HRF : Hid (Rdr (wa5.setCell ⟨p + 1 + 1, 26, none⟩ (.slice aun un.length cun)) r s7) := Lib.hid (hr2.box.other (a := ⟨p + 1 + 1, 26, none⟩) (Ne.symm hq1) (.slice aun un.length cun))
      have HWF := Lib.hid (grown_new (q := p + 1 + 1) (grown_trans HG.out hg2) (by rw [HPE.out]; omega) 26 (.slice aun un.length cun))
      have HLK := HL.out.keep (KA.trans KB)
      have HLF : Hid (TbL (wa5.setCell ⟨p + 1 + 1, 26, none⟩ (.slice aun un.length cun)) (.slice ash sh.length csh) (.slice alo lo.length clo) (.slice ams ms.length cms) (.slice acu cu.length ccu) (.slice aun un.length cun) (.slice none 0 0) sh lo ms cu un []) := Lib.hid { HLK with un := UntT.keep hv KB.2.2.2 KB.1 }
      clear HLK hv
      clear hr2 hg2 KA KB HX HP HQ HR HG HL HX2 pp5
      skip
      have HX := HXF
      have HP := HPF
      have HQ := HQF
      have HR := HRF
      have HG := HWF
      have HL := HLF
      clear HXF HPF HQF HRF HWF HLF
      obtain ⟨mu, hmu⟩ : ∃ y, y = (rdTxs s7).1 := ⟨_, rfl⟩
      obtain ⟨s8, hs8⟩ : ∃ y, y = (rdTxs s7).2 := ⟨_, rfl⟩
      have hl8 : s8.1.length ≤ 1000000000 := by rw [hs8]; exact Nat.le_trans (rdTxs_mono s7) hl7
      have E6 : Hid ((rdTxs s7).1 = mu ∧ (rdTxs s7).2 = s8) := Lib.hid ⟨hmu.symm, hs8.symm⟩
      clear hmu hs8
      have pp6 : (wa5.setCell ⟨p + 1 + 1, 26, none⟩ (.slice aun un.length cun)).cell? ⟨p, 0, none⟩ = some (ptr r) := HP.out.cell 0
      go_wp2_with fail
      clear x0 z0 xl
      with_reducible refine (readTexts_as r s7 _ HR.out hl7).mono ?_
      rw [E6.out.1, E6.out.2]
      rintro y wa6 ⟨vmu, rfl, hv, hr2, hg2⟩
      obtain ⟨amu, cmu, hve, _, _, _⟩ := id hv
      subst hve
      have KA := KeepA.of HR.out.box (by decide) (by decide) (by decide) (by decide) hg2
      have HX2 := Lib.hid (HX.out.grown hg2 (fun e => hq1 (Option.some.inj e)))
      have KB := KeepA.of HX2.out (by decide) (by decide) (by decide) (by decide) (grown_setq (p + 1 + 1) 27 (.slice amu mu.length cmu))
      have x0 := HX2.out.cell 27
      have z0 := HX2.out.frozen 27
      have xl := HX2.out.lt
      rw [show (tbA (fun j => acc.getD j []) ((mg : Nat) : Int) (.slice ash sh.length csh) (.slice alo lo.length clo) (.slice ams ms.length cms) (.slice acu cu.length ccu) (.slice aun un.length cun) (.slice none 0 0))[27]? = some (.slice none 0 0) from rfl] at x0
      have HXF : Hid (BoxT (wa6.setCell ⟨p + 1 + 1, 27, none⟩ (.slice amu mu.length cmu)) (p + 1 + 1) (tbA (fun j => acc.getD j []) ((mg : Nat) : Int) (.slice ash sh.length csh) (.slice alo lo.length clo) (.slice ams ms.length cms) (.slice acu cu.length ccu) (.slice aun un.length cun) (.slice amu mu.length cmu)) TTb) := Lib.hid (HX2.out.set 27 (.slice amu mu.length cmu))
      have HPF := Lib.hid ((HP.out.grown hg2 (fun e => hpr (Option.some.inj e))).other (a := ⟨p + 1 + 1, 27, none⟩) hpq (.slice amu mu.length cmu))
      have HQF := Lib.hid ((HQ.out.grown hg2 (fun e => hq0 (Option.some.inj e))).other (a := ⟨p + 1 + 1, 27, none⟩) (by simp) (.slice amu mu.length cmu))
      have HRF : Hid (Rdr (wa6.setCell ⟨p + 1 + 1, 27, none⟩ (.slice amu mu.length cmu)) r s8) := Lib.hid (hr2.box.other (a := ⟨p + 1 + 1, 27, none⟩) (Ne.symm hq1) (.slice amu mu.length cmu))
      have HWF := Lib.hid (grown_new (q := p + 1 + 1) (grown_trans HG.out hg2) (by rw [HPE.out]; omega) 27 (.slice amu mu.length cmu))
      have HLK := HL.out.keep (KA.trans KB)
      have HLF : Hid (TbL (wa6.setCell ⟨p + 1 + 1, 27, none⟩ (.slice amu mu.length cmu)) (.slice ash sh.length csh) (.slice alo lo.length clo) (.slice ams ms.length cms) (.slice acu cu.length ccu) (.slice aun un.length cun) (.slice amu mu.length cmu) sh lo ms cu un mu) := Lib.hid { HLK with mu := TxT.keep hv KB.1 }
      clear HLK hv
      clear hr2 hg2 KA KB HX HP HQ HR HG HL HX2 pp6
      skip
      have HX := HXF
      have HP := HPF
      have HQ := HQF
      have HR := HRF
      have HG := HWF
      have HL := HLF
      clear HXF HPF HQF HRF HWF HLF
      have HRD := Lib.hid (rdTbl_eq HTX.out (Prod.ext E0.out.1 E0.out.2) (Prod.ext E1.out.1 E1.out.2) (Prod.ext E2.out.1 E2.out.2) (Prod.ext E3.out.1 E3.out.2) (Prod.ext E4.out.1 E4.out.2) (Prod.ext E5.out.1 E5.out.2) (Prod.ext E6.out.1 E6.out.2))
      have HIN : Hid ((Try.prog.info? TTb).map (·.size) = some (tbA (fun j => acc.getD j []) ((mg : Nat) : Int) (.slice ash sh.length csh) (.slice alo lo.length clo) (.slice ams ms.length cms) (.slice acu cu.length ccu) (.slice aun un.length cun) (.slice amu mu.length cmu)).size) := Lib.hid (tb_info (fun j => acc.getD j []) ((mg : Nat) : Int) (.slice ash sh.length csh) (.slice alo lo.length clo) (.slice ams ms.length cms) (.slice acu cu.length ccu) (.slice aun un.length cun) (.slice amu mu.length cmu))
      have HON : Hid ((tbA (fun j => acc.getD j []) ((mg : Nat) : Int) (.slice ash sh.length csh) (.slice alo lo.length clo) (.slice ams ms.length cms) (.slice acu cu.length ccu) (.slice aun un.length cun) (.slice amu mu.length cmu)).all (·.oneCell') = true) := Lib.hid (tb_one _ _ _ _ _ _ _ _ _ _ _ _ _ _ _ _ _ _ _ _)
      obtain ⟨X, hX⟩ : ∃ X, X = tbA (fun j => acc.getD j []) ((mg : Nat) : Int) (.slice ash sh.length csh) (.slice alo lo.length clo) (.slice ams ms.length cms) (.slice acu cu.length ccu) (.slice aun un.length cun) (.slice amu mu.length cmu) := ⟨_, rfl⟩
      rw [← hX] at HX HIN HON
      have HXE := Lib.hid hX
      clear hX
      have HSZ : Hid (Z34.size = X.size) := Lib.hid (by rw [HXE.out]; rfl)
      go_wp2_with (first | (refine wpList_load_box (by rfl) TTb (.tmp 3) (by rfl) (p + 1 + 1) (by rfl) X TTb _ HX.out Try.underlying31 (by rfl) HIN.out ?_) | (refine wpList_store_box (by rfl) TTb (.tmp 2) (.tmp 40) (by rfl) (p + 1) Z34 X TTb (by rfl) (by rfl) HQ.out HIN.out HSZ.out HON.out ?_; intro w9 hx9 hg9))
      refine bodyPost_ret (v := .agg X) ?_ rfl ?_
      · have hld := run_loadVar_box (P := Try.prog) hx9 Try.underlying31 (by rfl) HIN.out
        have hres : ∀ tm : Array Value, tm[2]?.getD undef = .pointer (some ⟨p + 1, 0, none⟩) → (results Try.f26 tm).run Try.prog w9 = .ok (.agg X) w9 := by intro tm h; simp [results, Try.results26, h, asAddr, hld]
        exact hres _ rfl
      · rw [HRD.out, HXE.out]
        have KC := KeepA.of HQ.out (by decide) (by decide) (by decide) (by decide) hg9
        exact ⟨_, _, _, _, _, _, rfl, HL.out.keep KC, ⟨_, _, _, _, _, _, _, _, _, _, _, _, _, _, _, _, _, _, rfl, rfl, rfl, rfl, rfl, rfl⟩, HR.out.box.grown hg9 (fun e => hq0 (Option.some.inj e).symm), grown_own HG.out hg9 (fun q e => by cases e; rw [HPE.out]; omega)⟩
end Go.Proofs.Ytkbigfkpgjhojaa
