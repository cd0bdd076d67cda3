/- Compact patterns are read. -/
import Derived.Test.YtmmllhdphlnpjaaDoorPtP
namespace Florin
/-- Is a pattern one nought, with nothing about it? -/
def bareB (y : NumT) (n1 n2 : Nat) (two : Bool) : Bool := decide (y.int = 1) && decide (n1 + n2 = 0) && !two
def bareP (x : PatT) : Bool := bareB x.pos.num x.pos.pre.length x.pos.suf.length x.neg.isSome
def cparseQ (l : List UInt8) : PtRes := match parseQ l with
  | .err c k => .err c k
  | .ok x => if 0 < x.pos.num.hash ∨ 0 < x.pos.num.maxF ∨ 0 < x.pos.num.grp ∨ 15 < x.pos.num.int then .err 3 0 else .ok x
end Florin
namespace Go.Proofs.YtmmllhdphlnpjaaDoor
open Go.RowKit Florin
set_option linter.unusedVariables false
set_option linter.unusedSimpArgs false
attribute [local go_sem ↓] Go.wp_at_zero Go.wp_at_succ
abbrev TC : TypeId := 29
abbrev CZ : Array Value := #[.int .i64 0, .bool false, .slice none 0 0, .slice none 0 0, .slice none 0 0, .slice none 0 0, .bool false, .int .i64 0, .int .i64 0, .int .i64 0, .int .i64 0, .int .i64 0, .int .i64 0]
/-- A compact pattern's cells. -/
def CC (x : NumT) (bare : Bool) (vp vs np ns : Value) (two : Bool) : Array Value := #[.int .i64 (x.int : Int), .bool bare, vp, vs, np, ns, .bool two, .int .i64 (x.hash : Int), .int .i64 (x.int : Int), .int .i64 (x.minF : Int), .int .i64 (x.maxF : Int), .int .i64 (x.grp : Int), .int .i64 (x.more : Int)]
theorem infoC : (Tryd.prog.info? TC).map (·.size) = some 13 := by kernel_rfl
theorem cz_info : (Tryd.prog.info? TC).map (·.size) = some CZ.size := infoC
theorem cz_one : CZ.all (·.oneCell') = true := by simp [CZ, Value.oneCell']
theorem cc_info {X : Array Value} (h : X.size = 13) : (Tryd.prog.info? TC).map (·.size) = some X.size := infoC.trans (by rw [h])
theorem cc_one (x : NumT) (bare : Bool) (a1 a2 a3 a4 : Option Addr) (n1 n2 n3 n4 c1 c2 c3 c4 : Nat) (two : Bool) : (CC x bare (.slice a1 n1 c1) (.slice a2 n2 c2) (.slice a3 n3 c3) (.slice a4 n4 c4) two).all (·.oneCell') = true := by simp [CC, Value.oneCell']
theorem res_cparse {w : World} {q : Nat} {X : Array Value} {c k : Int} (h : BoxT w q X TC) (hi : (Tryd.prog.info? TC).map (·.size) = some X.size) (tm : Array Value)
    (t2 : tm[2]?.getD undef = .pointer (some ⟨q, 0, none⟩)) (t3 : tm[3]?.getD undef = .int .i64 c) (t4 : tm[4]?.getD undef = .int .i64 k) :
    (results Tryd.f6 tm).run Tryd.prog w = .ok (.tuple #[.agg X, .int .i64 c, .int .i64 k]) w := by
  have hld := run_loadVar_box (P := Tryd.prog) h Tryd.underlying29 (by rfl) hi
  simp [results, Tryd.results6, t2, t3, t4, asAddr, hld]
set_option maxRecDepth 100000 in
set_option maxHeartbeats 3200000 in
theorem bare_as (y : NumT) (a1 a2 a3 a4 : Option Addr) (n1 n2 n3 n4 c1 c2 c3 c4 : Nat) (two : Bool) (w : World) (h1 : n1 ≤ 1000) (h2 : n2 ≤ 1000) :
    Calls Tryd.prog 12 #[.agg (HC y (.slice a1 n1 c1) (.slice a2 n2 c2) (.slice a3 n3 c3) (.slice a4 n4 c4) two)] w fun e w' => e = .returned (.bool (bareB y n1 n2 two)) ∧ Below w.heap.size w w' := by
  obtain ⟨X, hX⟩ : ∃ X, X = HC y (.slice a1 n1 c1) (.slice a2 n2 c2) (.slice a3 n3 c3) (.slice a4 n4 c4) two := ⟨_, rfl⟩
  rw [← hX]
  have X0 := Lib.hid (BoxT.new w X TP)
  have B0 := Lib.hid (below_alloc w (.cells X TP))
  have HX := Lib.hid hX
  clear hX
  have HR : Hid (bareB y n1 n2 two = (decide (y.int = 1) && decide (n1 + n2 = 0) && !two)) := Lib.hid rfl
  obtain ⟨h, m, a0, f0, g, o⟩ := y
  dsimp only at HR
  go_enter Tryd.func12, Tryd.ntmps12
  go_upto_region 1 with fail
  generalize w.alloc (.cells X TP) = w0 at *
  have x0 := X0.out.cell 0
  have x1 := X0.out.cell 1
  have x4 := X0.out.cell 4
  have x6 := X0.out.cell 6
  rw [HX.out] at x0 x1 x4 x6
  simp [HC] at x0 x1 x4 x6
  by_cases hm : m = 1
  · have hmb : ((m : Int) == 1) = true := by simp; omega
    by_cases hn : n1 + n2 = 0
    · have hni : (n1 : Int) + (n2 : Int) = 0 := by omega
      obtain rfl : n1 = 0 := by omega
      obtain rfl : n2 = 0 := by omega
      rw [decide_eq_true hm] at HR
      clear hm hni
      go_wp2
      go_ret
      exact ⟨by rw [HR.out]; simp, B0.out⟩
    · have hnb : ((n1 : Int) + (n2 : Int) == 0) = false := by simp; omega
      rw [decide_eq_false hn] at HR
      clear hm hn
      go_wp2
      go_ret
      exact ⟨by rw [HR.out]; simp, B0.out⟩
  · have hmb : ((m : Int) == 1) = false := by simp; omega
    rw [decide_eq_false hm] at HR
    clear hm
    go_wp2
    go_ret
    exact ⟨by rw [HR.out]; simp, B0.out⟩
def CTd (w' : World) (R : PtRes) (e : Ending) : Prop := match R with
  | .err c k => e = .returned (.tuple #[.agg CZ, .int .i64 (c : Int), .int .i64 (k : Int)])
  | .ok x => ∃ vp vs np ns, e = .returned (.tuple #[.agg (CC x.pos.num (bareP x) vp vs np ns x.neg.isSome), .int .i64 0, .int .i64 0]) ∧ PatV w' x (.agg (HC x.pos.num vp vs np ns x.neg.isSome))
set_option maxRecDepth 100000 in
set_option maxHeartbeats 3200000 in
theorem cparse_as (s : ByteArray) (w : World) (hE : EnvP w) (hs : s.size ≤ maxLen) (hb : ∀ x, parseQ s.data.toList = .ok x → x.pos.pre.length ≤ 1000 ∧ x.pos.suf.length ≤ 1000) (R : PtRes) (hR : cparseQ s.data.toList = R) :
    Calls Tryd.prog 6 #[.string s] w fun e w' => CTd w' R e ∧ Below w.heap.size w w' := by
  obtain ⟨R1, hR1⟩ : ∃ R1, parseQ s.data.toList = R1 := ⟨_, rfl⟩
  have HR1 := Lib.hid hR1
  have HQ := Lib.hid hR
  have C0 := Lib.hid (BoxT.new w CZ TC)
  have B0 := Lib.hid (below_alloc w (.cells CZ TC))
  have E0 := Lib.hid (hE.below (below_alloc w (.cells CZ TC)))
  clear hR hR1 hE
  go_enter Tryd.func6, Tryd.ntmps6
  go_wp2_with fail
  with_reducible refine (pparse_as s _ E0.out hs R1 HR1.out).mono ?_
  intro e w1 ht
  obtain ⟨ht, hbl⟩ := ht
  have C1 := Lib.hid (C0.out.below hbl)
  have B1 := Lib.hid (B0.out.trans (hbl.mono B0.out.size))
  have hs1 := C1.out.lt
  clear hbl C0 B0 E0
  cases R1 with
  | err c k =>
    obtain rfl : e = .returned (.tuple #[.agg Z0, .int .i64 (c : Int), .int .i64 (k : Int)]) := ht
    have HQE : Hid (.err c k = R) := Lib.hid (by rw [← HQ.out]; unfold cparseQ; rw [HR1.out])
    have CF := Lib.hid (C1.out.alloc (.cells Z0 TP))
    have BF := Lib.hid (B1.out.alloc (by omega) (.cells Z0 TP))
    have hce : 0 < c := by
      have h := HR1.out
      unfold parseQ at h
      split at h
      · injection h with h1 _; omega
      · split at h
        · injection h with h1 _; omega
        · split at h
          · injection h with h1 _; omega
          · cases h
    have hcb : ((c : Int) != 0) = true := by simp; omega
    clear C1 B1 hce
    go_wp2_with (refine wpList_store_box (by rfl) TC (.tmp 2) (.tmp 16) (by rfl) w.heap.size CZ CZ TC (by rfl) (by rfl) CF.out cz_info rfl cz_one ?_; intro w5 hx5 hg5)
    refine bodyPost_ret (v := .tuple #[.agg CZ, .int .i64 (c : Int), .int .i64 (k : Int)]) ?_ rfl ?_
    · exact res_cparse hx5 cz_info _ rfl rfl rfl
    · rw [← HQE.out]
      exact ⟨rfl, BF.out.grown hg5 BF.out.size (fun k h => by cases h; exact Nat.le_refl _)⟩
  | ok x =>
    obtain ⟨v, rfl, hv⟩ := ht
    obtain ⟨hb1, hb2⟩ := hb x HR1.out
    obtain ⟨vp, vs, np, ns, rfl, h1, h2, h3, h4⟩ := hv
    obtain ⟨a1, c1, rfl⟩ := h1.slice
    obtain ⟨a2, c2, rfl⟩ := h2.slice
    obtain ⟨a3, c3, rfl⟩ := h3.slice
    obtain ⟨a4, c4, rfl⟩ := h4.slice
    have HV : Hid (PatV w1 x (.agg (HC x.pos.num (.slice a1 x.pos.pre.length c1) (.slice a2 x.pos.suf.length c2) (.slice a3 (negPre x).length c3) (.slice a4 (negSuf x).length c4) x.neg.isSome))) := Lib.hid ⟨_, _, _, _, rfl, h1, h2, h3, h4⟩
    clear h1 h2 h3 h4
    have XF := Lib.hid (BoxT.new w1 (HL x.pos.num (.slice a1 x.pos.pre.length c1) (.slice a2 x.pos.suf.length c2) (.slice a3 (negPre x).length c3) (.slice a4 (negSuf x).length c4) x.neg.isSome) TP)
    have CF := Lib.hid (C1.out.alloc (.cells (HL x.pos.num (.slice a1 x.pos.pre.length c1) (.slice a2 x.pos.suf.length c2) (.slice a3 (negPre x).length c3) (.slice a4 (negSuf x).length c4) x.neg.isSome) TP))
    have BF := Lib.hid (B1.out.alloc (by omega) (.cells (HL x.pos.num (.slice a1 x.pos.pre.length c1) (.slice a2 x.pos.suf.length c2) (.slice a3 (negPre x).length c3) (.slice a4 (negSuf x).length c4) x.neg.isSome) TP))
    have K1 := Lib.hid (KeepB.below (T := TPc) (below_alloc w1 (.cells (HL x.pos.num (.slice a1 x.pos.pre.length c1) (.slice a2 x.pos.suf.length c2) (.slice a3 (negPre x).length c3) (.slice a4 (negSuf x).length c4) x.neg.isSome) TP)))
    have HVV := Lib.hid (HV.out.keep K1.out)
    simp only [HC]
    go_upto_region 4 with fail
    generalize w1.alloc (.cells (HL x.pos.num (.slice a1 x.pos.pre.length c1) (.slice a2 x.pos.suf.length c2) (.slice a3 (negPre x).length c3) (.slice a4 (negSuf x).length c4) x.neg.isSome) TP) = w3 at *
    generalize w1.heap.size = n5 at *
    clear C1 B1 K1 HV
    have x5 := XF.out.cell 5
    have x6 := XF.out.cell 6
    have x8 := XF.out.cell 8
    have x9 := XF.out.cell 9
    simp at x5 x6 x8 x9
    have hH : x.pos.num.hash = 0 ∨ 0 < x.pos.num.hash := by omega
    have hF : x.pos.num.maxF = 0 ∨ 0 < x.pos.num.maxF := by omega
    have hG : x.pos.num.grp = 0 ∨ 0 < x.pos.num.grp := by omega
    have hI : x.pos.num.int ≤ 15 ∨ 15 < x.pos.num.int := by omega
    rcases hH with hH | hH
    case inr =>
      have g1 : (0 : Int) < (x.pos.num.hash : Int) := by omega
      have HQE : Hid (.err 3 0 = R) := Lib.hid (by rw [← HQ.out]; unfold cparseQ; rw [HR1.out]; dsimp only; rw [if_pos (by omega)])
      go_wp2_with (refine wpList_store_box (by rfl) TC (.tmp 2) (.tmp 37) (by rfl) w.heap.size CZ CZ TC (by rfl) (by rfl) CF.out cz_info rfl cz_one ?_; intro w5 hx5 hg5)
      refine bodyPost_ret (v := .tuple #[.agg CZ, .int .i64 3, .int .i64 0]) ?_ rfl ?_
      · exact res_cparse hx5 cz_info _ rfl rfl rfl
      · rw [← HQE.out]
        exact ⟨rfl, BF.out.grown hg5 BF.out.size (fun k h => by cases h; exact Nat.le_refl _)⟩
    rcases hF with hF | hF
    case inr =>
      have g1 : ¬ (0 : Int) < (x.pos.num.hash : Int) := by omega
      have g2 : (0 : Int) < (x.pos.num.maxF : Int) := by omega
      have HQE : Hid (.err 3 0 = R) := Lib.hid (by rw [← HQ.out]; unfold cparseQ; rw [HR1.out]; dsimp only; rw [if_pos (by omega)])
      go_wp2_with (refine wpList_store_box (by rfl) TC (.tmp 2) (.tmp 37) (by rfl) w.heap.size CZ CZ TC (by rfl) (by rfl) CF.out cz_info rfl cz_one ?_; intro w5 hx5 hg5)
      refine bodyPost_ret (v := .tuple #[.agg CZ, .int .i64 3, .int .i64 0]) ?_ rfl ?_
      · exact res_cparse hx5 cz_info _ rfl rfl rfl
      · rw [← HQE.out]
        exact ⟨rfl, BF.out.grown hg5 BF.out.size (fun k h => by cases h; exact Nat.le_refl _)⟩
    rcases hG with hG | hG
    case inr =>
      have g1 : ¬ (0 : Int) < (x.pos.num.hash : Int) := by omega
      have g2 : ¬ (0 : Int) < (x.pos.num.maxF : Int) := by omega
      have g3 : (0 : Int) < (x.pos.num.grp : Int) := by omega
      have HQE : Hid (.err 3 0 = R) := Lib.hid (by rw [← HQ.out]; unfold cparseQ; rw [HR1.out]; dsimp only; rw [if_pos (by omega)])
      go_wp2_with (refine wpList_store_box (by rfl) TC (.tmp 2) (.tmp 37) (by rfl) w.heap.size CZ CZ TC (by rfl) (by rfl) CF.out cz_info rfl cz_one ?_; intro w5 hx5 hg5)
      refine bodyPost_ret (v := .tuple #[.agg CZ, .int .i64 3, .int .i64 0]) ?_ rfl ?_
      · exact res_cparse hx5 cz_info _ rfl rfl rfl
      · rw [← HQE.out]
        exact ⟨rfl, BF.out.grown hg5 BF.out.size (fun k h => by cases h; exact Nat.le_refl _)⟩
    rcases hI with hI | hI
    case inr =>
      have g1 : ¬ (0 : Int) < (x.pos.num.hash : Int) := by omega
      have g2 : ¬ (0 : Int) < (x.pos.num.maxF : Int) := by omega
      have g3 : ¬ (0 : Int) < (x.pos.num.grp : Int) := by omega
      have g4 : (15 : Int) < (x.pos.num.int : Int) := by omega
      have HQE : Hid (.err 3 0 = R) := Lib.hid (by rw [← HQ.out]; unfold cparseQ; rw [HR1.out]; dsimp only; rw [if_pos (by omega)])
      go_wp2_with (refine wpList_store_box (by rfl) TC (.tmp 2) (.tmp 37) (by rfl) w.heap.size CZ CZ TC (by rfl) (by rfl) CF.out cz_info rfl cz_one ?_; intro w5 hx5 hg5)
      refine bodyPost_ret (v := .tuple #[.agg CZ, .int .i64 3, .int .i64 0]) ?_ rfl ?_
      · exact res_cparse hx5 cz_info _ rfl rfl rfl
      · rw [← HQE.out]
        exact ⟨rfl, BF.out.grown hg5 BF.out.size (fun k h => by cases h; exact Nat.le_refl _)⟩
    have HQE : Hid (.ok x = R) := Lib.hid (by rw [← HQ.out]; unfold cparseQ; rw [HR1.out]; dsimp only; rw [if_neg (by omega)])
    have g1 : ¬ (0 : Int) < (x.pos.num.hash : Int) := by omega
    have g2 : ¬ (0 : Int) < (x.pos.num.maxF : Int) := by omega
    have g3 : ¬ (0 : Int) < (x.pos.num.grp : Int) := by omega
    have g4 : ¬ (15 : Int) < (x.pos.num.int : Int) := by omega
    clear hH hF hG hI
    go_upto_region 6 with fail
    clear x5 x6 x8 x9 g1 g2 g3 g4
    have HBR := Lib.hid (bare_as x.pos.num a1 a2 a3 a4 x.pos.pre.length x.pos.suf.length (negPre x).length (negSuf x).length c1 c2 c3 c4 x.neg.isSome w3.drew hb1 hb2)
    have XF : Hid (BoxT w3 n5 (HC x.pos.num (.slice a1 x.pos.pre.length c1) (.slice a2 x.pos.suf.length c2) (.slice a3 (negPre x).length c3) (.slice a4 (negSuf x).length c4) x.neg.isSome) TP) := XF
    have HIP := Lib.hid (infoPX (X := HC x.pos.num (.slice a1 x.pos.pre.length c1) (.slice a2 x.pos.suf.length c2) (.slice a3 (negPre x).length c3) (.slice a4 (negSuf x).length c4) x.neg.isSome) rfl)
    have HX6 : Hid ((HC x.pos.num (.slice a1 x.pos.pre.length c1) (.slice a2 x.pos.suf.length c2) (.slice a3 (negPre x).length c3) (.slice a4 (negSuf x).length c4) x.neg.isSome)[6]? = some (.int .i64 (x.pos.num.int : Int))) := Lib.hid rfl
    have HIC := Lib.hid (cc_info (X := CC x.pos.num (bareP x) (.slice a1 x.pos.pre.length c1) (.slice a2 x.pos.suf.length c2) (.slice a3 (negPre x).length c3) (.slice a4 (negSuf x).length c4) x.neg.isSome) rfl)
    have HOC := Lib.hid (cc_one x.pos.num (bareP x) a1 a2 a3 a4 x.pos.pre.length x.pos.suf.length (negPre x).length (negSuf x).length c1 c2 c3 c4 x.neg.isSome)
    have HSC : Hid (CZ.size = (CC x.pos.num (bareP x) (.slice a1 x.pos.pre.length c1) (.slice a2 x.pos.suf.length c2) (.slice a3 (negPre x).length c3) (.slice a4 (negSuf x).length c4) x.neg.isSome).size) := Lib.hid rfl
    have HQF : Hid (∀ w', PatV w' x (.agg (HC x.pos.num (.slice a1 x.pos.pre.length c1) (.slice a2 x.pos.suf.length c2) (.slice a3 (negPre x).length c3) (.slice a4 (negSuf x).length c4) x.neg.isSome)) → CTd w' R (.returned (.tuple #[.agg (CC x.pos.num (bareP x) (.slice a1 x.pos.pre.length c1) (.slice a2 x.pos.suf.length c2) (.slice a3 (negPre x).length c3) (.slice a4 (negSuf x).length c4) x.neg.isSome), .int .i64 0, .int .i64 0]))) := Lib.hid (fun w' h => by rw [← HQE.out]; exact ⟨_, _, _, _, rfl, h⟩)
    obtain ⟨XP, hXP⟩ : ∃ X, X = HC x.pos.num (.slice a1 x.pos.pre.length c1) (.slice a2 x.pos.suf.length c2) (.slice a3 (negPre x).length c3) (.slice a4 (negSuf x).length c4) x.neg.isSome := ⟨_, rfl⟩
    obtain ⟨XC, hXC⟩ : ∃ X, X = CC x.pos.num (bareP x) (.slice a1 x.pos.pre.length c1) (.slice a2 x.pos.suf.length c2) (.slice a3 (negPre x).length c3) (.slice a4 (negSuf x).length c4) x.neg.isSome := ⟨_, rfl⟩
    rw [← hXP] at XF HBR HIP HX6 HVV HQF
    rw [← hXC] at HIC HOC HSC HQF
    have HXP := Lib.hid hXP
    have HXC := Lib.hid hXC
    have HBB : Hid (bareB x.pos.num x.pos.pre.length x.pos.suf.length x.neg.isSome = bareP x) := Lib.hid rfl
    rw [HBB.out] at HBR
    clear hXP hXC HQE HQ HR1
    obtain ⟨y, hy⟩ : ∃ y, y = x.pos.num := ⟨_, rfl⟩
    rw [← hy] at HX6
    have HY := Lib.hid hy
    clear hy
    refine wp_region_held_drew (S := fun w' => BoxT w' n5 XP TP) (by kernel_rfl) (show BoxT w3.drew n5 XP TP from XF.out) (fun hHeld => ?_)
    refine wpAnyH_take (i := 0) (oi := { dst := some 38, op := Go.Op.fieldAddr 27 (Go.Operand.tmp 5) 4, type := 0, pos := "cpat.go:28", after := #[], guard := none }) (v := ?_) rfl (by kernel_rfl) (by kernel_rfl) (by kernel_rfl) (fun _ _ _ h => h) (Or.inl ⟨by rfl, ?_⟩) hHeld ?_
    case refine_2 => (intro w hSw; (try dsimp only at hSw); go_simp <;> with_reducible rfl)
    try simp only [Act.put, List.setIfInBounds_toArray, List.set_cons_zero, List.set_cons_succ]
    refine wpAnyH_take (i := 1) (oi := { dst := some 39, op := Go.Op.load 3 (Go.Operand.tmp 38), type := 3, pos := "cpat.go:28", after := #[{ on := 0, ground := Go.Ground.data }], guard := none }) (v := .int .i64 (y.int : Int)) rfl (by kernel_rfl) (by kernel_rfl) (by kernel_rfl) (fun _ _ _ h => h) (Or.inl ⟨by rfl, ?_⟩) hHeld ?_
    case refine_1 => (intro w hSw; (try dsimp only at hSw); have k6 := (BoxT.cell hSw 6).trans HX6.out; go_simp <;> with_reducible rfl)
    try simp only [Act.put, List.setIfInBounds_toArray, List.set_cons_zero, List.set_cons_succ]
    refine wpAnyH_take (i := 2) (oi := { dst := some 40, op := Go.Op.load 27 (Go.Operand.tmp 5), type := 27, pos := "cpat.go:28", after := #[], guard := none }) (v := .agg XP) rfl (by kernel_rfl) (by kernel_rfl) (by kernel_rfl) (fun _ _ _ h => h) (yieldsIf_load_box (by rfl) TP (.tmp 5) (by rfl) n5 (by rfl) XP TP _ (fun _ h => h) Tryd.underlying27 (by rfl) HIP.out) hHeld ?_
    try simp only [Act.put, List.setIfInBounds_toArray, List.set_cons_zero, List.set_cons_succ]
    refine wpAnyH_take (i := 4) (oi := { dst := some 42, op := Go.Op.load 27 (Go.Operand.tmp 5), type := 27, pos := "cpat.go:28", after := #[], guard := none }) (v := .agg XP) rfl (by kernel_rfl) (by kernel_rfl) (by kernel_rfl) (fun _ _ _ h => h) (yieldsIf_load_box (by rfl) TP (.tmp 5) (by rfl) n5 (by rfl) XP TP _ (fun _ h => h) Tryd.underlying27 (by rfl) HIP.out) hHeld ?_
    try simp only [Act.put, List.setIfInBounds_toArray, List.set_cons_zero, List.set_cons_succ]
    refine wpAnyH_ready (rs := [3]) (by kernel_rfl) (by simp) ?_
    refine AllReadyH.cons (o := { dst := some 41, op := Go.Op.call { callee := Go.Callee.value (Go.Operand.func 12), args := #[Go.Operand.tmp 40], argTypes := #[27] }, type := 4, pos := "cpat.go:28", after := #[{ on := 2, ground := Go.Ground.data }], guard := none }) rfl (fun KK hK => ?_) AllReadyH.nil
    go_simp
    with_reducible refine (HBR.out).mono ?_
    rintro e w4 ⟨rfl, hb⟩
    have X4 := Lib.hid ((show BoxT w3.drew n5 XP TP from XF.out).below hb)
    have C4 := Lib.hid ((show BoxT w3.drew w.heap.size CZ TC from CF.out).below hb)
    have B4 := Lib.hid (BF.out.trans ((Below.trans (Below.refl _ _).drew hb).mono BF.out.size))
    have K4 := Lib.hid ((KeepB.below (T := TPc) (show Below w3.heap.size w3 w3.drew from (Below.refl _ _).drew)).trans (KeepB.below hb))
    clear hb
    go_wp2_with fail
    refine hK.out _ _ X4.out (fun hHeld2 => ?_)
    clear hK hHeld
    have hHeld := hHeld2
    clear hHeld2
    try simp only [Act.put, List.setIfInBounds_toArray, List.set_cons_zero, List.set_cons_succ]
    refine wpAnyH_take (i := 5) (oi := { dst := some 43, op := Go.Op.build 29 #[(0, Go.Operand.tmp 39), (1, Go.Operand.tmp 41), (2, Go.Operand.tmp 42)], type := 29, pos := "cpat.go:28", after := #[{ on := 1, ground := Go.Ground.data }, { on := 3, ground := Go.Ground.data }, { on := 4, ground := Go.Ground.data }], guard := none }) (v := .agg XC) rfl (by kernel_rfl) (by kernel_rfl) (by kernel_rfl) (fun _ _ _ h => h) (Or.inl ⟨by rfl, ?_⟩) hHeld ?_
    case refine_1 => (intro w hSw; rw [HXP.out, HXC.out, ← HY.out]; simp only [HC, CC]; go_simp <;> with_reducible rfl)
    try simp only [Act.put, List.setIfInBounds_toArray, List.set_cons_zero, List.set_cons_succ]
    refine wpAnyH_ready (rs := [6]) (by kernel_rfl) (by simp) ?_
    refine AllReadyH.cons (o := { dst := none, op := Go.Op.store 29 (Go.Operand.tmp 2) (Go.Operand.tmp 43), type := 0, pos := "cpat.go:28", after := #[{ on := 5, ground := Go.Ground.data }, { on := 3, ground := Go.Ground.chain }, { on := 0, ground := Go.Ground.phase }, { on := 1, ground := Go.Ground.phase }, { on := 2, ground := Go.Ground.phase }, { on := 3, ground := Go.Ground.phase }, { on := 4, ground := Go.Ground.phase }, { on := 5, ground := Go.Ground.phase }], guard := none }) rfl (fun KK hK => ?_) AllReadyH.nil
    refine step_store_box (by rfl) TC (.tmp 2) (.tmp 43) (by rfl) w.heap.size CZ XC TC (by rfl) (by rfl) C4.out HIC.out HSC.out HOC.out ?_
    intro w6 hx6 hg6
    have X6 := Lib.hid (X4.out.grown hg6 (fun h => by have := Option.some.inj h; omega))
    refine hK.out _ _ X6.out (fun hHeld2 => ?_)
    clear hK hHeld
    have hHeld := hHeld2
    clear hHeld2
    try simp only [Act.put, List.setIfInBounds_toArray, List.set_cons_zero, List.set_cons_succ]
    refine wpAnyH_take (i := 7) (oi := { dst := some 3, op := Go.Op.assign (Go.Operand.const (Go.Value.int Go.IntKind.i64 0)), type := 30, pos := "cpat.go:28", after := #[{ on := 6, ground := Go.Ground.chain }, { on := 0, ground := Go.Ground.phase }, { on := 1, ground := Go.Ground.phase }, { on := 2, ground := Go.Ground.phase }, { on := 3, ground := Go.Ground.phase }, { on := 4, ground := Go.Ground.phase }, { on := 5, ground := Go.Ground.phase }, { on := 6, ground := Go.Ground.phase }], guard := none }) (v := ?_) rfl (by kernel_rfl) (by kernel_rfl) (by kernel_rfl) (fun _ _ _ h => h) (Or.inl ⟨by rfl, ?_⟩) hHeld ?_
    case refine_2 => (intro w hSw; (try dsimp only at hSw); go_simp <;> with_reducible rfl)
    try simp only [Act.put, List.setIfInBounds_toArray, List.set_cons_zero, List.set_cons_succ]
    refine wpAnyH_take (i := 8) (oi := { dst := some 4, op := Go.Op.assign (Go.Operand.const (Go.Value.int Go.IntKind.i64 0)), type := 3, pos := "cpat.go:28", after := #[{ on := 7, ground := Go.Ground.chain }, { on := 0, ground := Go.Ground.phase }, { on := 1, ground := Go.Ground.phase }, { on := 2, ground := Go.Ground.phase }, { on := 3, ground := Go.Ground.phase }, { on := 4, ground := Go.Ground.phase }, { on := 5, ground := Go.Ground.phase }, { on := 6, ground := Go.Ground.phase }, { on := 7, ground := Go.Ground.phase }], guard := none }) (v := ?_) rfl (by kernel_rfl) (by kernel_rfl) (by kernel_rfl) (fun _ _ _ h => h) (Or.inl ⟨by rfl, ?_⟩) hHeld ?_
    case refine_2 => (intro w hSw; (try dsimp only at hSw); go_simp <;> with_reducible rfl)
    try simp only [Act.put, List.setIfInBounds_toArray, List.set_cons_zero, List.set_cons_succ]
    refine wpAnyH_done (by kernel_rfl) ?_ _
    clear hHeld
    go_wp2
    refine bodyPost_ret (v := .tuple #[.agg XC, .int .i64 0, .int .i64 0]) ?_ rfl ?_
    · exact res_cparse hx6 HIC.out _ rfl rfl rfl
    · exact ⟨HQF.out _ ((HVV.out.keep K4.out).keep (KeepB.of C4.out (by decide) hg6)), B4.out.grown hg6 B4.out.size (fun k h => by cases h; exact Nat.le_refl _)⟩
end Go.Proofs.YtmmllhdphlnpjaaDoor
