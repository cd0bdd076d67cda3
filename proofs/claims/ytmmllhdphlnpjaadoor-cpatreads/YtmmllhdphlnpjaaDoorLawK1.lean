/- The walk of the law CpatReads. -/
import Derived.Test.YtmmllhdphlnpjaaDoorPtU
namespace Florin
theorem grp_ge {h m : Nat} {l r : List UInt8} {x : Nat × Nat × Nat} (hg : grpP h m l = .ok x r) : h ≤ x.1 ∧ m ≤ x.2.1 ∧ h + m + 1 ≤ x.1 + x.2.1 := by
  unfold grpP at hg
  dsimp only at hg
  generalize (if m = 0 then cntP [35] l else 0) = a at hg
  by_cases hne : a + cntP [48] (l.drop a) = 0
  · rw [if_pos hne] at hg; cases hg
  · rw [if_neg hne] at hg
    injection hg with h1 h2
    rw [← h1]
    dsimp only; omega
theorem plc_ge : ∀ (k h m g o : Nat) (l r : List UInt8) (n : NumT), plcL k h m g o l = .ok n r → h + m ≤ n.hash + n.int
  | 0, h, m, g, o, l, r, n, hp => by
    unfold plcL at hp
    injection hp with h1 h2
    rw [← h1]; exact Nat.le_refl _
  | k + 1, h, m, g, o, l, r, n, hp => by
    unfold plcL at hp
    split at hp
    · cases hg : grpP h m (l.drop 1) with
      | bad q => rw [hg] at hp; cases hp
      | ok x q =>
        rw [hg] at hp
        have h1 := grp_ge hg
        have h2 := plc_ge k _ _ _ _ _ _ _ hp
        omega
    · injection hp with h1 h2
      rw [← h1]; exact Nat.le_refl _
theorem num_pos {l r : List UInt8} {n : NumT} (h : numP l = .ok n r) : 0 < n.hash + n.int := by
  unfold numP at h
  cases hg : plcP l with
  | bad q => rw [hg] at h; cases h
  | ok y q =>
    rw [hg] at h
    have hy : 0 < y.hash + y.int := by
      unfold plcP at hg
      cases hr : grpP 0 0 l with
      | bad q2 => rw [hr] at hg; cases hg
      | ok z r1 =>
        rw [hr] at hg
        have h1 := grp_ge hr
        have h2 := plc_ge _ _ _ _ _ _ _ _ hg
        omega
    dsimp only at h
    split at h
    · split at h
      · cases h
      · injection h with h1 _
        rw [← h1]; exact hy
    · injection h with h1 _
      rw [← h1]; exact hy
theorem parse_pos {l : List UInt8} {x : PatT} (h : parseQ l = .ok x) : 0 < x.pos.num.hash + x.pos.num.int := by
  obtain ⟨_, r, h1⟩ := parse_pat h
  obtain ⟨r1, h2, _⟩ := pat_half h1
  obtain ⟨q1, q2, _, h4, _⟩ := half_parts h2
  exact num_pos h4
theorem parse_err {l : List UInt8} {c k : Nat} (h : parseQ l = .err c k) : 0 < c := by
  unfold parseQ at h
  split at h
  · injection h with h1 _; omega
  · split at h
    · injection h with h1 _; omega
    · split at h
      · injection h with h1 _; omega
      · cases h
end Florin
namespace Go.Proofs.YtmmllhdphlnpjaaDoor
open Go.RowKit Florin
set_option linter.unusedVariables false
set_option linter.unusedSimpArgs false
attribute [local go_sem ↓] Go.wp_at_zero Go.wp_at_succ
abbrev XZ : PatT := ⟨⟨[], [], ⟨0, 0, 0, 0, 0, 0⟩⟩, none⟩
theorem patV_zero (w : World) : PatV w XZ (.agg Z0) := ⟨_, _, _, _, rfl, PcL.nil w, PcL.nil w, PcL.nil w, PcL.nil w⟩
theorem bool_self (b : Bool) : (b == b) = true := by cases b <;> rfl
set_option maxRecDepth 100000 in
set_option maxHeartbeats 6400000 in
theorem cpatReads_walk (s : ByteArray) (w : World) (_hs : s.size ≤ maxLen) (hE : EnvP w) :
    Calls Tryd.prog 3 #[.string s] w fun x w' => x = .returned (.bool true) ∧ Below w.heap.size w w' := by
  by_cases hbig : (110 : Int) < (s.size : Int)
  · go_enter Tryd.func3, Tryd.ntmps3
    go_wp2_with fail
    with_reducible refine (head12 _ hE).mono ?_
    rintro x w1 ⟨rfl, hb⟩
    go_wp2
    go_ret
    exact ⟨rfl, hb⟩
  have hls : s.data.toList.length = s.size := size_list s
  have HE := Lib.hid hE
  clear hE
  go_enter Tryd.func3, Tryd.ntmps3
  go_wp2_with fail
  with_reducible refine (head12 _ HE.out).mono ?_
  rintro e w1 ⟨rfl, hb⟩
  have B1 := Lib.hid hb
  have E1 := Lib.hid (HE.out.below hb)
  have hs1 := hb.size
  clear hb
  obtain ⟨R1, hR1⟩ : ∃ R1, parseQ s.data.toList = R1 := ⟨_, rfl⟩
  have HR1 := Lib.hid hR1
  clear hR1
  go_wp2_with fail
  cases R1 with
  | err c k =>
    have hce := parse_err HR1.out
    have hcb : ((c : Int) != 0) = true := by simp; omega
    have HCQ : Hid (cparseQ s.data.toList = .err c k) := Lib.hid (by unfold cparseQ; rw [HR1.out])
    with_reducible refine (cparse_as s _ E1.out _hs (fun x h => parse_len h) (.err c k) HCQ.out).mono ?_
    rintro e w2 ⟨rfl, hb⟩
    have B2 := Lib.hid ((B1.out.trans (hb.mono hs1)).alloc (by have := hb.size; omega) (.cells CZ TC))
    have E2 := Lib.hid ((E1.out.below hb).alloc (.cells CZ TC))
    have X2 := Lib.hid (BoxT.new w2 CZ TC)
    have hs2 := X2.out.lt
    clear hb hce
    go_wp2_with fail
    generalize w2.alloc (.cells CZ TC) = w3 at *
    generalize w2.heap.size = q at *
    with_reducible refine (pparse_as s _ E2.out _hs (.err c k) HR1.out).mono ?_
    rintro e w4 ⟨rfl, hb⟩
    have X4 := Lib.hid ((X2.out.below hb).alloc (.cells Z0 TP))
    have B4 := Lib.hid ((B2.out.trans (hb.mono B2.out.size)).alloc (by have := hb.size; have := B2.out.size; omega) (.cells Z0 TP))
    clear hb X2 B2
    go_upto_region 7 with fail
    generalize w4.alloc (.cells Z0 TP) = w5 at *
    have x0 : w5.cell? ⟨q, 0, none⟩ = some (.int .i64 0) := X4.out.cell 0
    have x1 : w5.cell? ⟨q, 1, none⟩ = some (.bool false) := X4.out.cell 1
    have x2 : w5.cell? ⟨q, 2, none⟩ = some (.slice none 0 0) := X4.out.cell 2
    have x3 : w5.cell? ⟨q, 3, none⟩ = some (.slice none 0 0) := X4.out.cell 3
    have x4 : w5.cell? ⟨q, 4, none⟩ = some (.slice none 0 0) := X4.out.cell 4
    have x5 : w5.cell? ⟨q, 5, none⟩ = some (.slice none 0 0) := X4.out.cell 5
    have x6 : w5.cell? ⟨q, 6, none⟩ = some (.bool false) := X4.out.cell 6
    have x7 : w5.cell? ⟨q, 7, none⟩ = some (.int .i64 0) := X4.out.cell 7
    have x8 : w5.cell? ⟨q, 8, none⟩ = some (.int .i64 0) := X4.out.cell 8
    have x9 : w5.cell? ⟨q, 9, none⟩ = some (.int .i64 0) := X4.out.cell 9
    have x10 : w5.cell? ⟨q, 10, none⟩ = some (.int .i64 0) := X4.out.cell 10
    have x11 : w5.cell? ⟨q, 11, none⟩ = some (.int .i64 0) := X4.out.cell 11
    have x12 : w5.cell? ⟨q, 12, none⟩ = some (.int .i64 0) := X4.out.cell 12
    go_wp2_with fail
    with_reducible refine (psame_as XZ _ _ w5 (patV_zero w5) (patV_zero w5)).mono ?_
    rintro e w6 ⟨rfl, hb⟩
    have B6 := Lib.hid (B4.out.trans (hb.mono B4.out.size))
    clear hb
    go_wp2
    go_ret
    exact ⟨rfl, B6.out⟩
  | ok x =>
    have hpos := parse_pos HR1.out
    by_cases hcond : 0 < x.pos.num.hash ∨ 0 < x.pos.num.maxF ∨ 0 < x.pos.num.grp ∨ 15 < x.pos.num.int
    · have HCQ : Hid (cparseQ s.data.toList = .err 3 0) := Lib.hid (by unfold cparseQ; rw [HR1.out]; dsimp only; rw [if_pos hcond])
      with_reducible refine (cparse_as s _ E1.out _hs (fun x h => parse_len h) (.err 3 0) HCQ.out).mono ?_
      rintro e w2 ⟨rfl, hb⟩
      have B2 := Lib.hid ((B1.out.trans (hb.mono hs1)).alloc (by have := hb.size; omega) (.cells CZ TC))
      have E2 := Lib.hid ((E1.out.below hb).alloc (.cells CZ TC))
      have X2 := Lib.hid (BoxT.new w2 CZ TC)
      have hs2 := X2.out.lt
      clear hb
      go_wp2_with fail
      generalize w2.alloc (.cells CZ TC) = w3 at *
      generalize w2.heap.size = q at *
      with_reducible refine (pparse_as s _ E2.out _hs (.ok x) HR1.out).mono ?_
      rintro e w4 ⟨⟨v, rfl, hv⟩, hb⟩
      obtain ⟨vp, vs, np, ns, rfl, h1, h2, h3, h4⟩ := hv
      obtain ⟨b1, d1, rfl⟩ := h1.slice
      obtain ⟨b2, d2, rfl⟩ := h2.slice
      obtain ⟨b3, d3, rfl⟩ := h3.slice
      obtain ⟨b4, d4, rfl⟩ := h4.slice
      clear h1 h2 h3 h4
      have X4 := Lib.hid ((X2.out.below hb).alloc (.cells #[(.slice b1 x.pos.pre.length d1), (.slice b2 x.pos.suf.length d2), (.slice b3 (negPre x).length d3), (.slice b4 (negSuf x).length d4), .bool x.neg.isSome, .int .i64 (x.pos.num.hash : Int), .int .i64 (x.pos.num.int : Int), .int .i64 (x.pos.num.minF : Int), .int .i64 (x.pos.num.maxF : Int), .int .i64 (x.pos.num.grp : Int), .int .i64 (x.pos.num.more : Int)] TP))
      have B4 := Lib.hid ((B2.out.trans (hb.mono B2.out.size)).alloc (by have := hb.size; have := B2.out.size; omega) (.cells #[(.slice b1 x.pos.pre.length d1), (.slice b2 x.pos.suf.length d2), (.slice b3 (negPre x).length d3), (.slice b4 (negSuf x).length d4), .bool x.neg.isSome, .int .i64 (x.pos.num.hash : Int), .int .i64 (x.pos.num.int : Int), .int .i64 (x.pos.num.minF : Int), .int .i64 (x.pos.num.maxF : Int), .int .i64 (x.pos.num.grp : Int), .int .i64 (x.pos.num.more : Int)] TP))
      have Y4 := Lib.hid (BoxT.new w4 #[(.slice b1 x.pos.pre.length d1), (.slice b2 x.pos.suf.length d2), (.slice b3 (negPre x).length d3), (.slice b4 (negSuf x).length d4), .bool x.neg.isSome, .int .i64 (x.pos.num.hash : Int), .int .i64 (x.pos.num.int : Int), .int .i64 (x.pos.num.minF : Int), .int .i64 (x.pos.num.maxF : Int), .int .i64 (x.pos.num.grp : Int), .int .i64 (x.pos.num.more : Int)] TP)
      clear hb X2 B2
      simp only [HC]
      go_upto_region 7 with fail
      generalize w4.alloc (.cells #[(.slice b1 x.pos.pre.length d1), (.slice b2 x.pos.suf.length d2), (.slice b3 (negPre x).length d3), (.slice b4 (negSuf x).length d4), .bool x.neg.isSome, .int .i64 (x.pos.num.hash : Int), .int .i64 (x.pos.num.int : Int), .int .i64 (x.pos.num.minF : Int), .int .i64 (x.pos.num.maxF : Int), .int .i64 (x.pos.num.grp : Int), .int .i64 (x.pos.num.more : Int)] TP) = w5 at *
      generalize w4.heap.size = q6 at *
      have x0 : w5.cell? ⟨q, 0, none⟩ = some (.int .i64 0) := X4.out.cell 0
      have x1 : w5.cell? ⟨q, 1, none⟩ = some (.bool false) := X4.out.cell 1
      have x2 : w5.cell? ⟨q, 2, none⟩ = some (.slice none 0 0) := X4.out.cell 2
      have x3 : w5.cell? ⟨q, 3, none⟩ = some (.slice none 0 0) := X4.out.cell 3
      have x4 : w5.cell? ⟨q, 4, none⟩ = some (.slice none 0 0) := X4.out.cell 4
      have x5 : w5.cell? ⟨q, 5, none⟩ = some (.slice none 0 0) := X4.out.cell 5
      have x6 : w5.cell? ⟨q, 6, none⟩ = some (.bool false) := X4.out.cell 6
      have x7 : w5.cell? ⟨q, 7, none⟩ = some (.int .i64 0) := X4.out.cell 7
      have x8 : w5.cell? ⟨q, 8, none⟩ = some (.int .i64 0) := X4.out.cell 8
      have x9 : w5.cell? ⟨q, 9, none⟩ = some (.int .i64 0) := X4.out.cell 9
      have x10 : w5.cell? ⟨q, 10, none⟩ = some (.int .i64 0) := X4.out.cell 10
      have x11 : w5.cell? ⟨q, 11, none⟩ = some (.int .i64 0) := X4.out.cell 11
      have x12 : w5.cell? ⟨q, 12, none⟩ = some (.int .i64 0) := X4.out.cell 12
      go_wp2_with fail
      with_reducible refine (psame_as XZ _ _ w5 (patV_zero w5) (patV_zero w5)).mono ?_
      rintro e w6 ⟨rfl, hb⟩
      have B6 := Lib.hid (B4.out.trans (hb.mono B4.out.size))
      have Y6 := Lib.hid (Y4.out.below hb)
      clear hb x0 x1 x2 x3 x4 x5 x6 x7 x8 x9 x10 x11 x12
      have y5 := Y6.out.cell 5
      have y6 := Y6.out.cell 6
      have y8 := Y6.out.cell 8
      have y9 := Y6.out.cell 9
      simp at y5 y6 y8 y9
      have hH : x.pos.num.hash = 0 ∨ 0 < x.pos.num.hash := by omega
      have hF : x.pos.num.maxF = 0 ∨ 0 < x.pos.num.maxF := by omega
      have hG : x.pos.num.grp = 0 ∨ 0 < x.pos.num.grp := by omega
      rcases hH with hH | hH
      case inr =>
        have g1 : (0 : Int) < (x.pos.num.hash : Int) := by omega
        clear hcond hpos hH hF hG
        go_wp2
        go_ret
        exact ⟨rfl, B6.out⟩
      have g1 : ¬ (0 : Int) < (x.pos.num.hash : Int) := by omega
      rcases hF with hF | hF
      case inr =>
        have g2 : (0 : Int) < (x.pos.num.maxF : Int) := by omega
        clear hcond hpos hH hF hG
        go_wp2
        go_ret
        exact ⟨rfl, B6.out⟩
      have g2 : ¬ (0 : Int) < (x.pos.num.maxF : Int) := by omega
      rcases hG with hG | hG
      case inr =>
        have g3 : (0 : Int) < (x.pos.num.grp : Int) := by omega
        clear hcond hpos hH hF hG
        go_wp2
        go_ret
        exact ⟨rfl, B6.out⟩
      have g3 : ¬ (0 : Int) < (x.pos.num.grp : Int) := by omega
      have g4 : (15 : Int) < (x.pos.num.int : Int) := by omega
      clear hcond hpos hH hF hG
      go_wp2
      go_ret
      exact ⟨rfl, B6.out⟩
    · have HCQ : Hid (cparseQ s.data.toList = .ok x) := Lib.hid (by unfold cparseQ; rw [HR1.out]; dsimp only; rw [if_neg hcond])
      have heq : bareP x = (s.toList == [48]) := by
        rw [bare_iff HR1.out (by omega) (by omega) (by omega)]
        rw [ByteArray.toList_eq, Bool.eq_iff_iff]
        simp
      have HEQ := Lib.hid heq
      clear heq
      with_reducible refine (cparse_as s _ E1.out _hs (fun x h => parse_len h) (.ok x) HCQ.out).mono ?_
      rintro e w2 ⟨⟨vp, vs, np, ns, rfl, hv⟩, hb⟩
      have HV := Lib.hid hv
      obtain ⟨h1, h2, h3, h4⟩ := patV_lists hv
      obtain ⟨a1, c1, rfl⟩ := h1.slice
      obtain ⟨a2, c2, rfl⟩ := h2.slice
      obtain ⟨a3, c3, rfl⟩ := h3.slice
      obtain ⟨a4, c4, rfl⟩ := h4.slice
      have B2 := Lib.hid ((B1.out.trans (hb.mono hs1)).alloc (by have := hb.size; omega) (.cells #[.int .i64 (x.pos.num.int : Int), .bool (bareP x), (.slice a1 x.pos.pre.length c1), (.slice a2 x.pos.suf.length c2), (.slice a3 (negPre x).length c3), (.slice a4 (negSuf x).length c4), .bool x.neg.isSome, .int .i64 (x.pos.num.hash : Int), .int .i64 (x.pos.num.int : Int), .int .i64 (x.pos.num.minF : Int), .int .i64 (x.pos.num.maxF : Int), .int .i64 (x.pos.num.grp : Int), .int .i64 (x.pos.num.more : Int)] TC))
      have E2 := Lib.hid ((E1.out.below hb).alloc (.cells #[.int .i64 (x.pos.num.int : Int), .bool (bareP x), (.slice a1 x.pos.pre.length c1), (.slice a2 x.pos.suf.length c2), (.slice a3 (negPre x).length c3), (.slice a4 (negSuf x).length c4), .bool x.neg.isSome, .int .i64 (x.pos.num.hash : Int), .int .i64 (x.pos.num.int : Int), .int .i64 (x.pos.num.minF : Int), .int .i64 (x.pos.num.maxF : Int), .int .i64 (x.pos.num.grp : Int), .int .i64 (x.pos.num.more : Int)] TC))
      have X2 := Lib.hid (BoxT.new w2 #[.int .i64 (x.pos.num.int : Int), .bool (bareP x), (.slice a1 x.pos.pre.length c1), (.slice a2 x.pos.suf.length c2), (.slice a3 (negPre x).length c3), (.slice a4 (negSuf x).length c4), .bool x.neg.isSome, .int .i64 (x.pos.num.hash : Int), .int .i64 (x.pos.num.int : Int), .int .i64 (x.pos.num.minF : Int), .int .i64 (x.pos.num.maxF : Int), .int .i64 (x.pos.num.grp : Int), .int .i64 (x.pos.num.more : Int)] TC)
      have V2 := Lib.hid (HV.out.keep (KeepB.below (below_alloc w2 (.cells #[.int .i64 (x.pos.num.int : Int), .bool (bareP x), (.slice a1 x.pos.pre.length c1), (.slice a2 x.pos.suf.length c2), (.slice a3 (negPre x).length c3), (.slice a4 (negSuf x).length c4), .bool x.neg.isSome, .int .i64 (x.pos.num.hash : Int), .int .i64 (x.pos.num.int : Int), .int .i64 (x.pos.num.minF : Int), .int .i64 (x.pos.num.maxF : Int), .int .i64 (x.pos.num.grp : Int), .int .i64 (x.pos.num.more : Int)] TC))))
      have hs2 := X2.out.lt
      clear hb hv h1 h2 h3 h4 HV
      simp only [CC]
      go_wp2_with fail
      generalize w2.alloc (.cells #[.int .i64 (x.pos.num.int : Int), .bool (bareP x), (.slice a1 x.pos.pre.length c1), (.slice a2 x.pos.suf.length c2), (.slice a3 (negPre x).length c3), (.slice a4 (negSuf x).length c4), .bool x.neg.isSome, .int .i64 (x.pos.num.hash : Int), .int .i64 (x.pos.num.int : Int), .int .i64 (x.pos.num.minF : Int), .int .i64 (x.pos.num.maxF : Int), .int .i64 (x.pos.num.grp : Int), .int .i64 (x.pos.num.more : Int)] TC) = w3 at *
      generalize w2.heap.size = q at *
      with_reducible refine (pparse_as s _ E2.out _hs (.ok x) HR1.out).mono ?_
      rintro e w4 ⟨⟨v, rfl, hv⟩, hb⟩
      have HU := Lib.hid hv
      obtain ⟨vp, vs, np, ns, rfl, h1, h2, h3, h4⟩ := hv
      obtain ⟨b1, d1, rfl⟩ := h1.slice
      obtain ⟨b2, d2, rfl⟩ := h2.slice
      obtain ⟨b3, d3, rfl⟩ := h3.slice
      obtain ⟨b4, d4, rfl⟩ := h4.slice
      clear h1 h2 h3 h4
      have X4 := Lib.hid ((X2.out.below hb).alloc (.cells #[(.slice b1 x.pos.pre.length d1), (.slice b2 x.pos.suf.length d2), (.slice b3 (negPre x).length d3), (.slice b4 (negSuf x).length d4), .bool x.neg.isSome, .int .i64 (x.pos.num.hash : Int), .int .i64 (x.pos.num.int : Int), .int .i64 (x.pos.num.minF : Int), .int .i64 (x.pos.num.maxF : Int), .int .i64 (x.pos.num.grp : Int), .int .i64 (x.pos.num.more : Int)] TP))
      have V4 := Lib.hid ((V2.out.keep (KeepB.below hb)).keep (KeepB.below (below_alloc w4 (.cells #[(.slice b1 x.pos.pre.length d1), (.slice b2 x.pos.suf.length d2), (.slice b3 (negPre x).length d3), (.slice b4 (negSuf x).length d4), .bool x.neg.isSome, .int .i64 (x.pos.num.hash : Int), .int .i64 (x.pos.num.int : Int), .int .i64 (x.pos.num.minF : Int), .int .i64 (x.pos.num.maxF : Int), .int .i64 (x.pos.num.grp : Int), .int .i64 (x.pos.num.more : Int)] TP))))
      have U4 := Lib.hid (HU.out.keep (KeepB.below (below_alloc w4 (.cells #[(.slice b1 x.pos.pre.length d1), (.slice b2 x.pos.suf.length d2), (.slice b3 (negPre x).length d3), (.slice b4 (negSuf x).length d4), .bool x.neg.isSome, .int .i64 (x.pos.num.hash : Int), .int .i64 (x.pos.num.int : Int), .int .i64 (x.pos.num.minF : Int), .int .i64 (x.pos.num.maxF : Int), .int .i64 (x.pos.num.grp : Int), .int .i64 (x.pos.num.more : Int)] TP))))
      have B4 := Lib.hid ((B2.out.trans (hb.mono B2.out.size)).alloc (by have := hb.size; have := B2.out.size; omega) (.cells #[(.slice b1 x.pos.pre.length d1), (.slice b2 x.pos.suf.length d2), (.slice b3 (negPre x).length d3), (.slice b4 (negSuf x).length d4), .bool x.neg.isSome, .int .i64 (x.pos.num.hash : Int), .int .i64 (x.pos.num.int : Int), .int .i64 (x.pos.num.minF : Int), .int .i64 (x.pos.num.maxF : Int), .int .i64 (x.pos.num.grp : Int), .int .i64 (x.pos.num.more : Int)] TP))
      have Y4 := Lib.hid (BoxT.new w4 #[(.slice b1 x.pos.pre.length d1), (.slice b2 x.pos.suf.length d2), (.slice b3 (negPre x).length d3), (.slice b4 (negSuf x).length d4), .bool x.neg.isSome, .int .i64 (x.pos.num.hash : Int), .int .i64 (x.pos.num.int : Int), .int .i64 (x.pos.num.minF : Int), .int .i64 (x.pos.num.maxF : Int), .int .i64 (x.pos.num.grp : Int), .int .i64 (x.pos.num.more : Int)] TP)
      clear hb X2 B2 V2 HU
      simp only [HC]
      go_upto_region 7 with fail
      generalize w4.alloc (.cells #[(.slice b1 x.pos.pre.length d1), (.slice b2 x.pos.suf.length d2), (.slice b3 (negPre x).length d3), (.slice b4 (negSuf x).length d4), .bool x.neg.isSome, .int .i64 (x.pos.num.hash : Int), .int .i64 (x.pos.num.int : Int), .int .i64 (x.pos.num.minF : Int), .int .i64 (x.pos.num.maxF : Int), .int .i64 (x.pos.num.grp : Int), .int .i64 (x.pos.num.more : Int)] TP) = w5 at *
      generalize w4.heap.size = q6 at *
      have x0 := X4.out.cell 0
      have x1 := X4.out.cell 1
      have x2 := X4.out.cell 2
      have x3 := X4.out.cell 3
      have x4 := X4.out.cell 4
      have x5 := X4.out.cell 5
      have x6 := X4.out.cell 6
      have x7 := X4.out.cell 7
      have x8 := X4.out.cell 8
      have x9 := X4.out.cell 9
      have x10 := X4.out.cell 10
      have x11 := X4.out.cell 11
      have x12 := X4.out.cell 12
      have y0 := Y4.out.cell 0
      have y1 := Y4.out.cell 1
      have y2 := Y4.out.cell 2
      have y3 := Y4.out.cell 3
      have y4 := Y4.out.cell 4
      have y5 := Y4.out.cell 5
      have y6 := Y4.out.cell 6
      have y7 := Y4.out.cell 7
      have y8 := Y4.out.cell 8
      have y9 := Y4.out.cell 9
      have y10 := Y4.out.cell 10
      simp at x0 x1 x2 x3 x4 x5 x6 x7 x8 x9 x10 x11 x12 y0 y1 y2 y3 y4 y5 y6 y7 y8 y9 y10
      have g0 : ((x.pos.num.int : Int) == 0) = false := by simp; omega
      have g1 : ¬ (0 : Int) < (x.pos.num.hash : Int) := by omega
      have g2 : ¬ (0 : Int) < (x.pos.num.maxF : Int) := by omega
      have g3 : ¬ (0 : Int) < (x.pos.num.grp : Int) := by omega
      have g4 : ¬ (15 : Int) < (x.pos.num.int : Int) := by omega
      have VV := Lib.hid V4.out
      have UU := Lib.hid U4.out
      have hh0 : x.pos.num.hash = 0 := by omega
      have hf0 : x.pos.num.maxF = 0 := by omega
      have hg0 : x.pos.num.grp = 0 := by omega
      simp [HC, hh0, hf0, hg0] at VV UU
      clear hh0 hf0 hg0
      have hbb := bool_self (bareP x)
      clear hcond hpos
      go_upto_region 12 with fail
      have heq := HEQ.out
      go_wp2_with fail
      with_reducible refine (psame_as x _ _ w5 VV.out UU.out).mono ?_
      rintro e w6 ⟨rfl, hb⟩
      have B6 := Lib.hid (B4.out.trans (hb.mono B4.out.size))
      clear hb
      go_wp2
      go_ret
      exact ⟨rfl, B6.out⟩
end Go.Proofs.YtmmllhdphlnpjaaDoor
