/- The tables of the law's own: the first. -/
import Derived.Test.YtkbigfkpgjhojaaTdG
namespace Go.Proofs.Ytkbigfkpgjhojaa
open Go.RowKit Florin
set_option linter.unusedVariables false
set_option linter.unusedSimpArgs false
attribute [local go_sem ↓] Go.wp_at_zero Go.wp_at_succ
def BX0 : Array Value := #[S [48], S [49], S [50], S [51], S [52], S [53], S [54], S [55], S [56], S [57], .string ⟨#[45]⟩, .string ⟨#[43]⟩, .string ⟨#[37]⟩, .string ⟨#[226, 128, 176]⟩, .string ⟨#[46]⟩, .string ⟨#[44]⟩, .int .i64 1, .string ⟨#[35, 44, 35, 35, 48, 46, 35, 35, 35]⟩, .string ⟨#[35, 44, 35, 35, 48, 37]⟩, .string ⟨#[194, 164, 35, 44, 35, 35, 48, 46, 48, 48]⟩, .string ⟨#[194, 164, 35, 44, 35, 35, 48, 46, 48, 48, 59, 40, 194, 164, 35, 44, 35, 35, 48, 46, 48, 48, 41]⟩, .string ⟨#[111, 110, 101, 58, 32, 105, 32, 61, 32, 49, 32, 97, 110, 100, 32, 118, 32, 61, 32, 48]⟩, .slice none 0 0, .slice none 0 0, .slice none 0 0, .slice none 0 0, .slice none 0 0, .slice none 0 0, .string ⟨#[]⟩, .string ⟨#[]⟩, .string ⟨#[]⟩, .string ⟨#[]⟩, .string ⟨#[]⟩, .string ⟨#[]⟩]
theorem BX0_size : BX0.size = 34 := rfl
theorem BX0_one : BX0.all (·.oneCell') = true := by simp [BX0, Value.oneCell']
theorem BX0_info : (Try.prog.info? TTb).map (·.size) = some BX0.size := Z34_info.trans rfl
theorem Xinfo {X : Array Value} (h : X.size = 34) : (Try.prog.info? TTb).map (·.size) = some X.size := Z34_info.trans (by rw [h]; rfl)
def LIT7 : Array Value := #[.string ⟨#[48, 75]⟩, .string ⟨#[48, 48, 75]⟩, .string ⟨#[48, 48, 48, 75]⟩, .string ⟨#[48, 77]⟩, .string ⟨#[48, 48, 77]⟩, .string ⟨#[48, 48, 48, 77]⟩, .string ⟨#[48, 66]⟩]
theorem lit7_at (k : Nat) (h : k < 7) : ∃ t : List UInt8, LIT7[k]? = some (S t) ∧ t.length ≤ 4 := by
  match k, h with
  | 0, _ => exact ⟨_, rfl, by decide⟩
  | 1, _ => exact ⟨_, rfl, by decide⟩
  | 2, _ => exact ⟨_, rfl, by decide⟩
  | 3, _ => exact ⟨_, rfl, by decide⟩
  | 4, _ => exact ⟨_, rfl, by decide⟩
  | 5, _ => exact ⟨_, rfl, by decide⟩
  | 6, _ => exact ⟨_, rfl, by decide⟩
  | n + 7, h => exact absurd h (by omega)
theorem lone_any (s : ByteArray) (w : World) : Calls Try.prog 29 #[.string s] w fun e w' => (∃ v, e = .returned (.slice (some ⟨v, 0, none⟩) 1 1)) ∧ Below w.heap.size w w' := by
  have HB := Lib.hid ((Below.refl w.heap.size w).alloc (Nat.le_refl _) (.cells #[.int .i64 5, .string s] 56))
  go_enter Try.func29, Try.ntmps29
  go_wp2
  go_ret
  exact ⟨⟨_, rfl⟩, HB.out⟩
theorem ltwo_any (s t : ByteArray) (w : World) : Calls Try.prog 30 #[.string s, .string t] w fun e w' => (∃ v, e = .returned (.slice (some ⟨v, 0, none⟩) 2 2)) ∧ Below w.heap.size w w' := by
  have HB := Lib.hid ((Below.refl w.heap.size w).alloc (Nat.le_refl _) (.cells #[.int .i64 1, .string s, .int .i64 5, .string t] 56))
  go_enter Try.func30, Try.ntmps30
  go_wp2
  go_ret
  exact ⟨⟨_, rfl⟩, HB.out⟩
theorem BB.ex {w : World} {base q : Nat} {X : Array Value} {vA vB : Value} {nA nB : Nat} (h : BB w base q X vA vB nA nB) : ∃ X', BB w base q X' vA vB nA nB := ⟨X, h⟩
theorem below_setq {w W : World} {q i : Nat} {v : Value} (h : Below w.heap.size w W) (hq : w.heap.size ≤ q) : Below w.heap.size w (W.setCell ⟨q, i, none⟩ v) := below_grown h h.size hq (grown_setq q i v)
theorem res_base {w : World} {q : Nat} {X : Array Value} (h : BoxT w q X TTb) (hi : (Try.prog.info? TTb).map (·.size) = some X.size) (tm : Array Value) (h2 : tm[2]?.getD undef = .pointer (some ⟨q, 0, none⟩)) :
    (results Try.f10 tm).run Try.prog w = .ok (.agg X) w := by
  have hld := run_loadVar_box (P := Try.prog) h Try.underlying31 (by rfl) hi
  simp [results, Try.results10, h2, asAddr, hld]
theorem drewL {w w' : World} (h : Below w.drew.heap.size w.drew w') : Below w.heap.size w w' := ((Below.refl w.heap.size w).drew).trans h
set_option maxRecDepth 100000 in
set_option maxHeartbeats 12800000 in
theorem lbase_as (w : World) :
    Calls Try.prog 10 #[.int .i64 0] w fun e w' => (∃ X : Array Value, e = .returned (.agg X) ∧ X.size = 34 ∧ X[0]? = some (S [48])) ∧ Below w.heap.size w w' := by
  have HQ := Lib.hid (BoxT.new w Z34 TTb)
  have HB := Lib.hid ((Below.refl w.heap.size w).alloc (Nat.le_refl _) (.cells Z34 TTb))
  go_enter Try.func10, Try.ntmps10
  go_wp2_with fail
  rw [Z34_eq] at *
  have hsz0 : (w.alloc (.cells Z34 TTb)).heap.size = w.heap.size + 1 := by simp
  generalize w.alloc (.cells Z34 TTb) = w0 at *
  with_reducible refine (gplain_as w0).mono ?_
  rintro e w1 ⟨rfl, hb1⟩
  have HQ1 := Lib.hid (HQ.out.below hb1)
  have HB1 := Lib.hid (HB.out.trans (hb1.mono HB.out.size))
  have hs1 := hb1.size
  clear hb1 HQ HB
  have HT := Lib.hid (BoxT.new w1 Z34 TTb)
  rw [← Z34_eq] at HT
  go_wp2_with (refine wpList_store_box (by rfl) TTb (.tmp 3) (.tmp 8) (by rfl) w1.heap.size _ BX0 TTb (by rfl) (by rfl) HT.out BX0_info rfl BX0_one ?_; intro w2 hx2 hg2)
  obtain ⟨i0, hi, hz0, hz1, hz2⟩ := info_parts infoRw
  have HB2 := Lib.hid (below_grown (HB1.out.alloc HB1.out.size (.cells Z34 TTb)) (by simp; have := HB1.out.size; omega) HB1.out.size hg2)
  have hwq : w.heap.size < w1.heap.size := by omega
  have HX2 := Lib.hid hx2
  have HQ2 := Lib.hid ((HQ1.out.alloc (.cells Z34 TTb)).grown hg2 (by intro e; injection e; omega))
  have BB2 : Hid (BB w2 w.heap.size w1.heap.size BX0 (.slice none 0 0) (.slice none 0 0) 0 0) := Lib.hid ⟨HX2.out, rfl, rfl, rfl, rfl, BX0_one, ⟨[], rfl, .inl ⟨rfl, rfl⟩⟩, ⟨[], rfl, .inl ⟨rfl, rfl⟩⟩, fun j h => by cases h⟩
  have HL2 := Lib.hid (BoxT.new w2 LIT7 9)
  have BB3 := Lib.hid (BB2.out.alloc (.cells LIT7 9))
  have HQ3 := Lib.hid (HQ2.out.alloc (.cells LIT7 9))
  have HB3 := Lib.hid (HB2.out.alloc HB2.out.size (.cells LIT7 9))
  clear hx2 hg2 HX2 HQ2 BB2 HB2 HT HQ1 HB1
  rw [show w2.alloc (.cells #[.string ⟨#[48, 75]⟩, .string ⟨#[48, 48, 75]⟩, .string ⟨#[48, 48, 48, 75]⟩, .string ⟨#[48, 77]⟩, .string ⟨#[48, 48, 77]⟩, .string ⟨#[48, 48, 48, 77]⟩, .string ⟨#[48, 66]⟩] 9) = w2.alloc (.cells LIT7 9) from rfl] at *
  generalize w2.alloc (.cells LIT7 9) = w3 at *
  generalize w2.heap.size = lb at *
  generalize w1.heap.size = q at *
  go_loopw [11] (fun i wr => ∃ (k : Nat) (X : Array Value) (vA vB : Value), k ≤ 7 ∧ i = .int .i64 (k : Int) ∧ BB wr w.heap.size q X vA vB k k ∧ BoxT wr lb LIT7 9 ∧ BoxT wr w.heap.size Z34 TTb ∧ Below w.heap.size w wr) (fun i _ => 7 - (intOf i).toNat)
  case atStart => exact ⟨0, BX0, _, _, Nat.zero_le _, rfl, BB3.out, HL2.out, HQ3.out, HB3.out⟩
  case round =>
    obtain ⟨k, X, vA, vB, hk, rfl, hbb, hlb, hqb, hb⟩ := hrel
    have HBB := Lib.hid hbb
    have HLB := Lib.hid hlb
    have HQB := Lib.hid hqb
    have HB := Lib.hid hb
    have hws := hb.size
    clear hbb hlb hqb hb BB3 HL2 HQ3 HB3
    by_cases hlt : k < 7
    · obtain ⟨t, ht, htl⟩ := lit7_at k hlt
      have hki : (k : Int) < 7 := by omega
      have pl : wr.cell? ⟨lb, k, none⟩ = some (S t) := (HLB.out.cell k).trans ht
      obtain ⟨xs, hxs⟩ := HBB.out.oA
      have HXS := Lib.hid hxs
      clear ht hxs
      go_wp2_with fail
      have d0 : wr.drew.cell? ⟨q, 22, none⟩ = some vA := (HBB.out.drew.box.cell 22).trans HBB.out.xA
      go_region_law (first | (go_simp; go_at_call 29; (with_reducible refine (lone_as t _).mono ?_); rintro y w4 ⟨⟨gv, rfl⟩, hb4⟩; have e0 : w4.cell? ⟨q, 22, none⟩ = some vA := ((HBB.out.drew.below hb4).box.cell 22).trans HBB.out.xA; have e1 : (w4.alloc (.cells #[.int .i64 (IntKind.i64.wrap (3 + (k : Int))), .slice (some ⟨gv, 0, none⟩) 1 1] TRw)).cell? ⟨q, 22, none⟩ = some vA := (((HBB.out.drew.below hb4).alloc _).box.cell 22).trans HBB.out.xA) | (refine step_append_lies _ (by rfl) _ _ _ (by rfl) w.heap.size TRw i0 (.agg #[.int .i64 0, .slice none 0 0]) 2 32 Try.underlying24 hi hz0 hz1 hz2 (by rfl) (by omega) vA k xs (by rfl) ((own_keep HXS.out (KeepB.below (drewL hb4))).alloc _) ⟨_, 0, none⟩ 1 1 [_, _] (by rfl) (by rfl) (World.news_of_block (heap_alloc_new _ _)) (by simp [Value.oneCell']) (by omega) (by unfold maxLen; omega) (by omega) (by have := hb4.size; simp at this ⊢; omega) _ rfl ?_; intro g cap w5 hown hgr hat hlt5; have BF := Lib.hid (((HBB.out.drew.below hb4).alloc _).appA ((own_keep HXS.out (KeepB.below (drewL hb4))).alloc _) hgr hown hat); have fB := Lib.hid (KeepB.own (T := TTb) ((own_keep HXS.out (KeepB.below (drewL hb4))).alloc _) (by decide) hgr q X ((HBB.out.drew.below hb4).alloc _).box); have f0 := (fB.out.cell 22).trans HBB.out.xA; have fz0 := fB.out.frozen 22; have fl := fB.out.lt))
      all_goals (
        have HOX := Lib.hid hgr
        have HL6 := Lib.hid (BoxT.other (a := ⟨q, 22, none⟩) (KeepB.own (T := 9) ((own_keep HXS.out (KeepB.below (drewL hb4))).alloc _) (by decide) hgr lb LIT7 ((HLB.out.below (drewL hb4)).alloc _)) (HLB.out.apart HBB.out.box (by decide)) (.slice (some ⟨g, 0, none⟩) (k + 1) cap))
        have HQ6 := Lib.hid (BoxT.other (a := ⟨q, 22, none⟩) (KeepB.own (T := TTb) ((own_keep HXS.out (KeepB.below (drewL hb4))).alloc _) (by decide) hgr w.heap.size Z34 ((HQB.out.below (drewL hb4)).alloc _)) (by simp; omega) (.slice (some ⟨g, 0, none⟩) (k + 1) cap))
        have HB6 := Lib.hid (below_grown ((((HB.out.trans ((drewL hb4).mono hws)).alloc (by have := (drewL hb4).size; omega) _)).grown hgr (by have := (drewL hb4).size; simp; omega) (fun j hj => (World.ownsRow.lt HXS.out j hj).1)) (by have := (drewL hb4).size; have := hgr.size; simp at this; omega) (by omega) (grown_setq q 22 (.slice (some ⟨g, 0, none⟩) (k + 1) cap)))
        have B6 := Lib.hid BF.out
        clear d0 e0 e1 f0 fz0 fl fB hown hgr hat hlt5 hb4 HBB HLB HQB HB HXS HOX BF pl
        generalize w5.setCell ⟨q, 22, none⟩ (.slice (some ⟨g, 0, none⟩) (k + 1) cap) = w6 at *
        obtain ⟨ys, hys⟩ := B6.out.oB
        have HYS := Lib.hid hys
        have hws6 := HB6.out.size
        have hs2 : ¬ 9223372036854775807 < 2 + t.length := by omega
        clear hys
        go_wp2_with fail
        have d0 : w6.drew.cell? ⟨q, 24, none⟩ = some vB := (B6.out.drew.box.cell 24).trans B6.out.xB
        go_region_law (first | (refine step_append_lies _ (by rfl) _ _ _ (by rfl) w.heap.size TRw i0 (.agg #[.int .i64 0, .slice none 0 0]) 2 32 Try.underlying24 hi hz0 hz1 hz2 (by rfl) (by omega) vB k ys (by rfl) ((own_keep HYS.out (KeepB.below (drewL hb4))).alloc _) ⟨_, 0, none⟩ 1 1 [_, _] (by rfl) (by rfl) (World.news_of_block (heap_alloc_new _ _)) (by simp [Value.oneCell']) (by omega) (by unfold maxLen; omega) (by omega) (by have := hb4.size; simp at this ⊢; omega) _ rfl ?_; intro g2 cap2 w9 hown hgr hat hlt5; have BF := Lib.hid (((B6.out.drew.below hb4).alloc _).appB ((own_keep HYS.out (KeepB.below (drewL hb4))).alloc _) hgr hown hat); have fB := Lib.hid (KeepB.own (T := TTb) ((own_keep HYS.out (KeepB.below (drewL hb4))).alloc _) (by decide) hgr q _ ((B6.out.drew.below hb4).alloc _).box); have f0 := (fB.out.cell 24).trans B6.out.xB; have fz0 := fB.out.frozen 24; have fl := fB.out.lt) | (go_simp; go_at_call 29; (with_reducible refine (lone_any _ _).mono ?_); rintro y w8 ⟨⟨gv2, rfl⟩, hb4⟩; have e0 : w8.cell? ⟨q, 24, none⟩ = some vB := ((B6.out.drew.below hb4).box.cell 24).trans B6.out.xB; have e1 : (w8.alloc (.cells #[.int .i64 (IntKind.i64.wrap (3 + (k : Int))), .slice (some ⟨gv2, 0, none⟩) 1 1] TRw)).cell? ⟨q, 24, none⟩ = some vB := (((B6.out.drew.below hb4).alloc _).box.cell 24).trans B6.out.xB))
        all_goals (
          have HLF := Lib.hid (BoxT.other (a := ⟨q, 24, none⟩) (KeepB.own (T := 9) ((own_keep HYS.out (KeepB.below (drewL hb4))).alloc _) (by decide) hgr lb LIT7 ((HL6.out.below (drewL hb4)).alloc _)) (HL6.out.apart B6.out.box (by decide)) (.slice (some ⟨g2, 0, none⟩) (k + 1) cap2))
          have HQF := Lib.hid (BoxT.other (a := ⟨q, 24, none⟩) (KeepB.own (T := TTb) ((own_keep HYS.out (KeepB.below (drewL hb4))).alloc _) (by decide) hgr w.heap.size Z34 ((HQ6.out.below (drewL hb4)).alloc _)) (by simp; omega) (.slice (some ⟨g2, 0, none⟩) (k + 1) cap2))
          have HBF := Lib.hid (below_grown ((((HB6.out.trans ((drewL hb4).mono hws6)).alloc (by have := (drewL hb4).size; omega) _)).grown hgr (by have := (drewL hb4).size; simp; omega) (fun j hj => (World.ownsRow.lt HYS.out j hj).1)) (by have := (drewL hb4).size; have := hgr.size; simp at this; omega) (by omega) (grown_setq q 24 (.slice (some ⟨g2, 0, none⟩) (k + 1) cap2)))
          clear d0 e0 e1 f0 fz0 fl fB hown hgr hat hlt5 hb4 HL6 HQ6 HB6 B6 HYS hws6 hs2
          generalize w9.setCell ⟨q, 24, none⟩ (.slice (some ⟨g2, 0, none⟩) (k + 1) cap2) = w10 at *
          go_wp2
          go_roundw
          case rel => exact ⟨k + 1, _, _, _, by omega, by go_num, BF.out, HLF.out, HQF.out, HBF.out⟩
          case measure => simp [intOf]; omega))
    · obtain rfl : k = 7 := by omega
      have hws := HB.out.size
      go_wp2_with fail
      with_reducible refine (ltwo_any _ _ _).mono ?_
      rintro y c1 ⟨⟨v1, rfl⟩, hb⟩
      have HBB2 := Lib.hid (HBB.out.below hb)
      have HQB2 := Lib.hid (HQB.out.below hb)
      have HB2 := Lib.hid (HB.out.trans (hb.mono HB.out.size))
      have hws2 := HB2.out.size
      clear hb HBB HQB HB hws
      have HBB := HBB2
      have HQB := HQB2
      have HB := HB2
      have hws := hws2
      clear HBB2 HQB2 HB2 hws2
      go_wp2_with fail
      with_reducible refine (ltwo_any _ _ _).mono ?_
      rintro y c2 ⟨⟨v2, rfl⟩, hb⟩
      have HBB2 := Lib.hid (HBB.out.below hb)
      have HQB2 := Lib.hid (HQB.out.below hb)
      have HB2 := Lib.hid (HB.out.trans (hb.mono HB.out.size))
      have hws2 := HB2.out.size
      clear hb HBB HQB HB hws
      have HBB := HBB2
      have HQB := HQB2
      have HB := HB2
      have hws := hws2
      clear HBB2 HQB2 HB2 hws2
      have HX1 := Lib.hid (HBB.out.alloc (.cells #[.int .i64 3, .slice (some ⟨v1, 0, none⟩) 2 2, .int .i64 6, .slice (some ⟨v2, 0, none⟩) 2 2] TRw))
      obtain ⟨u, hu⟩ : ∃ u, _ = some u := ⟨_, Array.getElem?_eq_getElem (show 23 < _ by rw [HBB.out.size]; decide)⟩
      have f0 : (c2.alloc (.cells #[.int .i64 3, .slice (some ⟨v1, 0, none⟩) 2 2, .int .i64 6, .slice (some ⟨v2, 0, none⟩) 2 2] TRw)).cell? ⟨q, 23, none⟩ = some u := (HX1.out.box.cell 23).trans hu
      have fz := HX1.out.box.frozen 23
      have fl := HX1.out.box.lt
      go_wp2_with fail
      have HBB2 := Lib.hid (HX1.out.setq 23 (.slice (some ⟨c2.heap.size, 0, none⟩) 2 2) rfl (by decide) (by decide) (by decide))
      have HQB2 := Lib.hid (BoxT.other (a := ⟨q, 23, none⟩) (HQB.out.alloc (.cells #[.int .i64 3, .slice (some ⟨v1, 0, none⟩) 2 2, .int .i64 6, .slice (some ⟨v2, 0, none⟩) 2 2] TRw)) (by simp; omega) (.slice (some ⟨c2.heap.size, 0, none⟩) 2 2))
      have HB2 := Lib.hid (below_grown (HB.out.alloc hws (.cells #[.int .i64 3, .slice (some ⟨v1, 0, none⟩) 2 2, .int .i64 6, .slice (some ⟨v2, 0, none⟩) 2 2] TRw)) (by simp; omega) (by omega) (grown_setq q 23 (.slice (some ⟨c2.heap.size, 0, none⟩) 2 2)))
      have hws2 := HB2.out.size
      clear HX1 f0 fz fl hu HBB HQB HB hws
      have HBB := HBB2
      have HQB := HQB2
      have HB := HB2
      have hws := hws2
      clear HBB2 HQB2 HB2 hws2
      generalize (c2.alloc (.cells #[.int .i64 3, .slice (some ⟨v1, 0, none⟩) 2 2, .int .i64 6, .slice (some ⟨v2, 0, none⟩) 2 2] TRw)).setCell ⟨q, 23, none⟩ (.slice (some ⟨c2.heap.size, 0, none⟩) 2 2) = c3 at *
      with_reducible refine (ltwo_any _ _ _).mono ?_
      rintro y c4 ⟨⟨v3, rfl⟩, hb⟩
      have HBB2 := Lib.hid (HBB.out.below hb)
      have HQB2 := Lib.hid (HQB.out.below hb)
      have HB2 := Lib.hid (HB.out.trans (hb.mono HB.out.size))
      have hws2 := HB2.out.size
      clear hb HBB HQB HB hws
      have HBB := HBB2
      have HQB := HQB2
      have HB := HB2
      have hws := hws2
      clear HBB2 HQB2 HB2 hws2
      go_wp2_with fail
      with_reducible refine (lone_any _ _).mono ?_
      rintro y c5 ⟨⟨v4, rfl⟩, hb⟩
      have HBB2 := Lib.hid (HBB.out.below hb)
      have HQB2 := Lib.hid (HQB.out.below hb)
      have HB2 := Lib.hid (HB.out.trans (hb.mono HB.out.size))
      have hws2 := HB2.out.size
      clear hb HBB HQB HB hws
      have HBB := HBB2
      have HQB := HQB2
      have HB := HB2
      have hws := hws2
      clear HBB2 HQB2 HB2 hws2
      go_wp2_with fail
      with_reducible refine (ltwo_any _ _ _).mono ?_
      rintro y c6 ⟨⟨v5, rfl⟩, hb⟩
      have HBB2 := Lib.hid (HBB.out.below hb)
      have HQB2 := Lib.hid (HQB.out.below hb)
      have HB2 := Lib.hid (HB.out.trans (hb.mono HB.out.size))
      have hws2 := HB2.out.size
      clear hb HBB HQB HB hws
      have HBB := HBB2
      have HQB := HQB2
      have HB := HB2
      have hws := hws2
      clear HBB2 HQB2 HB2 hws2
      have HX1 := Lib.hid (HBB.out.alloc (.cells #[.string ⟨#[67, 72, 70]⟩, .string ⟨#[]⟩, .string ⟨#[]⟩, .slice none 0 0, .int .i64 2, .int .i64 0, .int .i64 2, .int .i64 5, .string ⟨#[69, 85, 82]⟩, .string ⟨#[226, 130, 172]⟩, .string ⟨#[226, 130, 172]⟩, .slice (some ⟨v3, 0, none⟩) 2 2, .int .i64 2, .int .i64 0, .int .i64 2, .int .i64 0, .string ⟨#[74, 80, 89]⟩, .string ⟨#[194, 165]⟩, .string ⟨#[]⟩, .slice (some ⟨v4, 0, none⟩) 1 1, .int .i64 0, .int .i64 0, .int .i64 0, .int .i64 0, .string ⟨#[85, 83, 68]⟩, .string ⟨#[36]⟩, .string ⟨#[36]⟩, .slice (some ⟨v5, 0, none⟩) 2 2, .int .i64 2, .int .i64 0, .int .i64 2, .int .i64 0] TCu))
      obtain ⟨u, hu⟩ : ∃ u, _ = some u := ⟨_, Array.getElem?_eq_getElem (show 25 < _ by rw [HBB.out.size]; decide)⟩
      have f0 : (c6.alloc (.cells #[.string ⟨#[67, 72, 70]⟩, .string ⟨#[]⟩, .string ⟨#[]⟩, .slice none 0 0, .int .i64 2, .int .i64 0, .int .i64 2, .int .i64 5, .string ⟨#[69, 85, 82]⟩, .string ⟨#[226, 130, 172]⟩, .string ⟨#[226, 130, 172]⟩, .slice (some ⟨v3, 0, none⟩) 2 2, .int .i64 2, .int .i64 0, .int .i64 2, .int .i64 0, .string ⟨#[74, 80, 89]⟩, .string ⟨#[194, 165]⟩, .string ⟨#[]⟩, .slice (some ⟨v4, 0, none⟩) 1 1, .int .i64 0, .int .i64 0, .int .i64 0, .int .i64 0, .string ⟨#[85, 83, 68]⟩, .string ⟨#[36]⟩, .string ⟨#[36]⟩, .slice (some ⟨v5, 0, none⟩) 2 2, .int .i64 2, .int .i64 0, .int .i64 2, .int .i64 0] TCu)).cell? ⟨q, 25, none⟩ = some u := (HX1.out.box.cell 25).trans hu
      have fz := HX1.out.box.frozen 25
      have fl := HX1.out.box.lt
      go_wp2_with fail
      have HBB2 := Lib.hid (HX1.out.setq 25 (.slice (some ⟨c6.heap.size, 0, none⟩) 4 4) rfl (by decide) (by decide) (by decide))
      have HQB2 := Lib.hid (BoxT.other (a := ⟨q, 25, none⟩) (HQB.out.alloc (.cells #[.string ⟨#[67, 72, 70]⟩, .string ⟨#[]⟩, .string ⟨#[]⟩, .slice none 0 0, .int .i64 2, .int .i64 0, .int .i64 2, .int .i64 5, .string ⟨#[69, 85, 82]⟩, .string ⟨#[226, 130, 172]⟩, .string ⟨#[226, 130, 172]⟩, .slice (some ⟨v3, 0, none⟩) 2 2, .int .i64 2, .int .i64 0, .int .i64 2, .int .i64 0, .string ⟨#[74, 80, 89]⟩, .string ⟨#[194, 165]⟩, .string ⟨#[]⟩, .slice (some ⟨v4, 0, none⟩) 1 1, .int .i64 0, .int .i64 0, .int .i64 0, .int .i64 0, .string ⟨#[85, 83, 68]⟩, .string ⟨#[36]⟩, .string ⟨#[36]⟩, .slice (some ⟨v5, 0, none⟩) 2 2, .int .i64 2, .int .i64 0, .int .i64 2, .int .i64 0] TCu)) (by simp; omega) (.slice (some ⟨c6.heap.size, 0, none⟩) 4 4))
      have HB2 := Lib.hid (below_grown (HB.out.alloc hws (.cells #[.string ⟨#[67, 72, 70]⟩, .string ⟨#[]⟩, .string ⟨#[]⟩, .slice none 0 0, .int .i64 2, .int .i64 0, .int .i64 2, .int .i64 5, .string ⟨#[69, 85, 82]⟩, .string ⟨#[226, 130, 172]⟩, .string ⟨#[226, 130, 172]⟩, .slice (some ⟨v3, 0, none⟩) 2 2, .int .i64 2, .int .i64 0, .int .i64 2, .int .i64 0, .string ⟨#[74, 80, 89]⟩, .string ⟨#[194, 165]⟩, .string ⟨#[]⟩, .slice (some ⟨v4, 0, none⟩) 1 1, .int .i64 0, .int .i64 0, .int .i64 0, .int .i64 0, .string ⟨#[85, 83, 68]⟩, .string ⟨#[36]⟩, .string ⟨#[36]⟩, .slice (some ⟨v5, 0, none⟩) 2 2, .int .i64 2, .int .i64 0, .int .i64 2, .int .i64 0] TCu)) (by simp; omega) (by omega) (grown_setq q 25 (.slice (some ⟨c6.heap.size, 0, none⟩) 4 4)))
      have hws2 := HB2.out.size
      clear HX1 f0 fz fl hu HBB HQB HB hws
      have HBB := HBB2
      have HQB := HQB2
      have HB := HB2
      have hws := hws2
      clear HBB2 HQB2 HB2 hws2
      generalize (c6.alloc (.cells #[.string ⟨#[67, 72, 70]⟩, .string ⟨#[]⟩, .string ⟨#[]⟩, .slice none 0 0, .int .i64 2, .int .i64 0, .int .i64 2, .int .i64 5, .string ⟨#[69, 85, 82]⟩, .string ⟨#[226, 130, 172]⟩, .string ⟨#[226, 130, 172]⟩, .slice (some ⟨v3, 0, none⟩) 2 2, .int .i64 2, .int .i64 0, .int .i64 2, .int .i64 0, .string ⟨#[74, 80, 89]⟩, .string ⟨#[194, 165]⟩, .string ⟨#[]⟩, .slice (some ⟨v4, 0, none⟩) 1 1, .int .i64 0, .int .i64 0, .int .i64 0, .int .i64 0, .string ⟨#[85, 83, 68]⟩, .string ⟨#[36]⟩, .string ⟨#[36]⟩, .slice (some ⟨v5, 0, none⟩) 2 2, .int .i64 2, .int .i64 0, .int .i64 2, .int .i64 0] TCu)).setCell ⟨q, 25, none⟩ (.slice (some ⟨c6.heap.size, 0, none⟩) 4 4) = c7 at *
      with_reducible refine (ltwo_any _ _ _).mono ?_
      rintro y c8 ⟨⟨v6, rfl⟩, hb⟩
      have HBB2 := Lib.hid (HBB.out.below hb)
      have HQB2 := Lib.hid (HQB.out.below hb)
      have HB2 := Lib.hid (HB.out.trans (hb.mono HB.out.size))
      have hws2 := HB2.out.size
      clear hb HBB HQB HB hws
      have HBB := HBB2
      have HQB := HQB2
      have HB := HB2
      have hws := hws2
      clear HBB2 HQB2 HB2 hws2
      go_wp2_with fail
      with_reducible refine (lone_any _ _).mono ?_
      rintro y c9 ⟨⟨v7, rfl⟩, hb⟩
      have HBB2 := Lib.hid (HBB.out.below hb)
      have HQB2 := Lib.hid (HQB.out.below hb)
      have HB2 := Lib.hid (HB.out.trans (hb.mono HB.out.size))
      have hws2 := HB2.out.size
      clear hb HBB HQB HB hws
      have HBB := HBB2
      have HQB := HQB2
      have HB := HB2
      have hws := hws2
      clear HBB2 HQB2 HB2 hws2
      have HX1 := Lib.hid (HBB.out.alloc (.cells #[.string ⟨#[100, 97, 121]⟩, .slice (some ⟨v6, 0, none⟩) 2 2, .string ⟨#[107, 109]⟩, .slice (some ⟨v7, 0, none⟩) 1 1] TUn))
      obtain ⟨u, hu⟩ : ∃ u, _ = some u := ⟨_, Array.getElem?_eq_getElem (show 26 < _ by rw [HBB.out.size]; decide)⟩
      have f0 : (c9.alloc (.cells #[.string ⟨#[100, 97, 121]⟩, .slice (some ⟨v6, 0, none⟩) 2 2, .string ⟨#[107, 109]⟩, .slice (some ⟨v7, 0, none⟩) 1 1] TUn)).cell? ⟨q, 26, none⟩ = some u := (HX1.out.box.cell 26).trans hu
      have fz := HX1.out.box.frozen 26
      have fl := HX1.out.box.lt
      go_wp2_with fail
      have HBB2 := Lib.hid (HX1.out.setq 26 (.slice (some ⟨c9.heap.size, 0, none⟩) 2 2) rfl (by decide) (by decide) (by decide))
      have HQB2 := Lib.hid (BoxT.other (a := ⟨q, 26, none⟩) (HQB.out.alloc (.cells #[.string ⟨#[100, 97, 121]⟩, .slice (some ⟨v6, 0, none⟩) 2 2, .string ⟨#[107, 109]⟩, .slice (some ⟨v7, 0, none⟩) 1 1] TUn)) (by simp; omega) (.slice (some ⟨c9.heap.size, 0, none⟩) 2 2))
      have HB2 := Lib.hid (below_grown (HB.out.alloc hws (.cells #[.string ⟨#[100, 97, 121]⟩, .slice (some ⟨v6, 0, none⟩) 2 2, .string ⟨#[107, 109]⟩, .slice (some ⟨v7, 0, none⟩) 1 1] TUn)) (by simp; omega) (by omega) (grown_setq q 26 (.slice (some ⟨c9.heap.size, 0, none⟩) 2 2)))
      have hws2 := HB2.out.size
      clear HX1 f0 fz fl hu HBB HQB HB hws
      have HBB := HBB2
      have HQB := HQB2
      have HB := HB2
      have hws := hws2
      clear HBB2 HQB2 HB2 hws2
      generalize (c9.alloc (.cells #[.string ⟨#[100, 97, 121]⟩, .slice (some ⟨v6, 0, none⟩) 2 2, .string ⟨#[107, 109]⟩, .slice (some ⟨v7, 0, none⟩) 1 1] TUn)).setCell ⟨q, 26, none⟩ (.slice (some ⟨c9.heap.size, 0, none⟩) 2 2) = c10 at *
      with_reducible refine (lone_any _ _).mono ?_
      rintro y c11 ⟨⟨v8, rfl⟩, hb⟩
      have HBB2 := Lib.hid (HBB.out.below hb)
      have HQB2 := Lib.hid (HQB.out.below hb)
      have HB2 := Lib.hid (HB.out.trans (hb.mono HB.out.size))
      have hws2 := HB2.out.size
      clear hb HBB HQB HB hws
      have HBB := HBB2
      have HQB := HQB2
      have HB := HB2
      have hws := hws2
      clear HBB2 HQB2 HB2 hws2
      obtain ⟨X2, HBB⟩ : ∃ X2, Hid (BB c11 w.heap.size q X2 vA vB 7 7) := ⟨_, HBB⟩
      obtain ⟨u27, h27⟩ : ∃ u, X2[27]? = some u := ⟨_, Array.getElem?_eq_getElem (by rw [HBB.out.size]; decide)⟩
      have f27 := (HBB.out.box.cell 27).trans h27
      have z27 := HBB.out.box.frozen 27
      have fl := HBB.out.box.lt
      have HX1 := Lib.hid (HBB.out.setq 27 (.slice (some ⟨v8, 0, none⟩) 1 1) rfl (by decide) (by decide) (by decide))
      obtain ⟨u28, h28⟩ : ∃ u, _ = some u := ⟨_, Array.getElem?_eq_getElem (show 28 < _ by rw [HX1.out.size]; decide)⟩
      have f28 := (HX1.out.box.cell 28).trans h28
      have z28 := HX1.out.box.frozen 28
      obtain ⟨u29, h29⟩ : ∃ u, _ = some u := ⟨_, Array.getElem?_eq_getElem (show 29 < _ by rw [HX1.out.size]; decide)⟩
      have f29 := (HX1.out.box.cell 29).trans h29
      have z29 := HX1.out.box.frozen 29
      obtain ⟨u30, h30⟩ : ∃ u, _ = some u := ⟨_, Array.getElem?_eq_getElem (show 30 < _ by rw [HX1.out.size]; decide)⟩
      have f30 := (HX1.out.box.cell 30).trans h30
      have z30 := HX1.out.box.frozen 30
      obtain ⟨u31, h31⟩ : ∃ u, _ = some u := ⟨_, Array.getElem?_eq_getElem (show 31 < _ by rw [HX1.out.size]; decide)⟩
      have f31 := (HX1.out.box.cell 31).trans h31
      have z31 := HX1.out.box.frozen 31
      obtain ⟨u32, h32⟩ : ∃ u, _ = some u := ⟨_, Array.getElem?_eq_getElem (show 32 < _ by rw [HX1.out.size]; decide)⟩
      have f32 := (HX1.out.box.cell 32).trans h32
      have z32 := HX1.out.box.frozen 32
      obtain ⟨u33, h33⟩ : ∃ u, _ = some u := ⟨_, Array.getElem?_eq_getElem (show 33 < _ by rw [HX1.out.size]; decide)⟩
      have f33 := (HX1.out.box.cell 33).trans h33
      have z33 := HX1.out.box.frozen 33
      have fl1 := HX1.out.box.lt
      clear h27 h28 h29 h30 h31 h32 h33
      obtain ⟨X9, hx9⟩ := BB.ex ((((((HX1.out.setq 28 (.string ⟨#[91, 94, 92, 117, 123, 50, 52, 125, 92, 117, 123, 50, 48, 97, 99, 125, 92, 117, 123, 97, 53, 125, 40, 93]⟩) rfl (by decide) (by decide) (by decide)).setq 29 (.string ⟨#[91, 48, 45, 57, 92, 117, 123, 54, 54, 48, 125, 45, 92, 117, 123, 54, 54, 57, 125, 93]⟩) rfl (by decide) (by decide) (by decide)).setq 30 (.string ⟨#[194, 160]⟩) rfl (by decide) (by decide) (by decide)).setq 31 (.string ⟨#[91, 94, 92, 117, 123, 50, 52, 125, 92, 117, 123, 50, 48, 97, 99, 125, 92, 117, 123, 97, 53, 125, 40, 93]⟩) rfl (by decide) (by decide) (by decide)).setq 32 (.string ⟨#[91, 48, 45, 57, 92, 117, 123, 54, 54, 48, 125, 45, 92, 117, 123, 54, 54, 57, 125, 93]⟩) rfl (by decide) (by decide) (by decide)).setq 33 (.string ⟨#[194, 160]⟩) rfl (by decide) (by decide) (by decide))
      have HX9 := Lib.hid hx9
      have HQ9 := Lib.hid (BoxT.other (a := ⟨q, 33, none⟩) (BoxT.other (a := ⟨q, 32, none⟩) (BoxT.other (a := ⟨q, 31, none⟩) (BoxT.other (a := ⟨q, 30, none⟩) (BoxT.other (a := ⟨q, 29, none⟩) (BoxT.other (a := ⟨q, 28, none⟩) (BoxT.other (a := ⟨q, 27, none⟩) HQB.out (by simp; omega) (.slice (some ⟨v8, 0, none⟩) 1 1)) (by simp; omega) (.string ⟨#[91, 94, 92, 117, 123, 50, 52, 125, 92, 117, 123, 50, 48, 97, 99, 125, 92, 117, 123, 97, 53, 125, 40, 93]⟩)) (by simp; omega) (.string ⟨#[91, 48, 45, 57, 92, 117, 123, 54, 54, 48, 125, 45, 92, 117, 123, 54, 54, 57, 125, 93]⟩)) (by simp; omega) (.string ⟨#[194, 160]⟩)) (by simp; omega) (.string ⟨#[91, 94, 92, 117, 123, 50, 52, 125, 92, 117, 123, 50, 48, 97, 99, 125, 92, 117, 123, 97, 53, 125, 40, 93]⟩)) (by simp; omega) (.string ⟨#[91, 48, 45, 57, 92, 117, 123, 54, 54, 48, 125, 45, 92, 117, 123, 54, 54, 57, 125, 93]⟩)) (by simp; omega) (.string ⟨#[194, 160]⟩))
      have HB9 := Lib.hid (below_setq (q := q) (i := 33) (v := .string ⟨#[194, 160]⟩) (below_setq (q := q) (i := 32) (v := .string ⟨#[91, 48, 45, 57, 92, 117, 123, 54, 54, 48, 125, 45, 92, 117, 123, 54, 54, 57, 125, 93]⟩) (below_setq (q := q) (i := 31) (v := .string ⟨#[91, 94, 92, 117, 123, 50, 52, 125, 92, 117, 123, 50, 48, 97, 99, 125, 92, 117, 123, 97, 53, 125, 40, 93]⟩) (below_setq (q := q) (i := 30) (v := .string ⟨#[194, 160]⟩) (below_setq (q := q) (i := 29) (v := .string ⟨#[91, 48, 45, 57, 92, 117, 123, 54, 54, 48, 125, 45, 92, 117, 123, 54, 54, 57, 125, 93]⟩) (below_setq (q := q) (i := 28) (v := .string ⟨#[91, 94, 92, 117, 123, 50, 52, 125, 92, 117, 123, 50, 48, 97, 99, 125, 92, 117, 123, 97, 53, 125, 40, 93]⟩) (below_setq (q := q) (i := 27) (v := .slice (some ⟨v8, 0, none⟩) 1 1) HB.out (by omega)) (by omega)) (by omega)) (by omega)) (by omega)) (by omega)) (by omega))
      have HSZ9 : Hid (Z34.size = X9.size) := Lib.hid (by rw [HX9.out.size]; rfl)
      have HIN9 := Lib.hid (Xinfo HX9.out.size)
      clear hx9 fl fl1
      go_upto_region 37 with fail
      clear f27 z27 f28 z28 f29 z29 f30 z30 f31 z31 f32 z32 f33 z33 HX1 HBB HQB
      generalize (((((((c11.setCell ⟨q, 27, none⟩ (.slice (some ⟨v8, 0, none⟩) 1 1)).setCell ⟨q, 28, none⟩ (.string ⟨#[91, 94, 92, 117, 123, 50, 52, 125, 92, 117, 123, 50, 48, 97, 99, 125, 92, 117, 123, 97, 53, 125, 40, 93]⟩)).setCell ⟨q, 29, none⟩ (.string ⟨#[91, 48, 45, 57, 92, 117, 123, 54, 54, 48, 125, 45, 92, 117, 123, 54, 54, 57, 125, 93]⟩)).setCell ⟨q, 30, none⟩ (.string ⟨#[194, 160]⟩)).setCell ⟨q, 31, none⟩ (.string ⟨#[91, 94, 92, 117, 123, 50, 52, 125, 92, 117, 123, 50, 48, 97, 99, 125, 92, 117, 123, 97, 53, 125, 40, 93]⟩)).setCell ⟨q, 32, none⟩ (.string ⟨#[91, 48, 45, 57, 92, 117, 123, 54, 54, 48, 125, 45, 92, 117, 123, 54, 54, 57, 125, 93]⟩)).setCell ⟨q, 33, none⟩ (.string ⟨#[194, 160]⟩)) = W9 at *
      go_wp2_with ((refine wpList_load_box (by rfl) TTb (.tmp 3) (by rfl) q (by rfl) X9 TTb _ HX9.out.box Try.underlying31 (by rfl) HIN9.out ?_); (refine wpList_store_box (by rfl) TTb (.tmp 2) (.tmp 117) (by rfl) w.heap.size Z34 X9 TTb (by rfl) (by rfl) HQ9.out HIN9.out HSZ9.out HX9.out.one ?_); intro w99 hx99 hg99)
      simp only [Act.put, List.setIfInBounds_toArray, List.set_cons_zero, List.set_cons_succ]
      refine bodyPost_ret (v := .agg X9) ?_ rfl ?_
      · exact res_base hx99 (Xinfo HX9.out.size) _ rfl
      · exact ⟨⟨X9, rfl, HX9.out.size, HX9.out.x0⟩, below_grown HB9.out HB9.out.size (Nat.le_refl _) hg99⟩
end Go.Proofs.Ytkbigfkpgjhojaa
