/- A rule as it is made, and how it is written. -/
import Derived.Test.YtkjhdehpcanciaaGreatDoorMdV
import Derived.Deep.CutRange
namespace Go.Proofs.YtkjhdehpcanciaaGreatDoor
open Go.RowKit Florin
set_option linter.unusedVariables false
set_option linter.unusedSimpArgs false
attribute [local go_sem ↓] Go.wp_at_zero Go.wp_at_succ

set_option maxRecDepth 100000 in
set_option maxHeartbeats 6400000 in
theorem write_as (m : MadeM) (v : Value) (w : World) (ht : Tab w) (hW : Wds w) (hv : AnymAt w m.any v) (hb : madeB m) (hr : ∀ a ∈ m.any, ∀ r ∈ a, r.rs.length ≤ 5) :
    Calls Tryz.prog 30 #[.agg #[.int .i64 m.cat, .int .i64 m.gp, .int .i64 m.smp, v]] w fun e w' => ∃ u, e = .returned (.tuple #[.agg #[.int .i64 ((mcat m : Nat) : Int), u, S (msmp m)], S (madeTx m)]) ∧ CondAt w' w.heap.size (madeMn m).any u ∧ Below w.heap.size w w' := by
  obtain ⟨ct, gp, sp, any⟩ := m
  obtain ⟨cs, ⟨a, c, rfl, hnc, hcm, hlen, hcell⟩, hL⟩ := hv
  have hn4 : any.length ≤ 4 := hb.1
  have HC : Hid (0 < any.length → ∃ b off, a = some ⟨b, off, none⟩ ∧ b < w.heap.size ∧ ∀ j, j < any.length * 1 → w.cell? ⟨b, off + j, none⟩ = cs[j]?) := Lib.hid hcell
  have HL := Lib.hid hL
  have HB := Lib.hid hb
  have HR := Lib.hid hr
  have HLEN := Lib.hid hlen
  have hnc2 : any.length ≤ c := hnc
  have hcmi : (c : Int) ≤ 9223372036854775807 := by unfold maxLen at hcm; omega
  obtain ⟨C, hC⟩ : ∃ C, modM ct 6 = C := ⟨_, rfl⟩
  have hC6 : C < 6 := by rw [← hC]; exact mcat_lt ⟨ct, gp, sp, any⟩
  have HCC := Lib.hid hC
  obtain ⟨g, hg⟩ : ∃ g, gapB (andN gp 3) = g := ⟨_, rfl⟩
  have gl : g.length ≤ 2 := by rw [← hg]; exact gapB_len _
  have HG := Lib.hid hg
  obtain ⟨wd, hwd⟩ : ∃ wd, wordW C = wd := ⟨_, rfl⟩
  have wdl : wd.length ≤ 5 := by
    rw [← hwd]
    have : ∀ k, k < 6 → (wordW k).length ≤ 5 := by decide
    exact this C hC6
  have HWD : Hid (catT ((C : Nat) : Int) = wd) := Lib.hid (by
    rw [← hwd]
    unfold catT
    rw [if_pos ⟨by omega, by omega⟩]
    rfl)
  have HWD2 := Lib.hid hwd
  have HT := Lib.hid ht
  have HW := Lib.hid hW
  clear hL hb hr hlen hnc hcell hC hg hwd ht hW
  show Calls Tryz.prog 30 #[.agg #[.int .i64 ct, .int .i64 gp, .int .i64 sp, .slice a any.length c]] w _
  go_enter Tryz.func30, Tryz.ntmps30
  go_wp2_with fail
  have H0 := Lib.hid (HeldL.alloc (HeldL.alloc (HeldL.refl w) w.heap.size #[.int .i64 ct, .int .i64 gp, .int .i64 sp, .slice a any.length c] 62 rfl) (w.heap.size + 1) #[.int .i64 0, .slice none 0 0, .string ⟨#[]⟩] 39 (by simp))
  have ZT0 : Hid (BoxT ((w.alloc (.cells #[.int .i64 ct, .int .i64 gp, .int .i64 sp, .slice a any.length c] 62)).alloc (.cells #[.int .i64 0, .slice none 0 0, .string ⟨#[]⟩] 39)) (w.heap.size + 1) #[.int .i64 0, .slice none 0 0, .string ⟨#[]⟩] 39) := Lib.hid (by have h := BoxT.new (w.alloc (.cells #[.int .i64 ct, .int .i64 gp, .int .i64 sp, .slice a any.length c] 62)) #[.int .i64 0, .slice none 0 0, .string ⟨#[]⟩] 39; simpa using h)
  refine (mcat_as ⟨ct, gp, sp, any⟩ a any.length c _).mono ?_
  rintro x w1 ⟨rfl, hb⟩
  have H1 := Lib.hid (HeldL.keep H0.out hb)
  have ZT1 := Lib.hid (BoxT.grown ZT0.out (grown_of_below hb none) (by simp))
  rw [show modM (MadeM.mk ct gp sp any).cat 6 = C from HCC.out]
  clear hb H0 ZT0
  have m1 : w1.cell? ⟨w.heap.size, 1, none⟩ = some (.int .i64 gp) := (H1.out.f (List.Mem.tail _ (List.Mem.head _))).cell 1
  have ml := (H1.out.f (List.Mem.tail _ (List.Mem.head _))).lt
  have zl := (H1.out.f (List.Mem.head _)).lt
  go_wp2_with fail
  have H2 := Lib.hid (HeldL.alloc H1.out w1.heap.size #[.int .i64 ((C : Nat) : Int), .slice none 0 0, .string ⟨#[]⟩] 39 rfl)
  have XT2 := Lib.hid (BoxT.new w1 #[.int .i64 ((C : Nat) : Int), .slice none 0 0, .string ⟨#[]⟩] 39)
  obtain ⟨B, hB⟩ : ∃ B, w1.heap.size = B := ⟨_, rfl⟩
  rw [hB] at H2 XT2 zl ml
  refine (gap_as gp _ g HG.out).mono ?_
  rintro x w2 ⟨rfl, hb⟩
  have H3 := Lib.hid (HeldL.keep H2.out hb)
  have ZT3 := Lib.hid (BoxT.grown (ZT1.out.alloc _) (grown_of_below hb none) (by simp))
  have XT3 := Lib.hid (BoxT.grown XT2.out (grown_of_below hb none) (by simp))
  have hbz := hb.size
  simp only [World.size_alloc, hB] at hbz
  simp only [hB]
  clear hb H1 H2 XT2 ZT1 m1

  have x0 : w2.cell? ⟨B, 0, none⟩ = some (.int .i64 ((C : Nat) : Int)) := (H3.out.f (List.Mem.head _)).cell 0
  have xl := (H3.out.f (List.Mem.head _)).lt
  have gg : (S g) = .string ⟨g.toArray⟩ := rfl
  obtain ⟨q1, hq1⟩ : ∃ q1, g ++ wd = q1 := ⟨_, rfl⟩
  have q1l : q1.length = g.length + wd.length := by rw [← hq1, List.length_append]
  have SBq1 : (⟨g.toArray⟩ : ByteArray) ++ (⟨wd.toArray⟩ : ByteArray) = ⟨q1.toArray⟩ := by rw [← hq1]; exact arr_append g wd
  have cbq1 : ¬ 9223372036854775807 < g.length + wd.length := by omega
  have Hq1 := Lib.hid hq1
  clear hq1
  obtain ⟨q2, hq2⟩ : ∃ q2, q1 ++ g = q2 := ⟨_, rfl⟩
  have q2l : q2.length = q1.length + g.length := by rw [← hq2, List.length_append]
  have SBq2 : (⟨q1.toArray⟩ : ByteArray) ++ (⟨g.toArray⟩ : ByteArray) = ⟨q2.toArray⟩ := by rw [← hq2]; exact arr_append q1 g
  have cbq2 : ¬ 9223372036854775807 < q1.length + g.length := by omega
  have Hq2 := Lib.hid hq2
  clear hq2
  obtain ⟨q3, hq3⟩ : ∃ q3, q2 ++ [58] = q3 := ⟨_, rfl⟩
  have q3l : q3.length = q2.length + 1 := by rw [← hq3, List.length_append]; rfl
  have SBq3 : (⟨q2.toArray⟩ : ByteArray) ++ (⟨#[58]⟩ : ByteArray) = ⟨q3.toArray⟩ := by rw [← hq3]; exact arr_append q2 [58]
  have cbq3 : ¬ 9223372036854775807 < q2.length + 1 := by omega
  have Hq3 := Lib.hid hq3
  clear hq3
  obtain ⟨q4, hq4⟩ : ∃ q4, q3 ++ g = q4 := ⟨_, rfl⟩
  have q4l : q4.length = q3.length + g.length := by rw [← hq4, List.length_append]
  have SBq4 : (⟨q3.toArray⟩ : ByteArray) ++ (⟨g.toArray⟩ : ByteArray) = ⟨q4.toArray⟩ := by rw [← hq4]; exact arr_append q3 g
  have cbq4 : ¬ 9223372036854775807 < q3.length + g.length := by omega
  have Hq4 := Lib.hid hq4
  clear hq4
  go_wp2_with fail
  refine (catS_as _ _ (HW.out.below (H3.out.bel)) wd HWD.out).mono ?_
  rintro x w3 ⟨rfl, rfl⟩
  have m3 : w2.cell? ⟨w.heap.size, 3, none⟩ = some (.slice a any.length c) := (H3.out.f (List.Mem.tail _ (List.Mem.tail _ (List.Mem.head _)))).cell 3
  have ml2 := (H3.out.f (List.Mem.tail _ (List.Mem.tail _ (List.Mem.head _)))).lt
  go_upto_region 4 with fail

  have hlo : ∀ p ∈ ([(B, #[.int .i64 ((C : Nat) : Int), .slice none 0 0, .string ⟨#[]⟩]), (w.heap.size + 1, #[.int .i64 0, .slice none 0 0, .string ⟨#[]⟩]), (w.heap.size, #[.int .i64 ct, .int .i64 gp, .int .i64 sp, .slice a any.length c])] : List (Nat × Array Value)), p.1 < B + 1 := by
    intro p hp
    simp only [List.mem_cons, List.not_mem_nil, or_false] at hp
    rcases hp with rfl | rfl | rfl <;> simp only <;> omega
  have HLO := Lib.hid hlo
  clear hlo
  have HQ4 : Hid (bl (mqN ⟨ct, gp, sp, any⟩) ++ wordW (mcat ⟨ct, gp, sp, any⟩) ++ bl (mqN ⟨ct, gp, sp, any⟩) ++ [58] ++ bl (mqN ⟨ct, gp, sp, any⟩) = q4) := Lib.hid (by
    rw [show bl (mqN ⟨ct, gp, sp, any⟩) = g from HG.out, show mcat ⟨ct, gp, sp, any⟩ = C from HCC.out, HWD2.out, Hq1.out, Hq2.out, Hq3.out, Hq4.out])
  have q4b : q4.length ≤ 12 := by omega
  clear SBq1 SBq2 SBq3 SBq4 cbq1 cbq2 cbq3 cbq4 Hq1 Hq2 Hq3 Hq4 q1l q2l q3l q4l HWD HWD2 wdl
  obtain ⟨i0, hi, hz0, hz1, hz2⟩ := info_parts infoAllM
  go_cut [7] from 16 (fun v7 w' => w'.ownsRow (B + 1) 59 1 v7 any.length cs ∧ HeldL w [(B, #[.int .i64 ((C : Nat) : Int), .slice none 0 0, .string ⟨#[]⟩]), (w.heap.size + 1, #[.int .i64 0, .slice none 0 0, .string ⟨#[]⟩]), (w.heap.size, #[.int .i64 ct, .int .i64 gp, .int .i64 sp, .slice a any.length c])] w' ∧ BoxT w' B #[.int .i64 ((C : Nat) : Int), .slice none 0 0, .string ⟨#[]⟩] 39 ∧ BoxT w' (w.heap.size + 1) #[.int .i64 0, .slice none 0 0, .string ⟨#[]⟩] 39)
  case first =>
    have OWN : (w2.alloc (.cells #[] 59)).ownsRow (B + 1) 59 1 (.slice (some ⟨w2.heap.size, 0, none⟩) 0 0) 0 [] := World.ownsRow_lit w2 #[] 0 xl (by decide) rfl
    have HOW := Lib.hid OWN
    clear OWN
    by_cases hrs : 0 < any.length
    · obtain ⟨b, off, rfl, hbl, hbc⟩ := HC.out hrs
      have CELLS : ∀ j u, cs[j]? = some u → (w2.alloc (.cells #[] 59)).cell? ((⟨b, off, none⟩ : Addr).add j) = some u := fun j u hu => by
        have hj : j < any.length * 1 := by rw [← HLEN.out]; exact (List.getElem?_eq_some_iff.1 hu).1
        rw [show (⟨b, off, none⟩ : Addr).add j = ⟨b, off + j, none⟩ from by simp [Addr.add], (HeldL.skip H3.out _).bel.cell (p := ⟨b, off + j, none⟩) hbl, hbc j hj]; exact hu
      have h63 : 0 + any.length ≤ maxLen := by unfold maxLen; omega
      have hby : (0 + any.length) * 24 ≤ 140737488355328 := by omega
      have hba : B + 1 ≤ (w2.alloc (.cells #[] 59)).heap.size := by simp; omega
      have HCE := Lib.hid CELLS
      have HBA := Lib.hid hba
      have hlen2 := HLEN.out
      have HON := Lib.hid (all_one HL.out)
      clear CELLS hba
      go_wp2_with (at_builtin; refine wpList_append_own _ rfl _ _ 60 rfl (B + 1) 59 i0 (.slice none 0 0) 1 24 Tryz.underlying60 hi hz0 hz1 hz2 rfl (by decide) (.slice (some ⟨w2.heap.size, 0, none⟩) 0 0) 0 [] rfl HOW.out ⟨b, off, none⟩ any.length c cs rfl hlen2 HCE.out HON.out h63 hby HBA.out ?_; intro v8 w8 hown8 hgr8 _)
      have HO8 : Hid (w8.ownsRow (B + 1) 59 1 v8 any.length cs) := Lib.hid (by have h := hown8; rw [Nat.zero_add] at h; exact h)
      have H8 := Lib.hid (HeldL.grownOwn (HeldL.skip H3.out _) hgr8 (fun k hk => own_aboveB HOW.out (by omega) HLO.out k hk))
      have X8 := Lib.hid (BoxT.grown (XT3.out.alloc _) hgr8 (own_ne HOW.out (Nat.lt_succ_self B)))
      have Z8 := Lib.hid (BoxT.grown (ZT3.out.alloc _) hgr8 (own_ne HOW.out (by omega)))
      clear hown8 hgr8
      go_meet
      case rel => exact ⟨HO8.out, H8.out, X8.out, Z8.out⟩
    · obtain rfl : any = [] := List.eq_nil_of_length_eq_zero (by omega)
      obtain rfl : cs = [] := List.eq_nil_of_length_eq_zero (by simpa using HLEN.out)
      cases a with
      | none =>
        go_wp2
        go_meet
        case rel => exact ⟨HOW.out, HeldL.skip H3.out _, XT3.out.alloc _, ZT3.out.alloc _⟩
      | some ad =>
        go_wp2
        go_meet
        case rel => exact ⟨HOW.out, HeldL.skip H3.out _, XT3.out.alloc _, ZT3.out.alloc _⟩
  case rest =>
  obtain ⟨how, hh, hxt, hzt⟩ := hcut
  have OW5 := Lib.hid how
  have H5 := Lib.hid hh
  have XT5 := Lib.hid hxt
  have ZT5 := Lib.hid hzt
  clear hh how hxt hzt H3 x0 xl m3 ml2 ml
  have hxl := (H5.out.f (List.Mem.head _)).lt
  obtain ⟨a7, c7, hv7, hc7, hm7, _⟩ := InN.own OW5.out
  subst hv7
  obtain ⟨LL, hLL⟩ : ∃ LL, anyL any = LL := ⟨_, rfl⟩
  obtain ⟨ds, hds⟩ : ∃ ds, (if any = [] then [.slice none 0 0] else cs) = ds := ⟨_, rfl⟩
  have hl4 : LL.length ≤ 4 := by rw [← hLL]; exact anyL_len hn4
  have hl1 : 0 < LL.length := by rw [← hLL]; exact List.length_pos_iff.2 (anyL_ne _)
  have HLL := Lib.hid hLL
  have HDS := Lib.hid hds
  have HLD : Hid (ListAt (fun x c => ∃ u, c = [u] ∧ AllmAt w x u) LL ds) := Lib.hid (by
    rw [← hLL, ← hds]
    unfold anyL
    by_cases h0 : any = []
    · rw [if_pos h0, if_pos h0]; exact ⟨[_], [], rfl, ⟨_, rfl, allm_nil w⟩, rfl⟩
    · rw [if_neg h0, if_neg h0]; exact HL.out)
  clear hLL hds
  go_upto_if 38 with fail
  go_cut [7] from 16 (fun v7 w' => w'.ownsRow (B + 1) 59 1 v7 LL.length ds ∧ HeldL w [(B, #[.int .i64 ((C : Nat) : Int), .slice none 0 0, .string ⟨#[]⟩]), (w.heap.size + 1, #[.int .i64 0, .slice none 0 0, .string ⟨#[]⟩]), (w.heap.size, #[.int .i64 ct, .int .i64 gp, .int .i64 sp, .slice a any.length c])] w' ∧ BoxT w' B #[.int .i64 ((C : Nat) : Int), .slice none 0 0, .string ⟨#[]⟩] 39 ∧ BoxT w' (w.heap.size + 1) #[.int .i64 0, .slice none 0 0, .string ⟨#[]⟩] 39)
  case first =>
    by_cases hrs : any = []
    · subst hrs
      obtain rfl : [[]] = LL := by rw [← HLL.out]; rfl
      obtain rfl : [Value.slice none 0 0] = ds := by rw [← HDS.out]; rfl
      obtain rfl : cs = [] := List.eq_nil_of_length_eq_zero (by simpa using HLEN.out)
      have hby : (0 + 1) * 24 ≤ 140737488355328 := by omega
      have h63 : 0 + 1 ≤ maxLen := by unfold maxLen; omega
      have HOW := Lib.hid (OW5.out.alloc (.cells #[.slice none 0 0] 59))
      have HBA : Hid (B + 1 ≤ (wc.alloc (.cells #[.slice none 0 0] 59)).heap.size) := Lib.hid (by simp; omega)
      go_wp2_with (at_builtin; refine wpList_append_own _ rfl _ _ 60 rfl (B + 1) 59 i0 (.slice none 0 0) 1 24 Tryz.underlying60 hi hz0 hz1 hz2 rfl (by decide) (.slice a7 0 c7) 0 [] rfl HOW.out ⟨wc.heap.size, 0, none⟩ 1 1 [.slice none 0 0] rfl rfl (lit_cells wc #[.slice none 0 0] 59) (by simp [Value.oneCell']) h63 hby HBA.out ?_; intro v8 w8 hown8 hgr8 _)
      have HO8 : Hid (w8.ownsRow (B + 1) 59 1 v8 1 [.slice none 0 0]) := Lib.hid hown8
      have H8 := Lib.hid (HeldL.grownOwn (HeldL.skip H5.out _) hgr8 (fun k hk => own_aboveB HOW.out (by omega) HLO.out k hk))
      have X8 := Lib.hid (BoxT.grown (XT5.out.alloc _) hgr8 (own_ne HOW.out (Nat.lt_succ_self B)))
      have Z8 := Lib.hid (BoxT.grown (ZT5.out.alloc _) hgr8 (own_ne HOW.out (by omega)))
      clear hown8 hgr8
      go_meet
      case rel => exact ⟨HO8.out, H8.out, X8.out, Z8.out⟩
    · obtain rfl : any = LL := by rw [← HLL.out]; unfold anyL; rw [if_neg hrs]
      obtain rfl : cs = ds := by rw [← HDS.out, if_neg hrs]
      have h0i : ¬ (any.length : Int) = 0 := by omega
      have h0b : ((any.length : Int) == 0) = false := by simpa using h0i
      go_wp2
      go_meet
      case rel => exact ⟨OW5.out, H5.out, XT5.out, ZT5.out⟩
  case rest =>
  obtain ⟨how, hh, hxt, hzt⟩ := hcut
  obtain ⟨w6, hw6⟩ : ∃ w6 : World, w6 = wc := ⟨_, rfl⟩
  subst hw6
  have OW6 := Lib.hid how
  have H6 := Lib.hid hh
  have XT6 := Lib.hid hxt
  have ZT6 := Lib.hid hzt
  clear hh how hxt hzt H5 XT5 XT3 ZT5 ZT3 OW5 hxl hc7 hm7 hi hz0 hz1 hz2 HC HL HDS HLEN hnc2
  have x0 : w6.cell? ⟨B, 0, none⟩ = some (.int .i64 ((C : Nat) : Int)) := (H6.out.f (List.Mem.head _)).cell 0
  have xl := (H6.out.f (List.Mem.head _)).lt
  obtain ⟨g7, c8, hv7, hc8, hm8, hlo7, hgl7, hgc7⟩ := own_blk OW6.out hl1
  subst hv7
  have HGC := Lib.hid hgc7
  have m8i : (c8 : Int) ≤ 9223372036854775807 := by unfold maxLen at hm8; omega
  clear hgc7
  obtain ⟨sep, hsep⟩ : ∃ sep, [32, 111, 114] ++ g ++ [32] = sep := ⟨_, rfl⟩
  have sepl : sep.length ≤ 6 := by rw [← hsep]; simp; omega
  have HSEP := Lib.hid hsep
  obtain ⟨TC, hTC⟩ : ∃ TC, (if C = 5 then [] else joinM sep (LL.map allTx)) = TC := ⟨_, rfl⟩
  obtain ⟨MC, hMC⟩ : ∃ MC, (if C = 5 then [] else LL.map allMn) = MC := ⟨_, rfl⟩
  have HTC := Lib.hid hTC
  have HMC := Lib.hid hMC
  clear hTC hMC hsep
  go_upto_if 44 with fail
  go_cut [6] from 7 (fun v6 w' => ∃ u, v6 = S (q4 ++ TC) ∧ LpC w6 w' B #[.int .i64 ((C : Nat) : Int), u, .string ⟨#[]⟩] MC u)
  case first =>
    by_cases h5 : C = 5
    · obtain rfl : [] = TC := by rw [← HTC.out, if_pos h5]
      obtain rfl : [] = MC := by rw [← HMC.out, if_pos h5]
      subst h5
      go_wp2
      go_meet
      case rel => exact ⟨.slice none 0 0, by rw [List.append_nil], XT6.out, condAt_nil _ _, World.grownBy.refl _ _⟩
    · obtain rfl : joinM sep (LL.map allTx) = TC := by rw [← HTC.out, if_neg h5]
      obtain rfl : LL.map allMn = MC := by rw [← HMC.out, if_neg h5]
      have h5i : ¬ (C : Int) = 5 := by omega
      have h5b : ((C : Int) != 5) = true := by simpa using h5i
      simp only [h5b]
      go_wp2_with fail
      clear h5b h5i h5
      go_loopw [6, 47] (fun v6 i wr => ∃ (k : Nat) (u : Value), k ≤ LL.length ∧ i = .int .i64 k ∧ v6 = S (q4 ++ joinM sep ((LL.take k).map allTx)) ∧ LpC w6 wr B #[.int .i64 ((C : Nat) : Int), u, .string ⟨#[]⟩] ((LL.take k).map allMn) u) (fun _ i _ => LL.length - (intOf i).toNat)
      case atStart => exact ⟨0, .slice none 0 0, Nat.zero_le _, rfl, by simp [joinM, List.intercalate], XT6.out, condAt_nil _ _, World.grownBy.refl _ _⟩
      case round =>
        obtain ⟨k, u, hk, rfl, rfl, hlp⟩ := hrel
        have HLP := Lib.hid hlp
        have hsz := hlp.gr.size
        have xlr : B < wr.heap.size := hlp.box.box.lt
        obtain ⟨s0, hs0⟩ : ∃ s0, q4 ++ joinM sep ((LL.take k).map allTx) = s0 := ⟨_, rfl⟩
        rw [hs0]
        have HS0 := Lib.hid hs0
        clear hlp hs0
        by_cases hlt : k < LL.length
        · have hlti : (k : Int) < (LL.length : Int) := by omega
          obtain ⟨xk, hxk⟩ : ∃ xk, LL[k] = xk := ⟨_, rfl⟩
          obtain ⟨ck, ⟨uk, hck, hak⟩, hgk⟩ := ListAt.get (sz := 1) (fun x c ⟨u, e, _⟩ => by rw [e]; rfl) HLD.out k hlt
          rw [hxk] at hak
          have hck0 := hgk 0 (by decide)
          rw [hck, Nat.mul_one, Nat.add_zero] at hck0
          have HXK : Hid (LL[k]? = some xk) := Lib.hid (by rw [List.getElem?_eq_getElem hlt, hxk])
          have e0 : wr.cell? ⟨g7, k, none⟩ = some uk := HLP.out.gr.cell ((HGC.out k (by omega)).trans hck0) (fun e => by have h := Option.some.inj e; simp only at h; omega)
          clear hgk hck hck0 hxk
          obtain ⟨es, ⟨ak, nk, rfl, hnk, hmk, hek, hbk⟩, hlk⟩ := hak
          have HLK := Lib.hid hlk
          have HBK := Lib.hid hbk
          have HEK := Lib.hid hek
          clear hlk hbk hek
          have hk3 : (0 : Int) ≤ (k : Int) := by omega
          have hkc : (k : Int) < (c8 : Int) := by omega
          have glr : g7 < wr.heap.size := Nat.lt_of_lt_of_le hgl7 hsz
          have hmem : xk ∈ LL := List.mem_of_getElem? HXK.out
          have hk4 : xk.length ≤ 4 := anyL_b HB.out.2 xk (by rw [HLL.out]; exact hmem)
          have HRK : Hid (∀ r ∈ xk, r.rs.length ≤ 5) := Lib.hid (anyL_r HR.out xk (by rw [HLL.out]; exact hmem))
          clear hmem
          have BWR := Lib.hid (below_gr H6.out.bel HLP.out.gr (by omega))
          obtain ⟨i0, hi, hz0, hz1, hz2⟩ := info_parts infoRelM
          have nki : (nk : Int) ≤ 9223372036854775807 := by unfold maxLen at hmk; omega
          go_upto_region 11 with fail
          go_cut [10] from 49 to 101 (fun v10 w' => w'.ownsRow wr.heap.size 58 5 v10 xk.length es ∧ Below wr.heap.size wr w')
          case first =>
            have HOW := Lib.hid (show (wr.alloc (.cells #[] 58)).ownsRow wr.heap.size 58 5 (.slice (some ⟨wr.heap.size, 0, none⟩) 0 0) 0 [] from World.ownsRow_lit wr #[] 0 (Nat.le_refl _) (by decide) rfl)
            by_cases hrs : 0 < xk.length
            · obtain ⟨b, off, rfl, hbl, hbc⟩ := HBK.out hrs
              have HCE : Hid (∀ j u, es[j]? = some u → (wr.alloc (.cells #[] 58)).cell? ((⟨b, off, none⟩ : Addr).add j) = some u) := Lib.hid (fun j u hu => by
                have hj : j < xk.length * 5 := by rw [← HEK.out]; exact (List.getElem?_eq_some_iff.1 hu).1
                rw [show (⟨b, off, none⟩ : Addr).add j = ⟨b, off + j, none⟩ from by simp [Addr.add], (BWR.out.alloc BWR.out.size _).cell (p := ⟨b, off + j, none⟩) hbl, hbc j hj]; exact hu)
              have h63 : 0 + xk.length ≤ maxLen := by unfold maxLen; omega
              have hby : (0 + xk.length) * 56 ≤ 140737488355328 := by omega
              have HBA : Hid (wr.heap.size ≤ (wr.alloc (.cells #[] 58)).heap.size) := Lib.hid (by simp)
              have hlen2 := HEK.out
              have HON := Lib.hid (relm_one HLK.out)
              go_wp2_with (at_builtin; refine wpList_append_own _ rfl _ _ 59 rfl wr.heap.size 58 i0 (.agg #[.int .i64 0, .int .i64 0, .int .i64 0, .bool false, .slice none 0 0]) 5 56 Tryz.underlying59 hi hz0 hz1 hz2 rfl (by decide) (.slice (some ⟨wr.heap.size, 0, none⟩) 0 0) 0 [] rfl HOW.out ⟨b, off, none⟩ xk.length nk es rfl hlen2 HCE.out HON.out h63 hby HBA.out ?_; intro v8 w8 hown8 hgr8 _)
              have HO8 : Hid (w8.ownsRow wr.heap.size 58 5 v8 xk.length es) := Lib.hid (by have h := hown8; rw [Nat.zero_add] at h; exact h)
              have B8 : Hid (Below wr.heap.size wr w8) := Lib.hid (below_gr ((Below.refl wr.heap.size wr).alloc (Nat.le_refl _) _) hgr8 (Nat.le_refl _))
              clear hown8 hgr8
              go_meet
              case rel => exact ⟨HO8.out, B8.out⟩
            · obtain rfl : xk = [] := List.eq_nil_of_length_eq_zero (by omega)
              obtain rfl : es = [] := List.eq_nil_of_length_eq_zero (by simpa using HEK.out)
              cases ak with
              | none =>
                go_wp2
                go_meet
                case rel => exact ⟨HOW.out, (Below.refl wr.heap.size wr).alloc (Nat.le_refl _) _⟩
              | some ad =>
                go_wp2
                go_meet
                case rel => exact ⟨HOW.out, (Below.refl wr.heap.size wr).alloc (Nat.le_refl _) _⟩
          case rest =>
          obtain ⟨how, hbw⟩ := hcut
          have OW5 := Lib.hid how
          have B5 := Lib.hid hbw
          have hbz := hbw.size
          clear how hbw e0 glr
          obtain ⟨a9, c9, hv9, hc9, hm9, _⟩ := InN.own OW5.out
          subst hv9
          obtain ⟨KK, hKK⟩ : ∃ KK, lstL xk = KK := ⟨_, rfl⟩
          obtain ⟨fs, hfs⟩ : ∃ fs, (if xk = [] then [.int .i64 0, .int .i64 0, .int .i64 0, .bool false, .slice none 0 0] else es) = fs := ⟨_, rfl⟩
          have hK4 : KK.length ≤ 4 := by rw [← hKK]; exact lstL_len hk4
          have hK1 : 0 < KK.length := by rw [← hKK]; exact List.length_pos_iff.2 (lstL_ne _)
          have HKK := Lib.hid hKK
          have HFS := Lib.hid hfs
          have HLF : Hid (ListAt (RelmAt w) KK fs) := Lib.hid (by
            rw [← hKK, ← hfs]
            unfold lstL
            by_cases h0 : xk = []
            · rw [if_pos h0, if_pos h0]; exact ⟨_, [], rfl, relm_zero w, rfl⟩
            · rw [if_neg h0, if_neg h0]; exact HLK.out)
          have HRR : Hid (∀ r ∈ KK, r.rs.length ≤ 5) := Lib.hid (by rw [← hKK]; exact lstL_r HRK.out)
          clear hKK hfs
          go_upto_if 57 with fail
          go_cut [10] from 49 to 101 (fun v10 w' => w'.ownsRow wr.heap.size 58 5 v10 KK.length fs ∧ Below wr.heap.size wr w')
          case first =>
            by_cases hrs : xk = []
            · subst hrs
              obtain rfl : [⟨0, 0, 0, false, []⟩] = KK := by rw [← HKK.out]; rfl
              obtain rfl : [Value.int .i64 0, .int .i64 0, .int .i64 0, .bool false, .slice none 0 0] = fs := by rw [← HFS.out]; rfl
              obtain rfl : es = [] := List.eq_nil_of_length_eq_zero (by simpa using HEK.out)
              have hby : (0 + 1) * 56 ≤ 140737488355328 := by omega
              have h63 : 0 + 1 ≤ maxLen := by unfold maxLen; omega
              have HOW := Lib.hid (OW5.out.alloc (.cells #[.int .i64 0, .int .i64 0, .int .i64 0, .bool false, .slice none 0 0] 58))
              have HBA : Hid (wr.heap.size ≤ (wc.alloc (.cells #[.int .i64 0, .int .i64 0, .int .i64 0, .bool false, .slice none 0 0] 58)).heap.size) := Lib.hid (by simp; omega)
              go_wp2_with (at_builtin; refine wpList_append_own _ rfl _ _ 59 rfl wr.heap.size 58 i0 (.agg #[.int .i64 0, .int .i64 0, .int .i64 0, .bool false, .slice none 0 0]) 5 56 Tryz.underlying59 hi hz0 hz1 hz2 rfl (by decide) (.slice a9 0 c9) 0 [] rfl HOW.out ⟨wc.heap.size, 0, none⟩ 1 1 [.int .i64 0, .int .i64 0, .int .i64 0, .bool false, .slice none 0 0] rfl rfl (lit_cells wc #[.int .i64 0, .int .i64 0, .int .i64 0, .bool false, .slice none 0 0] 58) (by simp [Value.oneCell']) h63 hby HBA.out ?_; intro v8 w8 hown8 hgr8 _)
              have HO8 : Hid (w8.ownsRow wr.heap.size 58 5 v8 1 [.int .i64 0, .int .i64 0, .int .i64 0, .bool false, .slice none 0 0]) := Lib.hid hown8
              have B8 : Hid (Below wr.heap.size wr w8) := Lib.hid (below_own (B5.out.alloc B5.out.size _) hgr8 (fun q hq => (HOW.out.lt q hq).1))
              clear hown8 hgr8
              go_meet
              case rel => exact ⟨HO8.out, B8.out⟩
            · obtain rfl : xk = KK := by rw [← HKK.out]; unfold lstL; rw [if_neg hrs]
              obtain rfl : es = fs := by rw [← HFS.out, if_neg hrs]
              have h0i : ¬ (xk.length : Int) = 0 := by omega
              have h0b : ((xk.length : Int) == 0) = false := by simpa using h0i
              go_wp2
              go_meet
              case rel => exact ⟨OW5.out, B5.out⟩
          case rest =>
          obtain ⟨how, hbw⟩ := hcut
          obtain ⟨wz, hwz⟩ : ∃ wz : World, wz = wc := ⟨_, rfl⟩
          subst hwz
          have OW7 := Lib.hid how
          have B7 := Lib.hid hbw
          have hbz7 := hbw.size
          clear how hbw OW5 B5 hbz hi hz0 hz1 hz2 HEK HBK HLK HFS hnk hmk nki
          obtain ⟨s1, hs1⟩ : ∃ s1, (if k = 0 then s0 else s0 ++ [32, 111, 114] ++ g ++ [32]) = s1 := ⟨_, rfl⟩
          have HS1 := Lib.hid hs1
          clear hs1
          have s0b : s0.length ≤ 4000 := by
            rw [← HS0.out, List.length_append]
            have h1 := joinM_len sep 800 ((LL.take k).map allTx) (fun l hl => by
              obtain ⟨x, hx, rfl⟩ := List.mem_map.1 hl
              have hx' := List.mem_of_mem_take hx
              exact allTx_len (anyL_b HB.out.2 x (by rw [HLL.out]; exact hx')) (anyL_r HR.out x (by rw [HLL.out]; exact hx')))
            rw [List.length_map, List.length_take] at h1
            have h2 : min k LL.length * (800 + sep.length) ≤ 4 * 806 := Nat.mul_le_mul (by omega) (by omega)
            omega
          go_upto_if 63 with fail
          go_cut [6] from 49 to 101 (fun v6 w' => v6 = S s1 ∧ wz = w')
          case first =>
            by_cases hk0 : k = 0
            · obtain rfl : s0 = s1 := by rw [← HS1.out, if_pos hk0]
              have hk0i : ¬ (0 : Int) < (k : Int) := by omega
              clear hk0
              go_wp2
              go_meet
              case rel => exact ⟨rfl, rfl⟩
            · have hk0i : (0 : Int) < (k : Int) := by omega
              obtain ⟨t1, ht1⟩ : ∃ t1, s0 ++ [32, 111, 114] = t1 := ⟨_, rfl⟩
              have t1l : t1.length = s0.length + 3 := by rw [← ht1, List.length_append]; rfl
              have SBt1 : (⟨s0.toArray⟩ : ByteArray) ++ (⟨#[32, 111, 114]⟩ : ByteArray) = ⟨t1.toArray⟩ := by rw [← ht1]; exact arr_append s0 [32, 111, 114]
              have cbt1 : ¬ 9223372036854775807 < s0.length + 3 := by omega
              have Ht1 := Lib.hid ht1
              clear ht1
              obtain ⟨t2, ht2⟩ : ∃ t2, t1 ++ g = t2 := ⟨_, rfl⟩
              have t2l : t2.length = t1.length + g.length := by rw [← ht2, List.length_append]
              have SBt2 : (⟨t1.toArray⟩ : ByteArray) ++ (⟨g.toArray⟩ : ByteArray) = ⟨t2.toArray⟩ := by rw [← ht2]; exact arr_append t1 g
              have cbt2 : ¬ 9223372036854775807 < t1.length + g.length := by omega
              have Ht2 := Lib.hid ht2
              clear ht2
              obtain ⟨t3, ht3⟩ : ∃ t3, t2 ++ [32] = t3 := ⟨_, rfl⟩
              have t3l : t3.length = t2.length + 1 := by rw [← ht3, List.length_append]; rfl
              have SBt3 : (⟨t2.toArray⟩ : ByteArray) ++ (⟨#[32]⟩ : ByteArray) = ⟨t3.toArray⟩ := by rw [← ht3]; exact arr_append t2 [32]
              have cbt3 : ¬ 9223372036854775807 < t2.length + 1 := by omega
              have Ht3 := Lib.hid ht3
              clear ht3
              obtain rfl : t3 = s1 := by rw [← HS1.out, if_neg hk0, Ht1.out, Ht2.out, Ht3.out]
              clear hk0
              go_wp2
              go_meet
              case rel => exact ⟨rfl, rfl⟩
          case rest =>
          obtain ⟨rfl, rfl⟩ := hcut
          have s1b : s1.length ≤ 4010 := by rw [← HS1.out]; by_cases h0 : k = 0; rw [if_pos h0]; omega; rw [if_neg h0]; simp; omega
          clear s0b
          obtain ⟨g10, c10, hv10, hc10, hm10, hlo10, hgl10, hgc10⟩ := own_blk OW7.out hK1
          subst hv10
          have HGT := Lib.hid hgc10
          have m10i : (c10 : Int) ≤ 9223372036854775807 := by unfold maxLen at hm10; omega
          clear hgc10 OW7
          obtain ⟨i1, hi, hz0, hz1, hz2⟩ := info_parts infoRel
          go_wp2_with fail
          go_loopw [6, 11, 72] (fun v6 v11 i wq => ∃ (j : Nat), j ≤ KK.length ∧ i = .int .i64 j ∧ v6 = S (s1 ++ joinM [32, 97, 110, 100, 32] ((KK.take j).map relTx)) ∧ AllAt wq wz.heap.size ((KK.take j).map relMn) v11 ∧ Below wz.heap.size wz wq) (fun _ _ i _ => KK.length - (intOf i).toNat)
          case atStart => exact ⟨0, Nat.zero_le _, rfl, by simp [joinM, List.intercalate], ⟨[], World.ownsRow_lit wz #[] 0 (Nat.le_refl _) (by decide) rfl, rfl⟩, (Below.refl _ _).alloc (Nat.le_refl _) _⟩
          case round =>
            obtain ⟨j, hj, rfl, rfl, hal, hbq⟩ := hrel
            obtain ⟨wq, hwq⟩ : ∃ W : World, W = wr := ⟨_, rfl⟩
            subst hwq
            have BQ := Lib.hid hbq
            have hsq := hbq.size
            obtain ⟨ar, har, hrl⟩ := hal
            have hlenj : ((KK.take j).map relMn).length = j := by rw [List.length_map, List.length_take]; omega
            rw [hlenj] at har
            have HLJ := Lib.hid hlenj
            clear hlenj
            obtain ⟨a9, c9, hu⟩ := own_cap har
            subst hu
            have HAR := Lib.hid har
            have HRL := Lib.hid hrl
            obtain ⟨r0, hr0⟩ : ∃ r0, s1 ++ joinM [32, 97, 110, 100, 32] ((KK.take j).map relTx) = r0 := ⟨_, rfl⟩
            rw [hr0]
            have HR0 := Lib.hid hr0
            clear har hrl hr0 hbq
            by_cases hjt : j < KK.length
            · have hjti : (j : Int) < (KK.length : Int) := by omega
              obtain ⟨xj, hxj⟩ : ∃ xj, KK[j] = xj := ⟨_, rfl⟩
              have HXJ : Hid (KK[j]? = some xj) := Lib.hid (by rw [List.getElem?_eq_getElem hjt, hxj])
              clear hxj
              obtain ⟨vj, hnj, e0, e1, e2, e3, e4⟩ := relm_cells HLF.out HGT.out hgl10 BQ.out HXJ.out
              obtain ⟨av, cv, hvj⟩ : ∃ av cv, vj = .slice av xj.rs.length cv := by obtain ⟨x, y, e, _⟩ := hnj; exact ⟨x, y, e⟩
              subst hvj
              have hxl5 : xj.rs.length ≤ 5 := HRR.out xj (List.mem_of_getElem? HXJ.out)
              have HNJ := Lib.hid hnj
              have BWQ := Lib.hid (below_mid BWR.out B7.out BQ.out)
              clear hnj
              have hj3 : (0 : Int) ≤ (j : Int) := Int.natCast_nonneg j
              have hjc : (j : Int) < (c10 : Int) := Int.ofNat_lt.2 (Nat.lt_of_lt_of_le hjt hc10)
              have glq : g10 < wq.heap.size := Nat.lt_of_lt_of_le hgl10 hsq
              have HRA : Hid (Calls Tryz.prog 55 #[.agg #[.int .i64 xj.op, .int .i64 xj.md, .int .i64 xj.gp, .bool xj.nt, .slice av xj.rs.length cv]] (wq.alloc (.cells #[.int .i64 xj.op, .int .i64 xj.md, .int .i64 xj.gp, .bool xj.nt, .slice av xj.rs.length cv] 58)) fun e w' => ∃ u, e = .returned (.tuple #[.agg #[.int .u8 (((relMn xj).op : UInt8).toNat : Int), .int .i64 (((relMn xj).mod : Nat) : Int), .bool (relMn xj).nt, u], S (relTx xj)]) ∧ Rngs w' (wq.alloc (.cells #[.int .i64 xj.op, .int .i64 xj.md, .int .i64 xj.gp, .bool xj.nt, .slice av xj.rs.length cv] 58)).heap.size (relMn xj).rs u ∧ Below (wq.alloc (.cells #[.int .i64 xj.op, .int .i64 xj.md, .int .i64 xj.gp, .bool xj.nt, .slice av xj.rs.length cv] 58)).heap.size (wq.alloc (.cells #[.int .i64 xj.op, .int .i64 xj.md, .int .i64 xj.gp, .bool xj.nt, .slice av xj.rs.length cv] 58)) w') := Lib.hid (relation_as xj (.slice av xj.rs.length cv) _ (HT.out.below (BWQ.out.alloc BWQ.out.size _)) (HNJ.out.below (BWQ.out.alloc BWQ.out.size _)) hxl5)
              go_wp2_with fail
              refine (HRA.out).mono ?_
              rintro x w10 ⟨u2, rfl, hrg, hb⟩
              obtain ⟨a2, c2, hu2⟩ := own_cap hrg
              subst hu2
              have HRG := Lib.hid hrg
              have HB10 := Lib.hid hb
              obtain ⟨tx, htx⟩ : ∃ tx, relTx xj = tx := ⟨_, rfl⟩
              have txl : tx.length ≤ 190 := by rw [← htx]; exact relTx_len hxl5
              rw [htx]
              have HTX := Lib.hid htx
              have BQ10 : Hid (Below wq.heap.size wq w10) := Lib.hid (((Below.refl wq.heap.size wq).alloc (Nat.le_refl _) _).trans (HB10.out.mono (by simp)))
              have HX14 := Lib.hid (BoxT.new w10 (#[.int .u8 (((relMn xj).op : UInt8).toNat : Int), .int .i64 (((relMn xj).mod : Nat) : Int), .bool (relMn xj).nt, .slice a2 (relMn xj).rs.length c2] : Array Value) 50).box
              have B11 := Lib.hid ((Below.refl w10.heap.size w10).alloc (Nat.le_refl _) (.cells (#[.int .u8 (((relMn xj).op : UInt8).toNat : Int), .int .i64 (((relMn xj).mod : Nat) : Int), .bool (relMn xj).nt, .slice a2 (relMn xj).rs.length c2] : Array Value) 50))
              clear hrg hb htx e0 e1 e2 e3 e4 HRA HNJ BWQ glq hjc hj3 HB10
              go_upto_region 21 with fail
              generalize w10.alloc (.cells (#[.int .u8 (((relMn xj).op : UInt8).toNat : Int), .int .i64 (((relMn xj).mod : Nat) : Int), .bool (relMn xj).nt, .slice a2 (relMn xj).rs.length c2] : Array Value) 50) = w11 at *
              have c14 := HX14.out.lt
              have d0 := HX14.out.cell 0
              have d1 := HX14.out.cell 1
              have d2 := HX14.out.cell 2
              have d3 := HX14.out.cell 3
              simp only [List.getElem?_toArray, List.getElem?_cons_zero, List.getElem?_cons_succ] at d0 d1 d2 d3
              have HAR11 : Hid (w11.ownsRow wz.heap.size 50 4 (.slice a9 j c9) j ar) := Lib.hid (own_tag (own_tag HAR.out (grown_of_below BQ10.out none) (fun _ _ e => by cases e)) (grown_of_below B11.out none) (fun _ _ e => by cases e))
              have HRL11 : Hid (ListAt (RelAt w11) ((KK.take j).map relMn) ar) := Lib.hid (HRL.out.mono (fun y c h => (h.kept (grown_of_below BQ10.out none) (Apart.none _ _)).kept (grown_of_below B11.out none) (Apart.none _ _)))
              have HRG11 : Hid (Rngs w11 0 (relMn xj).rs (.slice a2 (relMn xj).rs.length c2)) := Lib.hid (own_mono (Rngs.kept HRG.out (grown_of_below B11.out none) (Apart.none _ _)) (Nat.zero_le _))
              have BZ11 : Hid (Below wz.heap.size wz w11) := Lib.hid (below_mid BQ.out BQ10.out B11.out)
              have hz11 := BZ11.out.size
              have hj9 : j ≤ 4 := Nat.le_trans hj hK4
              have h63 : j + 1 ≤ maxLen := Nat.le_trans (Nat.succ_le_succ hj9) (by unfold maxLen; decide)
              have hby : (j + 1) * 48 ≤ 140737488355328 := Nat.le_trans (Nat.mul_le_mul_right 48 (Nat.succ_le_succ hj9)) (by decide)
              have HBA : Hid (wz.heap.size ≤ (w11.alloc (.cells (#[.int .u8 (((relMn xj).op : UInt8).toNat : Int), .int .i64 (((relMn xj).mod : Nat) : Int), .bool (relMn xj).nt, .slice a2 (relMn xj).rs.length c2] : Array Value) 50)).heap.size) := Lib.hid (Nat.le_trans hz11 (by simp))
              have HARA := Lib.hid (HAR11.out.alloc (.cells (#[.int .u8 (((relMn xj).op : UInt8).toNat : Int), .int .i64 (((relMn xj).mod : Nat) : Int), .bool (relMn xj).nt, .slice a2 (relMn xj).rs.length c2] : Array Value) 50))
              clear HAR HRL HRG
              go_upto_region 22 with (at_builtin; refine wpList_append_own _ rfl _ _ 47 rfl wz.heap.size 50 i1 (.agg #[.int .u8 0, .int .i64 0, .bool false, .slice none 0 0]) 4 48 Tryz.underlying47 hi hz0 hz1 hz2 rfl (by decide) (.slice a9 j c9) j ar rfl HARA.out ⟨w11.heap.size, 0, none⟩ 1 1 [.int .u8 (((relMn xj).op : UInt8).toNat : Int), .int .i64 (((relMn xj).mod : Nat) : Int), .bool (relMn xj).nt, .slice a2 (relMn xj).rs.length c2] rfl rfl (lit_cells w11 #[.int .u8 (((relMn xj).op : UInt8).toNat : Int), .int .i64 (((relMn xj).mod : Nat) : Int), .bool (relMn xj).nt, .slice a2 (relMn xj).rs.length c2] 50) (by simp [Value.oneCell']) h63 hby HBA.out ?_; intro v8 w8 hown8 hgr8 _; have HALL8 : Hid (AllAt w8 wz.heap.size ((KK.take (j + 1)).map relMn) v8) := Lib.hid (by rw [takeM_snoc relMn HXJ.out]; exact all_append (by rw [HLJ.out]; exact HAR11.out) HRL11.out (relMn xj) _ HRG11.out (by rw [HLJ.out]; exact hown8) hgr8); have BZ8 : Hid (Below wz.heap.size wz w8) := Lib.hid (below_own (BZ11.out.alloc hz11 _) hgr8 (fun q hq => (HARA.out.lt q hq).1)); clear hown8 hgr8)
              clear HAR11 HRL11 HRG11 BZ11 HARA HBA d0 d1 d2 d3 c14 hz11 HX14 B11 BQ10 h63 hby
              obtain ⟨r1, hr1⟩ : ∃ r1, (if j = 0 then r0 else r0 ++ [32, 97, 110, 100, 32]) = r1 := ⟨_, rfl⟩
              have HR1 := Lib.hid hr1
              clear hr1
              have r0b : r0.length ≤ 4800 := by
                rw [← HR0.out, List.length_append]
                have h1 := joinM_len [32, 97, 110, 100, 32] 190 ((KK.take j).map relTx) (fun l hl => by
                  obtain ⟨x, hx, rfl⟩ := List.mem_map.1 hl
                  exact relTx_len (HRR.out x (List.mem_of_mem_take hx)))
                rw [List.length_map, List.length_take] at h1
                have h2 : min j KK.length * (190 + ([32, 97, 110, 100, 32] : List UInt8).length) ≤ 4 * 195 := Nat.mul_le_mul (by omega) (by simp)
                omega
              have r1b : r1.length ≤ 4805 := by rw [← HR1.out]; by_cases h0 : j = 0; rw [if_pos h0]; omega; rw [if_neg h0]; simp; omega
              go_upto_if 87 with fail
              go_cut [6] from 73 to 94 (fun v6 w' => v6 = S r1 ∧ w8 = w')
              case first =>
                by_cases hj0 : j = 0
                · obtain rfl : r0 = r1 := by rw [← HR1.out, if_pos hj0]
                  have hj0i : ¬ (0 : Int) < (j : Int) := by omega
                  clear hj0
                  go_wp2
                  go_meet
                  case rel => exact ⟨rfl, rfl⟩
                · have hj0i : (0 : Int) < (j : Int) := by omega
                  obtain ⟨t4, ht4⟩ : ∃ t4, r0 ++ [32, 97, 110, 100] = t4 := ⟨_, rfl⟩
                  have t4l : t4.length = r0.length + 4 := by rw [← ht4, List.length_append]; rfl
                  have SBt4 : (⟨r0.toArray⟩ : ByteArray) ++ (⟨#[32, 97, 110, 100]⟩ : ByteArray) = ⟨t4.toArray⟩ := by rw [← ht4]; exact arr_append r0 [32, 97, 110, 100]
                  have cbt4 : ¬ 9223372036854775807 < r0.length + 4 := by omega
                  have Ht4 := Lib.hid ht4
                  clear ht4
                  obtain ⟨t5, ht5⟩ : ∃ t5, t4 ++ [32] = t5 := ⟨_, rfl⟩
                  have t5l : t5.length = t4.length + 1 := by rw [← ht5, List.length_append]; rfl
                  have SBt5 : (⟨t4.toArray⟩ : ByteArray) ++ (⟨#[32]⟩ : ByteArray) = ⟨t5.toArray⟩ := by rw [← ht5]; exact arr_append t4 [32]
                  have cbt5 : ¬ 9223372036854775807 < t4.length + 1 := by omega
                  have Ht5 := Lib.hid ht5
                  clear ht5
                  obtain rfl : t5 = r1 := by rw [← HR1.out, if_neg hj0, ← Ht5.out, ← Ht4.out]; simp
                  clear hj0
                  go_wp2
                  go_meet
                  case rel => exact ⟨rfl, rfl⟩
              case rest =>
              obtain ⟨rfl, rfl⟩ := hcut
              obtain ⟨t6, ht6⟩ : ∃ t6, r1 ++ tx = t6 := ⟨_, rfl⟩
              have t6l : t6.length = r1.length + tx.length := by rw [← ht6, List.length_append]
              have SBt6 : (⟨r1.toArray⟩ : ByteArray) ++ (⟨tx.toArray⟩ : ByteArray) = ⟨t6.toArray⟩ := by rw [← ht6]; exact arr_append r1 tx
              have cbt6 : ¬ 9223372036854775807 < r1.length + tx.length := by omega
              have Ht6 := Lib.hid ht6
              clear ht6
              go_wp2_with fail
              go_roundw
              case rel => exact ⟨j + 1, hjt, by go_num, by rw [take_join _ _ HXJ.out, HR0.out, HTX.out, HR1.out, Ht6.out], HALL8.out, BZ8.out⟩
              case measure => simp [intOf]; omega
            · obtain rfl : j = KK.length := by omega
              have hjni : ¬ (KK.length : Int) < (KK.length : Int) := by omega
              have HALL : Hid (AllAt wq 0 (allMn xk) (.slice a9 KK.length c9)) := Lib.hid (by
                have h := AllAt.mono (show AllAt wq wz.heap.size ((KK.take KK.length).map relMn) (.slice a9 KK.length c9) from ⟨ar, by rw [HLJ.out]; exact HAR.out, HRL.out⟩)
                rw [List.take_length] at h
                unfold allMn
                rw [HKK.out]
                exact h)
              have XB1 : Hid (BoxT wq B #[.int .i64 ((C : Nat) : Int), u, .string ⟨#[]⟩] 39) := Lib.hid (BoxT.grown (BoxT.grown HLP.out.box (grown_of_below B7.out none) (by simp)) (grown_of_below BQ.out none) (by simp))
              have hcq := (HLP.out.cond.kept (grown_of_below B7.out none) (Apart.none _ _)).kept (grown_of_below BQ.out none) (Apart.none _ _)
              obtain ⟨cu9, hco, hcl⟩ := hcq
              have hlenk : ((LL.take k).map allMn).length = k := by rw [List.length_map, List.length_take]; omega
              rw [hlenk] at hco
              have HLK9 := Lib.hid hlenk
              obtain ⟨au, cu, hu⟩ := own_cap hco
              subst hu
              have G6 : Hid (w6.grownBy wq (some B)) := Lib.hid (gr_none (gr_none HLP.out.gr B7.out) BQ.out)
              have hr9 : q4 ++ joinM sep ((LL.take (k + 1)).map allTx) = r0 := by
                rw [take_join sep allTx HXK.out, HS0.out, ← HR0.out, List.take_length, ← HS1.out]
                unfold allTx
                rw [HKK.out, ← HSEP.out]
                by_cases h0 : k = 0
                · rw [if_pos h0, if_pos h0]
                · rw [if_neg h0, if_neg h0]; simp
              have HR9 := Lib.hid hr9
              have HCO := Lib.hid hco
              have HCL := Lib.hid hcl
              clear hlenk hco hcl hr9 HAR HRL hi hz0 hz1 hz2 HLJ
              obtain ⟨i2, ki, kz0, kz1, kz2⟩ := info_parts infoAll
              have e1 : wq.cell? ⟨B, 1, none⟩ = some (.slice au k cu) := XB1.out.box.cell 1
              have el := XB1.out.box.lt
              have hw6q := G6.out.size
              have hk9 : k ≤ 4 := Nat.le_trans hk hl4
              have h63 : k + 1 ≤ maxLen := Nat.le_trans (Nat.succ_le_succ hk9) (by unfold maxLen; decide)
              have hby : (k + 1) * 24 ≤ 140737488355328 := Nat.le_trans (Nat.mul_le_mul_right 24 (Nat.succ_le_succ hk9)) (by decide)
              have HBA : Hid (w6.heap.size ≤ (wq.alloc (.cells (#[.slice a9 KK.length c9] : Array Value) 47)).heap.size) := Lib.hid (Nat.le_trans hw6q (by simp))
              have HCA := Lib.hid (HCO.out.alloc (.cells (#[.slice a9 KK.length c9] : Array Value) 47))
              go_upto_region 27 with (at_builtin; refine wpList_append_own _ rfl _ _ 37 rfl w6.heap.size 47 i2 (.slice none 0 0) 1 24 Tryz.underlying37 ki kz0 kz1 kz2 rfl (by decide) (.slice au k cu) k cu9 rfl HCA.out ⟨wq.heap.size, 0, none⟩ 1 1 [.slice a9 KK.length c9] rfl rfl (lit_cells wq #[.slice a9 KK.length c9] 47) (by simp [Value.oneCell']) h63 hby HBA.out ?_; intro v8 w8 hown8 hgr8 _; obtain ⟨b8, d8, hv8⟩ := own_cap hown8; subst hv8; have XB8 := Lib.hid (BoxT.grown (XB1.out.alloc _) hgr8 (own_ne HCA.out xl)); have HC8 : Hid (CondAt w8 w6.heap.size ((LL.take k).map allMn ++ [allMn xk]) (.slice b8 (k + 1) d8)) := Lib.hid (cond_append (by rw [HLK9.out]; exact HCO.out) HCL.out (allMn xk) _ HALL.out (by rw [HLK9.out]; exact hown8) hgr8); have G8 : Hid (w6.grownBy w8 (some B)) := Lib.hid (gr_step (gr_step G6.out (World.grownBy_alloc wq _ none) (fun _ e => by cases e)) hgr8 (fun q hq => (HCA.out.lt q hq).1)); have f1 : w8.cell? ⟨B, 1, none⟩ = some (.slice au k cu) := XB8.out.box.cell 1; have f2 := XB8.out.box.frozen 1; have f3 := XB8.out.box.lt; clear hown8 hgr8)
              have HLPN : Hid (LpC w6 (w8.setCell ⟨B, 1, none⟩ (.slice b8 (k + 1) d8)) B #[.int .i64 ((C : Nat) : Int), .slice b8 (k + 1) d8, .string ⟨#[]⟩] ((LL.take (k + 1)).map allMn) (.slice b8 (k + 1) d8)) := Lib.hid ⟨XB8.out.set 1 (.slice b8 (k + 1) d8), by rw [takeM_snoc allMn HXK.out]; exact HC8.out.kept (grown_set (World.grownBy.refl w8 _) 1 (.slice b8 (k + 1) d8)) (BoxT.apart XB8.out (by decide)), grown_set G8.out 1 (.slice b8 (k + 1) d8)⟩
              clear f1 f2 f3 e1 XB8 HC8 G8
              generalize w8.setCell ⟨B, 1, none⟩ (.slice b8 (k + 1) d8) = w9 at *
              go_wp2_with fail
              go_roundw
              case rel => exact ⟨k + 1, .slice b8 (k + 1) d8, hlt, by go_num, by rw [HR9.out], HLPN.out⟩
              case measure => simp [intOf]; omega
        · obtain rfl : k = LL.length := by omega
          have hlni : ¬ (LL.length : Int) < (LL.length : Int) := by omega
          go_wp2
          go_meet
          case rel => exact ⟨u, by rw [← HS0.out, List.take_length], by have h := HLP.out; rw [List.take_length] at h; exact h⟩
  case rest =>
  obtain ⟨u, rfl, hh⟩ := hcut
  have HLP := Lib.hid hh
  obtain ⟨cu9, hco, hcl⟩ := hh.cond
  obtain ⟨au, cu, hu⟩ := own_cap hco
  subst hu
  clear hh hco hcl
  obtain ⟨P, hP⟩ : ∃ P, modM sp 5 = P := ⟨_, rfl⟩
  have hPm := modM_is sp 5 (by decide) (by decide)
  rw [hP] at hPm
  have hP5 : P < 5 := by have := hPm.2; omega
  have hPe := hPm.1
  have hPi : (P : Int) < 5 := hPm.2
  have HPP := Lib.hid hP
  clear hP hPm
  have hBw : w.heap.size + 1 < B := by omega
  have m2 : wc.cell? ⟨w.heap.size, 2, none⟩ = some (.int .i64 sp) := HLP.out.gr.cell ((H6.out.f (List.Mem.tail _ (List.Mem.tail _ (List.Mem.head _)))).cell 2) (fun e => by have h := Option.some.inj e; simp only at h; omega)
  have ml6 : w.heap.size < wc.heap.size := by have := HLP.out.gr.size; omega
  have HS5 := Lib.hid (BoxT.new wc (#[.string ⟨#[]⟩, .string ⟨#[64, 105, 110, 116, 101, 103, 101, 114, 32, 49, 44, 32, 50, 49, 126, 50, 52, 44, 32, 226, 128, 166]⟩, .string ⟨#[64, 100, 101, 99, 105, 109, 97, 108, 32, 48, 46, 48]⟩, .string ⟨#[64, 32, 119, 104, 97, 116, 32, 101, 118, 101, 114, 32, 64]⟩, .string ⟨#[]⟩] : Array Value) 9)
  have l5 : (wc.alloc (.cells (#[.string ⟨#[]⟩, .string ⟨#[64, 105, 110, 116, 101, 103, 101, 114, 32, 49, 44, 32, 50, 49, 126, 50, 52, 44, 32, 226, 128, 166]⟩, .string ⟨#[64, 100, 101, 99, 105, 109, 97, 108, 32, 48, 46, 48]⟩, .string ⟨#[64, 32, 119, 104, 97, 116, 32, 101, 118, 101, 114, 32, 64]⟩, .string ⟨#[]⟩] : Array Value) 9)).cell? ⟨wc.heap.size, P, none⟩ = some (S (smpB P)) := (HS5.out.box.cell P).trans (smp_at P hP5)
  have XBc := Lib.hid (HLP.out.box.alloc (.cells (#[.string ⟨#[]⟩, .string ⟨#[64, 105, 110, 116, 101, 103, 101, 114, 32, 49, 44, 32, 50, 49, 126, 50, 52, 44, 32, 226, 128, 166]⟩, .string ⟨#[64, 100, 101, 99, 105, 109, 97, 108, 32, 48, 46, 48]⟩, .string ⟨#[64, 32, 119, 104, 97, 116, 32, 101, 118, 101, 114, 32, 64]⟩, .string ⟨#[]⟩] : Array Value) 9))
  have e2 : (wc.alloc (.cells (#[.string ⟨#[]⟩, .string ⟨#[64, 105, 110, 116, 101, 103, 101, 114, 32, 49, 44, 32, 50, 49, 126, 50, 52, 44, 32, 226, 128, 166]⟩, .string ⟨#[64, 100, 101, 99, 105, 109, 97, 108, 32, 48, 46, 48]⟩, .string ⟨#[64, 32, 119, 104, 97, 116, 32, 101, 118, 101, 114, 32, 64]⟩, .string ⟨#[]⟩] : Array Value) 9)).cell? ⟨B, 2, none⟩ = some (.string ⟨#[]⟩) := XBc.out.box.cell 2
  have e3 := XBc.out.box.frozen 2
  have e4 := XBc.out.box.lt
  obtain ⟨sm, hsm⟩ : ∃ sm, smpB P = sm := ⟨_, rfl⟩
  have sml : sm.length ≤ 22 := by rw [← hsm]; exact smp_len P hP5
  rw [hsm] at l5
  have HSM := Lib.hid hsm
  clear hsm
  go_upto_region 29 with fail
  have XN := Lib.hid (XBc.out.set 2 (S sm))
  have ZN := Lib.hid (BoxT.other (a := ⟨B, 2, none⟩) ((BoxT.grown ZT6.out HLP.out.gr (fun e => by have h := Option.some.inj e; omega)).alloc (.cells (#[.string ⟨#[]⟩, .string ⟨#[64, 105, 110, 116, 101, 103, 101, 114, 32, 49, 44, 32, 50, 49, 126, 50, 52, 44, 32, 226, 128, 166]⟩, .string ⟨#[64, 100, 101, 99, 105, 109, 97, 108, 32, 48, 46, 48]⟩, .string ⟨#[64, 32, 119, 104, 97, 116, 32, 101, 118, 101, 114, 32, 64]⟩, .string ⟨#[]⟩] : Array Value) 9)) (by simp only; omega) (S sm))
  have CN := Lib.hid ((HLP.out.cond.kept (World.grownBy_alloc wc (.cells (#[.string ⟨#[]⟩, .string ⟨#[64, 105, 110, 116, 101, 103, 101, 114, 32, 49, 44, 32, 50, 49, 126, 50, 52, 44, 32, 226, 128, 166]⟩, .string ⟨#[64, 100, 101, 99, 105, 109, 97, 108, 32, 48, 46, 48]⟩, .string ⟨#[64, 32, 119, 104, 97, 116, 32, 101, 118, 101, 114, 32, 64]⟩, .string ⟨#[]⟩] : Array Value) 9) none) (Apart.none _ _)).kept (grown_set (World.grownBy.refl _ _) 2 (S sm)) (BoxT.apart XBc.out (by decide)))
  have BN := Lib.hid (below_gr (below_gr H6.out.bel HLP.out.gr (by omega)) (grown_set (World.grownBy_alloc wc (.cells (#[.string ⟨#[]⟩, .string ⟨#[64, 105, 110, 116, 101, 103, 101, 114, 32, 49, 44, 32, 50, 49, 126, 50, 52, 44, 32, 226, 128, 166]⟩, .string ⟨#[64, 100, 101, 99, 105, 109, 97, 108, 32, 48, 46, 48]⟩, .string ⟨#[64, 32, 119, 104, 97, 116, 32, 101, 118, 101, 114, 32, 64]⟩, .string ⟨#[]⟩] : Array Value) 9) (some B)) 2 (S sm)) (by omega))
  clear l5 m2 e2 e3 e4 HS5 XBc
  generalize (wc.alloc (.cells (#[.string ⟨#[]⟩, .string ⟨#[64, 105, 110, 116, 101, 103, 101, 114, 32, 49, 44, 32, 50, 49, 126, 50, 52, 44, 32, 226, 128, 166]⟩, .string ⟨#[64, 100, 101, 99, 105, 109, 97, 108, 32, 48, 46, 48]⟩, .string ⟨#[64, 32, 119, 104, 97, 116, 32, 101, 118, 101, 114, 32, 64]⟩, .string ⟨#[]⟩] : Array Value) 9)).setCell ⟨B, 2, none⟩ (S sm) = w9 at *
  have TCb : TC.length ≤ 3300 := by
    rw [← HTC.out]
    by_cases h5 : C = 5
    · rw [if_pos h5]; simp
    · rw [if_neg h5]
      have h1 := joinM_len sep 800 (LL.map allTx) (fun l hl => by
        obtain ⟨x, hx, rfl⟩ := List.mem_map.1 hl
        exact allTx_len (anyL_b HB.out.2 x (by rw [HLL.out]; exact hx)) (anyL_r HR.out x (by rw [HLL.out]; exact hx)))
      rw [List.length_map] at h1
      have h2 : LL.length * (800 + sep.length) ≤ 4 * 806 := Nat.mul_le_mul (by omega) (by omega)
      omega
  obtain ⟨s9, hs9⟩ : ∃ s9, q4 ++ TC = s9 := ⟨_, rfl⟩
  have s9b : s9.length ≤ 3312 := by rw [← hs9, List.length_append]; omega
  rw [hs9]
  have HS9 := Lib.hid hs9
  clear hs9
  obtain ⟨p1, hp1⟩ : ∃ p1, s9 ++ [32] = p1 := ⟨_, rfl⟩
  have p1l : p1.length = s9.length + 1 := by rw [← hp1, List.length_append]; rfl
  have SBp1 : (⟨s9.toArray⟩ : ByteArray) ++ (⟨#[32]⟩ : ByteArray) = ⟨p1.toArray⟩ := by rw [← hp1]; exact arr_append s9 [32]
  have cbp1 : ¬ 9223372036854775807 < s9.length + 1 := by omega
  have Hp1 := Lib.hid hp1
  clear hp1
  obtain ⟨p2, hp2⟩ : ∃ p2, p1 ++ sm = p2 := ⟨_, rfl⟩
  have p2l : p2.length = p1.length + sm.length := by rw [← hp2, List.length_append]
  have SBp2 : (⟨p1.toArray⟩ : ByteArray) ++ (⟨sm.toArray⟩ : ByteArray) = ⟨p2.toArray⟩ := by rw [← hp2]; exact arr_append p1 sm
  have cbp2 : ¬ 9223372036854775807 < p1.length + sm.length := by omega
  have Hp2 := Lib.hid hp2
  clear hp2
  obtain ⟨p3, hp3⟩ : ∃ p3, p2 ++ g = p3 := ⟨_, rfl⟩
  have p3l : p3.length = p2.length + g.length := by rw [← hp3, List.length_append]
  have SBp3 : (⟨p2.toArray⟩ : ByteArray) ++ (⟨g.toArray⟩ : ByteArray) = ⟨p3.toArray⟩ := by rw [← hp3]; exact arr_append p2 g
  have cbp3 : ¬ 9223372036854775807 < p2.length + g.length := by omega
  have Hp3 := Lib.hid hp3
  clear hp3
  have y0 : w9.drew.cell? ⟨B, 0, none⟩ = some (.int .i64 ((C : Nat) : Int)) := XN.out.box.cell 0
  have y1 : w9.drew.cell? ⟨B, 1, none⟩ = some (.slice au MC.length cu) := XN.out.box.cell 1
  have y2 : w9.drew.cell? ⟨B, 2, none⟩ = some (S sm) := XN.out.box.cell 2
  have yl : B < w9.drew.heap.size := XN.out.box.lt
  have z0 : w9.drew.cell? ⟨w.heap.size + 1, 0, none⟩ = some (.int .i64 0) := ZN.out.box.cell 0
  have z1 : w9.drew.cell? ⟨w.heap.size + 1, 1, none⟩ = some (.slice none 0 0) := ZN.out.box.cell 1
  have z2 : w9.drew.cell? ⟨w.heap.size + 1, 2, none⟩ = some (.string ⟨#[]⟩) := ZN.out.box.cell 2
  have z3 : w9.drew.frozen? ⟨w.heap.size + 1, 0, none⟩ = false := ZN.out.box.frozen 0
  have z4 : w9.drew.frozen? ⟨w.heap.size + 1, 1, none⟩ = false := ZN.out.box.frozen 1
  have z5 : w9.drew.frozen? ⟨w.heap.size + 1, 2, none⟩ = false := ZN.out.box.frozen 2
  have zl9 : w.heap.size + 1 < w9.drew.heap.size := ZN.out.box.lt
  have x0' : w9.cell? ⟨w.heap.size + 1, 0, none⟩ = some (.int .i64 0) := z0
  have x1' : w9.cell? ⟨w.heap.size + 1, 1, none⟩ = some (.slice none 0 0) := z1
  have x2' : w9.cell? ⟨w.heap.size + 1, 2, none⟩ = some (.string ⟨#[]⟩) := z2
  have x3' : w9.frozen? ⟨w.heap.size + 1, 0, none⟩ = false := z3
  have x4' : w9.frozen? ⟨w.heap.size + 1, 1, none⟩ = false := z4
  have x5' : w9.frozen? ⟨w.heap.size + 1, 2, none⟩ = false := z5
  have xl9 : w.heap.size + 1 < w9.heap.size := zl9
  have y0' : w9.cell? ⟨B, 0, none⟩ = some (.int .i64 ((C : Nat) : Int)) := y0
  have y1' : w9.cell? ⟨B, 1, none⟩ = some (.slice au MC.length cu) := y1
  have y2' : w9.cell? ⟨B, 2, none⟩ = some (S sm) := y2
  have hne1 : ¬ w.heap.size + 1 = B := by omega
  have hne2 : ¬ B = w.heap.size + 1 := by omega
  clear p1l p2l p3l
  go_region
  have ZF := Lib.hid ((Box.store3 ZN.out.box (.int .i64 ((C : Nat) : Int)) (.slice au MC.length cu) (S sm)).drew)
  have GF := Lib.hid (grown_set (grown_set (grown_set (World.grownBy.refl w9 (some (w.heap.size + 1))) 0 (.int .i64 ((C : Nat) : Int))) 1 (.slice au MC.length cu)) 2 (S sm))
  have CF := Lib.hid ((CN.out.kept GF.out (BoxT.apart ZN.out (by decide))).kept (grown_of_below ((Below.refl _ _).drew) none) (Apart.none _ _))
  have BF := Lib.hid ((below_gr BN.out GF.out (by omega)).drew)
  have e2 : msmp ⟨ct, gp, sp, any⟩ = sm := by show smpB (modM sp 5) = sm; rw [HPP.out]; exact HSM.out
  have e1 : mcat ⟨ct, gp, sp, any⟩ = C := HCC.out
  have e4 : (madeMn ⟨ct, gp, sp, any⟩).any = MC := by unfold madeMn condMn; dsimp only; rw [e1, HLL.out, HMC.out]
  have e3 : madeTx ⟨ct, gp, sp, any⟩ = p3 := by
    unfold madeTx
    rw [HQ4.out, e2, show bl (mqN ⟨ct, gp, sp, any⟩) = g from HG.out, e1]
    unfold condTx
    dsimp only
    rw [HLL.out, HSEP.out, HTC.out, HS9.out, Hp1.out, Hp2.out, Hp3.out]
  have hle : w.heap.size ≤ w6.heap.size := H6.out.bel.size
  have HE := Lib.hid e1
  have HE2 := Lib.hid e2
  have HE3 := Lib.hid e3
  have HE4 := Lib.hid e4
  clear e1 e2 e3 e4 y0 y1 y2 z0 z1 z2 z3 z4 z5 x0' x1' x2' x3' x4' x5' y0' y1' y2'
  generalize ((((w9.setCell ⟨w.heap.size + 1, 0, none⟩ (.int .i64 ((C : Nat) : Int))).setCell ⟨w.heap.size + 1, 1, none⟩ (.slice au MC.length cu)).setCell ⟨w.heap.size + 1, 2, none⟩ (S sm)).drew) = wF at *
  have r0 : wF.cell? ⟨w.heap.size + 1, 0, none⟩ = some (.int .i64 ((C : Nat) : Int)) := ZF.out.cell 0
  have r1 : wF.cell? ⟨w.heap.size + 1, 1, none⟩ = some (.slice au MC.length cu) := ZF.out.cell 1
  have r2 : wF.cell? ⟨w.heap.size + 1, 2, none⟩ = some (S sm) := ZF.out.cell 2
  go_wp2
  exact bodyPost_ret (v := .tuple #[.agg #[.int .i64 ((C : Nat) : Int), .slice au MC.length cu, S sm], S p3]) (by simp [results, Tryz.results30, go_sem, r0, r1, r2]) rfl ⟨_, by rw [HE.out, HE2.out, HE3.out], by rw [HE4.out]; exact CF.out.lower hle, BF.out⟩

end Go.Proofs.YtkjhdehpcanciaaGreatDoor
