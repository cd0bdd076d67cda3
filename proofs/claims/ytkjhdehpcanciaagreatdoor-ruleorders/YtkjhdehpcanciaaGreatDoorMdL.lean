/- Rules as they are made, one behind the other. -/
import Derived.Test.YtkjhdehpcanciaaGreatDoorMdL0
import Derived.Test.YtkjhdehpcanciaaGreatDoorMdW
namespace Go.Proofs.YtkjhdehpcanciaaGreatDoor
open Go.RowKit Florin
set_option linter.unusedVariables false
set_option linter.unusedSimpArgs false
attribute [local go_sem ↓] Go.wp_at_zero Go.wp_at_succ
theorem BoxT.rowX {w w' : World} {B : Nat} {e : TypeId} {size : Nat} {v : Value} {n : Nat} {xs : List Value} {b : Nat} {cs : Array Value} {t : TypeId} (h : BoxT w b cs t) (ho : w.ownsRow B e size v n xs) (hg : w.grownBy w' v.ownBlock) (ht : t ≠ e) : BoxT w' b cs t := by
  rcases ho.2 with ⟨rfl, _⟩ | ⟨g, cap, cur, rfl, _, hq, _⟩
  · exact h.grown hg (by simp [Value.ownBlock])
  · refine h.grown hg (fun hh => ht ?_)
    have hbg : b = g := by simpa [Value.ownBlock] using hh
    subst hbg
    have h1 : w.heap[b]? = some (.cells cs t) := h
    rw [h1] at hq
    injection hq with h2
    injection h2
theorem keep_len (ms : List MadeM) (k : Nat) : (keepM [] (ms.take k)).length ≤ ms.length := by
  have h := (keep_sub (ms.take k) []).2.2
  rw [List.length_take] at h
  omega
theorem keep_mem {ms : List MadeM} {k : Nat} {m : MadeM} (h : m ∈ keepM [] (ms.take k)) : m ∈ ms := List.mem_of_mem_take ((keep_sub (ms.take k) []).1 m h).1
set_option maxRecDepth 100000 in
set_option maxHeartbeats 12800000 in
theorem allM_as (ms : List MadeM) (v : Value) (e : Int) (w : World) (ht : Tab w) (hW : Wds w) (hv : MadesAt w ms v) (hn : ms.length ≤ 8) (hb : ∀ m ∈ ms, madeB m) (hr : ∀ m ∈ ms, ∀ a ∈ m.any, ∀ r ∈ a, r.rs.length ≤ 5) :
    Calls Tryz.prog 12 #[v, .int .i64 e] w fun x w' => ∃ u, x = .returned (.tuple #[u, S (madesTx ms e)]) ∧ RulesAt w' w.heap.size (madesMn ms) u ∧ Below w.heap.size w w' := by
  obtain ⟨cs, ⟨a, c, rfl, hnc, hcm, hlen, hcell⟩, hL⟩ := hv
  have HC : Hid (0 < ms.length → ∃ b off, a = some ⟨b, off, none⟩ ∧ b < w.heap.size ∧ ∀ j, j < ms.length * 4 → w.cell? ⟨b, off + j, none⟩ = cs[j]?) := Lib.hid hcell
  have HL := Lib.hid hL
  have HT := Lib.hid ht
  have HW := Lib.hid hW
  have HB := Lib.hid hb
  have HR := Lib.hid hr
  have hcmi : (c : Int) ≤ 9223372036854775807 := by unfold maxLen at hcm; omega
  clear hcell hL ht hW hb hr hlen
  go_enter Tryz.func12, Tryz.ntmps12
  go_wp2_with fail
  go_loopw [6, 7, 17] (fun v6 v7 i wr => ∃ k : Nat, k ≤ ms.length ∧ i = .int .i64 (k : Int) ∧ RulesAt wr w.heap.size ((keepM [] (ms.take k)).map madeMn) v6 ∧ v7 = S (joinM [59] ((keepM [] (ms.take k)).map madeTx)) ∧ BoxT wr (w.heap.size + 1) (seenA (sfM (keepM [] (ms.take k)))) 70 ∧ Below w.heap.size w wr) (fun _ _ i _ => ms.length - (intOf i).toNat)
  case atStart =>
    refine ⟨0, Nat.zero_le _, rfl, ⟨[], World.ownsRow.alloc (World.ownsRow_lit w #[] 0 (Nat.le_refl _) (by decide) rfl) _, rfl⟩, by simp [keepM, joinM, List.intercalate], ?_, ((Below.refl _ _).alloc (Nat.le_refl _) _).alloc (by simp) _⟩
    have h := BoxT.new (w.alloc (.cells #[] 39)) (#[.bool false, .bool false, .bool false, .bool false, .bool false, .bool false] : Array Value) 70
    rw [show (w.alloc (.cells #[] 39)).heap.size = w.heap.size + 1 by simp] at h
    rw [show seenA (sfM (keepM [] (ms.take 0))) = #[.bool false, .bool false, .bool false, .bool false, .bool false, .bool false] by simp [keepM, sfM, seenA]]
    exact h
  case round =>
    obtain ⟨k, hk, rfl, hru, rfl, hsb, hbw⟩ := hrel
    obtain ⟨KP, hKP⟩ : ∃ KP, keepM [] (ms.take k) = KP := ⟨_, rfl⟩
    have hKl : KP.length ≤ 8 := by rw [← hKP]; exact Nat.le_trans (keep_len ms k) hn
    have HKM : Hid (∀ m ∈ KP, m ∈ ms) := Lib.hid (by rw [← hKP]; exact fun m hm => keep_mem hm)
    rw [hKP] at hru hsb
    rw [hKP]
    have HKP := Lib.hid hKP
    obtain ⟨rs6, hro, hrl⟩ := hru
    rw [List.length_map] at hro
    obtain ⟨a6, c6, h6⟩ := own_cap hro
    subst h6
    have HRU : Hid (RulesAt wr w.heap.size (KP.map madeMn) (.slice a6 KP.length c6)) := Lib.hid ⟨rs6, by rw [List.length_map]; exact hro, hrl⟩
    have HSB := Lib.hid hsb
    have HBW := Lib.hid hbw
    have hsz := hbw.size
    have hsl := hsb.box.lt
    obtain ⟨s0, hs0⟩ : ∃ s0, joinM [59] (KP.map madeTx) = s0 := ⟨_, rfl⟩
    rw [hs0]
    have HS0 := Lib.hid hs0
    clear hKP hro hrl hsb hbw hs0
    have s0b : s0.length ≤ 27300 := by
      rw [← HS0.out]
      have h1 := joinM_len [59] 3400 (KP.map madeTx) (fun l hl => by
        obtain ⟨x, hx, rfl⟩ := List.mem_map.1 hl
        exact madeTx_len (HB.out x (HKM.out x hx)) (HR.out x (HKM.out x hx)))
      rw [List.length_map] at h1
      have h2 : KP.length * (3400 + ([59] : List UInt8).length) ≤ 8 * 3401 := Nat.mul_le_mul hKl (by simp)
      omega
    by_cases hlt : k < ms.length
    · have hlti : (k : Int) < (ms.length : Int) := Int.ofNat_lt.2 hlt
      obtain ⟨m, hm⟩ : ∃ m, ms[k] = m := ⟨_, rfl⟩
      have HMK : Hid (ms[k]? = some m) := Lib.hid (by rw [List.getElem?_eq_getElem hlt, hm])
      have HMM : Hid (m ∈ ms) := Lib.hid (List.mem_of_getElem? HMK.out)
      clear hm
      obtain ⟨b, off, rfl, hbl, hbc⟩ := HC.out (Nat.lt_of_le_of_lt (Nat.zero_le _) hlt)
      obtain ⟨v4, hnv, e0, e1, e2, e3⟩ := made_cells HL.out hbc hbl HBW.out HMK.out
      clear hbc
      obtain ⟨a4, n4, h4⟩ : ∃ a4 n4, v4 = .slice a4 m.any.length n4 := by obtain ⟨_, ⟨x, y, e, _⟩, _⟩ := hnv; exact ⟨x, y, e⟩
      subst h4
      have HNV := Lib.hid hnv
      clear hnv
      have hk0 : (0 : Int) ≤ (k : Int) := Int.natCast_nonneg k
      have hkc : (k : Int) < (c : Int) := Int.ofNat_lt.2 (Nat.lt_of_lt_of_le hlt hnc)
      have glr : b < wr.heap.size := Nat.lt_of_lt_of_le hbl hsz
      obtain ⟨C, hC⟩ : ∃ C, mcat m = C := ⟨_, rfl⟩
      have hC6 : C < 6 := by rw [← hC]; exact mcat_lt m
      have hC6i : (C : Int) < 6 := Int.ofNat_lt.2 hC6
      have hC0i : (0 : Int) ≤ (C : Int) := Int.natCast_nonneg C
      have HCC := Lib.hid hC
      have HCM : Hid (∀ w', Calls Tryz.prog 29 #[.agg #[.int .i64 m.cat, .int .i64 m.gp, .int .i64 m.smp, .slice a4 m.any.length n4]] w' fun x w'' => x = .returned (.int .i64 (C : Int)) ∧ Below w'.heap.size w' w'') := Lib.hid (fun w' => by
        have h := mcat_as m a4 m.any.length n4 w'
        rw [show modM m.cat 6 = C from hC] at h
        exact h)
      clear hC
      have HMB := Lib.hid (BoxT.new wr (#[.int .i64 m.cat, .int .i64 m.gp, .int .i64 m.smp, .slice a4 m.any.length n4] : Array Value) 62)
      have NB0 := Lib.hid ((Below.refl wr.heap.size wr).alloc (Nat.le_refl _) (.cells (#[.int .i64 m.cat, .int .i64 m.gp, .int .i64 m.smp, .slice a4 m.any.length n4] : Array Value) 62))
      go_wp2_with fail
      with_reducible refine (HCM.out _).mono ?_
      rintro x w1 ⟨rfl, hb1⟩
      have NB1 : Hid (Below wr.heap.size wr w1) := Lib.hid (NB0.out.trans (hb1.mono NB0.out.size))
      have MB1 := Lib.hid (BoxT.grown HMB.out (grown_of_below hb1 none) (by simp))
      have SB1 := Lib.hid (BoxT.grown HSB.out (grown_of_below NB1.out none) (by simp))
      have RU1 := Lib.hid (HRU.out.move NB1.out)
      have BW1 : Hid (Below w.heap.size w w1) := Lib.hid (HBW.out.trans (NB1.out.mono hsz))
      clear hb1 HMB NB0 HRU HSB e0 e1 e2 e3 glr hbl hkc hk0
      obtain ⟨sc, hsc⟩ : ∃ sc, sfM KP C = sc := ⟨_, rfl⟩
      have f0 : w1.cell? ⟨w.heap.size + 1, C, none⟩ = some (.bool sc) := (SB1.out.box.cell C).trans (by rw [seen_get _ C hC6, hsc])
      have f1 := SB1.out.box.frozen C
      have f2 := SB1.out.box.lt
      have m0 : w1.cell? ⟨wr.heap.size, 0, none⟩ = some (.int .i64 m.cat) := MB1.out.box.cell 0
      have m1 : w1.cell? ⟨wr.heap.size, 1, none⟩ = some (.int .i64 m.gp) := MB1.out.box.cell 1
      have m2 : w1.cell? ⟨wr.heap.size, 2, none⟩ = some (.int .i64 m.smp) := MB1.out.box.cell 2
      have m3 : w1.cell? ⟨wr.heap.size, 3, none⟩ = some (.slice a4 m.any.length n4) := MB1.out.box.cell 3
      have HSC := Lib.hid hsc
      clear hsc
      cases sc with
      | true =>
        have HKT : Hid (keepM [] (ms.take (k + 1)) = KP) := Lib.hid (by rw [keep_take HMK.out, HKP.out, HCC.out, if_pos HSC.out])
        go_wp2_with fail
        go_roundw
        case rel =>
          refine ⟨k + 1, hlt, by go_num, ?_⟩
          rw [HKT.out]
          exact ⟨RU1.out, by rw [HS0.out], SB1.out, BW1.out⟩
        case measure => simp [intOf]; omega
      | false =>
        have HKT : Hid (keepM [] (ms.take (k + 1)) = KP ++ [m]) := Lib.hid (by rw [keep_take HMK.out, HKP.out, HCC.out, if_neg (by rw [HSC.out]; decide)])
        go_wp2_with fail
        with_reducible refine (HCM.out _).mono ?_
        rintro x w2 ⟨rfl, hb2⟩
        have MB2 := Lib.hid (BoxT.grown MB1.out (grown_of_below hb2 none) (by simp))
        have SB2 := Lib.hid (BoxT.grown SB1.out (grown_of_below hb2 none) (by simp))
        have RU2 := Lib.hid (RU1.out.move hb2)
        have BW2 : Hid (Below w.heap.size w w2) := Lib.hid (BW1.out.trans (hb2.mono BW1.out.size))
        have g0 : w2.cell? ⟨w.heap.size + 1, C, none⟩ = some (.bool false) := (hb2.cell (p := ⟨w.heap.size + 1, C, none⟩) f2).trans f0
        have g1 := SB2.out.box.frozen C
        have g2 := SB2.out.box.lt
        clear hb2 f0 f1 f2 m0 m1 m2 m3 MB1 SB1 RU1
        go_upto_region 9 with fail
        have MB3 := Lib.hid (BoxT.other (a := ⟨w.heap.size + 1, C, none⟩) MB2.out (by simp only; omega) (.bool true))
        have SB3 : Hid (BoxT (w2.setCell ⟨w.heap.size + 1, C, none⟩ (.bool true)) (w.heap.size + 1) (seenA (sfM (KP ++ [m]))) 70) := Lib.hid (by
          have h := SB2.out.set C (.bool true)
          rw [seen_set _ C hC6, ← HCC.out, ← sf_snoc] at h
          rw [← HCC.out]
          exact h)
        have RU3 : Hid (RulesAt (w2.setCell ⟨w.heap.size + 1, C, none⟩ (.bool true)) w.heap.size (KP.map madeMn) (.slice a6 KP.length c6)) := Lib.hid (RU2.out.kept (grown_set (World.grownBy.refl w2 _) C (.bool true)) (BoxT.apart SB2.out (by decide)))
        have BW3 := Lib.hid (below_gr BW2.out (grown_set (World.grownBy.refl w2 (some (w.heap.size + 1))) C (.bool true)) (by omega))
        clear g0 g1 g2 MB2 SB2 RU2
        generalize w2.setCell ⟨w.heap.size + 1, C, none⟩ (.bool true) = w3 at *
        have m0 : w3.cell? ⟨wr.heap.size, 0, none⟩ = some (.int .i64 m.cat) := MB3.out.box.cell 0
        have m1 : w3.cell? ⟨wr.heap.size, 1, none⟩ = some (.int .i64 m.gp) := MB3.out.box.cell 1
        have m2 : w3.cell? ⟨wr.heap.size, 2, none⟩ = some (.int .i64 m.smp) := MB3.out.box.cell 2
        have m3 : w3.cell? ⟨wr.heap.size, 3, none⟩ = some (.slice a4 m.any.length n4) := MB3.out.box.cell 3
        have HWR := Lib.hid (write_as m (.slice a4 m.any.length n4) w3 (HT.out.below BW3.out) (HW.out.below BW3.out) (HNV.out.below BW3.out) (HB.out m HMM.out) (HR.out m HMM.out))
        go_wp2_with fail
        with_reducible refine (HWR.out).mono ?_
        rintro x w4 ⟨u4, rfl, hcn, hb4⟩
        obtain ⟨a5, n5, c5, h5⟩ : ∃ a5 n5 c5, u4 = .slice a5 n5 c5 := by obtain ⟨_, ho, _⟩ := hcn; obtain ⟨x, y, e⟩ := own_cap ho; exact ⟨x, _, y, e⟩
        subst h5
        rw [show mcat m = C from HCC.out]
        obtain ⟨tx, htx⟩ : ∃ tx, madeTx m = tx := ⟨_, rfl⟩
        have txl : tx.length ≤ 3400 := by rw [← htx]; exact madeTx_len (HB.out m HMM.out) (HR.out m HMM.out)
        obtain ⟨sm, hsm⟩ : ∃ sm, msmp m = sm := ⟨_, rfl⟩
        rw [htx, hsm]
        have HTX := Lib.hid htx
        have HSM := Lib.hid hsm
        have CN4 := Lib.hid hcn
        have RU4 := Lib.hid (RU3.out.move hb4)
        have SB4 := Lib.hid (BoxT.grown SB3.out (grown_of_below hb4 none) (by simp))
        have BW4 : Hid (Below w.heap.size w w4) := Lib.hid (BW3.out.trans (hb4.mono BW3.out.size))
        clear htx hsm hcn hb4 m0 m1 m2 m3 MB3 RU3 SB3 HWR
        have X5 := Lib.hid (BoxT.new w4 (#[.int .i64 (C : Int), .slice a5 n5 c5, S sm] : Array Value) 39)
        have N5 := Lib.hid ((Below.refl w4.heap.size w4).alloc (Nat.le_refl _) (.cells (#[.int .i64 (C : Int), .slice a5 n5 c5, S sm] : Array Value) 39))
        go_upto_region 10 with fail
        generalize w4.alloc (.cells (#[.int .i64 (C : Int), .slice a5 n5 c5, S sm] : Array Value) 39) = w5 at *
        have RU5 := Lib.hid (RU4.out.move N5.out)
        have SB5 := Lib.hid (BoxT.grown SB4.out (grown_of_below N5.out none) (by simp))
        have CN5 := Lib.hid (CondAt.kept (CN4.out.lower (Nat.zero_le _)) (grown_of_below N5.out none) (Apart.none _ _))
        have BW5 : Hid (Below w.heap.size w w5) := Lib.hid (BW4.out.trans (N5.out.mono BW4.out.size))
        have y0 : w5.cell? ⟨w4.heap.size, 0, none⟩ = some (.int .i64 (C : Int)) := X5.out.box.cell 0
        have y1 : w5.cell? ⟨w4.heap.size, 1, none⟩ = some (.slice a5 n5 c5) := X5.out.box.cell 1
        have y2 : w5.cell? ⟨w4.heap.size, 2, none⟩ = some (S sm) := X5.out.box.cell 2
        have yl := X5.out.box.lt
        clear X5 N5 RU4 SB4 CN4 BW4
        obtain ⟨r1, hr1⟩ : ∃ r1, (if KP.length = 0 then s0 else s0 ++ [59]) = r1 := ⟨_, rfl⟩
        have r1b : r1.length ≤ 27301 := by rw [← hr1]; by_cases h0 : KP.length = 0; rw [if_pos h0]; omega; rw [if_neg h0, List.length_append]; simp; omega
        have HR1 := Lib.hid hr1
        clear hr1
        go_upto_if 35 with fail
        go_cut [7] from 19 to 45 (fun v7 w' => v7 = S r1 ∧ w5 = w')
        case first =>
          by_cases h0 : KP.length = 0
          · obtain rfl : s0 = r1 := by rw [← HR1.out, if_pos h0]
            have h0i : ¬ (0 : Int) < (KP.length : Int) := by omega
            clear h0
            go_wp2
            go_meet
            case rel => exact ⟨rfl, rfl⟩
          · have h0i : (0 : Int) < (KP.length : Int) := by omega
            obtain ⟨t1, ht1⟩ : ∃ t1, s0 ++ [59] = t1 := ⟨_, rfl⟩
            have t1l : t1.length = s0.length + 1 := by rw [← ht1, List.length_append]; rfl
            have SBt1 : (⟨s0.toArray⟩ : ByteArray) ++ (⟨#[59]⟩ : ByteArray) = ⟨t1.toArray⟩ := by rw [← ht1]; exact arr_append s0 [59]
            have cbt1 : ¬ 9223372036854775807 < s0.length + 1 := by omega
            have Ht1 := Lib.hid ht1
            clear ht1
            obtain rfl : t1 = r1 := by rw [← HR1.out, if_neg h0, Ht1.out]
            clear h0
            go_wp2
            go_meet
            case rel => exact ⟨rfl, rfl⟩
        case rest =>
        obtain ⟨rfl, rfl⟩ := hcut
        obtain ⟨rs9, hro, hrl⟩ := RU5.out
        rw [List.length_map] at hro
        have HRO := Lib.hid hro
        have HRL := Lib.hid hrl
        clear hro hrl
        obtain ⟨i0, hi, hz0, hz1, hz2⟩ := info_parts infoRule
        have hw5 := BW5.out.size
        have h63 : KP.length + 1 ≤ maxLen := Nat.le_trans (Nat.succ_le_succ hKl) (by unfold maxLen; decide)
        have hby : (KP.length + 1) * 48 ≤ 140737488355328 := Nat.le_trans (Nat.mul_le_mul_right 48 (Nat.succ_le_succ hKl)) (by decide)
        have HBA : Hid (w.heap.size ≤ (w5.alloc (.cells (#[.int .i64 (C : Int), .slice a5 n5 c5, S sm] : Array Value) 39)).heap.size) := Lib.hid (Nat.le_trans hw5 (by simp))
        have HOA := Lib.hid (HRO.out.alloc (.cells (#[.int .i64 (C : Int), .slice a5 n5 c5, S sm] : Array Value) 39))
        go_upto_region 13 with (at_builtin; refine wpList_append_own _ rfl _ _ 26 rfl w.heap.size 39 i0 (.agg #[.int .i64 0, .slice none 0 0, .string ⟨#[]⟩]) 3 48 Tryz.underlying26 hi hz0 hz1 hz2 rfl (by decide) (.slice a6 KP.length c6) KP.length rs9 rfl HOA.out ⟨w5.heap.size, 0, none⟩ 1 1 [.int .i64 (C : Int), .slice a5 n5 c5, S sm] rfl rfl (lit_cells w5 #[.int .i64 (C : Int), .slice a5 n5 c5, S sm] 39) (by simp [Value.oneCell']) h63 hby HBA.out ?_; intro v8 w8 hown8 hgr8 _; have RU8 : Hid (RulesAt w8 w.heap.size (KP.map madeMn ++ [madeMn m]) v8) := Lib.hid (rules_append (by rw [List.length_map]; exact HRO.out) HRL.out (madeMn m) _ CN5.out (by rw [List.length_map]; have h := hown8; rw [← HSM.out, ← HCC.out] at h; exact h) hgr8); have SB8 := Lib.hid (BoxT.rowX (SB5.out.alloc _) HOA.out hgr8 (by decide)); have BW8 : Hid (Below w.heap.size w w8) := Lib.hid (below_own (BW5.out.alloc hw5 _) hgr8 (fun q hq => (HOA.out.lt q hq).1)); clear hown8 hgr8)
        clear HRO HRL HOA HBA RU5 SB5 CN5 BW5 y0 y1 y2 yl hi hz0 hz1 hz2
        obtain ⟨t2, ht2⟩ : ∃ t2, r1 ++ tx = t2 := ⟨_, rfl⟩
        have t2l : t2.length = r1.length + tx.length := by rw [← ht2, List.length_append]
        have SBt2 : (⟨r1.toArray⟩ : ByteArray) ++ (⟨tx.toArray⟩ : ByteArray) = ⟨t2.toArray⟩ := by rw [← ht2]; exact arr_append r1 tx
        have cbt2 : ¬ 9223372036854775807 < r1.length + tx.length := by omega
        have Ht2 := Lib.hid ht2
        clear ht2
        go_wp2_with fail
        go_roundw
        case rel =>
          refine ⟨k + 1, hlt, by go_num, ?_⟩
          rw [HKT.out]
          refine ⟨by rw [List.map_append]; exact RU8.out, ?_, SB8.out, BW8.out⟩
          rw [List.map_append, List.map_cons, List.map_nil, HTX.out, ← Ht2.out, ← HR1.out, ← HS0.out]
          by_cases h0 : KP.length = 0
          · rw [if_pos h0]
            obtain rfl : KP = [] := List.eq_nil_of_length_eq_zero h0
            simp [joinM, List.intercalate]
          · rw [if_neg h0, joinM_snoc [59] tx (KP.map madeTx) (fun e => h0 (by have := congrArg List.length e; simpa using this))]
        case measure => simp [intOf]; omega
    · obtain rfl : k = ms.length := by omega
      have hlni : ¬ (ms.length : Int) < (ms.length : Int) := by omega
      have hKP2 : keepM [] ms = KP := by have h := HKP.out; rwa [List.take_length] at h
      have HK2 := Lib.hid hKP2
      clear hKP2
      obtain ⟨hand, hand1⟩ := andN_is e 1 (by decide)
      have hfin : madesTx ms e = s0 ++ endT KP e := by unfold madesTx; rw [HK2.out, HS0.out]
      have hmn : madesMn ms = KP.map madeMn := by unfold madesMn; rw [HK2.out]
      have HFIN := Lib.hid hfin
      have HMN := Lib.hid hmn
      clear hfin hmn
      by_cases hK : KP.length = 0
      · have hKi : ¬ (0 : Int) < (KP.length : Int) := by omega
        have he : endT KP e = [] := by unfold endT; rw [if_neg (fun h => h.1 (List.eq_nil_of_length_eq_zero hK))]
        have HE := Lib.hid he
        clear he hK hand hand1
        go_wp2
        exact bodyPost_ret (v := .tuple #[.slice a6 KP.length c6, S s0]) (by simp [results, Tryz.results12, go_sem]) rfl ⟨_, by rw [HFIN.out, HE.out, List.append_nil], by rw [HMN.out]; exact HRU.out, HBW.out⟩
      have hKi : (0 : Int) < (KP.length : Int) := by omega
      have hKn : KP ≠ [] := fun h => hK (by rw [h]; rfl)
      by_cases h1 : andN e 1 = 1
      · have hb1 : bits .and .i64 e 1 = 1 := by have h := hand; rw [h1] at h; exact h
        have he : endT KP e = ([59] : List UInt8) ++ gapB (andN (e / 2) 3) := by unfold endT; rw [if_pos ⟨hKn, h1⟩, show (e >>> 1 : Int) = e / 2 from by rw [Int.shiftRight_eq_div_pow]; rfl]; rfl
        have HE := Lib.hid he
        obtain ⟨g, hg⟩ : ∃ g, gapB (andN (e / 2) 3) = g := ⟨_, rfl⟩
        have gl : g.length ≤ 2 := by rw [← hg]; exact gapB_len _
        have HG := Lib.hid hg
        clear he hand hand1 h1 hg hK hKn
        obtain ⟨t3, ht3⟩ : ∃ t3, s0 ++ [59] = t3 := ⟨_, rfl⟩
        have t3l : t3.length = s0.length + 1 := by rw [← ht3, List.length_append]; rfl
        have SBt3 : (⟨s0.toArray⟩ : ByteArray) ++ (⟨#[59]⟩ : ByteArray) = ⟨t3.toArray⟩ := by rw [← ht3]; exact arr_append s0 [59]
        have cbt3 : ¬ 9223372036854775807 < s0.length + 1 := by omega
        have Ht3 := Lib.hid ht3
        clear ht3
        obtain ⟨t4, ht4⟩ : ∃ t4, t3 ++ g = t4 := ⟨_, rfl⟩
        have t4l : t4.length = t3.length + g.length := by rw [← ht4, List.length_append]
        have SBt4 : (⟨t3.toArray⟩ : ByteArray) ++ (⟨g.toArray⟩ : ByteArray) = ⟨t4.toArray⟩ := by rw [← ht4]; exact arr_append t3 g
        have cbt4 : ¬ 9223372036854775807 < t3.length + g.length := by omega
        have Ht4 := Lib.hid ht4
        clear ht4
        go_wp2_with fail
        refine (gap_as (e / 2) _ g HG.out).mono ?_
        rintro x w1 ⟨rfl, hb⟩
        have BW1 : Hid (Below w.heap.size w w1) := Lib.hid (HBW.out.trans (hb.mono hsz))
        have RU1 := Lib.hid (HRU.out.move hb)
        clear hb
        go_wp2
        exact bodyPost_ret (v := .tuple #[.slice a6 KP.length c6, S t4]) (by simp [results, Tryz.results12, go_sem]) rfl ⟨_, by rw [HFIN.out, HE.out, HG.out, ← List.append_assoc, Ht3.out, Ht4.out], by rw [HMN.out]; exact RU1.out, BW1.out⟩
      · have h0 : andN e 1 = 0 := by omega
        have hb1 : bits .and .i64 e 1 = 0 := by have h := hand; rw [h0] at h; exact h
        have he : endT KP e = [] := by unfold endT; rw [if_neg (fun h => h1 h.2)]
        have HE := Lib.hid he
        clear he hand hand1 h1 h0 hK hKn
        go_wp2
        exact bodyPost_ret (v := .tuple #[.slice a6 KP.length c6, S s0]) (by simp [results, Tryz.results12, go_sem]) rfl ⟨_, by rw [HFIN.out, HE.out, List.append_nil], by rw [HMN.out]; exact HRU.out, HBW.out⟩
end Go.Proofs.YtkjhdehpcanciaaGreatDoor
