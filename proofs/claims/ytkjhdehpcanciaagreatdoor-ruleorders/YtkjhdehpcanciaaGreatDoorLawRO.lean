/- The walk of the law RuleOrders. -/
import Derived.Test.YtkjhdehpcanciaaGreatDoorLawRO0
namespace Go.Proofs.YtkjhdehpcanciaaGreatDoor
open Go.RowKit Florin
set_option linter.unusedVariables false
set_option linter.unusedSimpArgs false
attribute [local go_sem ↓] Go.wp_at_zero Go.wp_at_succ
theorem u64_id (n : Nat) (h : n ≤ 1000) : IntKind.u64.wrap (n : Int) = (n : Int) := by
  show (n : Int) % _ = _
  exact Int.emod_eq_of_lt (by omega) (by show (n : Int) < 18446744073709551616; omega)
theorem rem_nat (a b : Nat) : ((a : Int)).tmod (b : Int) = ((a % b : Nat) : Int) := by
  rw [Int.tmod_eq_emod_of_nonneg (by omega)]; omega
set_option maxRecDepth 100000 in
set_option maxHeartbeats 12800000 in
theorem ruleOrders_walk (ms : List MadeM) (v : Value) (at' : Int) (w : World) (hv : MadesAt w ms v) (_he : (Lit.int .i64 at').wf = true) (ht : Tab w) (hw : Wds w) :
    Calls Tryz.prog 5 #[v, .int .i64 at'] w fun x w' => x = .returned (.bool true) ∧ Below w.heap.size w w' := by
  clear _he
  have HT := Lib.hid ht
  have HW := Lib.hid hw
  have HV := Lib.hid hv
  obtain ⟨_, ⟨a, c, e0, _⟩, _⟩ := hv
  subst e0
  clear ht hw
  go_enter Tryz.func5, Tryz.ntmps5
  go_wp2_with fail
  with_reducible refine (head6 _ HT.out HW.out).mono ?_
  rintro x w1 ⟨rfl, hb⟩
  have B1 := Lib.hid hb
  clear hb
  go_wp2_with fail
  with_reducible refine (few_as ms _ w1 (HV.out.below B1.out)).mono ?_
  rintro x w2 ⟨⟨b, rfl, hf⟩, hb⟩
  have B2 : Hid (Below w.heap.size w w2) := Lib.hid (B1.out.trans (hb.mono B1.out.size))
  clear hb B1
  cases b with
  | false =>
    clear hf
    go_wp2
    go_ret
    exact ⟨rfl, B2.out⟩
  | true =>
  have HF := Lib.hid (hf rfl)
  clear hf
  go_wp2_with fail
  with_reducible refine (allM_as ms _ 0 w2 (HT.out.below B2.out) (HW.out.below B2.out) (HV.out.below B2.out) HF.out.L HF.out.B HF.out.R).mono ?_
  rintro x w3 ⟨u, rfl, hru, hb⟩
  obtain ⟨a3, c3, h3⟩ := hru.form
  subst h3
  have HRU := Lib.hid hru
  have B3 : Hid (Below w.heap.size w w3) := Lib.hid (B2.out.trans (hb.mono B2.out.size))
  have HMF := Lib.hid (mades_F HF.out)
  have HRL : Hid (∀ x ∈ madesMn ms, (ruleT x).length ≤ 200000) := Lib.hid (fun x hx => ruleT_le HF.out hx)
  have hn8 : (madesMn ms).length ≤ 8 := by
    unfold madesMn
    rw [List.length_map]
    exact Nat.le_trans (keep_sub ms []).2.2 HF.out.L
  obtain ⟨rs, hrs⟩ : ∃ rs, madesMn ms = rs := ⟨_, rfl⟩
  rw [hrs] at HRU HMF HRL hn8
  rw [hrs]
  clear hru hb hrs HV
  obtain ⟨N, hN⟩ : ∃ N, max rs.length 1 = N := ⟨_, rfl⟩
  have hN1 : 1 ≤ N := by omega
  have hN8 : N ≤ 8 := by omega
  have HN := Lib.hid hN
  clear hN
  go_upto_region 6 with fail
  go_cut [7] from 26 (fun v7 w' => v7 = .int .i64 (N : Int) ∧ w3 = w')
  case first =>
    by_cases h0 : rs.length = 0
    · obtain rfl : N = 1 := by rw [← HN.out, h0]; rfl
      have h0i : (rs.length : Int) = 0 := by omega
      have h0m : max (rs.length : Int) 1 = 1 := by omega
      clear hN1 hN8
      go_wp2
      go_meet
      case rel => exact ⟨by first | rfl | simp [h0], rfl⟩
    · obtain rfl : rs.length = N := by rw [← HN.out]; omega
      have h0m : max (rs.length : Int) 1 = (rs.length : Int) := by omega
      have h0i : ¬ (rs.length : Int) < 1 := by omega
      have h0j : (1 : Int) ≤ (rs.length : Int) := by omega
      go_wp2
      go_meet
      case rel => exact ⟨by first | rfl | simp [h0m], rfl⟩
  case rest =>
  obtain ⟨rfl, rfl⟩ := hcut
  obtain ⟨k, hkN, hk⟩ : ∃ k : Nat, k < N ∧ wrap64 ((IntKind.u64.wrap at').tmod (N : Int)) = (k : Int) := by
    have hm := modM_is at' (N : Int) (by omega) (by omega)
    exact ⟨modM at' (N : Int), by omega, hm.1⟩
  have HKK := Lib.hid hk
  have hNz : ¬ (N : Int) = 0 := by omega
  have hNw := u64_id N (by omega)
  clear hk
  go_upto_region 7 with fail
  go_cut [8] from 26 (fun v8 w' => v8 = .int .i64 (k : Int) ∧ w3 = w')
  case first =>
    go_wp2
    go_meet
    case rel => exact ⟨by first | rfl | (rw [HKK.out]) | (rw [← HKK.out, hNw]), rfl⟩
  case rest =>
  obtain ⟨rfl, rfl⟩ := hcut
  go_wp2_with fail
  go_loopw [9, 10, 38] (fun v9 v10 i wr => ∃ j : Nat, j ≤ rs.length ∧ i = .int .i64 (j : Int) ∧ RulesAt wr w3.heap.size ((rotR rs k).take j) v9 ∧ v10 = S (joinM [59] (((rotR rs k).take j).map ruleT)) ∧ Below w3.heap.size w3 wr) (fun _ _ i _ => rs.length - (intOf i).toNat)
  case atStart => exact ⟨0, Nat.zero_le _, rfl, ⟨[], World.ownsRow_lit w3 #[] 0 (Nat.le_refl _) (by decide) rfl, rfl⟩, by simp [joinM, List.intercalate], (Below.refl _ _).alloc (Nat.le_refl _) _⟩
  case round =>
    obtain ⟨j, hj, rfl, hr9, rfl, hbw⟩ := hrel
    obtain ⟨wo, hwo⟩ : ∃ W : World, W = wr := ⟨_, rfl⟩
    subst hwo
    obtain ⟨RR, hRR⟩ : ∃ RR, rotR rs k = RR := ⟨_, rfl⟩
    have hRl : RR.length = rs.length := by rw [← hRR]; exact rot_len rs k
    have HRM : Hid (∀ x ∈ RR, x ∈ rs) := Lib.hid (by rw [← hRR]; exact fun x hx => rot_mem hx)
    rw [hRR] at hr9
    rw [hRR]
    have HRR := Lib.hid hRR
    obtain ⟨rs6, hro, hrl⟩ := hr9
    rw [List.length_take, show min j RR.length = j by omega] at hro
    obtain ⟨a9, c9, h9⟩ := own_cap hro
    subst h9
    have HRO := Lib.hid hro
    have HRI := Lib.hid hrl
    have HBW := Lib.hid hbw
    have hsz := hbw.size
    obtain ⟨s0, hs0⟩ : ∃ s0, joinM [59] ((RR.take j).map ruleT) = s0 := ⟨_, rfl⟩
    rw [hs0]
    have HS0 := Lib.hid hs0
    clear hRR hro hrl hbw hs0
    have s0b : s0.length ≤ 1600008 := by
      rw [← HS0.out]
      have h1 := joinM_len [59] 200000 ((RR.take j).map ruleT) (fun l hl => by
        obtain ⟨x, hx, rfl⟩ := List.mem_map.1 hl
        exact HRL.out x (HRM.out x (List.mem_of_mem_take hx)))
      rw [List.length_map, List.length_take] at h1
      have h2 : min j RR.length * (200000 + ([59] : List UInt8).length) ≤ 8 * 200001 := Nat.mul_le_mul (by omega) (by simp)
      omega
    by_cases hlt : j < rs.length
    · obtain rfl : rs.length = N := by rw [← HN.out]; omega
      have hlti : (j : Int) < (rs.length : Int) := Int.ofNat_lt.2 hlt
      have hjR : j < RR.length := by omega
      obtain ⟨x, hx⟩ : ∃ x, RR[j] = x := ⟨_, rfl⟩
      have HXJ : Hid (RR[j]? = some x) := Lib.hid (by rw [List.getElem?_eq_getElem hjR, hx])
      obtain ⟨q, hq⟩ : ∃ q, (j + k) % rs.length = q := ⟨_, rfl⟩
      have hql : q < rs.length := by rw [← hq]; exact Nat.mod_lt _ (by omega)
      have HXQ : Hid (rs[q]? = some x) := Lib.hid (by rw [← hq, ← rot_at rs hkN hlt, HRR.out]; exact HXJ.out)
      have HXM : Hid (x ∈ rs) := Lib.hid (List.mem_of_getElem? HXQ.out)
      have hmod : ((j : Int) + (k : Int)).tmod (rs.length : Int) = (q : Int) := by
        have h := rem_nat (j + k) rs.length
        rw [hq] at h
        rw [← h]; simp
      obtain ⟨g, cap, xa, xc, hvv, hcap, hgl, hcn, e0, e1, e2⟩ := rule_cells HRU.out HBW.out HXQ.out
      injection hvv with hv1 _ hv2
      subst hv1 hv2
      have HCX := Lib.hid (hcn.kept (grown_of_below HBW.out none) (Apart.none _ _))
      clear hx hq hcn
      have hk8 : k ≤ 8 := by omega
      have hq0 : (0 : Int) ≤ (q : Int) := Int.natCast_nonneg q
      have hqi : (q : Int) < (rs.length : Int) := Int.ofNat_lt.2 hql
      have glr : g < wo.heap.size := Nat.lt_of_lt_of_le hgl hsz
      have HXB := Lib.hid (BoxT.new wo (#[.int .i64 ((x.cat : Nat) : Int), .slice xa x.any.length xc, S x.smp] : Array Value) 39)
      have NB := Lib.hid ((Below.refl wo.heap.size wo).alloc (Nat.le_refl _) (.cells (#[.int .i64 ((x.cat : Nat) : Int), .slice xa x.any.length xc, S x.smp] : Array Value) 39))
      go_upto_region 14 with fail
      generalize wo.alloc (.cells (#[.int .i64 ((x.cat : Nat) : Int), .slice xa x.any.length xc, S x.smp] : Array Value) 39) = w1 at *
      have BW1 : Hid (Below w3.heap.size w3 w1) := Lib.hid (HBW.out.trans (NB.out.mono hsz))
      have HRO1 : Hid (w1.ownsRow w3.heap.size 39 3 (.slice a9 j c9) j rs6) := Lib.hid (own_tag HRO.out (grown_of_below NB.out none) (fun _ _ e => by cases e))
      have HRI1 : Hid (ListAt (RuleAt w1) (RR.take j) rs6) := Lib.hid (HRI.out.mono (fun y c h => h.kept (grown_of_below NB.out none) (Apart.none _ _)))
      have HCX1 := Lib.hid (HCX.out.kept (grown_of_below NB.out none) (Apart.none _ _))
      have HNE : Hid (∀ p, (Value.slice a9 j c9).ownBlock = some p → p < wo.heap.size) := Lib.hid (fun p hp => (HRO.out.lt p hp).2)
      have x0 : w1.cell? ⟨wo.heap.size, 0, none⟩ = some (.int .i64 ((x.cat : Nat) : Int)) := HXB.out.box.cell 0
      have x1 : w1.cell? ⟨wo.heap.size, 1, none⟩ = some (.slice xa x.any.length xc) := HXB.out.box.cell 1
      have x2 : w1.cell? ⟨wo.heap.size, 2, none⟩ = some (S x.smp) := HXB.out.box.cell 2
      have xl := HXB.out.box.lt
      clear NB HRO HRI HCX e0 e1 e2 glr hmod hq0 hqi
      obtain ⟨i0, hi, hz0, hz1, hz2⟩ := info_parts infoRule
      have hw1 := BW1.out.size
      have hj8 : j ≤ 8 := Nat.le_trans hj hn8
      have h63 : j + 1 ≤ maxLen := Nat.le_trans (Nat.succ_le_succ hj8) (by unfold maxLen; decide)
      have hby : (j + 1) * 48 ≤ 140737488355328 := Nat.le_trans (Nat.mul_le_mul_right 48 (Nat.succ_le_succ hj8)) (by decide)
      have HBA : Hid (w3.heap.size ≤ (w1.alloc (.cells (#[.int .i64 ((x.cat : Nat) : Int), .slice xa x.any.length xc, S x.smp] : Array Value) 39)).heap.size) := Lib.hid (Nat.le_trans hw1 (by simp))
      have HOA := Lib.hid (HRO1.out.alloc (.cells (#[.int .i64 ((x.cat : Nat) : Int), .slice xa x.any.length xc, S x.smp] : Array Value) 39))
      have HLT : Hid ((RR.take j).length = j) := Lib.hid (by rw [List.length_take]; omega)
      go_upto_region 15 with (at_builtin; refine wpList_append_own _ rfl _ _ 26 rfl w3.heap.size 39 i0 (.agg #[.int .i64 0, .slice none 0 0, .string ⟨#[]⟩]) 3 48 Tryz.underlying26 hi hz0 hz1 hz2 rfl (by decide) (.slice a9 j c9) j rs6 rfl HOA.out ⟨w1.heap.size, 0, none⟩ 1 1 [.int .i64 ((x.cat : Nat) : Int), .slice xa x.any.length xc, S x.smp] rfl rfl (lit_cells w1 #[.int .i64 ((x.cat : Nat) : Int), .slice xa x.any.length xc, S x.smp] 39) (by simp [Value.oneCell']) h63 hby HBA.out ?_; intro v8 w8 hown8 hgr8 _; have RU8 : Hid (RulesAt w8 w3.heap.size (RR.take j ++ [x]) v8) := Lib.hid (rules_append (by rw [HLT.out]; exact HRO1.out) HRI1.out x _ HCX1.out (by rw [HLT.out]; exact hown8) hgr8); have XB8 := Lib.hid (BoxT.grown (HXB.out.alloc (.cells (#[.int .i64 ((x.cat : Nat) : Int), .slice xa x.any.length xc, S x.smp] : Array Value) 39)) hgr8 (fun hh => by have := HNE.out _ hh.symm; omega)); have CX8 := Lib.hid (CondAt.kept (CondAt.kept HCX1.out (World.grownBy_alloc w1 _ none) (Apart.none _ _)) hgr8 (own_apart HOA.out (by decide))); have BW8 : Hid (Below w3.heap.size w3 w8) := Lib.hid (below_own (BW1.out.alloc hw1 _) hgr8 (fun q hq => (HOA.out.lt q hq).1)); clear hown8 hgr8)
      clear HRO1 HRI1 HCX1 HXB BW1 HOA HBA HNE x0 x1 x2 xl hi hz0 hz1 hz2
      obtain ⟨r1, hr1⟩ : ∃ r1, (if j = 0 then s0 else s0 ++ [59]) = r1 := ⟨_, rfl⟩
      have r1b : r1.length ≤ 1600009 := by rw [← hr1]; by_cases h0 : j = 0; rw [if_pos h0]; omega; rw [if_neg h0, List.length_append]; simp; omega
      have HR1 := Lib.hid hr1
      clear hr1
      go_upto_if 54 with fail
      go_cut [10] from 39 to 61 (fun v10 w' => v10 = S r1 ∧ w8 = w')
      case first =>
        by_cases h0 : j = 0
        · obtain rfl : s0 = r1 := by rw [← HR1.out, if_pos h0]
          have h0i : ¬ (0 : Int) < (j : Int) := by omega
          clear h0
          go_wp2
          go_meet
          case rel => exact ⟨rfl, rfl⟩
        · have h0i : (0 : Int) < (j : Int) := by omega
          obtain ⟨t1, ht1⟩ : ∃ t1, s0 ++ [59] = t1 := ⟨_, rfl⟩
          have t1l : t1.length = s0.length + 1 := by rw [← ht1, List.length_append]; rfl
          have SBt1 : (⟨s0.toArray⟩ : ByteArray) ++ (⟨#[59]⟩ : ByteArray) = ⟨t1.toArray⟩ := by rw [← ht1]; exact arr_append s0 [59]
          have cbt1 : ¬ 9223372036854775807 < s0.length + 1 := by omega
          have Ht1 := Lib.hid ht1
          clear ht1
          obtain rfl : t1 = r1 := by rw [← HR1.out, if_neg h0, Ht1.out]
          clear h0
          go_wp2
          go_meet
          case rel => exact ⟨rfl, rfl⟩
      case rest =>
      obtain ⟨rfl, rfl⟩ := hcut
      obtain ⟨tx, htx⟩ : ∃ tx, ruleT x = tx := ⟨_, rfl⟩
      have txl : tx.length ≤ 200000 := by rw [← htx]; exact HRL.out x HXM.out
      have HTX := Lib.hid htx
      clear htx
      have B8 : Hid (Below w.heap.size w w8) := Lib.hid (B3.out.trans (BW8.out.mono B3.out.size))
      have HST := Lib.hid (ruleS_as x (.slice xa x.any.length xc) 0 w8 CX8.out (rulesOK HMF.out x HXM.out) (HT.out.below B8.out) (HW.out.below B8.out) tx HTX.out (Nat.le_trans txl (by decide)))
      have x0 : w8.cell? ⟨wo.heap.size, 0, none⟩ = some (.int .i64 ((x.cat : Nat) : Int)) := XB8.out.box.cell 0
      have x1 : w8.cell? ⟨wo.heap.size, 1, none⟩ = some (.slice xa x.any.length xc) := XB8.out.box.cell 1
      have x2 : w8.cell? ⟨wo.heap.size, 2, none⟩ = some (S x.smp) := XB8.out.box.cell 2
      go_wp2_with fail
      with_reducible refine (HST.out).mono ?_
      rintro y w9 ⟨rfl, hb⟩
      have RU9 := Lib.hid (RU8.out.move hb)
      have BW9 : Hid (Below w3.heap.size w3 w9) := Lib.hid (BW8.out.trans (hb.mono BW8.out.size))
      clear hb x0 x1 x2 RU8 BW8 CX8 XB8 HST
      obtain ⟨t2, ht2⟩ : ∃ t2, r1 ++ tx = t2 := ⟨_, rfl⟩
      have t2l : t2.length = r1.length + tx.length := by rw [← ht2, List.length_append]
      have SBt2 : (⟨r1.toArray⟩ : ByteArray) ++ (⟨tx.toArray⟩ : ByteArray) = ⟨t2.toArray⟩ := by rw [← ht2]; exact arr_append r1 tx
      have cbt2 : ¬ 9223372036854775807 < r1.length + tx.length := by omega
      have Ht2 := Lib.hid ht2
      clear ht2
      go_wp2_with fail
      go_roundw
      case rel =>
        refine ⟨j + 1, hlt, by go_num, ?_, ?_, BW9.out⟩
        · obtain ⟨hjj, hxx⟩ := List.getElem?_eq_some_iff.1 HXJ.out
          rw [List.take_succ_eq_append_getElem hjj, hxx]
          exact RU9.out
        · have h := take_join [59] ruleT HXJ.out []
          simp only [List.nil_append] at h
          rw [h, HS0.out, HR1.out, HTX.out, Ht2.out]
      case measure => simp [intOf]; omega
    · obtain rfl : j = rs.length := by omega
      have hlni : ¬ (rs.length : Int) < (rs.length : Int) := by omega
      have htk : RR.take rs.length = RR := by rw [← hRl]; exact List.take_length
      have RU9 : Hid (RulesAt wo w3.heap.size RR (.slice a9 rs.length c9)) := Lib.hid ⟨rs6, by rw [hRl]; exact HRO.out, by have h := HRI.out; rw [htk] at h; exact h⟩
      have HBK : Hid (rulesP s0 = .ok RR []) := Lib.hid (by
        rw [← HS0.out, htk, ← HRR.out]
        exact rules_back0 (rot_F HMF.out k))
      have B9 : Hid (Below w.heap.size w wo) := Lib.hid (B3.out.trans (HBW.out.mono B3.out.size))
      clear HRO HRI htk
      by_cases hl : 4000 < s0.length
      · have hli : (4000 : Int) < (s0.length : Int) := by omega
        go_wp2
        go_ret
        exact ⟨rfl, B9.out⟩
      · have hli : ¬ (4000 : Int) < (s0.length : Int) := by omega
        have HPA := Lib.hid (parse_ok ⟨s0.toArray⟩ wo (by rw [arr_sizeR]; omega) RR [] (HW.out.below B9.out) (by simpa using HBK.out))
        go_wp2_with fail
        with_reducible refine (HPA.out).mono ?_
        rintro y w10 ⟨v5, rfl, hv5, hb⟩
        obtain ⟨a5, c5, h5⟩ := hv5.form
        rw [hRl] at h5
        subst h5
        have HV5 := Lib.hid hv5
        have RU10 := Lib.hid (RU9.out.move hb)
        have B10 : Hid (Below w.heap.size w w10) := Lib.hid (B9.out.trans (hb.mono B9.out.size))
        clear hv5 hb RU9 HPA HBK
        go_wp2_with fail
        with_reducible refine (same_as RR _ _ _ _ w10 HV5.out RU10.out).mono ?_
        rintro y w11 ⟨rfl, hb⟩
        have B11 : Hid (Below w.heap.size w w11) := Lib.hid (B10.out.trans (hb.mono B10.out.size))
        clear hb
        go_wp2
        go_ret
        exact ⟨rfl, B11.out⟩
end Go.Proofs.YtkjhdehpcanciaaGreatDoor
