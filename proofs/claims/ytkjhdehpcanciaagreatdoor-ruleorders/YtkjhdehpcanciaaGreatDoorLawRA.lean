/- The walk of the law RuleAgain. -/
import Derived.Test.YtkjhdehpcanciaaGreatDoorLawRG
namespace Go.Proofs.YtkjhdehpcanciaaGreatDoor
open Go.RowKit Florin
set_option linter.unusedVariables false
set_option linter.unusedSimpArgs false
attribute [local go_sem ↓] Go.wp_at_zero Go.wp_at_succ
theorem rulesOK {xs : List RuleT} (h : RulesF xs) : ∀ x ∈ xs, RuleOK x := by
  intro x hx
  have h1 := h.all x hx
  have h18 : (10 : Nat) ^ 18 = 1000000000000000000 := by decide
  refine ⟨h1.cat, fun a ha y hy => ?_⟩
  have h2 := (h1.rels a ha).2 y hy
  have h3 := h2.md
  refine ⟨by omega, fun z hz => ?_⟩
  have h4 := h2.rs z hz
  have h5 := h4.1
  have h6 := h4.2
  exact ⟨by omega, by omega⟩
theorem madesTx_len {ms : List MadeM} (h : fewR ms) (e : Int) : (madesTx ms e).length ≤ 27400 := by
  have h0 := keep_sub ms []
  have h1 := joinM_len [59] 3400 ((keepM [] ms).map madeTx) (fun l hl => by
    obtain ⟨x, hx, rfl⟩ := List.mem_map.1 hl
    exact madeTx_len (h.B x (h0.1 x hx).1) (h.R x (h0.1 x hx).1))
  rw [List.length_map] at h1
  have h3 := h.L
  have h2 : (keepM [] ms).length * (3400 + ([59] : List UInt8).length) ≤ 8 * 3401 := Nat.mul_le_mul (Nat.le_trans h0.2.2 h3) (by simp)
  have h4 : (endT (keepM [] ms) e).length ≤ 3 := by
    unfold endT
    split
    · have := gapB_len (andN (e >>> 1) 3)
      rw [gapB_bl] at this
      rw [List.length_cons]
      omega
    · simp
  unfold madesTx
  rw [List.length_append]
  omega
theorem mades_F {ms : List MadeM} (h : fewR ms) : RulesF (madesMn ms) := rules_ok (mades_read ms 0 h.L h.B)
theorem mades_back {ms : List MadeM} (h : fewR ms) : rulesP (rulesT (madesMn ms)) = .ok (madesMn ms) [] := by rw [link_rules]; exact rules_again (mades_read ms 0 h.L h.B)
theorem mades_txt {ms : List MadeM} (h : fewR ms) : (rulesT (madesMn ms)).length ≤ 200000 := by
  have h1 := rules_txt (mades_read ms 0 h.L h.B)
  rw [← link_rules] at h1
  have h2 := madesTx_len h 0
  omega
set_option maxRecDepth 100000 in
set_option maxHeartbeats 6400000 in
theorem ruleAgain_walk (ms : List MadeM) (v : Value) (w : World) (hv : MadesAt w ms v) (ht : Tab w) (hw : Wds w) :
    Calls Tryz.prog 4 #[v] w fun x w' => x = .returned (.bool true) ∧ Below w.heap.size w w' := by
  have HT := Lib.hid ht
  have HW := Lib.hid hw
  have HV := Lib.hid hv
  obtain ⟨_, ⟨a, c, e0, _⟩, _⟩ := hv
  subst e0
  clear ht hw
  go_enter Tryz.func4, Tryz.ntmps4
  go_wp2_with fail
  with_reducible refine (head6 _ HT.out HW.out).mono ?_
  rintro x w1 ⟨rfl, hb⟩
  have B1 := Lib.hid hb
  clear hb
  go_wp2_with fail
  with_reducible refine (few_as ms _ w1 (HV.out.below B1.out)).mono ?_
  rintro x w2 ⟨⟨b, rfl, hf⟩, hb⟩
  have B2 : Hid (Below w.heap.size w w2) := Lib.hid (B1.out.trans (hb.mono B1.out.size))
  clear hb B1
  cases b with
  | false =>
    clear hf
    go_wp2
    go_ret
    exact ⟨rfl, B2.out⟩
  | true =>
  have HF := Lib.hid (hf rfl)
  clear hf
  go_wp2_with fail
  with_reducible refine (allM_as ms _ 0 w2 (HT.out.below B2.out) (HW.out.below B2.out) (HV.out.below B2.out) HF.out.L HF.out.B HF.out.R).mono ?_
  rintro x w3 ⟨u, rfl, hru, hb⟩
  obtain ⟨a3, c3, h3⟩ := hru.form
  subst h3
  have HRU := Lib.hid hru
  have B3 : Hid (Below w.heap.size w w3) := Lib.hid (B2.out.trans (hb.mono B2.out.size))
  have HBK := Lib.hid (mades_back HF.out)
  have HTL := mades_txt HF.out
  obtain ⟨t, ht⟩ : ∃ t, rulesT (madesMn ms) = t := ⟨_, rfl⟩
  rw [ht] at HBK HTL
  have HTT := Lib.hid ht
  clear hru hb ht
  go_wp2_with fail
  with_reducible refine (rulesS_as (madesMn ms) _ _ w3 HRU.out (rulesOK (mades_F HF.out)) (HT.out.below B3.out) (HW.out.below B3.out) t HTT.out (Nat.le_trans HTL (by decide))).mono ?_
  rintro x w4 ⟨rfl, hb⟩
  have RU4 := Lib.hid (HRU.out.move hb)
  have B4 : Hid (Below w.heap.size w w4) := Lib.hid (B3.out.trans (hb.mono B3.out.size))
  clear hb HRU
  by_cases hl : 4000 < t.length
  · have hli : (4000 : Int) < (t.length : Int) := by omega
    go_wp2
    go_ret
    exact ⟨rfl, B4.out⟩
  · have hli : ¬ (4000 : Int) < (t.length : Int) := by omega
    have HPA := Lib.hid (parse_ok ⟨t.toArray⟩ w4 (by rw [arr_sizeR]; omega) (madesMn ms) [] (HW.out.below B4.out) (by simpa using HBK.out))
    go_wp2_with fail
    with_reducible refine (HPA.out).mono ?_
    rintro x w5 ⟨v5, rfl, hv5, hb⟩
    obtain ⟨a5, c5, h5⟩ := hv5.form
    subst h5
    have HV5 := Lib.hid hv5
    have RU5 := Lib.hid (RU4.out.move hb)
    have B5 : Hid (Below w.heap.size w w5) := Lib.hid (B4.out.trans (hb.mono B4.out.size))
    clear hv5 hb RU4 HPA HBK
    go_wp2_with fail
    with_reducible refine (same_as (madesMn ms) _ _ _ _ w5 HV5.out RU5.out).mono ?_
    rintro x w6 ⟨rfl, hb⟩
    have HV6 := Lib.hid (HV5.out.move hb)
    have B6 : Hid (Below w.heap.size w w6) := Lib.hid (B5.out.trans (hb.mono B5.out.size))
    clear hb
    go_wp2_with fail
    with_reducible refine (rulesS_as (madesMn ms) _ _ w6 HV6.out (rulesOK (mades_F HF.out)) (HT.out.below B6.out) (HW.out.below B6.out) t HTT.out (Nat.le_trans HTL (by decide))).mono ?_
    rintro x w7 ⟨rfl, hb⟩
    have B7 : Hid (Below w.heap.size w w7) := Lib.hid (B6.out.trans (hb.mono B6.out.size))
    clear hb
    go_wp2
    go_ret
    exact ⟨by first | rfl | simp, B7.out⟩
end Go.Proofs.YtkjhdehpcanciaaGreatDoor
