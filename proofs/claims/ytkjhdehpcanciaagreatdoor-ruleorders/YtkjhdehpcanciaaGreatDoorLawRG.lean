/- The walk of the law RuleGrammar. -/
import Derived.Test.YtkjhdehpcanciaaGreatDoorMdL
import Derived.Test.YtkjhdehpcanciaaGreatDoorMdF
import Derived.Test.YtkjhdehpcanciaaGreatDoorSmB
namespace Go.Proofs.YtkjhdehpcanciaaGreatDoor
open Go.RowKit Florin
set_option linter.unusedVariables false
set_option linter.unusedSimpArgs false
attribute [local go_sem ↓] Go.wp_at_zero Go.wp_at_succ
theorem fewR.L {ms : List MadeM} (h : fewR ms) : ms.length ≤ 8 := h.1
theorem arr_sizeR (l : List UInt8) : (⟨l.toArray⟩ : ByteArray).size = l.length := by show l.toArray.size = l.length; simp
theorem fewR.B {ms : List MadeM} (h : fewR ms) : ∀ m ∈ ms, madeB m := fun m hm => ⟨(h.2 m hm).1, fun a ha => ((h.2 m hm).2 a ha).1⟩
theorem fewR.R {ms : List MadeM} (h : fewR ms) : ∀ m ∈ ms, ∀ a ∈ m.any, ∀ r ∈ a, r.rs.length ≤ 5 := fun m hm a ha => ((h.2 m hm).2 a ha).2
theorem RulesAt.form {w : World} {base : Nat} {xs : List RuleT} {v : Value} (h : RulesAt w base xs v) : ∃ a c, v = .slice a xs.length c := by
  obtain ⟨_, h1, _⟩ := h
  exact own_cap h1
set_option maxRecDepth 100000 in
set_option maxHeartbeats 6400000 in
theorem ruleGrammar_walk (ms : List MadeM) (v : Value) (e : Int) (w : World) (hv : MadesAt w ms v) (_he : (Lit.int .i64 e).wf = true) (ht : Tab w) (hw : Wds w) :
    Calls Tryz.prog 3 #[v, .int .i64 e] w fun x w' => x = .returned (.bool true) ∧ Below w.heap.size w w' := by
  have HT := Lib.hid ht
  have HW := Lib.hid hw
  have HV := Lib.hid hv
  obtain ⟨_, ⟨a, c, e0, _⟩, _⟩ := hv
  subst e0
  clear ht hw _he
  go_enter Tryz.func3, Tryz.ntmps3
  go_wp2_with fail
  with_reducible refine (head6 _ HT.out HW.out).mono ?_
  rintro x w1 ⟨rfl, hb⟩
  have B1 := Lib.hid hb
  clear hb
  go_wp2_with fail
  with_reducible refine (few_as ms _ w1 (HV.out.below B1.out)).mono ?_
  rintro x w2 ⟨⟨b, rfl, hf⟩, hb⟩
  have B2 : Hid (Below w.heap.size w w2) := Lib.hid (B1.out.trans (hb.mono B1.out.size))
  clear hb B1
  cases b with
  | false =>
    clear hf
    go_wp2
    go_ret
    exact ⟨rfl, B2.out⟩
  | true =>
  have HF := Lib.hid (hf rfl)
  clear hf
  go_wp2_with fail
  with_reducible refine (allM_as ms _ e w2 (HT.out.below B2.out) (HW.out.below B2.out) (HV.out.below B2.out) HF.out.L HF.out.B HF.out.R).mono ?_
  rintro x w3 ⟨u, rfl, hru, hb⟩
  obtain ⟨a3, c3, h3⟩ := hru.form
  subst h3
  have HRU := Lib.hid hru
  have B3 : Hid (Below w.heap.size w w3) := Lib.hid (B2.out.trans (hb.mono B2.out.size))
  have HRD := Lib.hid (mades_read ms e HF.out.L HF.out.B)
  obtain ⟨s, hs⟩ : ∃ s, madesTx ms e = s := ⟨_, rfl⟩
  rw [hs] at HRD
  rw [hs]
  clear hru hb hs
  by_cases hl : 4000 < s.length
  · have hli : (4000 : Int) < (s.length : Int) := by omega
    go_wp2
    go_ret
    exact ⟨rfl, B3.out⟩
  · have hli : ¬ (4000 : Int) < (s.length : Int) := by omega
    have HPA := Lib.hid (parse_ok ⟨s.toArray⟩ w3 (by rw [arr_sizeR]; omega) (madesMn ms) [] (HW.out.below B3.out) (by simpa using HRD.out))
    go_wp2_with fail
    with_reducible refine (HPA.out).mono ?_
    rintro x w4 ⟨v4, rfl, hv4, hb⟩
    obtain ⟨a4, c4, h4⟩ := hv4.form
    subst h4
    have HV4 := Lib.hid hv4
    have RU4 := Lib.hid (HRU.out.move hb)
    have B4 : Hid (Below w.heap.size w w4) := Lib.hid (B3.out.trans (hb.mono B3.out.size))
    clear hv4 hb HRU HPA HRD
    go_wp2_with fail
    with_reducible refine (same_as (madesMn ms) _ _ _ _ w4 HV4.out RU4.out).mono ?_
    rintro x w5 ⟨rfl, hb⟩
    have B5 : Hid (Below w.heap.size w w5) := Lib.hid (B4.out.trans (hb.mono B4.out.size))
    clear hb
    go_wp2
    go_ret
    exact ⟨rfl, B5.out⟩
end Go.Proofs.YtkjhdehpcanciaaGreatDoor
