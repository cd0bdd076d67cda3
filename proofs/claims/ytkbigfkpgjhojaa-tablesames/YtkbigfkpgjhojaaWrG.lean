/- The reader of numbers and texts in memory: what Num, Text and Count return. -/
import Derived.Test.YtkbigfkpgjhojaaWrF
namespace Go.Proofs.Ytkbigfkpgjhojaa
open Go.RowKit Florin
set_option linter.unusedVariables false
set_option linter.unusedSimpArgs false
attribute [local go_sem ↓] Go.wp_at_zero Go.wp_at_succ
set_option maxRecDepth 100000 in
set_option maxHeartbeats 1600000 in
theorem rnum_as (b : Nat) (st : RS) (w : World) (h : Rdr w b st) (hl : st.1.length ≤ 1000000000) :
    Calls Try.prog 40 #[ptr b] w fun e w' => e = .returned (.int .i64 ((numR st).1 : Nat)) ∧ Rdr w' b (numR st).2 ∧ w.grownBy w' (some b) := by
  obtain ⟨l, f⟩ := st
  obtain ⟨T, hT⟩ : ∃ T : ByteArray, T = ⟨l.toArray⟩ := ⟨_, rfl⟩
  have hTl : T.data.toList = l := by rw [hT, arr_list]
  have hTs : T.size = l.length := by rw [hT, arr_size]
  have c0 : w.cell? ⟨b, 0, none⟩ = some (.string T) := by rw [hT]; exact h.c0
  have c1 := h.c1
  have z0 := h.z 0
  have hlt := h.lt
  have H := Lib.hid h
  have HT := Lib.hid hT
  have HTL := Lib.hid hTl
  have hle : T.size ≤ 1000000000 := by rw [hTs]; exact hl
  have hrl := rdV_le l
  obtain ⟨n, hn⟩ : ∃ n, n = (rdV l).1 := ⟨_, rfl⟩
  obtain ⟨k, hk⟩ : ∃ k, k = (rdV l).2 := ⟨_, rfl⟩
  rw [← hn, ← hk] at hrl
  have HN := Lib.hid hn
  have HK := Lib.hid hk
  obtain ⟨hr1, hr2, hr3⟩ := hrl
  have hkT : k ≤ T.size := by rw [hTs]; exact hr2
  have HEN : Hid ((rdV T.data.toList).1 = n ∧ (rdV T.data.toList).2 = k) := Lib.hid (by rw [hTl, hn, hk]; exact ⟨rfl, rfl⟩)
  clear hT hTl hTs h hr3 hn hk hl hr2
  by_cases h0 : k = 0
  · have HR := Lib.hid (numR_no (st := (l, f)) (by rw [← HK.out]; exact h0))
    subst h0
    go_enter Try.func40, Try.ntmps40
    go_wp2_with fail
    with_reducible refine (first_as T _ (len_max hle)).mono ?_
    rintro e w1 ⟨rfl, rfl⟩
    rw [HEN.out.1, HEN.out.2]
    go_wp2_with fail
    with_reducible refine (fail_as b (l, f) _ H.out).mono ?_
    rintro e w1 ⟨rfl, h1, g1⟩
    have H1 := Lib.hid h1
    have G1 := Lib.hid g1
    clear h1 g1
    go_wp2
    go_ret
    exact ⟨by rw [HR.out]; rfl, by rw [HR.out]; exact H1.out, G1.out⟩
  · have HR := Lib.hid (numR_yes (st := (l, f)) (by rw [← HK.out]; exact h0))
    have h0b : ((k : Int) == 0) = false := by simp; omega
    go_enter Try.func40, Try.ntmps40
    go_wp2_with fail
    with_reducible refine (first_as T _ (len_max hle)).mono ?_
    rintro e w1 ⟨rfl, rfl⟩
    rw [HEN.out.1, HEN.out.2]
    go_wp2
    go_ret
    refine ⟨by rw [HR.out, ← HN.out]; rfl, ?_, grown_set (World.grownBy.refl _ _) 0 _⟩
    rw [HR.out, ext_S, HTL.out, ← HK.out]
    exact BoxT.set0 H.out _
set_option maxRecDepth 100000 in
set_option maxHeartbeats 1600000 in
theorem rtext_as (b : Nat) (st : RS) (w : World) (h : Rdr w b st) (hl : st.1.length ≤ 1000000000) :
    Calls Try.prog 39 #[ptr b] w fun e w' => e = .returned (S (textR st).1) ∧ Rdr w' b (textR st).2 ∧ w.grownBy w' (some b) := by
  have H := Lib.hid h
  have hlen := numR_len st
  have hnlt := numR_lt st
  obtain ⟨n, hn⟩ : ∃ n, n = (numR st).1 := ⟨_, rfl⟩
  obtain ⟨m, hm⟩ : ∃ m, m = (numR st).2.1 := ⟨_, rfl⟩
  obtain ⟨f, hf⟩ : ∃ f, f = (numR st).2.2 := ⟨_, rfl⟩
  rw [← hn] at hnlt
  rw [← hm] at hlen
  have HE : Hid ((numR st).1 = n ∧ (numR st).2 = (m, f)) := Lib.hid ⟨hn.symm, by rw [hm, hf]⟩
  have hno := textR_no (st := st)
  have hyes := textR_yes (st := st)
  rw [← hn, ← hm] at hno
  rw [← hn, ← hm, ← hf] at hyes
  have HNO := Lib.hid hno
  have HYES := Lib.hid hyes
  clear h hn hm hf hno hyes
  go_enter Try.func39, Try.ntmps39
  go_wp2_with fail
  with_reducible refine (rnum_as b st _ H.out hl).mono ?_
  rintro e w1 ⟨rfl, h1, g1⟩
  rw [HE.out.1]
  rw [HE.out.2] at h1
  obtain ⟨T, hT⟩ : ∃ T : ByteArray, T = ⟨m.toArray⟩ := ⟨_, rfl⟩
  have hTl : T.data.toList = m := by rw [hT, arr_list]
  have hTs : T.size = m.length := by rw [hT, arr_size]
  have c0 : w1.cell? ⟨b, 0, none⟩ = some (.string T) := by rw [hT]; exact h1.c0
  have z0 := h1.z 0
  have hlt := h1.lt
  have H1 := Lib.hid h1
  have G1 := Lib.hid g1
  have HTL := Lib.hid hTl
  have HTS := Lib.hid hTs
  have hsz : T.size ≤ 1000000000 := by omega
  by_cases hc : T.size < n
  · have hci : (T.size : Int) < (n : Int) := by omega
    have HR := Lib.hid (HNO.out (by omega))
    clear h1 g1 hT hTl hTs hc
    go_wp2_with fail
    with_reducible refine (fail_as b (m, f) _ H1.out).mono ?_
    rintro e w2 ⟨rfl, h2, g2⟩
    have H2 := Lib.hid h2
    have G2 := Lib.hid g2
    clear h2 g2
    go_wp2
    go_ret
    exact ⟨by rw [HR.out]; rfl, by rw [HR.out]; exact H2.out, grown_trans G1.out G2.out⟩
  · have hci : ¬ (T.size : Int) < (n : Int) := by omega
    have hnle : n ≤ T.size := by omega
    have HR := Lib.hid (HYES.out (by omega))
    clear h1 g1 hT hTl hTs hc
    go_wp2
    go_ret
    refine ⟨by rw [HR.out, take_S, HTL.out]; rfl, ?_, grown_set G1.out 0 _⟩
    rw [HR.out, ext_S, HTL.out]
    exact BoxT.set0 H1.out _
set_option maxRecDepth 100000 in
set_option maxHeartbeats 1600000 in
theorem rcnt_as (b : Nat) (st : RS) (most : Int) (w : World) (h : Rdr w b st) (hl : st.1.length ≤ 1000000000) :
    Calls Try.prog 58 #[ptr b, .int .i64 most] w fun e w' => e = .returned (.int .i64 ((cntR st most).1 : Nat)) ∧ Rdr w' b (cntR st most).2 ∧ w.grownBy w' (some b) := by
  have H := Lib.hid h
  have hnlt := numR_lt st
  have HNO := Lib.hid (cntR_no (st := st) (most := most))
  have HYES := Lib.hid (cntR_yes (st := st) (most := most))
  obtain ⟨n, hn⟩ : ∃ n, n = (numR st).1 := ⟨_, rfl⟩
  rw [← hn] at hnlt HNO HYES
  have HN := Lib.hid hn
  clear h hn
  go_enter Try.func58, Try.ntmps58
  go_wp2_with fail
  with_reducible refine (rnum_as b st _ H.out hl).mono ?_
  rintro e w1 ⟨rfl, h1, g1⟩
  rw [← HN.out]
  have H1 := Lib.hid h1
  have G1 := Lib.hid g1
  clear h1 g1
  by_cases hc : most < (n : Int)
  · have HR := Lib.hid (HNO.out hc)
    go_wp2_with fail
    with_reducible refine (fail_as b _ _ H1.out).mono ?_
    rintro e w2 ⟨rfl, h2, g2⟩
    have H2 := Lib.hid h2
    have G2 := Lib.hid g2
    clear h2 g2
    go_wp2
    go_ret
    exact ⟨by rw [HR.out]; rfl, by rw [HR.out]; exact H2.out, grown_trans G1.out G2.out⟩
  · have HR := Lib.hid (HYES.out (by omega))
    go_wp2
    go_ret
    exact ⟨by rw [HR.out, ← HN.out]; rfl, by rw [HR.out]; exact H1.out, G1.out⟩
end Go.Proofs.Ytkbigfkpgjhojaa
