/- The reader of patterns: a literal, literals side by side. -/
import Derived.Test.YtmmllhdphlnpjaaDoorPtC
import Derived.Test.YtmmllhdphlnpjaaDoorShelf3
namespace Florin
theorem quo_le : ∀ (n : Nat) (acc l : List UInt8) (x r : List UInt8), l.length ≤ n → quoQ acc l = .ok x r → r.length ≤ l.length
  | n, acc, l, x, r, hn, h => by
    cases h1 : [39, 39].isPrefixOf l with
    | true =>
      have := pre_len2 h1
      simp only [List.length_cons, List.length_nil] at this
      rw [quo_two h1] at h
      cases n with
      | zero => omega
      | succ n =>
        have h2 := quo_le n _ _ x r (by rw [List.length_drop]; omega) h
        rw [List.length_drop] at h2; omega
    | false =>
      cases h2 : [39].isPrefixOf l with
      | true =>
        rw [quo_one h1 h2] at h
        injection h with _ h3
        rw [← h3, List.length_drop]; omega
      | false =>
        by_cases h3 : l = []
        · subst h3; rw [quo_end] at h; cases h
        · have h4 := nx_pos h3
          have h5 := List.length_pos_iff.2 h3
          rw [quo_sign h1 h2 h3] at h
          cases n with
          | zero => omega
          | succ n =>
            have h6 := quo_le n _ _ x r (by rw [List.length_drop]; omega) h
            rw [List.length_drop] at h6; omega
def litQ (l : List UInt8) : PR (List UInt8) :=
  if [39, 39].isPrefixOf l then .ok [39] (l.drop 2)
  else if [39].isPrefixOf l then quoQ [] (l.drop 1)
  else if markB (nxP l) then .ok [] l
  else .ok (nxP l) (l.drop (nxP l).length)
theorem litQ_eq (l : List UInt8) : litP l = litQ l := by
  unfold litP litQ
  by_cases h1 : [39, 39].isPrefixOf l = true
  · rw [if_pos h1, if_pos h1]
  · rw [if_neg h1, if_neg h1]
    by_cases h2 : [39].isPrefixOf l = true
    · rw [if_pos h2, if_pos h2]
      have := pre_len2 h2
      simp only [List.length_cons, List.length_nil] at this
      unfold quoQ
      exact quoP_more _ _ _ _ (by rw [List.length_drop]; omega) (by omega)
    · rw [if_neg h2, if_neg h2]
end Florin
namespace Go.Proofs.YtmmllhdphlnpjaaDoor
open Go.RowKit Florin
set_option linter.unusedVariables false
set_option linter.unusedSimpArgs false
attribute [local go_sem ↓] Go.wp_at_zero Go.wp_at_succ
theorem marks_as (g : List UInt8) (r : Bool) (w : World) (hE : Env w) (hr : markB g = r) :
    Calls Tryd.prog 62 #[.string ⟨#[35, 48, 49, 50, 51, 52, 53, 54, 55, 56, 57, 44, 46, 59, 64, 42, 45, 43, 37, 226, 128, 176, 194, 164]⟩, S g] w fun e w' => e = .returned (.bool r) ∧ w = w' := by
  obtain ⟨m, hm⟩ := hE.m
  refine (Tryd.strings_Contains ⟨#[35, 48, 49, 50, 51, 52, 53, 54, 55, 56, 57, 44, 46, 59, 64, 42, 45, 43, 37, 226, 128, 176, 194, 164]⟩ ⟨g.toArray⟩ m w (by decide) hm).mono ?_
  rintro e w' ⟨rfl, rfl⟩
  rw [arr_list, ← hr]
  exact ⟨rfl, rfl⟩
theorem PTold.lead {α : Type} {b : Nat} {T : ByteArray} {w w1 : World} {V : World → α → Value → Prop} {R : PR α} {e : Ending} {w' : World} (h : PTold b T w1 V R e w') (hg : w.grownBy w1 (some b)) : PTold b T w V R e w' := by
  cases R with
  | ok x l => obtain ⟨v, p, h1, h2, h3, h4, h5⟩ := h; exact ⟨v, p, h1, h2, h3, h4, grown_trans hg h5⟩
  | bad l => obtain ⟨p, h1, h2, h3⟩ := h; exact ⟨p, h1, h2, grown_trans hg h3⟩
set_option maxRecDepth 100000 in
set_option maxHeartbeats 3200000 in
theorem literal_as (b : Nat) (T : ByteArray) (p : Nat) (l : List UInt8) (w : World) (h : Rd w b T p) (ha : At T p l) (hT : T.size ≤ 1000) (hE : Env w) (R : PR (List UInt8)) (hR : litQ l = R) :
    Calls Tryd.prog 54 #[.pointer (some ⟨b, 0, none⟩)] w (PTold b T w IsS R) := by
  have HR := Lib.hid h
  have HA := Lib.hid ha
  have HE := Lib.hid hE
  have bl := h.lt
  clear h ha hE
  unfold litQ at hR
  cases h1 : [39, 39].isPrefixOf l with
  | true =>
    rw [h1, if_pos rfl] at hR
    have HQ := Lib.hid hR
    have H1 := Lib.hid h1
    have hl2 := pre_len2 h1
    simp only [List.length_cons, List.length_nil] at hl2
    have A2 := Lib.hid (HA.out.drop 2 (by omega))
    clear h1 hR
    go_enter Tryd.func54, Tryd.ntmps54
    go_wp2_with fail
    with_reducible refine (takes_true [39, 39] b T p l _ HR.out HA.out (by omega) H1.out).mono ?_
    rintro x w1 ⟨rfl, hr, hg⟩
    go_wp2
    go_ret
    rw [← HQ.out]
    exact ⟨_, p + 2, rfl, rfl, A2.out, hr, hg⟩
  | false =>
    rw [h1, if_neg (by decide)] at hR
    have H1 := Lib.hid h1
    clear h1
    cases h2 : [39].isPrefixOf l with
    | true =>
      rw [h2, if_pos rfl] at hR
      have HQ := Lib.hid hR
      have H2 := Lib.hid h2
      have hl2 := pre_len2 h2
      simp only [List.length_cons, List.length_nil] at hl2
      have A2 := Lib.hid (HA.out.drop 1 (by omega))
      clear h2 hR
      go_enter Tryd.func54, Tryd.ntmps54
      go_wp2_with fail
      with_reducible refine (takes_false [39, 39] b T p l _ HR.out HA.out (by omega) H1.out).mono ?_
      rintro x w1 ⟨rfl, hr, hg⟩
      have R1 := Lib.hid hr
      have E1 := Lib.hid (HE.out.grown HR.out hg)
      have G1 := Lib.hid hg
      clear hr hg
      go_wp2_with fail
      with_reducible refine (takes_true [39] b T p l _ R1.out HA.out (by omega) H2.out).mono ?_
      rintro x w2 ⟨rfl, hr, hg⟩
      have R2 := Lib.hid hr
      have E2 := Lib.hid (E1.out.grown R1.out hg)
      have G2 := Lib.hid (grown_trans G1.out hg)
      clear hr hg
      go_wp2_with fail
      with_reducible refine (quoted_as b T (p + 1) (l.drop 1) _ R2.out A2.out hT E2.out R HQ.out).mono ?_
      intro e w3 ht
      cases R with
      | ok x r =>
        obtain ⟨v, q, rfl, rfl, hat, hr, hg⟩ := ht
        go_wp2
        go_ret
        exact ⟨_, q, rfl, rfl, hat, hr, grown_trans G2.out hg⟩
      | bad r =>
        obtain ⟨q, rfl, hat, hg⟩ := ht
        go_wp2
        exact ⟨rfl, q, rfl, hat, grown_trans G2.out hg⟩
    | false =>
      rw [h2, if_neg (by decide)] at hR
      have H2 := Lib.hid h2
      obtain ⟨g, hgx⟩ : ∃ g, nxP l = g := ⟨_, rfl⟩
      have HN := Lib.hid hgx
      have hgl : g.length ≤ l.length := by rw [← hgx]; exact nx_le l
      have HPx : Hid (g.isPrefixOf l = true) := Lib.hid (by rw [← hgx]; exact nx_pre l)
      have A2 := Lib.hid (HA.out.drop g.length hgl)
      rw [hgx] at hR
      clear h2 hgx
      go_enter Tryd.func54, Tryd.ntmps54
      go_wp2_with fail
      with_reducible refine (takes_false [39, 39] b T p l _ HR.out HA.out (by omega) H1.out).mono ?_
      rintro x w1 ⟨rfl, hr, hg⟩
      have R1 := Lib.hid hr
      have E1 := Lib.hid (HE.out.grown HR.out hg)
      have G1 := Lib.hid hg
      clear hr hg
      go_wp2_with fail
      with_reducible refine (takes_false [39] b T p l _ R1.out HA.out (by omega) H2.out).mono ?_
      rintro x w2 ⟨rfl, hr, hg⟩
      have R2 := Lib.hid hr
      have E2 := Lib.hid (E1.out.grown R1.out hg)
      have G2 := Lib.hid (grown_trans G1.out hg)
      clear hr hg
      go_wp2_with fail
      with_reducible refine (next_as b T p l _ R2.out HA.out (by omega) E2.out g HN.out).mono ?_
      rintro x w3 ⟨rfl, hr, hg⟩
      have R3 := Lib.hid hr
      have E3 := Lib.hid (E2.out.grown R2.out hg)
      have G3 := Lib.hid (grown_trans G2.out hg)
      clear hr hg
      cases hm : markB g with
      | true =>
        rw [hm, if_pos rfl] at hR
        have HQ := Lib.hid hR
        have HM := Lib.hid hm
        clear hm hR
        go_wp2_with fail
        with_reducible refine (marks_as g true _ E3.out HM.out).mono ?_
        rintro x w4 ⟨rfl, rfl⟩
        go_wp2
        go_ret
        rw [← HQ.out]
        exact ⟨_, p, rfl, rfl, HA.out, R3.out, G3.out⟩
      | false =>
        rw [hm, if_neg (by decide)] at hR
        have HQ := Lib.hid hR
        have HM := Lib.hid hm
        clear hm hR
        go_wp2_with fail
        with_reducible refine (marks_as g false _ E3.out HM.out).mono ?_
        rintro x w4 ⟨rfl, rfl⟩
        go_wp2_with fail
        with_reducible refine (takes_true g b T p l _ R3.out HA.out (by omega) HPx.out).mono ?_
        rintro x w5 ⟨rfl, hr, hg⟩
        go_wp2
        go_ret
        rw [← HQ.out]
        exact ⟨_, p + g.length, rfl, rfl, A2.out, hr, grown_trans G3.out hg⟩
end Go.Proofs.YtmmllhdphlnpjaaDoor
