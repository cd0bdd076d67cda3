/- Compact patterns: lengths, and which are bare. No program here. -/
import Derived.Test.YtmmllhdphlnpjaaDoorPtQ
namespace Florin
set_option linter.unusedVariables false
open Go.Proofs.YtmmllhdphlnpjaaDoor (half_bad1 half_bad2 half_bad3 half_ok pat_bad1 pat_bad2 pat_bad3 pat_bad4 pat_one pat_two)
theorem piece_split (l : List UInt8) : (∀ j, 1 ≤ j → j < 5 → (sgn j).isPrefixOf l = false) ∨ ∃ k, 1 ≤ k ∧ k ≤ 4 ∧ (∀ j, 1 ≤ j → j < k → (sgn j).isPrefixOf l = false) ∧ (sgn k).isPrefixOf l = true := by
  have key : ∀ n, n ≤ 5 → (∀ j, 1 ≤ j → j < n → (sgn j).isPrefixOf l = false) ∨ ∃ k, 1 ≤ k ∧ k ≤ 4 ∧ (∀ j, 1 ≤ j → j < k → (sgn j).isPrefixOf l = false) ∧ (sgn k).isPrefixOf l = true := by
    intro n
    induction n with
    | zero => intro _; exact .inl (fun j _ h => absurd h (by omega))
    | succ n ih =>
      intro hn
      rcases ih (by omega) with h1 | h1
      · by_cases hn0 : 1 ≤ n
        · cases hp : (sgn n).isPrefixOf l with
          | true => exact .inr ⟨n, hn0, by omega, h1, hp⟩
          | false => exact .inl (fun j a b => by
              by_cases e : j = n
              · subst e; exact hp
              · exact h1 j a (by omega))
        · exact .inl (fun j a b => absurd b (by omega))
      · exact .inr h1
  exact key 5 (by omega)
theorem lits_acc : ∀ (n : Nat) (acc l x r : List UInt8), l.length ≤ n → litsQ acc l = .ok x r → acc.length ≤ x.length
  | n, acc, l, x, r, hn, h => by
    cases h1 : litQ l with
    | bad q => rw [lits_bad h1] at h; cases h
    | ok y q =>
      by_cases hy : y = []
      · subst hy
        rw [lits_end h1] at h
        injection h with h2 h3
        subst h2; exact Nat.le_refl _
      · have hl := lit_less h1 hy
        rw [lits_more h1 hy] at h
        cases n with
        | zero => omega
        | succ n =>
          have h2 := lits_acc n _ q x r (by omega) h
          rw [List.length_append] at h2; omega
theorem quo_acc : ∀ (n : Nat) (acc l x r : List UInt8), l.length ≤ n → quoQ acc l = .ok x r → acc.length ≤ x.length
  | n, acc, l, x, r, hn, h => by
    cases h1 : [39, 39].isPrefixOf l with
    | true =>
      have := pre_len2 h1
      simp only [List.length_cons, List.length_nil] at this
      rw [quo_two h1] at h
      cases n with
      | zero => omega
      | succ n =>
        have h2 := quo_acc n _ _ x r (by rw [List.length_drop]; omega) h
        rw [List.length_append] at h2; omega
    | false =>
      cases h2 : [39].isPrefixOf l with
      | true =>
        rw [quo_one h1 h2] at h
        injection h with h4 h3
        rw [← h4]; exact Nat.le_refl _
      | false =>
        by_cases h3 : l = []
        · subst h3; rw [quo_end] at h; cases h
        · have h4 := nx_pos h3
          have h5 := List.length_pos_iff.2 h3
          rw [quo_sign h1 h2 h3] at h
          cases n with
          | zero => omega
          | succ n =>
            have h6 := quo_acc n _ _ x r (by rw [List.length_drop]; omega) h
            rw [List.length_append] at h6; omega
theorem lit_nil {l r : List UInt8} (h : litQ l = .ok [] r) : r = l := by
  unfold litQ at h
  by_cases h1 : [39, 39].isPrefixOf l = true
  · rw [if_pos h1] at h; injection h with h4 _; cases h4
  · rw [if_neg h1] at h
    by_cases h2 : [39].isPrefixOf l = true
    · rw [if_pos h2] at h
      -- what stands behind the quote is no quote
      have h3 : [39].isPrefixOf (l.drop 1) = false := by
        cases hq : [39].isPrefixOf (l.drop 1) with
        | false => rfl
        | true =>
          exfalso; apply h1
          obtain ⟨t, ht⟩ := List.isPrefixOf_iff_prefix.1 h2
          obtain ⟨u, hu⟩ := List.isPrefixOf_iff_prefix.1 hq
          rw [List.isPrefixOf_iff_prefix]
          refine ⟨u, ?_⟩
          rw [← ht] at hu ⊢
          simp at hu ⊢
          exact hu
      have h4 : [39, 39].isPrefixOf (l.drop 1) = false := by
        cases hq : [39, 39].isPrefixOf (l.drop 1) with
        | false => rfl
        | true =>
          obtain ⟨u, hu⟩ := List.isPrefixOf_iff_prefix.1 hq
          have : [39].isPrefixOf (l.drop 1) = true := by rw [List.isPrefixOf_iff_prefix]; exact ⟨39 :: u, by rw [← hu]; rfl⟩
          rw [this] at h3; cases h3
      by_cases h5 : l.drop 1 = []
      · rw [h5, quo_end] at h; cases h
      · rw [quo_sign h4 h3 h5] at h
        have h6 := quo_acc _ _ _ _ _ (Nat.le_refl _) h
        have h7 := nx_pos h5
        rw [List.nil_append, List.length_nil] at h6
        omega
    · rw [if_neg h2] at h
      by_cases h3 : markB (nxP l) = true
      · rw [if_pos h3] at h; injection h with _ h5; exact h5.symm
      · rw [if_neg h3] at h
        injection h with h4 h5
        rw [← h5, h4]; rfl
theorem lits_nil {l r : List UInt8} (h : litsQ [] l = .ok [] r) : r = l := by
  cases h1 : litQ l with
  | bad q => rw [lits_bad h1] at h; cases h
  | ok y q =>
    by_cases hy : y = []
    · subst hy
      rw [lits_end h1] at h
      injection h with _ h3
      rw [← h3]; exact lit_nil h1
    · rw [lits_more h1 hy] at h
      have h2 := lits_acc _ _ _ _ _ (Nat.le_refl _) h
      simp at h2
      exact absurd h2 hy
theorem piece_false {l r : List UInt8} {x : PcT} (h : pieceP l = .ok (x, false) r) : r = l := by
  rcases piece_split l with hno | ⟨k, hk1, hk4, hk, hp⟩
  · obtain ⟨c, hc⟩ : ∃ c, cntP [194, 164] l = c := ⟨_, rfl⟩
    by_cases h0 : 0 < c
    · rw [piece_cur hno hc h0] at h
      injection h with h2 _
      injection h2 with _ h3; cases h3
    · obtain rfl : c = 0 := by omega
      cases h1 : litsQ [] l with
      | bad q => rw [piece_bad hno hc h1] at h; cases h
      | ok t q =>
        rw [piece_lit hno hc h1] at h
        injection h with h2 h3
        injection h2 with _ h4
        have ht : t = [] := by cases t with | nil => rfl | cons a b => simp at h4
        subst ht
        rw [← h3]; exact lits_nil h1
  · rw [piece_sgn k l hk1 hk4 hk hp] at h
    injection h with h2 _
    injection h2 with _ h3; cases h3
theorem aff_sum : ∀ (n : Nat) (acc : List PcT) (l : List UInt8) (xs : List PcT) (r : List UInt8), l.length ≤ n → affQ acc l = .ok xs r → xs.length + r.length ≤ acc.length + l.length ∧ acc.length ≤ xs.length
  | n, acc, l, xs, r, hn, h => by
    cases h1 : pieceP l with
    | bad q => rw [aff_bad h1] at h; cases h
    | ok y q =>
      obtain ⟨y, z⟩ := y
      cases z with
      | false =>
        rw [aff_end h1] at h
        injection h with h2 h3
        subst h2 h3
        rw [piece_false h1]; omega
      | true =>
        have hl := piece_less h1
        rw [aff_more h1] at h
        cases n with
        | zero => omega
        | succ n =>
          have h2 := aff_sum n _ q xs r (by omega) h
          rw [List.length_append] at h2
          simp at h2; omega
theorem aff_nil {l r : List UInt8} (h : affQ [] l = .ok [] r) : r = l := by
  cases h1 : pieceP l with
  | bad q => rw [aff_bad h1] at h; cases h
  | ok y q =>
    obtain ⟨y, z⟩ := y
    cases z with
    | false =>
      rw [aff_end h1] at h
      injection h with _ h3
      rw [← h3]; exact piece_false h1
    | true =>
      rw [aff_more h1] at h
      have h2 := (aff_sum _ _ _ _ _ (Nat.le_refl _) h).2
      simp at h2
theorem grp_ok {h m : Nat} {l r : List UInt8} {x : Nat × Nat × Nat} (hg : grpP h m l = .ok x r) : r.length ≤ l.length ∧ 0 < x.2.2 := by
  unfold grpP at hg
  dsimp only at hg
  generalize (if m = 0 then cntP [35] l else 0) = a at hg
  by_cases hne : a + cntP [48] (l.drop a) = 0
  · rw [if_pos hne] at hg; cases hg
  · rw [if_neg hne] at hg
    injection hg with h1 h2
    rw [← h2, ← h1]
    constructor
    · rw [List.length_drop, List.length_drop]; omega
    · dsimp only; omega
theorem plc_ok : ∀ (k h m g o : Nat) (l r : List UInt8) (n : NumT), plcL k h m g o l = .ok n r → r.length ≤ l.length ∧ (0 < g → 0 < n.grp)
  | 0, h, m, g, o, l, r, n, hp => by
    unfold plcL at hp
    injection hp with h1 h2
    rw [← h1, ← h2]
    exact ⟨Nat.le_refl _, fun h => h⟩
  | k + 1, h, m, g, o, l, r, n, hp => by
    unfold plcL at hp
    split at hp
    · cases hg : grpP h m (l.drop 1) with
      | bad q => rw [hg] at hp; cases hp
      | ok x q =>
        rw [hg] at hp
        have h1 := grp_ok hg
        have h2 := plc_ok k _ _ _ _ _ _ _ hp
        rw [List.length_drop] at h1
        exact ⟨by omega, fun _ => h2.2 h1.2⟩
    · injection hp with h1 h2
      rw [← h1, ← h2]
      exact ⟨Nat.le_refl _, fun h => h⟩
theorem plcP_le {l r : List UInt8} {n : NumT} (h : plcP l = .ok n r) : r.length ≤ l.length := by
  unfold plcP at h
  cases hg : grpP 0 0 l with
  | bad q => rw [hg] at h; cases h
  | ok x q =>
    rw [hg] at h
    have h1 := (grp_ok hg).1
    have h2 := (plc_ok _ _ _ _ _ _ _ _ h).1
    omega
theorem num_le {l r : List UInt8} {n : NumT} (h : numP l = .ok n r) : r.length ≤ l.length := by
  unfold numP at h
  cases hg : plcP l with
  | bad q => rw [hg] at h; cases h
  | ok x q =>
    rw [hg] at h
    have h1 := plcP_le hg
    dsimp only at h
    split at h
    · split at h
      · cases h
      · injection h with _ h2
        rw [← h2]
        simp only [List.length_drop]; omega
    · injection h with _ h2
      rw [← h2]; exact h1
theorem half_parts {l r : List UInt8} {y : HalfT} (h : halfP l = .ok y r) : ∃ r1 r2, affQ [] l = .ok y.pre r1 ∧ numP r1 = .ok y.num r2 ∧ affQ [] r2 = .ok y.suf r := by
  cases h1 : affQ [] l with
  | bad q => rw [half_bad1 h1] at h; cases h
  | ok a r1 =>
    cases h2 : numP r1 with
    | bad q => rw [half_bad2 h1 h2] at h; cases h
    | ok n r2 =>
      cases h3 : affQ [] r2 with
      | bad q => rw [half_bad3 h1 h2 h3] at h; cases h
      | ok c r3 =>
        rw [half_ok h1 h2 h3] at h
        injection h with h4 h5
        subst h4 h5
        exact ⟨r1, r2, rfl, h2, h3⟩
theorem half_len {l r : List UInt8} {y : HalfT} (h : halfP l = .ok y r) : y.pre.length ≤ l.length ∧ y.suf.length ≤ l.length := by
  obtain ⟨r1, r2, h1, h2, h3⟩ := half_parts h
  have a1 := (aff_sum _ _ _ _ _ (Nat.le_refl _) h1).1
  have a2 := num_le h2
  have a3 := (aff_sum _ _ _ _ _ (Nat.le_refl _) h3).1
  simp at a1 a3
  omega
theorem pat_half {l r : List UInt8} {x : PatT} (h : patP l = .ok x r) : ∃ r1, halfP l = .ok x.pos r1 ∧ (x.neg = none → r1 = []) := by
  cases h1 : halfP l with
  | bad q => rw [pat_bad1 h1] at h; cases h
  | ok y r1 =>
    cases hs : [59].isPrefixOf r1 with
    | false =>
      cases hz : r1.isEmpty with
      | false => rw [pat_bad2 h1 hs hz] at h; cases h
      | true =>
        rw [pat_one h1 hs hz] at h
        injection h with h4 _
        subst h4
        exact ⟨r1, rfl, fun _ => List.isEmpty_iff.1 hz⟩
    | true =>
      cases h2 : halfP (r1.drop 1) with
      | bad q => rw [pat_bad3 h1 hs h2] at h; cases h
      | ok z r2 =>
        cases hz : r2.isEmpty with
        | false => rw [pat_bad4 h1 hs h2 hz] at h; cases h
        | true =>
          rw [pat_two h1 hs h2 hz] at h
          injection h with h4 _
          subst h4
          exact ⟨r1, rfl, fun e => by cases e⟩
theorem parse_pat {l : List UInt8} {x : PatT} (h : parseQ l = .ok x) : l.length ≤ 100 ∧ ∃ r, patP l = .ok x r := by
  by_cases h0 : 100 < l.length
  · rw [parse_q1 h0] at h; cases h
  · cases h1 : wsQ l with
    | some r => rw [parse_q2 h0 h1] at h; cases h
    | none =>
      cases h2 : patP l with
      | bad r => rw [parse_q3 h0 h1 h2] at h; cases h
      | ok y r =>
        rw [parse_q4 h0 h1 h2] at h
        injection h with h3
        subst h3
        exact ⟨by omega, r, rfl⟩
theorem parse_len {l : List UInt8} {x : PatT} (h : parseQ l = .ok x) : x.pos.pre.length ≤ 1000 ∧ x.pos.suf.length ≤ 1000 := by
  obtain ⟨h0, r, h1⟩ := parse_pat h
  obtain ⟨r1, h2, _⟩ := pat_half h1
  have := half_len h2
  omega
theorem num_bare {l r : List UInt8} {n : NumT} (h : numP l = .ok n r) (hh : n.hash = 0) (hi : n.int = 1) (hf : n.maxF = 0) (hg : n.grp = 0) : l = 48 :: r := by
  unfold numP at h
  cases hp : plcP l with
  | bad q => rw [hp] at h; cases h
  | ok x q =>
    rw [hp] at h
    dsimp only at h
    split at h
    · split at h
      · cases h
      · rename_i hne
        injection h with h1 _
        rw [← h1] at hf
        dsimp only at hf
        omega
    · injection h with h1 h2
      subst h1 h2
      unfold plcP at hp
      cases hr : grpP 0 0 l with
      | bad q2 => rw [hr] at hp; cases hp
      | ok y r1 =>
        rw [hr] at hp
        dsimp only at hp
        unfold plcL at hp
        split at hp
        · cases hg2 : grpP y.1 y.2.1 (r1.drop 1) with
          | bad q3 => rw [hg2] at hp; cases hp
          | ok z r3 =>
            rw [hg2] at hp
            have h3 := (plc_ok _ _ _ _ _ _ _ _ hp).2 (grp_ok hg2).2
            omega
        · injection hp with h3 h4
          subst h3 h4
          dsimp only at hh hi
          unfold grpP at hr
          dsimp only at hr
          rw [if_pos rfl] at hr
          split at hr
          · cases hr
          · injection hr with h5 h6
            rw [← h5] at hh hi
            dsimp only at hh hi
            have ha : cntP [35] l = 0 := by omega
            rw [ha, List.drop_zero] at hi h6
            have hz : cntP [48] l = 1 := by omega
            rw [hz] at h6
            cases hp2 : [48].isPrefixOf l with
            | false => rw [cntP_no hp2] at hz; cases hz
            | true =>
              obtain ⟨t, ht⟩ := List.isPrefixOf_iff_prefix.1 hp2
              rw [← h6, ← ht]; rfl
theorem bare_zero {l : List UInt8} {x : PatT} (h : parseQ l = .ok x) (hh : x.pos.num.hash = 0) (hf : x.pos.num.maxF = 0) (hg : x.pos.num.grp = 0) (hb : bareP x = true) : l = [48] := by
  obtain ⟨_, r, h1⟩ := parse_pat h
  obtain ⟨r1, h2, hn⟩ := pat_half h1
  obtain ⟨q1, q2, h3, h4, h5⟩ := half_parts h2
  unfold bareP bareB at hb
  simp at hb
  obtain ⟨⟨b1, b2, b3⟩, b4⟩ := hb
  rw [b2] at h3
  rw [b3] at h5
  have e1 := aff_nil h3
  have e2 := num_bare h4 hh b1 hf hg
  have e3 := aff_nil h5
  have e4 := hn b4
  rw [← e1, e2, ← e3, e4]
abbrev PZ : PatT := ⟨⟨[], [], ⟨0, 1, 0, 0, 0, 0⟩⟩, none⟩
set_option maxRecDepth 100000 in
theorem parse_zero : parseQ [48] = .ok PZ := by kernel_rfl
theorem bare_iff {l : List UInt8} {x : PatT} (h : parseQ l = .ok x) (hh : x.pos.num.hash = 0) (hf : x.pos.num.maxF = 0) (hg : x.pos.num.grp = 0) : bareP x = decide (l = [48]) := by
  cases hb : bareP x with
  | true => rw [decide_eq_true (bare_zero h hh hf hg hb)]
  | false =>
    rw [decide_eq_false]
    intro e
    subst e
    rw [parse_zero] at h
    injection h with h1
    subst h1
    cases hb
abbrev PM : PatT := ⟨⟨[], [⟨0, [32, 77, 105, 111], 0⟩], ⟨0, 2, 0, 0, 0, 0⟩⟩, none⟩
set_option maxRecDepth 100000 in
theorem parse_mio : parseQ [48, 48, 32, 77, 105, 111] = .ok PM := by kernel_rfl
theorem cparse_mio : cparseQ [48, 48, 32, 77, 105, 111] = .ok PM := by unfold cparseQ; rw [parse_mio]; rfl
end Florin
