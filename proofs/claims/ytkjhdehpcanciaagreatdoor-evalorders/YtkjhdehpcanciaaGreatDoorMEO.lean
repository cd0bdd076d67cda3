/- OgX, LawEO0, LawEO, in one text. -/
import Derived.Test.YtkjhdehpcanciaaGreatDoorEvP
import Derived.Test.YtkjhdehpcanciaaGreatDoorLawRF
import Derived.Test.YtkjhdehpcanciaaGreatDoorHd7
import Derived.Maps.AppendAt
namespace Go.Proofs.YtkjhdehpcanciaaGreatDoor
open Go.RowKit Florin
set_option linter.unusedVariables false
set_option linter.unusedSimpArgs false
theorem sh_ok (L M : List UInt8) (h1 : L.length ≤ 40) (h2 : M.length ≤ 40) : (shP L M).i.length ≤ 40 ∧ (shP L M).f.length ≤ 40 ∧ isDig (shP L M).i = true ∧ isDig (shP L M).f = true := by
  unfold shP
  split
  · exact ⟨by simp, by simp, by decide, by decide⟩
  · refine ⟨?_, ?_, isDig_dgs _, isDig_dgs _⟩
    · show (dgs L).length ≤ 40; rw [dgs_length]; exact h1
    · show (dgs M).length ≤ 40; rw [dgs_length]; exact h2
theorem isDig_take {l : List UInt8} (h : isDig l = true) (k : Nat) : isDig (l.take k) = true := by
  unfold isDig at h ⊢
  rw [List.all_eq_true] at h ⊢
  exact fun x hx => h x (List.mem_of_mem_take hx)
theorem isDig_drop {l : List UInt8} (h : isDig l = true) (k : Nat) : isDig (l.drop k) = true := by
  unfold isDig at h ⊢
  rw [List.all_eq_true] at h ⊢
  exact fun x hx => h x (List.mem_of_mem_drop hx)
theorem of_B {v : Vs} (e : Int) (il : v.i.length ≤ 400000) (fl : v.f.length ≤ 400000) (hi : isDig v.i = true) (hf : isDig v.f = true) : OgB (ofP v e) := by
  have hk := kOf_le e
  have h1 := bare_length_le (v.i ++ v.f.take (kOf e) ++ zs (kOf e - v.f.length))
  have hz : (zs (kOf e - v.f.length)).length ≤ 10000 := by unfold zs; rw [List.length_replicate]; omega
  rw [List.length_append, List.length_append, List.length_take] at h1
  refine ⟨?_, ?_, ?_, ?_, ?_, ?_⟩
  · show (bare (v.i ++ v.f.take (kOf e) ++ zs (kOf e - v.f.length))).length ≤ 900000; omega
  · show (v.f.drop (kOf e)).length ≤ 900000; rw [List.length_drop]; omega
  · show (0 : Int) ≤ ((kOf e : Nat) : Int); omega
  · show ((kOf e : Nat) : Int) ≤ 10000; omega
  · exact bare_isDig (by rw [isDig_append, isDig_append, hi, isDig_take hf, isDig_zs]; rfl)
  · exact isDig_drop hf _
/-- A number as these laws make it. -/
theorem og_any (L M : List UInt8) (h1 : L.length ≤ 40) (h2 : M.length ≤ 40) (e : Int) :
    ∃ v : Vs, shP L M = v ∧ v.i.length ≤ 900000 ∧ v.f.length ≤ 900000 ∧ ∃ o, ofP v e = o ∧ OgB o := by
  obtain ⟨a, b, c, d⟩ := sh_ok L M h1 h2
  exact ⟨_, rfl, by omega, by omega, _, rfl, of_B e (by omega) (by omega) c d⟩
end Go.Proofs.YtkjhdehpcanciaaGreatDoor

namespace Florin
set_option linter.unusedVariables false
def rotR {α : Type} (rs : List α) (k : Nat) : List α := rs.drop k ++ rs.take k
theorem rot_len {α : Type} (rs : List α) (k : Nat) : (rotR rs k).length = rs.length := by unfold rotR; rw [List.length_append, List.length_drop, List.length_take]; omega
theorem rot_mem {α : Type} {rs : List α} {k : Nat} {x : α} (h : x ∈ rotR rs k) : x ∈ rs := by
  rcases List.mem_append.1 h with h | h
  · exact List.mem_of_mem_drop h
  · exact List.mem_of_mem_take h
theorem rot_perm {α : Type} (rs : List α) (k : Nat) : (rotR rs k).Perm rs := by
  have h := List.perm_append_comm (l₁ := rs.drop k) (l₂ := rs.take k)
  rw [List.take_append_drop] at h
  exact h
theorem rot_at {α : Type} (rs : List α) {k j : Nat} (hk : k < rs.length) (hj : j < rs.length) : (rotR rs k)[j]? = rs[(j + k) % rs.length]? := by
  unfold rotR
  by_cases h : j < rs.length - k
  · rw [List.getElem?_append_left (by rw [List.length_drop]; exact h), List.getElem?_drop, Nat.mod_eq_of_lt (by omega), Nat.add_comm]
  · rw [List.getElem?_append_right (by rw [List.length_drop]; omega), List.length_drop, List.getElem?_take, if_pos (by omega)]
    congr 1
    rw [show j + k = (j - (rs.length - k)) + rs.length by omega, Nat.add_mod_right, Nat.mod_eq_of_lt (by omega)]
end Florin
namespace Go.Proofs.YtkjhdehpcanciaaGreatDoor
open Go.RowKit Florin
set_option linter.unusedVariables false
set_option linter.unusedSimpArgs false
theorem rule_cells {w wq : World} {base : Nat} {xs : List RuleT} {v : Value} {k : Nat} {x : RuleT} (h : RulesAt w base xs v) (hq : Below w.heap.size w wq) (hx : xs[k]? = some x) :
    ∃ g cap a c, v = .slice (some ⟨g, 0, none⟩) xs.length cap ∧ xs.length ≤ cap ∧ g < w.heap.size ∧ CondAt w 0 x.any (.slice a x.any.length c) ∧ wq.cell? ⟨g, k * 3, none⟩ = some (.int .i64 ((x.cat : Nat) : Int)) ∧ wq.cell? ⟨g, k * 3 + 1, none⟩ = some (.slice a x.any.length c) ∧ wq.cell? ⟨g, k * 3 + 2, none⟩ = some (S x.smp) := by
  obtain ⟨hj, hxj⟩ := List.getElem?_eq_some_iff.1 hx
  obtain ⟨cs, ho, hl⟩ := h
  obtain ⟨g, cap, rfl, h1, _, _, hg, hc⟩ := own_blk ho (by omega)
  obtain ⟨cj, ⟨vj, hcj, hnj⟩, hgj⟩ := ListAt.get (sz := 3) (fun x c ⟨u, e, _⟩ => by rw [e]; rfl) hl k hj
  rw [hxj] at hcj hnj
  obtain ⟨a, c, e⟩ : ∃ a c, vj = .slice a x.any.length c := by obtain ⟨_, h1, _⟩ := hnj; exact own_cap h1
  subst e
  have CE : ∀ i, i < 3 → wq.cell? ⟨g, k * 3 + i, none⟩ = cj[i]? := fun i hi => (hq.cell (p := ⟨g, k * 3 + i, none⟩) hg).trans ((hc (k * 3 + i) (by omega)).trans (hgj i hi))
  rw [hcj] at CE
  exact ⟨g, cap, a, c, rfl, h1, hg, hnj, CE 0 (by decide), CE 1 (by decide), CE 2 (by decide)⟩
theorem Box.keep {W w : World} {b : Nat} {cs : Array Value} (h : Box W b cs) (hb : Below W.heap.size W w) : Box w b cs := h.below hb h.lt
theorem u64_id (n : Nat) (h : n ≤ 1000) : IntKind.u64.wrap (n : Int) = (n : Int) := by
  show (n : Int) % _ = _
  exact Int.emod_eq_of_lt (by omega) (by show (n : Int) < 18446744073709551616; omega)
theorem rem_nat (a b : Nat) : ((a : Int)).tmod (b : Int) = ((a % b : Nat) : Int) := by
  rw [Int.tmod_eq_emod_of_nonneg (by omega)]; omega
theorem find_congr' {α : Type} {p q : α → Bool} : ∀ {l : List α}, (∀ x ∈ l, p x = q x) → l.find? p = l.find? q
  | [], _ => rfl
  | x :: l, h => by
      rw [List.find?_cons, List.find?_cons, h x (by simp)]
      cases q x
      · exact find_congr' (fun y hy => h y (by simp [hy]))
      · rfl
theorem pick_congr {us vs : List RuleT} {o : Og} (h : ∀ c, c < 5 → (us.any fun u => u.cat == c && meetsP u o) = (vs.any fun u => u.cat == c && meetsP u o)) : pickP us o = pickP vs o := by
  unfold pickP
  rw [find_congr' (fun c hc => h c (List.mem_range.1 hc))]
theorem any_mem {α : Type} {xs ys : List α} (h : ∀ x, x ∈ xs ↔ x ∈ ys) (p : α → Bool) : xs.any p = ys.any p := by
  rw [Bool.eq_iff_iff, List.any_eq_true, List.any_eq_true]
  exact ⟨fun ⟨x, hx, hp⟩ => ⟨x, (h x).1 hx, hp⟩, fun ⟨x, hx, hp⟩ => ⟨x, (h x).2 hx, hp⟩⟩
theorem pick_rot (us : List RuleT) (k : Nat) (o : Og) : pickP (rotR us k) o = pickP us o :=
  pick_congr (fun c _ => any_mem (fun x => (rot_perm us k).mem_iff) _)
/-- A rule that holds, and isn't other's. -/
def keepP (o : Og) (u : RuleT) : Bool := meetsP u o && u.cat != 5
theorem pick_filter (us : List RuleT) (o : Og) : pickP (us.filter (keepP o)) o = pickP us o := by
  refine pick_congr (fun c hc => ?_)
  rw [Bool.eq_iff_iff, List.any_eq_true, List.any_eq_true]
  constructor
  · rintro ⟨x, hx, hp⟩
    exact ⟨x, (List.mem_filter.1 hx).1, hp⟩
  · rintro ⟨x, hx, hp⟩
    refine ⟨x, List.mem_filter.2 ⟨hx, ?_⟩, hp⟩
    rw [Bool.and_eq_true, beq_iff_eq] at hp
    unfold keepP
    rw [hp.2, Bool.true_and, bne_iff_ne]
    omega
theorem pick_none5 {us : List RuleT} (hc : ∀ u ∈ us, u.cat < 6) (o : Og) : pickP us o = 5 ↔ (us.filter (keepP o)).length = 0 := by
  unfold pickP
  constructor
  · intro h
    cases hf : (List.range 5).find? (fun c => us.any fun u => u.cat == c && meetsP u o) with
    | some c =>
      rw [hf] at h
      have hcr := List.mem_range.1 (List.mem_of_find?_eq_some hf)
      simp only [Option.getD_some] at h
      omega
    | none =>
      rw [List.length_eq_zero_iff, List.filter_eq_nil_iff]
      intro u hu hk
      unfold keepP at hk
      rw [Bool.and_eq_true, bne_iff_ne] at hk
      have h6 := hc u hu
      have hn := (List.find?_eq_none.1 hf) u.cat (List.mem_range.2 (by omega))
      refine hn ?_
      rw [List.any_eq_true]
      exact ⟨u, hu, by rw [hk.1]; simp⟩
  · intro h
    cases hf : (List.range 5).find? (fun c => us.any fun u => u.cat == c && meetsP u o) with
    | none => rfl
    | some c =>
      exfalso
      have hcr := List.mem_range.1 (List.mem_of_find?_eq_some hf)
      have hp := List.find?_some hf
      obtain ⟨u, hu, hq⟩ := List.any_eq_true.1 hp
      rw [Bool.and_eq_true, beq_iff_eq] at hq
      rw [List.length_eq_zero_iff, List.filter_eq_nil_iff] at h
      refine h u hu ?_
      unfold keepP
      rw [hq.2, Bool.true_and, bne_iff_ne]
      omega
theorem filter_snoc {α : Type} {p : α → Bool} {xs : List α} {j : Nat} {y : α} (h : xs[j]? = some y) : (xs.take (j + 1)).filter p = (xs.take j).filter p ++ (if p y = true then [y] else []) := by
  obtain ⟨hj, hy⟩ := List.getElem?_eq_some_iff.1 h
  rw [List.take_succ_eq_append_getElem hj, hy, List.filter_append]
  cases hp : p y <;> simp [hp]
theorem filter_len {α : Type} (p : α → Bool) (xs : List α) (j : Nat) : ((xs.take j).filter p).length ≤ j :=
  Nat.le_trans (List.length_filter_le _ _) (by rw [List.length_take]; omega)
theorem rulesB {rs : List RuleT} (h : RulesF rs) : ∀ u ∈ rs, RuleB u := by
  intro u hu a ha x hx
  have hF := (((h.all u hu).rels a ha).2) x hx
  exact ⟨hF.op, by have := hF.md; omega⟩
theorem own_ne2 {w w' : World} {base : Nat} {e : TypeId} {sz : Nat} {v v' : Value} {n : Nat} {xs : List Value} (h : w.ownsRow base e sz v n xs) (hg : w.grownBy w' v'.ownBlock) (hne : ∀ p, v'.ownBlock = some p → v.ownBlock ≠ some p) : w'.ownsRow base e sz v n xs := by
  refine h.kept hg ?_
  rcases h.2 with ⟨rfl, _⟩ | ⟨g, cap, cur, rfl, _⟩
  · exact Or.inl rfl
  · exact Or.inr fun hh => hne g (by rw [← hh]; rfl) rfl
theorem RulesAt.keptNe {w w' : World} {base : Nat} {xs : List RuleT} {v v' : Value} (h : RulesAt w base xs v) (hg : w.grownBy w' v'.ownBlock) (ha : Apart w v'.ownBlock [64, 50, 47]) (hne : ∀ p, v'.ownBlock = some p → v.ownBlock ≠ some p) : RulesAt w' base xs v := by
  obtain ⟨cs, ho, hl⟩ := h
  exact ⟨cs, own_ne2 ho hg hne, hl.mono fun x c hx => hx.kept hg ha⟩
theorem meets_c5 {u : RuleT} (hc : ((u.cat : Nat) : Int) = 5) (v : Value) (base : Nat) (o : Og) (w : World) (hB : OgB o) (ht : Tab w) (hx : RuleB u) (hv : CondAt w base u.any v) (r : Bool) (hr : meetsP u o = r) :
    Calls Tryz.prog 22 #[.agg #[.int .i64 5, v, S u.smp], OV o] w fun z w' => z = .returned (.bool r) ∧ Below w.heap.size w w' := by
  have h := meets_as u v base o w hB ht hx hv r hr
  rw [hc] at h
  exact h
end Go.Proofs.YtkjhdehpcanciaaGreatDoor

namespace Go.Proofs.YtkjhdehpcanciaaGreatDoor
open Go.RowKit Florin
set_option linter.unusedVariables false
set_option linter.unusedSimpArgs false
attribute [local go_sem ↓] Go.wp_at_zero Go.wp_at_succ
theorem ne_app {w : World} {v15 v16 v : Value} {s : Nat} (h : v.ownBlock = v15.ownBlock ∨ v.ownBlock = some s) (hne : ∀ p, v15.ownBlock = some p → v16.ownBlock ≠ some p) (hl : ∀ p, v16.ownBlock = some p → p < s) : ∀ p, v.ownBlock = some p → v16.ownBlock ≠ some p := by
  intro p hp h16
  rcases h with h | h
  · exact hne p (by rw [← h]; exact hp) h16
  · have := hl p h16
    rw [h] at hp
    injection hp with hp
    omega
theorem ne_swap {v15 v16 : Value} (h : ∀ p, v15.ownBlock = some p → v16.ownBlock ≠ some p) : ∀ p, v16.ownBlock = some p → v15.ownBlock ≠ some p := fun p h1 h2 => h p h2 h1
set_option maxRecDepth 100000 in
set_option maxHeartbeats 6400000 in
theorem evalOrders_walk (ms : List MadeM) (v : Value) (a1 : Option Addr) (len1 cap1 : Nat) (L1 : List UInt8) (a2 : Option Addr) (len2 cap2 : Nat) (L2 : List UInt8) (e at' : Int) (w : World) (hv : MadesAt w ms v) (hi1 : InB w a1 len1 cap1 L1) (hi2 : InB w a2 len2 cap2 L2) (_he : (Lit.int .i64 e).wf = true) (_ha : (Lit.int .i64 at').wf = true) (ht : Tab w) (hw : Wds w) :
    Calls Tryz.prog 7 #[v, .slice a1 len1 cap1, .slice a2 len2 cap2, .int .i64 e, .int .i64 at'] w fun x w' => x = .returned (.bool true) ∧ Below w.heap.size w w' := by
  clear _he _ha
  have HT := Lib.hid ht
  have HW := Lib.hid hw
  have HV := Lib.hid hv
  have HI1 := Lib.hid hi1
  have HI2 := Lib.hid hi2
  have hc1 := hi1.2.1
  have hm1 := hi1.2.2.1
  have hc2 := hi2.2.1
  have hm2 := hi2.2.2.1
  have hL1 := hi1.1
  have hL2 := hi2.1
  obtain ⟨_, ⟨a, c, e0, _⟩, _⟩ := hv
  subst e0
  clear ht hw hi1 hi2
  go_enter Tryz.func7, Tryz.ntmps7
  go_wp2_with fail
  with_reducible refine (head7 _ HT.out HW.out).mono ?_
  rintro x w1 ⟨rfl, hb⟩
  have B1 := Lib.hid hb
  clear hb
  go_wp2_with fail
  with_reducible refine (few_as ms _ w1 (HV.out.below B1.out)).mono ?_
  rintro x w2 ⟨⟨b, rfl, hf⟩, hb⟩
  have B2 : Hid (Below w.heap.size w w2) := Lib.hid (B1.out.trans (hb.mono B1.out.size))
  clear hb B1
  cases b with
  | false =>
    clear hf
    go_wp2
    go_ret
    exact ⟨rfl, B2.out⟩
  | true =>
  have HF := Lib.hid (hf rfl)
  clear hf
  by_cases hg1 : 40 < len1
  · have hg1i : (40 : Int) < (len1 : Int) := by omega
    go_wp2
    go_ret
    exact ⟨rfl, B2.out⟩
  have hg1i : ¬ (40 : Int) < (len1 : Int) := by omega
  by_cases hg2 : 40 < len2
  · have hg2i : (40 : Int) < (len2 : Int) := by omega
    go_wp2
    go_ret
    exact ⟨rfl, B2.out⟩
  have hg2i : ¬ (40 : Int) < (len2 : Int) := by omega
  obtain ⟨ek, hek, hand⟩ : ∃ k : Nat, k ≤ 15 ∧ bits .and .i64 e 15 = (k : Int) := and_mask e 15 (by decide)
  obtain ⟨vs, hvs, il, fl, o, ho, hoB⟩ := og_any L1 L2 (by omega) (by omega) (ek : Int)
  have HVS := Lib.hid hvs
  have HO := Lib.hid ho
  have HB := Lib.hid hoB
  clear hvs ho hoB hL1 hL2
  go_wp2_with fail
  with_reducible refine (shown_as a1 len1 cap1 L1 a2 len2 cap2 L2 w2 (HI1.out.below B2.out) (HI2.out.below B2.out) (by omega) (by omega) vs HVS.out).mono ?_
  rintro x w4 ⟨rfl, hb⟩
  have B4 : Hid (Below w.heap.size w w4) := Lib.hid (B2.out.trans (hb.mono B2.out.size))
  clear hb B2 HI1 HI2
  go_wp2_with fail
  with_reducible refine (of_as vs (ek : Int) w4 il fl o HO.out).mono ?_
  rintro x w5 ⟨rfl, hb⟩
  have B5 : Hid (Below w.heap.size w w5) := Lib.hid (B4.out.trans (hb.mono B4.out.size))
  clear hb B4 HVS HO hand
  have HOB := Lib.hid (BoxT.new w5 (#[S o.i, S o.f, .int .i64 o.e] : Array Value) 42)
  have NB := Lib.hid ((Below.refl w5.heap.size w5).alloc (Nat.le_refl _) (.cells (#[S o.i, S o.f, .int .i64 o.e] : Array Value) 42))
  go_upto_region 6 with fail
  generalize w5.alloc (.cells (#[S o.i, S o.f, .int .i64 o.e] : Array Value) 42) = w6 at *
  obtain ⟨ob, hob⟩ : ∃ n, w5.heap.size = n := ⟨_, rfl⟩
  rw [hob] at HOB
  simp only [hob]
  have B6 : Hid (Below w.heap.size w w6) := Lib.hid (B5.out.trans (NB.out.mono B5.out.size))
  clear NB B5 hob
  go_wp2_with fail
  with_reducible refine (allM_as ms _ 0 w6 (HT.out.below B6.out) (HW.out.below B6.out) (HV.out.below B6.out) HF.out.L HF.out.B HF.out.R).mono ?_
  rintro x w3 ⟨u, rfl, hru, hb⟩
  obtain ⟨a3, c3, h3⟩ := hru.form
  subst h3
  have HRU0 := Lib.hid hru
  have B3 : Hid (Below w.heap.size w w3) := Lib.hid (B6.out.trans (hb.mono B6.out.size))
  have HOB3 : Hid (Box w3 ob #[S o.i, S o.f, .int .i64 o.e]) := Lib.hid (HOB.out.box.keep hb)
  have HMF := Lib.hid (mades_F HF.out)
  have hn8 : (madesMn ms).length ≤ 8 := by
    unfold madesMn
    rw [List.length_map]
    exact Nat.le_trans (keep_sub ms []).2.2 HF.out.L
  obtain ⟨rs, hrs⟩ : ∃ rs, madesMn ms = rs := ⟨_, rfl⟩
  rw [hrs] at HRU0 HMF hn8
  rw [hrs]
  clear hru hb hrs HV HOB B6 HF
  have HRB := Lib.hid (rulesB HMF.out)
  obtain ⟨pk, hpk⟩ : ∃ pk, pickP rs o = pk := ⟨_, rfl⟩
  have HPK := Lib.hid hpk
  clear hpk
  have o0 : w3.cell? ⟨ob, 0, none⟩ = some (S o.i) := HOB3.out.cell 0
  have o1 : w3.cell? ⟨ob, 1, none⟩ = some (S o.f) := HOB3.out.cell 1
  have o2 : w3.cell? ⟨ob, 2, none⟩ = some (.int .i64 o.e) := HOB3.out.cell 2
  have ol := HOB3.out.lt
  go_wp2_with fail
  with_reducible refine (pick_as rs _ _ o w3 HB.out (HT.out.below B3.out) HRB.out HRU0.out pk HPK.out).mono ?_
  rintro x w7 ⟨rfl, hb⟩
  clear o0 o1 o2 ol
  have B7 : Hid (Below w.heap.size w w7) := Lib.hid (B3.out.trans (hb.mono B3.out.size))
  have HOB7 : Hid (Box w7 ob #[S o.i, S o.f, .int .i64 o.e]) := Lib.hid (HOB3.out.keep hb)
  have HRU := Lib.hid (HRU0.out.move hb)
  clear hb B3 HOB3 HRU0
  go_upto_region 8 with fail
  go_cut [15] from 20 to 117 (fun v15 w' => RulesAt w' w7.heap.size [] v15 ∧ Below w7.heap.size w7 w')
  case first =>
    go_wp2
    go_meet
    case rel => exact ⟨⟨[], World.ownsRow_lit w7 #[] 0 (Nat.le_refl _) (by decide) rfl, rfl⟩, (Below.refl _ _).alloc (Nat.le_refl _) _⟩
  case rest =>
  obtain ⟨hR15, hb8⟩ := hcut
  have HR15 := Lib.hid hR15
  have HB8 := Lib.hid hb8
  clear hR15 hb8
  obtain ⟨w8, hw8⟩ : ∃ W : World, W = wc := ⟨_, rfl⟩
  subst hw8
  go_upto_region 9 with fail
  go_cut [16] from 20 to 117 (fun v16 w' => RulesAt w' w8.heap.size [] v16 ∧ Below w8.heap.size w8 w')
  case first =>
    go_wp2
    go_meet
    case rel => exact ⟨⟨[], World.ownsRow_lit w8 #[] 0 (Nat.le_refl _) (by decide) rfl, rfl⟩, (Below.refl _ _).alloc (Nat.le_refl _) _⟩
  case rest =>
  obtain ⟨hR16, hb9⟩ := hcut
  have HR16 := Lib.hid hR16
  have HB9 := Lib.hid hb9
  clear hR16 hb9
  obtain ⟨w9, hw9⟩ : ∃ W : World, W = wc := ⟨_, rfl⟩
  subst hw9
  obtain ⟨N, hN⟩ : ∃ N, max rs.length 1 = N := ⟨_, rfl⟩
  have hN1 : 1 ≤ N := by omega
  have hN8 : N ≤ 8 := by omega
  have HN := Lib.hid hN
  clear hN
  go_upto_region 10 with fail
  go_cut [17] from 20 to 117 (fun v7 w' => v7 = .int .i64 (N : Int) ∧ w9 = w')
  case first =>
    by_cases h0 : rs.length = 0
    · obtain rfl : N = 1 := by rw [← HN.out, h0]; rfl
      have h0i : (rs.length : Int) = 0 := by omega
      have h0m : max (rs.length : Int) 1 = 1 := by omega
      clear hN1 hN8
      go_wp2
      go_meet
      case rel => exact ⟨by first | rfl | simp [h0], rfl⟩
    · obtain rfl : rs.length = N := by rw [← HN.out]; omega
      have h0m : max (rs.length : Int) 1 = (rs.length : Int) := by omega
      have h0i : ¬ (rs.length : Int) < 1 := by omega
      have h0j : (1 : Int) ≤ (rs.length : Int) := by omega
      go_wp2
      go_meet
      case rel => exact ⟨by first | rfl | simp [h0m], rfl⟩
  case rest =>
  obtain ⟨rfl, rfl⟩ := hcut
  obtain ⟨k, hkN, hk⟩ : ∃ k : Nat, k < N ∧ wrap64 ((IntKind.u64.wrap at').tmod (N : Int)) = (k : Int) := by
    have hm := modM_is at' (N : Int) (by omega) (by omega)
    exact ⟨modM at' (N : Int), by omega, hm.1⟩
  have HKK := Lib.hid hk
  have hNz : ¬ (N : Int) = 0 := by omega
  have hNw := u64_id N (by omega)
  clear hk
  go_upto_region 11 with fail
  go_cut [18] from 20 to 117 (fun v8 w' => v8 = .int .i64 (k : Int) ∧ w9 = w')
  case first =>
    go_wp2
    go_meet
    case rel => exact ⟨by first | rfl | (rw [HKK.out]) | (rw [← HKK.out, hNw]), rfl⟩
  case rest =>
  obtain ⟨rfl, rfl⟩ := hcut
  have HNE0 : Hid (∀ p, Value.ownBlock u15 = some p → Value.ownBlock u16 ≠ some p) := Lib.hid (fun p h1 h2 => by
    obtain ⟨_, r1, _⟩ := HR15.out
    obtain ⟨_, r2, _⟩ := HR16.out
    have q1 := (r1.lt p h1).2
    have q2 := (r2.lt p h2).1
    omega)
  have B9 : Hid (Below w7.heap.size w7 w9) := Lib.hid (HB8.out.trans (HB9.out.mono HB8.out.size))
  go_wp2_with fail
  go_loopw [15, 16, 62] (fun v15 v16 i wr => ∃ j : Nat, j ≤ rs.length ∧ i = .int .i64 (j : Int) ∧ RulesAt wr w7.heap.size ((rotR rs k).take j) v15 ∧ RulesAt wr w7.heap.size ((rs.take j).filter (keepP o)) v16 ∧ (∀ p, v15.ownBlock = some p → v16.ownBlock ≠ some p) ∧ Below w7.heap.size w7 wr) (fun _ _ i _ => rs.length - (intOf i).toNat)
  case atStart => exact ⟨0, Nat.zero_le _, rfl, HR15.out.move HB9.out, HR16.out.monoB HB8.out.size, HNE0.out, B9.out⟩
  case round =>
    obtain ⟨j, hj, rfl, hr15, hr16, hne, hbw⟩ := hrel
    obtain ⟨wo, hwo⟩ : ∃ W : World, W = wr := ⟨_, rfl⟩
    subst hwo
    obtain ⟨RR, hRR⟩ : ∃ RR, rotR rs k = RR := ⟨_, rfl⟩
    have hRl : RR.length = rs.length := by rw [← hRR]; exact rot_len rs k
    rw [hRR] at hr15
    rw [hRR]
    have HRR := Lib.hid hRR
    obtain ⟨K, hK⟩ : ∃ K, (rs.take j).filter (keepP o) = K := ⟨_, rfl⟩
    have hKl : K.length ≤ j := by rw [← hK]; exact filter_len _ _ _
    rw [hK] at hr16
    have HK := Lib.hid hK
    have HR16 := Lib.hid hr16
    obtain ⟨rs6, hro, hrl⟩ := hr15
    rw [List.length_take, show min j RR.length = j by omega] at hro
    obtain ⟨a15, c15, h15⟩ := own_cap hro
    subst h15
    obtain ⟨a16, c16, h16⟩ := hr16.form
    subst h16
    have HRO := Lib.hid hro
    have HRI := Lib.hid hrl
    have HBW := Lib.hid hbw
    have HNE := Lib.hid hne
    have hsz := hbw.size
    clear hRR hro hrl hbw hne hr16 hK
    by_cases hlt : j < rs.length
    · obtain rfl : rs.length = N := by rw [← HN.out]; omega
      have hlti : (j : Int) < (rs.length : Int) := Int.ofNat_lt.2 hlt
      have hjR : j < RR.length := by omega
      obtain ⟨x, hx⟩ : ∃ x, RR[j] = x := ⟨_, rfl⟩
      have HXJ : Hid (RR[j]? = some x) := Lib.hid (by rw [List.getElem?_eq_getElem hjR, hx])
      obtain ⟨y, hy⟩ : ∃ y, rs[j] = y := ⟨_, rfl⟩
      have HYJ : Hid (rs[j]? = some y) := Lib.hid (by rw [List.getElem?_eq_getElem hlt, hy])
      obtain ⟨q, hq⟩ : ∃ q, (j + k) % rs.length = q := ⟨_, rfl⟩
      have hql : q < rs.length := by rw [← hq]; exact Nat.mod_lt _ (by omega)
      have HXQ : Hid (rs[q]? = some x) := Lib.hid (by rw [← hq, ← rot_at rs hkN hlt, HRR.out]; exact HXJ.out)
      have HYM : Hid (y ∈ rs) := Lib.hid (List.mem_of_getElem? HYJ.out)
      have hmod : ((j : Int) + (k : Int)).tmod (rs.length : Int) = (q : Int) := by
        have h := rem_nat (j + k) rs.length
        rw [hq] at h
        rw [← h]; simp
      obtain ⟨g, cap, xa, xc, hvv, hcap, hgl, hcn, e0, e1, e2⟩ := rule_cells HRU.out HBW.out HXQ.out
      injection hvv with hv1 _ hv2
      subst hv1 hv2
      have HCX := Lib.hid (hcn.kept (grown_of_below HBW.out none) (Apart.none _ _))
      clear hx hy hq hcn
      have hk8 : k ≤ 8 := by omega
      have hq0 : (0 : Int) ≤ (q : Int) := Int.natCast_nonneg q
      have hqi : (q : Int) < (rs.length : Int) := Int.ofNat_lt.2 hql
      have glr : g < wo.heap.size := Nat.lt_of_lt_of_le hgl hsz
      obtain ⟨i0, hi, hz0, hz1, hz2⟩ := info_parts infoRule
      have hj8 : j ≤ 8 := Nat.le_trans hj hn8
      have h63 : j + 1 ≤ maxLen := Nat.le_trans (Nat.succ_le_succ hj8) (by unfold maxLen; decide)
      have hby : (j + 1) * 48 ≤ 140737488355328 := Nat.le_trans (Nat.mul_le_mul_right 48 (Nat.succ_le_succ hj8)) (by decide)
      have HBA : Hid (w7.heap.size ≤ (wo.alloc (.cells (#[.int .i64 ((x.cat : Nat) : Int), .slice xa x.any.length xc, S x.smp] : Array Value) 39)).heap.size) := Lib.hid (Nat.le_trans hsz (by simp))
      have HOA := Lib.hid (HRO.out.alloc (.cells (#[.int .i64 ((x.cat : Nat) : Int), .slice xa x.any.length xc, S x.smp] : Array Value) 39))
      have HLT : Hid ((RR.take j).length = j) := Lib.hid (by rw [List.length_take]; omega)
      have HL16 : Hid (∀ p, (Value.slice a16 K.length c16).ownBlock = some p → p < wo.heap.size) := Lib.hid (fun p hp => by obtain ⟨_, h, _⟩ := HR16.out; exact (h.lt p hp).2)
      go_upto_region 16 with (at_builtin; refine wpList_append_own_at _ rfl _ _ 26 rfl w7.heap.size 39 i0 (.agg #[.int .i64 0, .slice none 0 0, .string ⟨#[]⟩]) 3 48 Tryz.underlying26 hi hz0 hz1 hz2 rfl (by decide) (.slice a15 j c15) j rs6 rfl HOA.out ⟨wo.heap.size, 0, none⟩ 1 1 [.int .i64 ((x.cat : Nat) : Int), .slice xa x.any.length xc, S x.smp] rfl rfl (lit_cells wo #[.int .i64 ((x.cat : Nat) : Int), .slice xa x.any.length xc, S x.smp] 39) (by simp [Value.oneCell']) h63 hby HBA.out ?_; intro v8 w8 hown8 hgr8 _ hat8; have RU8 : Hid (RulesAt w8 w7.heap.size (RR.take j ++ [x]) v8) := Lib.hid (rules_append (by rw [HLT.out]; exact HRO.out) HRI.out x _ HCX.out (by rw [HLT.out]; exact hown8) hgr8); have RV8 : Hid (RulesAt w8 w7.heap.size K (.slice a16 K.length c16)) := Lib.hid (RulesAt.keptNe (RulesAt.kept HR16.out (World.grownBy_alloc wo _ none) (Apart.none _ _)) hgr8 (own_apart HOA.out (by decide)) HNE.out); have NE8 : Hid (∀ p, v8.ownBlock = some p → (Value.slice a16 K.length c16).ownBlock ≠ some p) := Lib.hid (ne_app (w := w8) hat8 HNE.out (fun p hp => Nat.lt_of_lt_of_le (HL16.out p hp) (by simp))); have BW8 : Hid (Below w7.heap.size w7 w8) := Lib.hid (below_own (HBW.out.alloc hsz _) hgr8 (fun q hq => (HOA.out.lt q hq).1)); clear hown8 hgr8 hat8)
      clear HRO HRI HCX HBW HOA HBA HNE HR16 HL16 e0 e1 e2 hi hz0 hz1 hz2 hmod hq0 hqi glr
      have hsz8 := BW8.out.size
      obtain ⟨g', cap', ya, yc, hvv, hcap', hgl', hcn, e0, e1, e2⟩ := rule_cells HRU.out BW8.out HYJ.out
      injection hvv with hv1 _ hv2
      injection hv1 with hv1
      injection hv1 with hv1 _ _
      subst hv1 hv2
      have HCY := Lib.hid (hcn.kept (grown_of_below BW8.out none) (Apart.none _ _))
      have HY0 := Lib.hid e0
      have HY1 := Lib.hid e1
      have HY2 := Lib.hid e2
      clear hcn e0 e1 e2 hcap'
      have OB8 : Hid (Box w8 ob #[S o.i, S o.f, .int .i64 o.e]) := Lib.hid (HOB7.out.keep BW8.out)
      have glr : g < w8.heap.size := Nat.lt_of_lt_of_le hgl hsz8
      have oll := OB8.out.lt
      have T8 : Hid (Tab w8) := Lib.hid (HT.out.below (B7.out.trans (BW8.out.mono B7.out.size)))
      have hj0 : (0 : Int) ≤ (j : Int) := Int.natCast_nonneg j
      have hjc : (j : Int) < (c3 : Int) := Int.ofNat_lt.2 (Nat.lt_of_lt_of_le hlt hcap)
      obtain ⟨b, hb⟩ : ∃ b, meetsP y o = b := ⟨_, rfl⟩
      have HMT := Lib.hid hb
      clear hb
      cases b with
      | false =>
        have hkp : keepP o y = false := by unfold keepP; rw [HMT.out]; rfl
        have ALL : Hid (∀ w' : World, HeldL w8 [] w' → w'.cell? ⟨g, j * 3, none⟩ = some (.int .i64 ((y.cat : Nat) : Int)) ∧ w'.cell? ⟨g, j * 3 + 1, none⟩ = some (.slice ya y.any.length yc) ∧ w'.cell? ⟨g, j * 3 + 2, none⟩ = some (S y.smp) ∧ w'.cell? ⟨ob, 0, none⟩ = some (S o.i) ∧ w'.cell? ⟨ob, 1, none⟩ = some (S o.f) ∧ w'.cell? ⟨ob, 2, none⟩ = some (.int .i64 o.e) ∧ HeldL w8 [] w') := Lib.hid (fun w' h => ⟨(h.bel.cell (p := ⟨g, j * 3, none⟩) glr).trans HY0.out, (h.bel.cell (p := ⟨g, j * 3 + 1, none⟩) glr).trans HY1.out, (h.bel.cell (p := ⟨g, j * 3 + 2, none⟩) glr).trans HY2.out, (h.bel.cell (p := ⟨ob, 0, none⟩) oll).trans (OB8.out.cell 0), (h.bel.cell (p := ⟨ob, 1, none⟩) oll).trans (OB8.out.cell 1), (h.bel.cell (p := ⟨ob, 2, none⟩) oll).trans (OB8.out.cell 2), h⟩)
        have KEEP : Hid (∀ w' w'' : World, (w'.cell? ⟨g, j * 3, none⟩ = some (.int .i64 ((y.cat : Nat) : Int)) ∧ w'.cell? ⟨g, j * 3 + 1, none⟩ = some (.slice ya y.any.length yc) ∧ w'.cell? ⟨g, j * 3 + 2, none⟩ = some (S y.smp) ∧ w'.cell? ⟨ob, 0, none⟩ = some (S o.i) ∧ w'.cell? ⟨ob, 1, none⟩ = some (S o.f) ∧ w'.cell? ⟨ob, 2, none⟩ = some (.int .i64 o.e) ∧ HeldL w8 [] w') → Below w'.heap.size w' w'' → (w''.cell? ⟨g, j * 3, none⟩ = some (.int .i64 ((y.cat : Nat) : Int)) ∧ w''.cell? ⟨g, j * 3 + 1, none⟩ = some (.slice ya y.any.length yc) ∧ w''.cell? ⟨g, j * 3 + 2, none⟩ = some (S y.smp) ∧ w''.cell? ⟨ob, 0, none⟩ = some (S o.i) ∧ w''.cell? ⟨ob, 1, none⟩ = some (S o.f) ∧ w''.cell? ⟨ob, 2, none⟩ = some (.int .i64 o.e) ∧ HeldL w8 [] w'')) := Lib.hid (fun w' w'' h hb => ALL.out _ (HeldL.keep (h.2.2.2.2.2.2) hb))
        have HS : Hid (HeldL w8 [] w8) := Lib.hid (HeldL.refl w8)
        have MM0 : Hid (∀ w' : World, (w'.cell? ⟨g, j * 3, none⟩ = some (.int .i64 ((y.cat : Nat) : Int)) ∧ w'.cell? ⟨g, j * 3 + 1, none⟩ = some (.slice ya y.any.length yc) ∧ w'.cell? ⟨g, j * 3 + 2, none⟩ = some (S y.smp) ∧ w'.cell? ⟨ob, 0, none⟩ = some (S o.i) ∧ w'.cell? ⟨ob, 1, none⟩ = some (S o.f) ∧ w'.cell? ⟨ob, 2, none⟩ = some (.int .i64 o.e) ∧ HeldL w8 [] w') → Tab w') := Lib.hid (fun w' h => T8.out.below h.2.2.2.2.2.2.bel)
        have MM1 : Hid (∀ w' : World, (w'.cell? ⟨g, j * 3, none⟩ = some (.int .i64 ((y.cat : Nat) : Int)) ∧ w'.cell? ⟨g, j * 3 + 1, none⟩ = some (.slice ya y.any.length yc) ∧ w'.cell? ⟨g, j * 3 + 2, none⟩ = some (S y.smp) ∧ w'.cell? ⟨ob, 0, none⟩ = some (S o.i) ∧ w'.cell? ⟨ob, 1, none⟩ = some (S o.f) ∧ w'.cell? ⟨ob, 2, none⟩ = some (.int .i64 o.e) ∧ HeldL w8 [] w') → CondAt w' 0 y.any (.slice ya y.any.length yc)) := Lib.hid (fun w' h => CondAt.kept HCY.out (grown_of_below h.2.2.2.2.2.2.bel none) (Apart.none _ _))
        refine wp_region_held_drew (S := (fun w' => w'.cell? ⟨g, j * 3, none⟩ = some (.int .i64 ((y.cat : Nat) : Int)) ∧ w'.cell? ⟨g, j * 3 + 1, none⟩ = some (.slice ya y.any.length yc) ∧ w'.cell? ⟨g, j * 3 + 2, none⟩ = some (S y.smp) ∧ w'.cell? ⟨ob, 0, none⟩ = some (S o.i) ∧ w'.cell? ⟨ob, 1, none⟩ = some (S o.f) ∧ w'.cell? ⟨ob, 2, none⟩ = some (.int .i64 o.e) ∧ HeldL w8 [] w')) (by kernel_rfl) (ALL.out _ (HeldL.drew HS.out)) (fun hHeld => ?_)
        refine wpAnyH_take (i := 0) (oi := { dst := some 76, op := Go.Op.move (Go.Operand.tmp 12), type := 26, pos := "law.go:138", after := #[], guard := none }) (v := ?_) rfl (by kernel_rfl) (by kernel_rfl) (by kernel_rfl) (fun _ _ _ h => h) (Or.inl ⟨by rfl, ?_⟩) hHeld ?_
        case refine_2 => (intro w hSw; (try dsimp only at hSw); go_simp <;> with_reducible rfl)
        try simp only [Act.put, List.setIfInBounds_toArray, List.set_cons_zero, List.set_cons_succ]
        refine wpAnyH_take (i := 1) (oi := { dst := some 77, op := Go.Op.move (Go.Operand.tmp 19), type := 3, pos := "law.go:138", after := #[], guard := none }) (v := ?_) rfl (by kernel_rfl) (by kernel_rfl) (by kernel_rfl) (fun _ _ _ h => h) (Or.inl ⟨by rfl, ?_⟩) hHeld ?_
        case refine_2 => (intro w hSw; (try dsimp only at hSw); go_simp <;> with_reducible rfl)
        try simp only [Act.put, List.setIfInBounds_toArray, List.set_cons_zero, List.set_cons_succ]
        refine wpAnyH_take (i := 2) (oi := { dst := some 78, op := Go.Op.indexAddr 26 (Go.Operand.tmp 76) (Go.Operand.tmp 77), type := 0, pos := "law.go:138", after := #[{ on := 0, ground := Go.Ground.data }, { on := 1, ground := Go.Ground.data }], guard := none }) (v := ?_) rfl (by kernel_rfl) (by kernel_rfl) (by kernel_rfl) (fun _ _ _ h => h) (Or.inl ⟨by rfl, ?_⟩) hHeld ?_
        case refine_2 => (intro w hSw; (try dsimp only at hSw); go_simp <;> with_reducible rfl)
        try simp only [Act.put, List.setIfInBounds_toArray, List.set_cons_zero, List.set_cons_succ]
        refine wpAnyH_take (i := 3) (oi := { dst := some 79, op := Go.Op.load 39 (Go.Operand.tmp 78), type := 39, pos := "law.go:138", after := #[{ on := 2, ground := Go.Ground.data }], guard := none }) (v := ?_) rfl (by kernel_rfl) (by kernel_rfl) (by kernel_rfl) (fun _ _ _ h => h) (Or.inl ⟨by rfl, ?_⟩) hHeld ?_
        case refine_2 => (intro w hSw; (try dsimp only at hSw); go_simp <;> with_reducible rfl)
        try simp only [Act.put, List.setIfInBounds_toArray, List.set_cons_zero, List.set_cons_succ]
        refine wpAnyH_take (i := 4) (oi := { dst := some 80, op := Go.Op.load 42 (Go.Operand.tmp 11), type := 42, pos := "law.go:138", after := #[], guard := none }) (v := ?_) rfl (by kernel_rfl) (by kernel_rfl) (by kernel_rfl) (fun _ _ _ h => h) (Or.inl ⟨by rfl, ?_⟩) hHeld ?_
        case refine_2 => (intro w hSw; (try dsimp only at hSw); go_simp <;> with_reducible rfl)
        try simp only [Act.put, List.setIfInBounds_toArray, List.set_cons_zero, List.set_cons_succ]
        refine wpAnyH_ready (rs := [5]) (by kernel_rfl) (by simp) ?_
        refine AllReadyH.cons (o := { dst := some 81, op := Go.Op.call { callee := Go.Callee.value (Go.Operand.func 22), args := #[Go.Operand.tmp 79, Go.Operand.tmp 80], argTypes := #[39, 42] }, type := 4, pos := "law.go:138", after := #[{ on := 3, ground := Go.Ground.data }, { on := 4, ground := Go.Ground.data }], guard := none }) rfl (fun KK hK => ?_) AllReadyH.nil
        go_simp
        with_reducible refine (meets_as y (.slice ya y.any.length yc) 0 o _ HB.out (MM0.out _ hHeld) (HRB.out y HYM.out) (MM1.out _ hHeld) false HMT.out).mono ?_
        rintro x wA ⟨rfl, hb⟩
        go_wp2_with fail
        refine hK.out _ _ (KEEP.out _ _ hHeld hb) (fun hHeld2 => ?_)
        clear hK hHeld hb
        have hHeld := hHeld2
        clear hHeld2
        try simp only [Act.put, List.setIfInBounds_toArray, List.set_cons_zero, List.set_cons_succ]
        refine wpAnyH_take (i := 6) (oi := { dst := some 82, op := Go.Op.move (Go.Operand.tmp 81), type := 4, pos := "law.go:138", after := #[{ on := 5, ground := Go.Ground.data }, { on := 5, ground := Go.Ground.chain }], guard := none }) (v := ?_) rfl (by kernel_rfl) (by kernel_rfl) (by kernel_rfl) (fun _ _ _ h => h) (Or.inl ⟨by rfl, ?_⟩) hHeld ?_
        case refine_2 => (intro w hSw; (try dsimp only at hSw); go_simp <;> with_reducible rfl)
        try simp only [Act.put, List.setIfInBounds_toArray, List.set_cons_zero, List.set_cons_succ]
        refine wpAnyH_take (i := 7) (oi := { dst := some 83, op := Go.Op.move (Go.Operand.tmp 12), type := 26, pos := "law.go:138", after := #[{ on := 6, ground := Go.Ground.guard }], guard := some (6, true) }) (v := undef) rfl (by kernel_rfl) (by kernel_rfl) (by kernel_rfl) (fun _ _ _ h => h) (Or.inr ⟨by rfl, rfl⟩) hHeld ?_
        try simp only [Act.put, List.setIfInBounds_toArray, List.set_cons_zero, List.set_cons_succ]
        refine wpAnyH_take (i := 8) (oi := { dst := some 84, op := Go.Op.move (Go.Operand.tmp 19), type := 3, pos := "law.go:138", after := #[{ on := 6, ground := Go.Ground.guard }], guard := some (6, true) }) (v := undef) rfl (by kernel_rfl) (by kernel_rfl) (by kernel_rfl) (fun _ _ _ h => h) (Or.inr ⟨by rfl, rfl⟩) hHeld ?_
        try simp only [Act.put, List.setIfInBounds_toArray, List.set_cons_zero, List.set_cons_succ]
        refine wpAnyH_take (i := 9) (oi := { dst := some 85, op := Go.Op.indexAddr 26 (Go.Operand.tmp 83) (Go.Operand.tmp 84), type := 0, pos := "law.go:138", after := #[{ on := 7, ground := Go.Ground.data }, { on := 8, ground := Go.Ground.data }, { on := 6, ground := Go.Ground.guard }], guard := some (6, true) }) (v := undef) rfl (by kernel_rfl) (by kernel_rfl) (by kernel_rfl) (fun _ _ _ h => h) (Or.inr ⟨by rfl, rfl⟩) hHeld ?_
        try simp only [Act.put, List.setIfInBounds_toArray, List.set_cons_zero, List.set_cons_succ]
        refine wpAnyH_take (i := 10) (oi := { dst := some 86, op := Go.Op.fieldAddr 39 (Go.Operand.tmp 85) 0, type := 0, pos := "law.go:138", after := #[{ on := 9, ground := Go.Ground.data }, { on := 6, ground := Go.Ground.guard }], guard := some (6, true) }) (v := undef) rfl (by kernel_rfl) (by kernel_rfl) (by kernel_rfl) (fun _ _ _ h => h) (Or.inr ⟨by rfl, rfl⟩) hHeld ?_
        try simp only [Act.put, List.setIfInBounds_toArray, List.set_cons_zero, List.set_cons_succ]
        refine wpAnyH_take (i := 11) (oi := { dst := some 87, op := Go.Op.load 36 (Go.Operand.tmp 86), type := 36, pos := "law.go:138", after := #[{ on := 10, ground := Go.Ground.data }, { on := 6, ground := Go.Ground.guard }], guard := some (6, true) }) (v := undef) rfl (by kernel_rfl) (by kernel_rfl) (by kernel_rfl) (fun _ _ _ h => h) (Or.inr ⟨by rfl, rfl⟩) hHeld ?_
        try simp only [Act.put, List.setIfInBounds_toArray, List.set_cons_zero, List.set_cons_succ]
        refine wpAnyH_take (i := 12) (oi := { dst := some 88, op := Go.Op.binOp Go.BinOp.neq 36 (Go.Operand.tmp 87) (Go.Operand.const (Go.Value.int Go.IntKind.i64 5)) 36, type := 4, pos := "law.go:138", after := #[{ on := 11, ground := Go.Ground.data }, { on := 6, ground := Go.Ground.guard }], guard := some (6, true) }) (v := undef) rfl (by kernel_rfl) (by kernel_rfl) (by kernel_rfl) (fun _ _ _ h => h) (Or.inr ⟨by rfl, rfl⟩) hHeld ?_
        try simp only [Act.put, List.setIfInBounds_toArray, List.set_cons_zero, List.set_cons_succ]
        refine wpAnyH_take (i := 13) (oi := { dst := some 89, op := Go.Op.pick (Go.Operand.tmp 82) (Go.Operand.tmp 88) (Go.Operand.const (Go.Value.bool false)), type := 4, pos := "law.go:138", after := #[{ on := 6, ground := Go.Ground.data }, { on := 12, ground := Go.Ground.data }], guard := none }) (v := ?_) rfl (by kernel_rfl) (by kernel_rfl) (by kernel_rfl) (fun _ _ _ h => h) (Or.inl ⟨by rfl, ?_⟩) hHeld ?_
        case refine_2 => (intro w hSw; (try dsimp only at hSw); go_simp <;> with_reducible rfl)
        try simp only [Act.put, List.setIfInBounds_toArray, List.set_cons_zero, List.set_cons_succ]
        refine wpAnyH_done (by kernel_rfl) ?_ _
        have HH : HeldL w8 [] wA := hHeld.2.2.2.2.2.2
        clear hHeld
        have HA : Hid (HeldL w8 [] wA) := Lib.hid HH
        clear HH KEEP HS MM0 MM1
        have BWA : Hid (Below w7.heap.size w7 wA) := Lib.hid (BW8.out.trans (HA.out.bel.mono BW8.out.size))
        have RUA := Lib.hid (RU8.out.move HA.out.bel)
        have RVA := Lib.hid (RV8.out.move HA.out.bel)
        clear ALL RU8 RV8 BW8 HA
        go_wp2_with fail
        go_roundw
        case rel =>
          refine ⟨j + 1, hlt, by go_num, ?_, ?_, NE8.out, BWA.out⟩
          · obtain ⟨hjj, hxx⟩ := List.getElem?_eq_some_iff.1 HXJ.out
            rw [List.take_succ_eq_append_getElem hjj, hxx]
            exact RUA.out
          · rw [filter_snoc HYJ.out, HK.out]
            rw [hkp]; simp only [Bool.false_eq_true, if_false, List.append_nil]; exact RVA.out
        case measure => simp [intOf]; omega
      | true =>
        by_cases hc5 : y.cat = 5
        · have hc5i : (y.cat : Int) = 5 := by omega
          have hkp : keepP o y = false := by unfold keepP; rw [HMT.out, hc5]; rfl
          have ALL : Hid (∀ w' : World, HeldL w8 [] w' → w'.cell? ⟨g, j * 3, none⟩ = some (.int .i64 ((y.cat : Nat) : Int)) ∧ w'.cell? ⟨g, j * 3 + 1, none⟩ = some (.slice ya y.any.length yc) ∧ w'.cell? ⟨g, j * 3 + 2, none⟩ = some (S y.smp) ∧ w'.cell? ⟨ob, 0, none⟩ = some (S o.i) ∧ w'.cell? ⟨ob, 1, none⟩ = some (S o.f) ∧ w'.cell? ⟨ob, 2, none⟩ = some (.int .i64 o.e) ∧ HeldL w8 [] w') := Lib.hid (fun w' h => ⟨(h.bel.cell (p := ⟨g, j * 3, none⟩) glr).trans HY0.out, (h.bel.cell (p := ⟨g, j * 3 + 1, none⟩) glr).trans HY1.out, (h.bel.cell (p := ⟨g, j * 3 + 2, none⟩) glr).trans HY2.out, (h.bel.cell (p := ⟨ob, 0, none⟩) oll).trans (OB8.out.cell 0), (h.bel.cell (p := ⟨ob, 1, none⟩) oll).trans (OB8.out.cell 1), (h.bel.cell (p := ⟨ob, 2, none⟩) oll).trans (OB8.out.cell 2), h⟩)
          have KEEP : Hid (∀ w' w'' : World, (w'.cell? ⟨g, j * 3, none⟩ = some (.int .i64 ((y.cat : Nat) : Int)) ∧ w'.cell? ⟨g, j * 3 + 1, none⟩ = some (.slice ya y.any.length yc) ∧ w'.cell? ⟨g, j * 3 + 2, none⟩ = some (S y.smp) ∧ w'.cell? ⟨ob, 0, none⟩ = some (S o.i) ∧ w'.cell? ⟨ob, 1, none⟩ = some (S o.f) ∧ w'.cell? ⟨ob, 2, none⟩ = some (.int .i64 o.e) ∧ HeldL w8 [] w') → Below w'.heap.size w' w'' → (w''.cell? ⟨g, j * 3, none⟩ = some (.int .i64 ((y.cat : Nat) : Int)) ∧ w''.cell? ⟨g, j * 3 + 1, none⟩ = some (.slice ya y.any.length yc) ∧ w''.cell? ⟨g, j * 3 + 2, none⟩ = some (S y.smp) ∧ w''.cell? ⟨ob, 0, none⟩ = some (S o.i) ∧ w''.cell? ⟨ob, 1, none⟩ = some (S o.f) ∧ w''.cell? ⟨ob, 2, none⟩ = some (.int .i64 o.e) ∧ HeldL w8 [] w'')) := Lib.hid (fun w' w'' h hb => ALL.out _ (HeldL.keep (h.2.2.2.2.2.2) hb))
          have HS : Hid (HeldL w8 [] w8) := Lib.hid (HeldL.refl w8)
          have MM0 : Hid (∀ w' : World, (w'.cell? ⟨g, j * 3, none⟩ = some (.int .i64 ((y.cat : Nat) : Int)) ∧ w'.cell? ⟨g, j * 3 + 1, none⟩ = some (.slice ya y.any.length yc) ∧ w'.cell? ⟨g, j * 3 + 2, none⟩ = some (S y.smp) ∧ w'.cell? ⟨ob, 0, none⟩ = some (S o.i) ∧ w'.cell? ⟨ob, 1, none⟩ = some (S o.f) ∧ w'.cell? ⟨ob, 2, none⟩ = some (.int .i64 o.e) ∧ HeldL w8 [] w') → Tab w') := Lib.hid (fun w' h => T8.out.below h.2.2.2.2.2.2.bel)
          have MM1 : Hid (∀ w' : World, (w'.cell? ⟨g, j * 3, none⟩ = some (.int .i64 ((y.cat : Nat) : Int)) ∧ w'.cell? ⟨g, j * 3 + 1, none⟩ = some (.slice ya y.any.length yc) ∧ w'.cell? ⟨g, j * 3 + 2, none⟩ = some (S y.smp) ∧ w'.cell? ⟨ob, 0, none⟩ = some (S o.i) ∧ w'.cell? ⟨ob, 1, none⟩ = some (S o.f) ∧ w'.cell? ⟨ob, 2, none⟩ = some (.int .i64 o.e) ∧ HeldL w8 [] w') → CondAt w' 0 y.any (.slice ya y.any.length yc)) := Lib.hid (fun w' h => CondAt.kept HCY.out (grown_of_below h.2.2.2.2.2.2.bel none) (Apart.none _ _))
          go_region_held3 (fun w' => w'.cell? ⟨g, j * 3, none⟩ = some (.int .i64 ((y.cat : Nat) : Int)) ∧ w'.cell? ⟨g, j * 3 + 1, none⟩ = some (.slice ya y.any.length yc) ∧ w'.cell? ⟨g, j * 3 + 2, none⟩ = some (S y.smp) ∧ w'.cell? ⟨ob, 0, none⟩ = some (S o.i) ∧ w'.cell? ⟨ob, 1, none⟩ = some (S o.f) ∧ w'.cell? ⟨ob, 2, none⟩ = some (.int .i64 o.e) ∧ HeldL w8 [] w')
            (first | exact ALL.out _ (HeldL.drew HS.out) | exact KEEP.out _ _ (by assumption) hb | assumption)
            (first | (go_at_call 22; (with_reducible refine (meets_c5 hc5i (.slice ya y.any.length yc) 0 o _ HB.out (by first | exact MM0.out _ (by assumption) | exact MM0.out _ (ALL.out _ (HeldL.drew HS.out))) (HRB.out y HYM.out) (by first | exact MM1.out _ (by assumption) | exact MM1.out _ (ALL.out _ (HeldL.drew HS.out))) true HMT.out).mono ?_); rintro x wA ⟨rfl, hb⟩))
          have HH : HeldL w8 [] wA := (‹wA.cell? ⟨g, j * 3, none⟩ = some (.int .i64 ((y.cat : Nat) : Int)) ∧ wA.cell? ⟨g, j * 3 + 1, none⟩ = some (.slice ya y.any.length yc) ∧ wA.cell? ⟨g, j * 3 + 2, none⟩ = some (S y.smp) ∧ wA.cell? ⟨ob, 0, none⟩ = some (S o.i) ∧ wA.cell? ⟨ob, 1, none⟩ = some (S o.f) ∧ wA.cell? ⟨ob, 2, none⟩ = some (.int .i64 o.e) ∧ HeldL w8 [] wA›).2.2.2.2.2.2
          have HA : Hid (HeldL w8 [] wA) := Lib.hid HH
          clear HH KEEP HS MM0 MM1
          have BWA : Hid (Below w7.heap.size w7 wA) := Lib.hid (BW8.out.trans (HA.out.bel.mono BW8.out.size))
          have RUA := Lib.hid (RU8.out.move HA.out.bel)
          have RVA := Lib.hid (RV8.out.move HA.out.bel)
          clear ALL RU8 RV8 BW8 HA
          go_wp2_with fail
          go_roundw
          case rel =>
            refine ⟨j + 1, hlt, by go_num, ?_, ?_, NE8.out, BWA.out⟩
            · obtain ⟨hjj, hxx⟩ := List.getElem?_eq_some_iff.1 HXJ.out
              rw [List.take_succ_eq_append_getElem hjj, hxx]
              exact RUA.out
            · rw [filter_snoc HYJ.out, HK.out]
              rw [hkp]; simp only [Bool.false_eq_true, if_false, List.append_nil]; exact RVA.out
          case measure => simp [intOf]; omega
        · have hc5i : ¬ (y.cat : Int) = 5 := by omega
          have hkp : keepP o y = true := by unfold keepP; rw [HMT.out, Bool.true_and, bne_iff_ne]; exact hc5
          have ALL : Hid (∀ w' : World, HeldL w8 [] w' → w'.cell? ⟨g, j * 3, none⟩ = some (.int .i64 ((y.cat : Nat) : Int)) ∧ w'.cell? ⟨g, j * 3 + 1, none⟩ = some (.slice ya y.any.length yc) ∧ w'.cell? ⟨g, j * 3 + 2, none⟩ = some (S y.smp) ∧ w'.cell? ⟨ob, 0, none⟩ = some (S o.i) ∧ w'.cell? ⟨ob, 1, none⟩ = some (S o.f) ∧ w'.cell? ⟨ob, 2, none⟩ = some (.int .i64 o.e) ∧ HeldL w8 [] w') := Lib.hid (fun w' h => ⟨(h.bel.cell (p := ⟨g, j * 3, none⟩) glr).trans HY0.out, (h.bel.cell (p := ⟨g, j * 3 + 1, none⟩) glr).trans HY1.out, (h.bel.cell (p := ⟨g, j * 3 + 2, none⟩) glr).trans HY2.out, (h.bel.cell (p := ⟨ob, 0, none⟩) oll).trans (OB8.out.cell 0), (h.bel.cell (p := ⟨ob, 1, none⟩) oll).trans (OB8.out.cell 1), (h.bel.cell (p := ⟨ob, 2, none⟩) oll).trans (OB8.out.cell 2), h⟩)
          have KEEP : Hid (∀ w' w'' : World, (w'.cell? ⟨g, j * 3, none⟩ = some (.int .i64 ((y.cat : Nat) : Int)) ∧ w'.cell? ⟨g, j * 3 + 1, none⟩ = some (.slice ya y.any.length yc) ∧ w'.cell? ⟨g, j * 3 + 2, none⟩ = some (S y.smp) ∧ w'.cell? ⟨ob, 0, none⟩ = some (S o.i) ∧ w'.cell? ⟨ob, 1, none⟩ = some (S o.f) ∧ w'.cell? ⟨ob, 2, none⟩ = some (.int .i64 o.e) ∧ HeldL w8 [] w') → Below w'.heap.size w' w'' → (w''.cell? ⟨g, j * 3, none⟩ = some (.int .i64 ((y.cat : Nat) : Int)) ∧ w''.cell? ⟨g, j * 3 + 1, none⟩ = some (.slice ya y.any.length yc) ∧ w''.cell? ⟨g, j * 3 + 2, none⟩ = some (S y.smp) ∧ w''.cell? ⟨ob, 0, none⟩ = some (S o.i) ∧ w''.cell? ⟨ob, 1, none⟩ = some (S o.f) ∧ w''.cell? ⟨ob, 2, none⟩ = some (.int .i64 o.e) ∧ HeldL w8 [] w'')) := Lib.hid (fun w' w'' h hb => ALL.out _ (HeldL.keep (h.2.2.2.2.2.2) hb))
          have HS : Hid (HeldL w8 [] w8) := Lib.hid (HeldL.refl w8)
          have MM0 : Hid (∀ w' : World, (w'.cell? ⟨g, j * 3, none⟩ = some (.int .i64 ((y.cat : Nat) : Int)) ∧ w'.cell? ⟨g, j * 3 + 1, none⟩ = some (.slice ya y.any.length yc) ∧ w'.cell? ⟨g, j * 3 + 2, none⟩ = some (S y.smp) ∧ w'.cell? ⟨ob, 0, none⟩ = some (S o.i) ∧ w'.cell? ⟨ob, 1, none⟩ = some (S o.f) ∧ w'.cell? ⟨ob, 2, none⟩ = some (.int .i64 o.e) ∧ HeldL w8 [] w') → Tab w') := Lib.hid (fun w' h => T8.out.below h.2.2.2.2.2.2.bel)
          have MM1 : Hid (∀ w' : World, (w'.cell? ⟨g, j * 3, none⟩ = some (.int .i64 ((y.cat : Nat) : Int)) ∧ w'.cell? ⟨g, j * 3 + 1, none⟩ = some (.slice ya y.any.length yc) ∧ w'.cell? ⟨g, j * 3 + 2, none⟩ = some (S y.smp) ∧ w'.cell? ⟨ob, 0, none⟩ = some (S o.i) ∧ w'.cell? ⟨ob, 1, none⟩ = some (S o.f) ∧ w'.cell? ⟨ob, 2, none⟩ = some (.int .i64 o.e) ∧ HeldL w8 [] w') → CondAt w' 0 y.any (.slice ya y.any.length yc)) := Lib.hid (fun w' h => CondAt.kept HCY.out (grown_of_below h.2.2.2.2.2.2.bel none) (Apart.none _ _))
          go_region_held3 (fun w' => w'.cell? ⟨g, j * 3, none⟩ = some (.int .i64 ((y.cat : Nat) : Int)) ∧ w'.cell? ⟨g, j * 3 + 1, none⟩ = some (.slice ya y.any.length yc) ∧ w'.cell? ⟨g, j * 3 + 2, none⟩ = some (S y.smp) ∧ w'.cell? ⟨ob, 0, none⟩ = some (S o.i) ∧ w'.cell? ⟨ob, 1, none⟩ = some (S o.f) ∧ w'.cell? ⟨ob, 2, none⟩ = some (.int .i64 o.e) ∧ HeldL w8 [] w')
            (first | exact ALL.out _ (HeldL.drew HS.out) | exact KEEP.out _ _ (by assumption) hb | assumption)
            (first | (go_at_call 22; (with_reducible refine (meets_as y (.slice ya y.any.length yc) 0 o _ HB.out (by first | exact MM0.out _ (by assumption) | exact MM0.out _ (ALL.out _ (HeldL.drew HS.out))) (HRB.out y HYM.out) (by first | exact MM1.out _ (by assumption) | exact MM1.out _ (ALL.out _ (HeldL.drew HS.out))) true HMT.out).mono ?_); rintro x wA ⟨rfl, hb⟩))
          have HH : HeldL w8 [] wA := (‹wA.cell? ⟨g, j * 3, none⟩ = some (.int .i64 ((y.cat : Nat) : Int)) ∧ wA.cell? ⟨g, j * 3 + 1, none⟩ = some (.slice ya y.any.length yc) ∧ wA.cell? ⟨g, j * 3 + 2, none⟩ = some (S y.smp) ∧ wA.cell? ⟨ob, 0, none⟩ = some (S o.i) ∧ wA.cell? ⟨ob, 1, none⟩ = some (S o.f) ∧ wA.cell? ⟨ob, 2, none⟩ = some (.int .i64 o.e) ∧ HeldL w8 [] wA›).2.2.2.2.2.2
          have HA : Hid (HeldL w8 [] wA) := Lib.hid HH
          clear HH KEEP HS MM0 MM1
          have BWA : Hid (Below w7.heap.size w7 wA) := Lib.hid (BW8.out.trans (HA.out.bel.mono BW8.out.size))
          have RUA := Lib.hid (RU8.out.move HA.out.bel)
          have RVA := Lib.hid (RV8.out.move HA.out.bel)
          have e0 : wA.cell? ⟨g, j * 3, none⟩ = some (.int .i64 ((y.cat : Nat) : Int)) := (ALL.out _ HA.out).1
          have e1 : wA.cell? ⟨g, j * 3 + 1, none⟩ = some (.slice ya y.any.length yc) := (ALL.out _ HA.out).2.1
          have e2 : wA.cell? ⟨g, j * 3 + 2, none⟩ = some (S y.smp) := (ALL.out _ HA.out).2.2.1
          have gla : g < wA.heap.size := Nat.lt_of_lt_of_le glr HA.out.bel.size
          have HCA := Lib.hid (CondAt.kept HCY.out (grown_of_below HA.out.bel none) (Apart.none _ _))
          have hszA := BWA.out.size
          obtain ⟨rsA, hroA, hrlA⟩ := RVA.out
          have HROA := Lib.hid hroA
          have HRIA := Lib.hid hrlA
          clear hroA hrlA ALL HA RU8 RV8 BW8 OB8 HCY HY0 HY1 HY2 T8
          obtain ⟨i0, hi, hz0, hz1, hz2⟩ := info_parts infoRule
          have h63 : K.length + 1 ≤ maxLen := Nat.le_trans (Nat.succ_le_succ (Nat.le_trans hKl hj8)) (by unfold maxLen; decide)
          have hby : (K.length + 1) * 48 ≤ 140737488355328 := Nat.le_trans (Nat.mul_le_mul_right 48 (Nat.succ_le_succ (Nat.le_trans hKl hj8))) (by decide)
          have HBA : Hid (w7.heap.size ≤ (wA.alloc (.cells (#[.int .i64 ((y.cat : Nat) : Int), .slice ya y.any.length yc, S y.smp] : Array Value) 39)).heap.size) := Lib.hid (Nat.le_trans hszA (by simp))
          have HOA := Lib.hid (HROA.out.alloc (.cells (#[.int .i64 ((y.cat : Nat) : Int), .slice ya y.any.length yc, S y.smp] : Array Value) 39))
          have HL15 : Hid (∀ p, v8.ownBlock = some p → p < wA.heap.size) := Lib.hid (fun p hp => by obtain ⟨_, h, _⟩ := RUA.out; exact (h.lt p hp).2)
          go_upto_region 18 with (at_builtin; refine wpList_append_own_at _ rfl _ _ 26 rfl w7.heap.size 39 i0 (.agg #[.int .i64 0, .slice none 0 0, .string ⟨#[]⟩]) 3 48 Tryz.underlying26 hi hz0 hz1 hz2 rfl (by decide) (.slice a16 K.length c16) K.length rsA rfl HOA.out ⟨wA.heap.size, 0, none⟩ 1 1 [.int .i64 ((y.cat : Nat) : Int), .slice ya y.any.length yc, S y.smp] rfl rfl (lit_cells wA #[.int .i64 ((y.cat : Nat) : Int), .slice ya y.any.length yc, S y.smp] 39) (by simp [Value.oneCell']) h63 hby HBA.out ?_; intro vB wB hownB hgrB _ hatB; have RVB : Hid (RulesAt wB w7.heap.size (K ++ [y]) vB) := Lib.hid (rules_append HROA.out HRIA.out y _ HCA.out hownB hgrB); have RUB : Hid (RulesAt wB w7.heap.size (RR.take j ++ [x]) v8) := Lib.hid (RulesAt.keptNe (RulesAt.kept RUA.out (World.grownBy_alloc wA _ none) (Apart.none _ _)) hgrB (own_apart HOA.out (by decide)) (ne_swap NE8.out)); have NEB : Hid (∀ p, v8.ownBlock = some p → vB.ownBlock ≠ some p) := Lib.hid (ne_swap (ne_app (w := wB) hatB (ne_swap NE8.out) (fun p hp => Nat.lt_of_lt_of_le (HL15.out p hp) (by simp)))); have BWB : Hid (Below w7.heap.size w7 wB) := Lib.hid (below_own (BWA.out.alloc hszA _) hgrB (fun q hq => (HOA.out.lt q hq).1)); clear hownB hgrB hatB)
          clear HROA HRIA HCA HOA HBA HL15 e0 e1 e2 gla hi hz0 hz1 hz2 RUA RVA BWA
          go_wp2_with fail
          go_roundw
          case rel =>
            refine ⟨j + 1, hlt, by go_num, ?_, ?_, NEB.out, BWB.out⟩
            · obtain ⟨hjj, hxx⟩ := List.getElem?_eq_some_iff.1 HXJ.out
              rw [List.take_succ_eq_append_getElem hjj, hxx]
              exact RUB.out
            · rw [filter_snoc HYJ.out, HK.out]
              rw [hkp]; simp only [if_true]; exact RVB.out
          case measure => simp [intOf]; omega
    · obtain rfl : j = rs.length := by omega
      have hlni : ¬ (rs.length : Int) < (rs.length : Int) := by omega
      have htk : RR.take rs.length = RR := by rw [← hRl]; exact List.take_length
      have htk2 : rs.take rs.length = rs := List.take_length
      have RU9 : Hid (RulesAt wo w7.heap.size RR (.slice a15 rs.length c15)) := Lib.hid ⟨rs6, by rw [hRl]; exact HRO.out, by have h := HRI.out; rw [htk] at h; exact h⟩
      have HKF : Hid (rs.filter (keepP o) = K) := Lib.hid (by rw [← HK.out, htk2])
      have HP1 : Hid (pickP RR o = pk) := Lib.hid (by rw [← HRR.out, pick_rot]; exact HPK.out)
      have HP2 : Hid (pickP K o = pk) := Lib.hid (by rw [← HKF.out, pick_filter]; exact HPK.out)
      have HP3 : Hid (pk = 5 ↔ K.length = 0) := Lib.hid (by rw [← HPK.out, ← HKF.out]; exact pick_none5 (fun x hx => (HMF.out.all x hx).cat) o)
      have HB1 : Hid (∀ u ∈ RR, RuleB u) := Lib.hid (fun u hu => HRB.out u (rot_mem (k := k) (by rw [HRR.out]; exact hu)))
      have HB2 : Hid (∀ u ∈ K, RuleB u) := Lib.hid (fun u hu => HRB.out u ((List.mem_filter.1 (by rw [HKF.out]; exact hu : u ∈ rs.filter (keepP o))).1))
      have B10 : Hid (Below w.heap.size w wo) := Lib.hid (B7.out.trans (HBW.out.mono B7.out.size))
      have OB10 : Hid (Box wo ob #[S o.i, S o.f, .int .i64 o.e]) := Lib.hid (HOB7.out.keep HBW.out)
      clear HRO HRI htk htk2
      have o0 : wo.cell? ⟨ob, 0, none⟩ = some (S o.i) := OB10.out.cell 0
      have o1 : wo.cell? ⟨ob, 1, none⟩ = some (S o.f) := OB10.out.cell 1
      have o2 : wo.cell? ⟨ob, 2, none⟩ = some (.int .i64 o.e) := OB10.out.cell 2
      have ol := OB10.out.lt
      go_wp2_with fail
      with_reducible refine (pick_as RR _ _ o wo HB.out (HT.out.below B10.out) HB1.out RU9.out pk HP1.out).mono ?_
      rintro x w11 ⟨rfl, hb⟩
      have B11 : Hid (Below w.heap.size w w11) := Lib.hid (B10.out.trans (hb.mono B10.out.size))
      have OB11 : Hid (Box w11 ob #[S o.i, S o.f, .int .i64 o.e]) := Lib.hid (OB10.out.keep hb)
      have RV11 := Lib.hid (HR16.out.move hb)
      clear hb o0 o1 o2 ol OB10 RU9 HR16
      have o0 : w11.cell? ⟨ob, 0, none⟩ = some (S o.i) := OB11.out.cell 0
      have o1 : w11.cell? ⟨ob, 1, none⟩ = some (S o.f) := OB11.out.cell 1
      have o2 : w11.cell? ⟨ob, 2, none⟩ = some (.int .i64 o.e) := OB11.out.cell 2
      have ol := OB11.out.lt
      go_wp2_with fail
      with_reducible refine (pick_as K _ _ o w11 HB.out (HT.out.below B11.out) HB2.out RV11.out pk HP2.out).mono ?_
      rintro x w12 ⟨rfl, hb⟩
      have B12 : Hid (Below w.heap.size w w12) := Lib.hid (B11.out.trans (hb.mono B11.out.size))
      clear hb o0 o1 o2 ol OB11 RV11
      by_cases h5 : pk = 5
      · have hk0 := HP3.out.1 h5
        have h5i : (pk : Int) = 5 := by omega
        have hk0i : (K.length : Int) = 0 := by omega
        go_wp2
        go_ret
        exact ⟨by first | rfl | simp [h5i, hk0i], B12.out⟩
      · have hk0 : ¬ K.length = 0 := fun h => h5 (HP3.out.2 h)
        have h5i : ¬ (pk : Int) = 5 := by omega
        have hk0i : ¬ (K.length : Int) = 0 := by omega
        go_wp2
        go_ret
        have h5b : ((pk : Int) == 5) = false := by simpa using h5i
        have hk0b : ((K.length : Int) == 0) = false := by simpa using hk0i
        exact ⟨by first | rfl | simp [h5b, hk0b] | simp [h5i, hk0i], B12.out⟩
end Go.Proofs.YtkjhdehpcanciaaGreatDoor
