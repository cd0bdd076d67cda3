/- OgX, LawEP0, LawEP1, LawEP, in one text. -/
import Derived.Test.YtkjhdehpcanciaaGreatDoorEvP
import Derived.Test.YtkjhdehpcanciaaGreatDoorLawRF
import Derived.Test.YtkjhdehpcanciaaGreatDoorHd7
namespace Go.Proofs.YtkjhdehpcanciaaGreatDoor
open Go.RowKit Florin
set_option linter.unusedVariables false
set_option linter.unusedSimpArgs false
theorem sh_ok (L M : List UInt8) (h1 : L.length ≤ 40) (h2 : M.length ≤ 40) : (shP L M).i.length ≤ 40 ∧ (shP L M).f.length ≤ 40 ∧ isDig (shP L M).i = true ∧ isDig (shP L M).f = true := by
  unfold shP
  split
  · exact ⟨by simp, by simp, by decide, by decide⟩
  · refine ⟨?_, ?_, isDig_dgs _, isDig_dgs _⟩
    · show (dgs L).length ≤ 40; rw [dgs_length]; exact h1
    · show (dgs M).length ≤ 40; rw [dgs_length]; exact h2
theorem isDig_take {l : List UInt8} (h : isDig l = true) (k : Nat) : isDig (l.take k) = true := by
  unfold isDig at h ⊢
  rw [List.all_eq_true] at h ⊢
  exact fun x hx => h x (List.mem_of_mem_take hx)
theorem isDig_drop {l : List UInt8} (h : isDig l = true) (k : Nat) : isDig (l.drop k) = true := by
  unfold isDig at h ⊢
  rw [List.all_eq_true] at h ⊢
  exact fun x hx => h x (List.mem_of_mem_drop hx)
theorem of_B {v : Vs} (e : Int) (il : v.i.length ≤ 400000) (fl : v.f.length ≤ 400000) (hi : isDig v.i = true) (hf : isDig v.f = true) : OgB (ofP v e) := by
  have hk := kOf_le e
  have h1 := bare_length_le (v.i ++ v.f.take (kOf e) ++ zs (kOf e - v.f.length))
  have hz : (zs (kOf e - v.f.length)).length ≤ 10000 := by unfold zs; rw [List.length_replicate]; omega
  rw [List.length_append, List.length_append, List.length_take] at h1
  refine ⟨?_, ?_, ?_, ?_, ?_, ?_⟩
  · show (bare (v.i ++ v.f.take (kOf e) ++ zs (kOf e - v.f.length))).length ≤ 900000; omega
  · show (v.f.drop (kOf e)).length ≤ 900000; rw [List.length_drop]; omega
  · show (0 : Int) ≤ ((kOf e : Nat) : Int); omega
  · show ((kOf e : Nat) : Int) ≤ 10000; omega
  · exact bare_isDig (by rw [isDig_append, isDig_append, hi, isDig_take hf, isDig_zs]; rfl)
  · exact isDig_drop hf _
/-- A number as these laws make it. -/
theorem og_any (L M : List UInt8) (h1 : L.length ≤ 40) (h2 : M.length ≤ 40) (e : Int) :
    ∃ v : Vs, shP L M = v ∧ v.i.length ≤ 900000 ∧ v.f.length ≤ 900000 ∧ ∃ o, ofP v e = o ∧ OgB o := by
  obtain ⟨a, b, c, d⟩ := sh_ok L M h1 h2
  exact ⟨_, rfl, by omega, by omega, _, rfl, of_B e (by omega) (by omega) c d⟩
end Go.Proofs.YtkjhdehpcanciaaGreatDoor

namespace Go.Proofs.YtkjhdehpcanciaaGreatDoor
open Go.RowKit Florin
set_option linter.unusedVariables false
set_option linter.unusedSimpArgs false
theorem of_zero (v : Vs) : ofP v 0 = ⟨bare v.i, v.f, 0⟩ := by
  have hk : kOf 0 = 0 := by unfold kOf; decide
  unfold ofP
  rw [hk, List.take_zero, Nat.zero_sub, List.drop_zero]
  show (⟨bare (v.i ++ [] ++ zs 0), v.f, ((0 : Nat) : Int)⟩ : Og) = _
  have hz : zs 0 = [] := rfl
  rw [hz, List.append_nil, List.append_nil]
  rfl
theorem vl_per {x : RelT} {i j f : List UInt8} (hm : x.mod ≠ 0) (hi : isDig i = true) (hj : isDig j = true) (h : val j % x.mod = val i % x.mod) : vlP x ⟨bare j, f, 0⟩ = vlP x ⟨bare i, f, 0⟩ := by
  have bi : isDig (bare i) = true := by rw [bare_dig hi]; exact isDig_dig _
  have bj : isDig (bare j) = true := by rw [bare_dig hj]; exact isDig_dig _
  have e : val (bare (bare j)) % x.mod = val (bare (bare i)) % x.mod := by
    rw [val_bare bj, val_bare hj, val_bare bi, val_bare hi, h]
  unfold vlP wvP
  simp only
  by_cases h1 : x.op = 110
  · simp only [h1, if_true]
    by_cases h2 : bare (rt f) = []
    · simp only [h2, if_true, hm, ne_eq, not_false_eq_true, e]
    · simp only [h2, if_false]
  · by_cases h2 : x.op = 105
    · simp only [h1, h2, if_true, if_false, hm, ne_eq, not_false_eq_true, e]
      split <;> simp_all
    · simp only [h1, h2, if_false]
theorem holds_per {x : RelT} {i j f : List UInt8} {n n' : Bool} (hm : x.mod ≠ 0) (hi : isDig i = true) (hj : isDig j = true) (h : val j % x.mod = val i % x.mod) : holdsP x (ofP ⟨n', j, f⟩ 0) = holdsP x (ofP ⟨n, i, f⟩ 0) := by
  rw [of_zero, of_zero]
  unfold holdsP inP
  rw [vl_per hm hi hj h]
/-- Not is turned about. -/
theorem holds_not (x : RelT) (o : Og) : holdsP ⟨x.op, x.mod, !x.nt, x.rs⟩ o = !holdsP x o := by
  have e : inP ⟨x.op, x.mod, !x.nt, x.rs⟩ o = inP x o := rfl
  unfold holdsP
  rw [e]
  cases inP x o <;> cases x.nt <;> rfl
theorem holds_more (x : RelT) (o : Og) (y : Nat × Nat) : holdsP ⟨x.op, x.mod, false, y :: x.rs⟩ o = (holdsP ⟨x.op, x.mod, false, x.rs⟩ o || holdsP ⟨x.op, x.mod, false, [y]⟩ o) := by
  have e : ∀ rs, holdsP ⟨x.op, x.mod, false, rs⟩ o = match vlP x o with | none => false | some n => rs.any fun r => decide (r.1 ≤ n) && decide (n ≤ r.2) := by
    intro rs
    have e2 : vlP ⟨x.op, x.mod, false, rs⟩ o = vlP x o := rfl
    unfold holdsP inP
    rw [e2]
    cases vlP x o with
    | none => rfl
    | some n => simp only [Bool.bne_false]
  rw [e, e, e]
  cases vlP x o with
  | none => rfl
  | some n => simp only [List.any_cons, List.any_nil, Bool.or_false]; rw [Bool.or_comm]
end Go.Proofs.YtkjhdehpcanciaaGreatDoor

namespace Go.Proofs.YtkjhdehpcanciaaGreatDoor
open Go.RowKit Florin
set_option linter.unusedVariables false
set_option linter.unusedSimpArgs false
theorem Box.keep {W w : World} {b : Nat} {cs : Array Value} (h : Box W b cs) (hb : Below W.heap.size W w) : Box w b cs := h.below hb h.lt
def oneM (r : RelM) : MadeM := ⟨1, 0, 0, [[r]]⟩
theorem one_few {r : RelM} (h : r.rs.length ≤ 5) : fewR [oneM r] := by
  refine ⟨by simp [oneM], ?_⟩
  intro m hm
  obtain rfl := List.mem_singleton.1 hm
  refine ⟨by simp [oneM], ?_⟩
  intro a ha
  obtain rfl := List.mem_singleton.1 (show a ∈ [[r]] from ha)
  refine ⟨by simp [oneM], ?_⟩
  intro x hx
  obtain rfl := List.mem_singleton.1 hx
  exact h
theorem one_cat (r : RelM) : mcat (oneM r) = 1 := by
  show modM 1 6 = 1
  have e : IntKind.u64.wrap 1 = 1 := by
    show (1 : Int) % _ = _
    exact Int.emod_eq_of_lt (by omega) (by show (1 : Int) < 18446744073709551616; omega)
  have e2 : (1 : Int).tmod 6 = 1 := by decide
  have e3 : wrap64 1 = 1 := by unfold wrap64; omega
  unfold modM
  rw [e, e2, e3]
  rfl
theorem one_mn (r : RelM) : madesMn [oneM r] = [⟨1, [[relMn r]], msmp (oneM r)⟩] := by
  unfold madesMn keepM keepM
  rw [if_neg (by simp)]
  show [madeMn (oneM r)] = _
  unfold madeMn
  rw [one_cat, if_neg (by decide)]
  rfl
theorem one_B {r : RelM} (h : r.rs.length ≤ 5) : RelB (relMn r) := by
  have hF := mades_F (one_few h)
  have h1 := hF.all ⟨1, [[relMn r]], msmp (oneM r)⟩ (by rw [one_mn]; exact List.mem_singleton.2 rfl)
  have h2 := (h1.rels [relMn r] (List.mem_singleton.2 rfl)).2 (relMn r) (List.mem_singleton.2 rfl)
  exact ⟨h2.op, by have := h2.md; omega⟩
theorem one_md (r : RelM) : (relMn r).mod ≤ 65535 := (andN_is r.md 65535 (by decide)).2
theorem inr_lit (w : World) (cs : Array Value) (T : TypeId) (n sz : Nat) (hl : cs.size = n * sz) (hm : n ≤ maxLen) : InR (w.alloc (.cells cs T)) sz (.slice (some ⟨w.heap.size, 0, none⟩) n n) n cs.toList := by
  refine ⟨_, n, rfl, Nat.le_refl _, hm, by simpa using hl, fun _ => ⟨w.heap.size, 0, rfl, by simp, fun j hj => ?_⟩⟩
  have h := (BoxT.new w cs T).box.cell j
  rw [Nat.zero_add]
  simp [h]
theorem one_at {r : RelM} {u : Value} {w : World} (h : NumsAt w r.rs u) :
    MadesAt (((w.alloc (.cells #[.int .i64 r.op, .int .i64 r.md, .int .i64 r.gp, .bool r.nt, u] 58)).alloc (.cells #[.slice (some ⟨w.heap.size, 0, none⟩) 1 1] 59)).alloc (.cells #[.int .i64 1, .int .i64 0, .int .i64 0, .slice (some ⟨w.heap.size + 1, 0, none⟩) 1 1] 62)) [oneM r] (.slice (some ⟨w.heap.size + 1 + 1, 0, none⟩) 1 1) := by
  have b1 : Below w.heap.size w (w.alloc (.cells #[.int .i64 r.op, .int .i64 r.md, .int .i64 r.gp, .bool r.nt, u] 58)) := (Below.refl _ _).alloc (Nat.le_refl _) _
  have i1 := inr_lit w #[.int .i64 r.op, .int .i64 r.md, .int .i64 r.gp, .bool r.nt, u] 58 1 5 rfl (by decide)
  have a1 : AllmAt (w.alloc (.cells #[.int .i64 r.op, .int .i64 r.md, .int .i64 r.gp, .bool r.nt, u] 58)) [r] (.slice (some ⟨w.heap.size, 0, none⟩) 1 1) :=
    ⟨_, i1, _, [], by simp, ⟨u, rfl, h.below b1⟩, rfl⟩
  generalize hw1 : (w.alloc (.cells #[.int .i64 r.op, .int .i64 r.md, .int .i64 r.gp, .bool r.nt, u] 58)) = w1 at *
  have hs1 : w1.heap.size = w.heap.size + 1 := by rw [← hw1]; simp
  have b2 : Below w1.heap.size w1 (w1.alloc (.cells #[.slice (some ⟨w.heap.size, 0, none⟩) 1 1] 59)) := (Below.refl _ _).alloc (Nat.le_refl _) _
  have i2 := inr_lit w1 #[.slice (some ⟨w.heap.size, 0, none⟩) 1 1] 59 1 1 rfl (by decide)
  rw [hs1] at i2
  have a2 : AnymAt (w1.alloc (.cells #[.slice (some ⟨w.heap.size, 0, none⟩) 1 1] 59)) [[r]] (.slice (some ⟨w.heap.size + 1, 0, none⟩) 1 1) :=
    ⟨_, i2, _, [], by simp, ⟨_, rfl, a1.below b2⟩, rfl⟩
  generalize hw2 : (w1.alloc (.cells #[.slice (some ⟨w.heap.size, 0, none⟩) 1 1] 59)) = w2 at *
  have hs2 : w2.heap.size = w.heap.size + 1 + 1 := by rw [← hw2]; simp [hs1]
  have b3 : Below w2.heap.size w2 (w2.alloc (.cells #[.int .i64 1, .int .i64 0, .int .i64 0, .slice (some ⟨w.heap.size + 1, 0, none⟩) 1 1] 62)) := (Below.refl _ _).alloc (Nat.le_refl _) _
  have i3 := inr_lit w2 #[.int .i64 1, .int .i64 0, .int .i64 0, .slice (some ⟨w.heap.size + 1, 0, none⟩) 1 1] 62 1 4 rfl (by decide)
  rw [hs2] at i3
  exact ⟨_, i3, [.int .i64 1, .int .i64 0, .int .i64 0, .slice (some ⟨w.heap.size + 1, 0, none⟩) 1 1], [], by simp, ⟨_, rfl, a2.below b3⟩, rfl⟩
/-- The cells of one rule of one relation. -/
theorem one_cells {w : World} {base : Nat} {c : Nat} {s : List UInt8} {x : RelT} {v : Value} (h : RulesAt w base [⟨c, [[x]], s⟩] v) :
    ∃ g cap g1 cap1 g2 cap2 ra rn rc, v = .slice (some ⟨g, 0, none⟩) 1 cap ∧ 1 ≤ cap ∧ 1 ≤ cap1 ∧ 1 ≤ cap2 ∧ g < w.heap.size ∧ g1 < w.heap.size ∧ g2 < w.heap.size ∧
      w.cell? ⟨g, 1, none⟩ = some (.slice (some ⟨g1, 0, none⟩) 1 cap1) ∧ w.cell? ⟨g1, 0, none⟩ = some (.slice (some ⟨g2, 0, none⟩) 1 cap2) ∧
      w.cell? ⟨g2, 0, none⟩ = some (.int .u8 ((x.op : UInt8).toNat : Int)) ∧ w.cell? ⟨g2, 1, none⟩ = some (.int .i64 ((x.mod : Nat) : Int)) ∧ w.cell? ⟨g2, 2, none⟩ = some (.bool x.nt) ∧ w.cell? ⟨g2, 3, none⟩ = some (.slice ra rn rc) ∧ Rngs w 0 x.rs (.slice ra rn rc) := by
  obtain ⟨cs, ho, cj, dj, hcs, ⟨vj, hcj, hnj⟩, hd⟩ := h
  obtain ⟨g, cap, rfl, h1, _, _, hg, hc⟩ := own_blk ho (by simp)
  obtain rfl := hd
  subst hcj hcs
  obtain ⟨cs1, ho1, cj1, dj1, hcs1, ⟨vj1, hcj1, hnj1⟩, hd1⟩ := hnj
  obtain ⟨g1, cap1, rfl, h2, _, _, hg1, hc1⟩ := own_blk ho1 (by simp)
  obtain rfl := hd1
  subst hcj1 hcs1
  obtain ⟨cs2, ho2, cj2, dj2, hcs2, ⟨vj2, hcj2, hnj2⟩, hd2⟩ := hnj1
  obtain ⟨g2, cap2, rfl, h3, _, _, hg2, hc2⟩ := own_blk ho2 (by simp)
  obtain rfl := hd2
  subst hcj2 hcs2
  obtain ⟨ra, rn, rc, hsv⟩ := own_slice hnj2
  subst hsv
  exact ⟨g, cap, g1, cap1, g2, cap2, ra, rn, rc, rfl, h1, h2, h3, hg, hg1, hg2, hc 1 (by simp), hc1 0 (by simp), hc2 0 (by simp), hc2 1 (by simp), hc2 2 (by simp), hc2 3 (by simp), hnj2⟩
end Go.Proofs.YtkjhdehpcanciaaGreatDoor

namespace Go.Proofs.YtkjhdehpcanciaaGreatDoor
open Go.RowKit Florin
set_option linter.unusedVariables false
set_option linter.unusedSimpArgs false
attribute [local go_sem ↓] Go.wp_at_zero Go.wp_at_succ
set_option maxRecDepth 100000 in
set_option maxHeartbeats 6400000 in
theorem evalPeriods_walk (r : RelM) (u : Value) (a1 : Option Addr) (len1 cap1' : Nat) (L1 : List UInt8) (a2 : Option Addr) (len2 cap2' : Nat) (L2 : List UInt8) (k : Int) (w : World) (hr : NumsAt w r.rs u) (hi1 : InB w a1 len1 cap1' L1) (hi2 : InB w a2 len2 cap2' L2) (_hk : (Lit.int .i64 k).wf = true) (ht : Tab w) (hw : Wds w) :
    Calls Tryz.prog 9 #[.agg #[.int .i64 r.op, .int .i64 r.md, .int .i64 r.gp, .bool r.nt, u], .slice a1 len1 cap1', .slice a2 len2 cap2', .int .i64 k] w fun x w' => x = .returned (.bool true) ∧ Below w.heap.size w w' := by
  clear _hk
  have HT0 := Lib.hid ht
  have HW0 := Lib.hid hw
  have HI10 := Lib.hid hi1
  have HI20 := Lib.hid hi2
  have HR0 := Lib.hid hr
  have hc1 := hi1.2.1
  have hm1 := hi1.2.2.1
  have hc2 := hi2.2.1
  have hm2 := hi2.2.2.1
  have hL1 := hi1.1
  have hL2 := hi2.1
  obtain ⟨ua, uc, e0, hu1, hu2, hu3⟩ := hr
  subst e0
  have huci : (uc : Int) ≤ 9223372036854775807 := by unfold maxLen at hu2; omega
  clear ht hw hi1 hi2 hu3
  go_enter Tryz.func9, Tryz.ntmps9
  have BA : Hid (Below w.heap.size w (w.alloc (.cells #[.int .i64 r.op, .int .i64 r.md, .int .i64 r.gp, .bool r.nt, .slice ua r.rs.length uc] 58))) := Lib.hid ((Below.refl _ _).alloc (Nat.le_refl _) _)
  have XA := Lib.hid (BoxT.new w #[.int .i64 r.op, .int .i64 r.md, .int .i64 r.gp, .bool r.nt, .slice ua r.rs.length uc] 58)
  go_wp2_with fail
  with_reducible refine (head7 _ (HT0.out.below BA.out) (HW0.out.below BA.out)).mono ?_
  rintro y wp ⟨rfl, hb⟩
  have B1 : Hid (Below w.heap.size w wp) := Lib.hid (BA.out.trans (hb.mono BA.out.size))
  have X1 := Lib.hid (XA.out.box.keep hb)
  clear hb BA XA
  have r0 : wp.cell? ⟨w.heap.size, 0, none⟩ = some (.int .i64 r.op) := X1.out.cell 0
  have r1 : wp.cell? ⟨w.heap.size, 1, none⟩ = some (.int .i64 r.md) := X1.out.cell 1
  have r2 : wp.cell? ⟨w.heap.size, 2, none⟩ = some (.int .i64 r.gp) := X1.out.cell 2
  have r3 : wp.cell? ⟨w.heap.size, 3, none⟩ = some (.bool r.nt) := X1.out.cell 3
  have r4 : wp.cell? ⟨w.heap.size, 4, none⟩ = some (.slice ua r.rs.length uc) := X1.out.cell 4
  have rl := X1.out.lt
  by_cases hg0 : 5 < r.rs.length
  · have hg0i : (5 : Int) < (r.rs.length : Int) := by omega
    go_wp2
    go_ret
    exact ⟨rfl, B1.out⟩
  have hg0i : ¬ (5 : Int) < (r.rs.length : Int) := by omega
  by_cases hg1 : 40 < len1
  · have hg1i : (40 : Int) < (len1 : Int) := by omega
    go_wp2
    go_ret
    exact ⟨rfl, B1.out⟩
  have hg1i : ¬ (40 : Int) < (len1 : Int) := by omega
  by_cases hg2 : 40 < len2
  · have hg2i : (40 : Int) < (len2 : Int) := by omega
    go_wp2
    go_ret
    exact ⟨rfl, B1.out⟩
  have hg2i : ¬ (40 : Int) < (len2 : Int) := by omega
  have HNM := Lib.hid (one_at (InR.below HR0.out B1.out))
  have BN : Hid (Below w.heap.size w (((wp.alloc (.cells #[.int .i64 r.op, .int .i64 r.md, .int .i64 r.gp, .bool r.nt, .slice ua r.rs.length uc] 58)).alloc (.cells #[.slice (some ⟨wp.heap.size, 0, none⟩) 1 1] 59)).alloc (.cells #[.int .i64 1, .int .i64 0, .int .i64 0, .slice (some ⟨wp.heap.size + 1, 0, none⟩) 1 1] 62))) := Lib.hid (((B1.out.alloc B1.out.size _).alloc (Nat.le_trans B1.out.size (by simp)) _).alloc (Nat.le_trans B1.out.size (by simp; omega)) _)
  have HFW := Lib.hid (one_few (r := r) (by omega))
  have HRB := Lib.hid (one_B (r := r) (by omega))
  have HMD := Lib.hid (one_md r)
  go_wp2_with fail
  with_reducible refine (allM_as [oneM r] _ 0 _ (HT0.out.below BN.out) (HW0.out.below BN.out) HNM.out HFW.out.L HFW.out.B HFW.out.R).mono ?_
  rintro y wB ⟨v, rfl, hru, hb⟩
  have BB : Hid (Below w.heap.size w wB) := Lib.hid (BN.out.trans (hb.mono BN.out.size))
  rw [one_mn] at hru
  obtain ⟨x, hx⟩ : ∃ x, relMn r = x := ⟨_, rfl⟩
  rw [hx] at hru HRB HMD
  obtain ⟨g, cap, g1, cap1, g2, cap2, ra, rn, rc, hv, k0, k1, k2, gl, gl1, gl2, c1, c2, c3, c4, c5, c6, hrg⟩ := one_cells hru
  subst hv
  have HRG := Lib.hid hrg
  have HT := Lib.hid (HT0.out.below BB.out)
  have HI1 := Lib.hid (HI10.out.below BB.out)
  have HI2 := Lib.hid (HI20.out.below BB.out)
  clear hru hb hrg BN HNM HFW X1 B1 HT0 HW0 HI10 HI20 HR0 r0 r1 r2 r3 r4 rl hg0 hg0i hg1i hg2i hx huci hu1 hu2
  have kb0 : (0 : Int) < (cap : Int) := by omega
  have kb1 : (0 : Int) < (cap1 : Int) := by omega
  have kb2 : (0 : Int) < (cap2 : Int) := by omega
  go_upto_region 7 with fail
  have H1 : Hid (HeldL wB [(wB.heap.size, #[.int .u8 ((x.op : UInt8).toNat : Int), .int .i64 ((x.mod : Nat) : Int), .bool x.nt, .slice ra rn rc])] (wB.alloc (.cells #[.int .u8 ((x.op : UInt8).toNat : Int), .int .i64 ((x.mod : Nat) : Int), .bool x.nt, .slice ra rn rc] 50))) := Lib.hid ((HeldL.alloc (HeldL.refl wB) (wB.heap.size) #[.int .u8 ((x.op : UInt8).toNat : Int), .int .i64 ((x.mod : Nat) : Int), .bool x.nt, .slice ra rn rc] 50 (by simp)))
  generalize (wB.alloc (.cells #[.int .u8 ((x.op : UInt8).toNat : Int), .int .i64 ((x.mod : Nat) : Int), .bool x.nt, .slice ra rn rc] 50)) = w1 at *
  have x0 : w1.cell? ⟨wB.heap.size, 0, none⟩ = some (.int .u8 ((x.op : UInt8).toNat : Int)) := (H1.out.f (List.Mem.head _)).cell 0
  have x1 : w1.cell? ⟨wB.heap.size, 1, none⟩ = some (.int .i64 ((x.mod : Nat) : Int)) := (H1.out.f (List.Mem.head _)).cell 1
  have x2 : w1.cell? ⟨wB.heap.size, 2, none⟩ = some (.bool x.nt) := (H1.out.f (List.Mem.head _)).cell 2
  have x3 : w1.cell? ⟨wB.heap.size, 3, none⟩ = some (.slice ra rn rc) := (H1.out.f (List.Mem.head _)).cell 3
  have xl : wB.heap.size < w1.heap.size := (H1.out.f (List.Mem.head _)).lt
  clear c1 c2 c3 c4 c5 c6 k0 k1 k2 kb0 kb1 kb2 gl gl1 gl2
  by_cases hm0 : x.mod = 0
  · have hm0i : ((x.mod : Nat) : Int) = 0 := by omega
    go_wp2
    go_ret
    exact ⟨rfl, BB.out.trans (H1.out.bel.mono BB.out.size)⟩
  have hm0i : ¬ ((x.mod : Nat) : Int) = 0 := by omega
  obtain ⟨vs, hvs, il, fl, o, ho, hoB⟩ := og_any L1 L2 (by omega) (by omega) 0
  obtain ⟨dl1, dl2, di, df⟩ := sh_ok L1 L2 (by omega) (by omega)
  rw [hvs] at dl1 dl2 di df
  have HVS := Lib.hid hvs
  have HO := Lib.hid ho
  have HB := Lib.hid hoB
  have HDI := Lib.hid di
  have HDF := Lib.hid df
  clear hvs hoB di df
  go_wp2_with fail
  with_reducible refine (shown_as a1 len1 cap1' L1 a2 len2 cap2' L2 _ (HI1.out.below H1.out.bel) (HI2.out.below H1.out.bel) (by omega) (by omega) vs HVS.out).mono ?_
  rintro x w2 ⟨rfl, hb⟩
  clear x0 x1 x2 x3 xl
  have H2 : Hid (HeldL wB [(wB.heap.size, #[.int .u8 ((x.op : UInt8).toNat : Int), .int .i64 ((x.mod : Nat) : Int), .bool x.nt, .slice ra rn rc])] w2) := Lib.hid (HeldL.keep H1.out hb)
  clear H1
  clear hb
  go_wp2_with fail
  clear hL1 hL2 hc1 hm1 hc2 hm2 HVS ho hg1 hg2
  with_reducible refine (of_as vs 0 _ il fl o HO.out).mono ?_
  rintro x w3 ⟨rfl, hb⟩
  have H3 : Hid (HeldL wB [(w2.heap.size, #[.bool vs.neg, S vs.i, S vs.f]), (wB.heap.size, #[.int .u8 ((x.op : UInt8).toNat : Int), .int .i64 ((x.mod : Nat) : Int), .bool x.nt, .slice ra rn rc])] w3) := Lib.hid (HeldL.keep (HeldL.alloc H2.out (w2.heap.size) #[.bool vs.neg, S vs.i, S vs.f] 45 (by simp)) hb)
  clear H2
  clear hb
  go_upto_region 11 with fail
  have H4 : Hid (HeldL wB [(w3.heap.size, #[S o.i, S o.f, .int .i64 o.e]), (w2.heap.size, #[.bool vs.neg, S vs.i, S vs.f]), (wB.heap.size, #[.int .u8 ((x.op : UInt8).toNat : Int), .int .i64 ((x.mod : Nat) : Int), .bool x.nt, .slice ra rn rc])] (w3.alloc (.cells #[S o.i, S o.f, .int .i64 o.e] 42))) := Lib.hid ((HeldL.alloc H3.out (w3.heap.size) #[S o.i, S o.f, .int .i64 o.e] 42 (by simp)))
  generalize (w3.alloc (.cells #[S o.i, S o.f, .int .i64 o.e] 42)) = w4 at *
  clear H3
  obtain ⟨kk, hkk, hand⟩ : ∃ q : Nat, q ≤ 65535 ∧ bits .and .i64 k 65535 = (q : Int) := and_mask k 65535 (by decide)
  have hmd := HMD.out
  have hT1 : x.mod * kk ≤ 65535 * 65535 := Nat.mul_le_mul hmd hkk
  have dm := (dig_length_le x.mod 6).2 (by omega)
  have dk := (dig_length_le (x.mod * kk) 11).2 (by omega)
  have HVI := Lib.hid (val_dig (x.mod * kk))
  have v0 : w4.cell? ⟨w2.heap.size, 0, none⟩ = some (.bool vs.neg) := (H4.out.f (List.Mem.tail _ (List.Mem.head _))).cell 0
  have v1 : w4.cell? ⟨w2.heap.size, 1, none⟩ = some (S vs.i) := (H4.out.f (List.Mem.tail _ (List.Mem.head _))).cell 1
  have v2 : w4.cell? ⟨w2.heap.size, 2, none⟩ = some (S vs.f) := (H4.out.f (List.Mem.tail _ (List.Mem.head _))).cell 2
  have vl : w2.heap.size < w4.heap.size := (H4.out.f (List.Mem.tail _ (List.Mem.head _))).lt
  have x0 : w4.cell? ⟨wB.heap.size, 0, none⟩ = some (.int .u8 ((x.op : UInt8).toNat : Int)) := (H4.out.f (List.Mem.tail _ (List.Mem.tail _ (List.Mem.head _)))).cell 0
  have x1 : w4.cell? ⟨wB.heap.size, 1, none⟩ = some (.int .i64 ((x.mod : Nat) : Int)) := (H4.out.f (List.Mem.tail _ (List.Mem.tail _ (List.Mem.head _)))).cell 1
  have x2 : w4.cell? ⟨wB.heap.size, 2, none⟩ = some (.bool x.nt) := (H4.out.f (List.Mem.tail _ (List.Mem.tail _ (List.Mem.head _)))).cell 2
  have x3 : w4.cell? ⟨wB.heap.size, 3, none⟩ = some (.slice ra rn rc) := (H4.out.f (List.Mem.tail _ (List.Mem.tail _ (List.Mem.head _)))).cell 3
  have xl : wB.heap.size < w4.heap.size := (H4.out.f (List.Mem.tail _ (List.Mem.tail _ (List.Mem.head _)))).lt
  have HS1 : Hid (HeldL wB [(w3.heap.size, #[S o.i, S o.f, .int .i64 o.e]), (w2.heap.size, #[.bool vs.neg, S vs.i, S vs.f]), (wB.heap.size, #[.int .u8 ((x.op : UInt8).toNat : Int), .int .i64 ((x.mod : Nat) : Int), .bool x.nt, .slice ra rn rc])] _) := Lib.hid H4.out
  go_region_with (first | (go_at_call 28; (with_reducible refine (ofN x.mod _ (by omega) (HT.out.below ((HeldL.drew HS1.out)).bel)).mono ?_); rintro x w11 ⟨rfl, hb⟩; have HKw11 : Hid (HeldL wB [(w3.heap.size, #[S o.i, S o.f, .int .i64 o.e]), (w2.heap.size, #[.bool vs.neg, S vs.i, S vs.f]), (wB.heap.size, #[.int .u8 ((x.op : UInt8).toNat : Int), .int .i64 ((x.mod : Nat) : Int), .bool x.nt, .slice ra rn rc])] w11) := Lib.hid (HeldL.keep (HeldL.drew HS1.out) hb); clear hb; have vw110 : w11.cell? ⟨w2.heap.size, 0, none⟩ = some (.bool vs.neg) := (HKw11.out.f (List.Mem.tail _ (List.Mem.head _))).cell 0; have vw111 : w11.cell? ⟨w2.heap.size, 1, none⟩ = some (S vs.i) := (HKw11.out.f (List.Mem.tail _ (List.Mem.head _))).cell 1; have vw112 : w11.cell? ⟨w2.heap.size, 2, none⟩ = some (S vs.f) := (HKw11.out.f (List.Mem.tail _ (List.Mem.head _))).cell 2; have vw11l : w2.heap.size < w11.heap.size := (HKw11.out.f (List.Mem.tail _ (List.Mem.head _))).lt; have xw110 : w11.cell? ⟨wB.heap.size, 0, none⟩ = some (.int .u8 ((x.op : UInt8).toNat : Int)) := (HKw11.out.f (List.Mem.tail _ (List.Mem.tail _ (List.Mem.head _)))).cell 0; have xw111 : w11.cell? ⟨wB.heap.size, 1, none⟩ = some (.int .i64 ((x.mod : Nat) : Int)) := (HKw11.out.f (List.Mem.tail _ (List.Mem.tail _ (List.Mem.head _)))).cell 1; have xw112 : w11.cell? ⟨wB.heap.size, 2, none⟩ = some (.bool x.nt) := (HKw11.out.f (List.Mem.tail _ (List.Mem.tail _ (List.Mem.head _)))).cell 2; have xw113 : w11.cell? ⟨wB.heap.size, 3, none⟩ = some (.slice ra rn rc) := (HKw11.out.f (List.Mem.tail _ (List.Mem.tail _ (List.Mem.head _)))).cell 3; have xw11l : wB.heap.size < w11.heap.size := (HKw11.out.f (List.Mem.tail _ (List.Mem.tail _ (List.Mem.head _)))).lt) | (go_at_call 27; (with_reducible refine (timesN x.mod kk _ (by omega) (by omega) (HT.out.below (HKw11.out).bel)).mono ?_); rintro x w12 ⟨rfl, hb⟩; have HKw12 : Hid (HeldL wB [(w3.heap.size, #[S o.i, S o.f, .int .i64 o.e]), (w2.heap.size, #[.bool vs.neg, S vs.i, S vs.f]), (wB.heap.size, #[.int .u8 ((x.op : UInt8).toNat : Int), .int .i64 ((x.mod : Nat) : Int), .bool x.nt, .slice ra rn rc])] w12) := Lib.hid (HeldL.keep HKw11.out hb); clear hb; have vw120 : w12.cell? ⟨w2.heap.size, 0, none⟩ = some (.bool vs.neg) := (HKw12.out.f (List.Mem.tail _ (List.Mem.head _))).cell 0; have vw121 : w12.cell? ⟨w2.heap.size, 1, none⟩ = some (S vs.i) := (HKw12.out.f (List.Mem.tail _ (List.Mem.head _))).cell 1; have vw122 : w12.cell? ⟨w2.heap.size, 2, none⟩ = some (S vs.f) := (HKw12.out.f (List.Mem.tail _ (List.Mem.head _))).cell 2; have vw12l : w2.heap.size < w12.heap.size := (HKw12.out.f (List.Mem.tail _ (List.Mem.head _))).lt; have xw120 : w12.cell? ⟨wB.heap.size, 0, none⟩ = some (.int .u8 ((x.op : UInt8).toNat : Int)) := (HKw12.out.f (List.Mem.tail _ (List.Mem.tail _ (List.Mem.head _)))).cell 0; have xw121 : w12.cell? ⟨wB.heap.size, 1, none⟩ = some (.int .i64 ((x.mod : Nat) : Int)) := (HKw12.out.f (List.Mem.tail _ (List.Mem.tail _ (List.Mem.head _)))).cell 1; have xw122 : w12.cell? ⟨wB.heap.size, 2, none⟩ = some (.bool x.nt) := (HKw12.out.f (List.Mem.tail _ (List.Mem.tail _ (List.Mem.head _)))).cell 2; have xw123 : w12.cell? ⟨wB.heap.size, 3, none⟩ = some (.slice ra rn rc) := (HKw12.out.f (List.Mem.tail _ (List.Mem.tail _ (List.Mem.head _)))).cell 3; have xw12l : wB.heap.size < w12.heap.size := (HKw12.out.f (List.Mem.tail _ (List.Mem.tail _ (List.Mem.head _)))).lt) | (go_at_call 26; (with_reducible refine (addS vs.i (dig (x.mod * kk)) _ (by omega) (by omega) HDI.out (isDig_dig _)).mono ?_); rintro x w13 ⟨rfl, hb⟩; have HKw13 : Hid (HeldL wB [(w3.heap.size, #[S o.i, S o.f, .int .i64 o.e]), (w2.heap.size, #[.bool vs.neg, S vs.i, S vs.f]), (wB.heap.size, #[.int .u8 ((x.op : UInt8).toNat : Int), .int .i64 ((x.mod : Nat) : Int), .bool x.nt, .slice ra rn rc])] w13) := Lib.hid (HeldL.keep HKw12.out hb); clear hb; have v0 : w13.cell? ⟨w2.heap.size, 0, none⟩ = some (.bool vs.neg) := (HKw13.out.f (List.Mem.tail _ (List.Mem.head _))).cell 0; have vz0 : w13.frozen? ⟨w2.heap.size, 0, none⟩ = false := (HKw13.out.f (List.Mem.tail _ (List.Mem.head _))).frozen 0; have v1 : w13.cell? ⟨w2.heap.size, 1, none⟩ = some (S vs.i) := (HKw13.out.f (List.Mem.tail _ (List.Mem.head _))).cell 1; have vz1 : w13.frozen? ⟨w2.heap.size, 1, none⟩ = false := (HKw13.out.f (List.Mem.tail _ (List.Mem.head _))).frozen 1; have v2 : w13.cell? ⟨w2.heap.size, 2, none⟩ = some (S vs.f) := (HKw13.out.f (List.Mem.tail _ (List.Mem.head _))).cell 2; have vz2 : w13.frozen? ⟨w2.heap.size, 2, none⟩ = false := (HKw13.out.f (List.Mem.tail _ (List.Mem.head _))).frozen 2; have vl : w2.heap.size < w13.heap.size := (HKw13.out.f (List.Mem.tail _ (List.Mem.head _))).lt; have x0 : w13.cell? ⟨wB.heap.size, 0, none⟩ = some (.int .u8 ((x.op : UInt8).toNat : Int)) := (HKw13.out.f (List.Mem.tail _ (List.Mem.tail _ (List.Mem.head _)))).cell 0; have x1 : w13.cell? ⟨wB.heap.size, 1, none⟩ = some (.int .i64 ((x.mod : Nat) : Int)) := (HKw13.out.f (List.Mem.tail _ (List.Mem.tail _ (List.Mem.head _)))).cell 1; have x2 : w13.cell? ⟨wB.heap.size, 2, none⟩ = some (.bool x.nt) := (HKw13.out.f (List.Mem.tail _ (List.Mem.tail _ (List.Mem.head _)))).cell 2; have x3 : w13.cell? ⟨wB.heap.size, 3, none⟩ = some (.slice ra rn rc) := (HKw13.out.f (List.Mem.tail _ (List.Mem.tail _ (List.Mem.head _)))).cell 3; have xl : wB.heap.size < w13.heap.size := (HKw13.out.f (List.Mem.tail _ (List.Mem.tail _ (List.Mem.head _)))).lt))
  all_goals
    have H5 : Hid (HeldL wB [(w3.heap.size, #[S o.i, S o.f, .int .i64 o.e]), (w2.heap.size, #[.bool vs.neg, S vs.i, S vs.f]), (wB.heap.size, #[.int .u8 ((x.op : UInt8).toNat : Int), .int .i64 ((x.mod : Nat) : Int), .bool x.nt, .slice ra rn rc])] w13) := HKw13
    clear HS1 HKw11 HKw12 HKw13 H4
    go_upto_region 12 with fail
    rw [HVI.out]
    obtain ⟨t, ht⟩ : ∃ t, dig (val vs.i + x.mod * kk) = t := ⟨_, rfl⟩
    rw [ht]
    have H6 : Hid (HeldL wB [(w3.heap.size, #[S o.i, S o.f, .int .i64 o.e]), (w2.heap.size, #[.bool vs.neg, S t, S vs.f]), (wB.heap.size, #[.int .u8 ((x.op : UInt8).toNat : Int), .int .i64 ((x.mod : Nat) : Int), .bool x.nt, .slice ra rn rc])] (w13.setCell ⟨w2.heap.size, 1, none⟩ (S t))) := Lib.hid (HeldL.set1 (L1 := [(w3.heap.size, #[S o.i, S o.f, .int .i64 o.e])]) (L2 := [(wB.heap.size, #[.int .u8 ((x.op : UInt8).toNat : Int), .int .i64 ((x.mod : Nat) : Int), .bool x.nt, .slice ra rn rc])]) H5.out 1 (S t))
    clear vw110 vw111 vw112 vw11l xw110 xw111 xw112 xw113 xw11l vw120 vw121 vw122 vw12l xw120 xw121 xw122 xw123 xw12l v0 vz0 v1 vz1 v2 vz2 vl x0 x1 x2 x3 xl
    generalize (w13.setCell ⟨w2.heap.size, 1, none⟩ (S t)) = w6 at *
    clear H5
    have HTV : Hid (val t % x.mod = val vs.i % x.mod) := Lib.hid (by rw [← ht, val_dig]; exact Nat.add_mul_mod_self_left _ _ _)
    have HTD : Hid (isDig t = true) := Lib.hid (by rw [← ht]; exact isDig_dig _)
    have hvl := (val_lt _ HDI.out)
    have htl : t.length ≤ 1000 := by rw [← ht]; exact Nat.le_trans ((dig_length_le _ 60).2 (by have := hvl; have h40 : (10 : Nat) ^ vs.i.length ≤ 10 ^ 40 := Nat.pow_le_pow_right (by decide) (by omega); have h2 : (10 : Nat) ^ 40 + 65535 * 65535 < 10 ^ 60 := (by decide); omega)) (by decide)
    have ht0 : t = [] → val vs.i % x.mod = 0 := fun h => by rw [← HTV.out, h]; show 0 % x.mod = 0; exact Nat.zero_mod _
    clear ht hvl hT1 dm dk HVI hand hkk
    have v0 : w6.cell? ⟨w2.heap.size, 0, none⟩ = some (.bool vs.neg) := (H6.out.f (List.Mem.tail _ (List.Mem.head _))).cell 0
    have vz0 : w6.frozen? ⟨w2.heap.size, 0, none⟩ = false := (H6.out.f (List.Mem.tail _ (List.Mem.head _))).frozen 0
    have v1 : w6.cell? ⟨w2.heap.size, 1, none⟩ = some (S t) := (H6.out.f (List.Mem.tail _ (List.Mem.head _))).cell 1
    have vz1 : w6.frozen? ⟨w2.heap.size, 1, none⟩ = false := (H6.out.f (List.Mem.tail _ (List.Mem.head _))).frozen 1
    have v2 : w6.cell? ⟨w2.heap.size, 2, none⟩ = some (S vs.f) := (H6.out.f (List.Mem.tail _ (List.Mem.head _))).cell 2
    have vz2 : w6.frozen? ⟨w2.heap.size, 2, none⟩ = false := (H6.out.f (List.Mem.tail _ (List.Mem.head _))).frozen 2
    have vl : w2.heap.size < w6.heap.size := (H6.out.f (List.Mem.tail _ (List.Mem.head _))).lt
    by_cases hte : t = []
    · have hv0 := ht0 hte
      by_cases hfe : vs.f = []
      · have hte1 : t.isEmpty = true := by rw [hte]; rfl
        have hte2 := empty_of hte1
        have hfe1 : vs.f.isEmpty = true := by rw [hfe]; rfl
        have hfe2 := empty_of hfe1
        clear hte hfe
        obtain ⟨i, hi⟩ : ∃ i : List UInt8, i = [48] := ⟨_, rfl⟩
        have HIV : Hid (val i % x.mod = val vs.i % x.mod) := Lib.hid (by rw [hi]; have h48 : val [48] = 0 := (by decide); rw [h48, hv0]; exact Nat.zero_mod _)
        have HID : Hid (isDig i = true) := Lib.hid (by rw [hi]; decide)
        have hil : i.length ≤ 1000 := by rw [hi]; decide
        go_upto_region 14 with fail
        have H7 : Hid (HeldL wB [(w3.heap.size, #[S o.i, S o.f, .int .i64 o.e]), (w2.heap.size, #[.bool vs.neg, S i, S vs.f]), (wB.heap.size, #[.int .u8 ((x.op : UInt8).toNat : Int), .int .i64 ((x.mod : Nat) : Int), .bool x.nt, .slice ra rn rc])] (w6.setCell ⟨w2.heap.size, 1, none⟩ (S [48]))) := Lib.hid (by rw [hi]; exact HeldL.set1 (L1 := [(w3.heap.size, #[S o.i, S o.f, .int .i64 o.e])]) (L2 := [(wB.heap.size, #[.int .u8 ((x.op : UInt8).toNat : Int), .int .i64 ((x.mod : Nat) : Int), .bool x.nt, .slice ra rn rc])]) H6.out 1 (S [48]))
        clear v0 vz0 v1 vz1 v2 vz2 vl
        first | generalize (w6.setCell ⟨w2.heap.size, 1, none⟩ (S [48])) = w7 at * | generalize (w6.setCell ⟨w2.heap.size, 1, none⟩ (.string { data := #[48] })) = w7 at *
        clear H6
        obtain ⟨o2, ho2⟩ : ∃ o2, ofP ⟨vs.neg, i, vs.f⟩ 0 = o2 := ⟨_, rfl⟩
        have HB2 : Hid (OgB o2) := Lib.hid (by rw [← ho2]; exact of_B 0 (by show i.length ≤ 400000; omega) (by show vs.f.length ≤ 400000; omega) HID.out HDF.out)
        have HO2 := Lib.hid ho2
        have HEQ : Hid (holdsP x o2 = holdsP x o) := Lib.hid (by rw [← ho2, ← HO.out]; exact holds_per hm0 HDI.out HID.out HIV.out)
        clear ho2 hi HIV HTV HTD ht0 htl
        obtain ⟨b, hb⟩ : ∃ b, holdsP x o = b := ⟨_, rfl⟩
        have HE := Lib.hid hb
        have HE2 : Hid (holdsP x o2 = b) := Lib.hid (by rw [HEQ.out, hb])
        clear hb HEQ
        have HRR : Hid (∀ w' : World, Below wB.heap.size wB w' → Rngs w' 0 x.rs (.slice ra rn rc)) := Lib.hid (fun w' h => Rngs.kept HRG.out (grown_of_below h none) (Apart.none _ _))
        have BEL : Hid (∀ w' : World, (w'.cell? ⟨wB.heap.size, 0, none⟩ = some (.int .u8 ((x.op : UInt8).toNat : Int)) ∧ w'.cell? ⟨wB.heap.size, 1, none⟩ = some (.int .i64 ((x.mod : Nat) : Int)) ∧ w'.cell? ⟨wB.heap.size, 2, none⟩ = some (.bool x.nt) ∧ w'.cell? ⟨wB.heap.size, 3, none⟩ = some (.slice ra rn rc) ∧ w'.cell? ⟨w2.heap.size, 0, none⟩ = some (.bool vs.neg) ∧ w'.cell? ⟨w2.heap.size, 1, none⟩ = some (S i) ∧ w'.cell? ⟨w2.heap.size, 2, none⟩ = some (S vs.f) ∧ w'.cell? ⟨w3.heap.size, 0, none⟩ = some (S o.i) ∧ w'.cell? ⟨w3.heap.size, 1, none⟩ = some (S o.f) ∧ w'.cell? ⟨w3.heap.size, 2, none⟩ = some (.int .i64 o.e) ∧ HeldL wB [(w3.heap.size, #[S o.i, S o.f, .int .i64 o.e]), (w2.heap.size, #[.bool vs.neg, S i, S vs.f]), (wB.heap.size, #[.int .u8 ((x.op : UInt8).toNat : Int), .int .i64 ((x.mod : Nat) : Int), .bool x.nt, .slice ra rn rc])] w') → Below wB.heap.size wB w') := Lib.hid (fun w' h => (h.2.2.2.2.2.2.2.2.2.2).bel)
        have ALL2 : Hid (∀ w' : World, HeldL wB [(w3.heap.size, #[S o.i, S o.f, .int .i64 o.e]), (w2.heap.size, #[.bool vs.neg, S i, S vs.f]), (wB.heap.size, #[.int .u8 ((x.op : UInt8).toNat : Int), .int .i64 ((x.mod : Nat) : Int), .bool x.nt, .slice ra rn rc])] w' → w'.cell? ⟨wB.heap.size, 0, none⟩ = some (.int .u8 ((x.op : UInt8).toNat : Int)) ∧ w'.cell? ⟨wB.heap.size, 1, none⟩ = some (.int .i64 ((x.mod : Nat) : Int)) ∧ w'.cell? ⟨wB.heap.size, 2, none⟩ = some (.bool x.nt) ∧ w'.cell? ⟨wB.heap.size, 3, none⟩ = some (.slice ra rn rc) ∧ w'.cell? ⟨w2.heap.size, 0, none⟩ = some (.bool vs.neg) ∧ w'.cell? ⟨w2.heap.size, 1, none⟩ = some (S i) ∧ w'.cell? ⟨w2.heap.size, 2, none⟩ = some (S vs.f) ∧ w'.cell? ⟨w3.heap.size, 0, none⟩ = some (S o.i) ∧ w'.cell? ⟨w3.heap.size, 1, none⟩ = some (S o.f) ∧ w'.cell? ⟨w3.heap.size, 2, none⟩ = some (.int .i64 o.e) ∧ HeldL wB [(w3.heap.size, #[S o.i, S o.f, .int .i64 o.e]), (w2.heap.size, #[.bool vs.neg, S i, S vs.f]), (wB.heap.size, #[.int .u8 ((x.op : UInt8).toNat : Int), .int .i64 ((x.mod : Nat) : Int), .bool x.nt, .slice ra rn rc])] w') := Lib.hid (fun w' h => ⟨(h.f (List.Mem.tail _ (List.Mem.tail _ (List.Mem.head _)))).cell 0, (h.f (List.Mem.tail _ (List.Mem.tail _ (List.Mem.head _)))).cell 1, (h.f (List.Mem.tail _ (List.Mem.tail _ (List.Mem.head _)))).cell 2, (h.f (List.Mem.tail _ (List.Mem.tail _ (List.Mem.head _)))).cell 3, (h.f (List.Mem.tail _ (List.Mem.head _))).cell 0, (h.f (List.Mem.tail _ (List.Mem.head _))).cell 1, (h.f (List.Mem.tail _ (List.Mem.head _))).cell 2, (h.f (List.Mem.head _)).cell 0, (h.f (List.Mem.head _)).cell 1, (h.f (List.Mem.head _)).cell 2, h⟩)
        have KEEP2 : Hid (∀ w' w'' : World, (w'.cell? ⟨wB.heap.size, 0, none⟩ = some (.int .u8 ((x.op : UInt8).toNat : Int)) ∧ w'.cell? ⟨wB.heap.size, 1, none⟩ = some (.int .i64 ((x.mod : Nat) : Int)) ∧ w'.cell? ⟨wB.heap.size, 2, none⟩ = some (.bool x.nt) ∧ w'.cell? ⟨wB.heap.size, 3, none⟩ = some (.slice ra rn rc) ∧ w'.cell? ⟨w2.heap.size, 0, none⟩ = some (.bool vs.neg) ∧ w'.cell? ⟨w2.heap.size, 1, none⟩ = some (S i) ∧ w'.cell? ⟨w2.heap.size, 2, none⟩ = some (S vs.f) ∧ w'.cell? ⟨w3.heap.size, 0, none⟩ = some (S o.i) ∧ w'.cell? ⟨w3.heap.size, 1, none⟩ = some (S o.f) ∧ w'.cell? ⟨w3.heap.size, 2, none⟩ = some (.int .i64 o.e) ∧ HeldL wB [(w3.heap.size, #[S o.i, S o.f, .int .i64 o.e]), (w2.heap.size, #[.bool vs.neg, S i, S vs.f]), (wB.heap.size, #[.int .u8 ((x.op : UInt8).toNat : Int), .int .i64 ((x.mod : Nat) : Int), .bool x.nt, .slice ra rn rc])] w') → Below w'.heap.size w' w'' → (w''.cell? ⟨wB.heap.size, 0, none⟩ = some (.int .u8 ((x.op : UInt8).toNat : Int)) ∧ w''.cell? ⟨wB.heap.size, 1, none⟩ = some (.int .i64 ((x.mod : Nat) : Int)) ∧ w''.cell? ⟨wB.heap.size, 2, none⟩ = some (.bool x.nt) ∧ w''.cell? ⟨wB.heap.size, 3, none⟩ = some (.slice ra rn rc) ∧ w''.cell? ⟨w2.heap.size, 0, none⟩ = some (.bool vs.neg) ∧ w''.cell? ⟨w2.heap.size, 1, none⟩ = some (S i) ∧ w''.cell? ⟨w2.heap.size, 2, none⟩ = some (S vs.f) ∧ w''.cell? ⟨w3.heap.size, 0, none⟩ = some (S o.i) ∧ w''.cell? ⟨w3.heap.size, 1, none⟩ = some (S o.f) ∧ w''.cell? ⟨w3.heap.size, 2, none⟩ = some (.int .i64 o.e) ∧ HeldL wB [(w3.heap.size, #[S o.i, S o.f, .int .i64 o.e]), (w2.heap.size, #[.bool vs.neg, S i, S vs.f]), (wB.heap.size, #[.int .u8 ((x.op : UInt8).toNat : Int), .int .i64 ((x.mod : Nat) : Int), .bool x.nt, .slice ra rn rc])] w'')) := Lib.hid (fun w' w'' h hb => ALL2.out _ (HeldL.keep (h.2.2.2.2.2.2.2.2.2.2) hb))
        have HS2 : Hid (HeldL wB [(w3.heap.size, #[S o.i, S o.f, .int .i64 o.e]), (w2.heap.size, #[.bool vs.neg, S i, S vs.f]), (wB.heap.size, #[.int .u8 ((x.op : UInt8).toNat : Int), .int .i64 ((x.mod : Nat) : Int), .bool x.nt, .slice ra rn rc])] _) := Lib.hid H7.out
        have TAB2 : Hid (∀ w' : World, (w'.cell? ⟨wB.heap.size, 0, none⟩ = some (.int .u8 ((x.op : UInt8).toNat : Int)) ∧ w'.cell? ⟨wB.heap.size, 1, none⟩ = some (.int .i64 ((x.mod : Nat) : Int)) ∧ w'.cell? ⟨wB.heap.size, 2, none⟩ = some (.bool x.nt) ∧ w'.cell? ⟨wB.heap.size, 3, none⟩ = some (.slice ra rn rc) ∧ w'.cell? ⟨w2.heap.size, 0, none⟩ = some (.bool vs.neg) ∧ w'.cell? ⟨w2.heap.size, 1, none⟩ = some (S i) ∧ w'.cell? ⟨w2.heap.size, 2, none⟩ = some (S vs.f) ∧ w'.cell? ⟨w3.heap.size, 0, none⟩ = some (S o.i) ∧ w'.cell? ⟨w3.heap.size, 1, none⟩ = some (S o.f) ∧ w'.cell? ⟨w3.heap.size, 2, none⟩ = some (.int .i64 o.e) ∧ HeldL wB [(w3.heap.size, #[S o.i, S o.f, .int .i64 o.e]), (w2.heap.size, #[.bool vs.neg, S i, S vs.f]), (wB.heap.size, #[.int .u8 ((x.op : UInt8).toNat : Int), .int .i64 ((x.mod : Nat) : Int), .bool x.nt, .slice ra rn rc])] w') → Tab w') := Lib.hid (fun w' h => HT.out.below (h.2.2.2.2.2.2.2.2.2.2).bel)
        go_region_held3 (fun w' => w'.cell? ⟨wB.heap.size, 0, none⟩ = some (.int .u8 ((x.op : UInt8).toNat : Int)) ∧ w'.cell? ⟨wB.heap.size, 1, none⟩ = some (.int .i64 ((x.mod : Nat) : Int)) ∧ w'.cell? ⟨wB.heap.size, 2, none⟩ = some (.bool x.nt) ∧ w'.cell? ⟨wB.heap.size, 3, none⟩ = some (.slice ra rn rc) ∧ w'.cell? ⟨w2.heap.size, 0, none⟩ = some (.bool vs.neg) ∧ w'.cell? ⟨w2.heap.size, 1, none⟩ = some (S i) ∧ w'.cell? ⟨w2.heap.size, 2, none⟩ = some (S vs.f) ∧ w'.cell? ⟨w3.heap.size, 0, none⟩ = some (S o.i) ∧ w'.cell? ⟨w3.heap.size, 1, none⟩ = some (S o.f) ∧ w'.cell? ⟨w3.heap.size, 2, none⟩ = some (.int .i64 o.e) ∧ HeldL wB [(w3.heap.size, #[S o.i, S o.f, .int .i64 o.e]), (w2.heap.size, #[.bool vs.neg, S i, S vs.f]), (wB.heap.size, #[.int .u8 ((x.op : UInt8).toNat : Int), .int .i64 ((x.mod : Nat) : Int), .bool x.nt, .slice ra rn rc])] w')
          (first | exact ALL2.out _ (HeldL.drew HS2.out) | exact KEEP2.out _ _ (by assumption) hb | assumption)
          (first | (go_at_call 18; (with_reducible refine (of_as ⟨vs.neg, i, vs.f⟩ 0 _ (by show i.length ≤ 900000; omega) fl o2 HO2.out).mono ?_); rintro x w20 ⟨rfl, hb⟩) | (go_at_call 20; (first | (with_reducible refine (holds_as x (.slice ra rn rc) 0 o2 _ HB2.out (by first | exact HT.out.below HS2.out.bel.drew | exact TAB2.out _ (by assumption)) HRB.out (HRR.out _ (by first | exact HS2.out.bel.drew | exact BEL.out _ (by assumption))) b HE2.out).mono ?_) | (with_reducible refine (holds_as x (.slice ra rn rc) 0 o _ HB.out (by first | exact HT.out.below HS2.out.bel.drew | exact TAB2.out _ (by assumption)) HRB.out (HRR.out _ (by first | exact HS2.out.bel.drew | exact BEL.out _ (by assumption))) b HE.out).mono ?_)); rintro x w20 ⟨rfl, hb⟩))
        have HH : HeldL wB [(w3.heap.size, #[S o.i, S o.f, .int .i64 o.e]), (w2.heap.size, #[.bool vs.neg, S i, S vs.f]), (wB.heap.size, #[.int .u8 ((x.op : UInt8).toNat : Int), .int .i64 ((x.mod : Nat) : Int), .bool x.nt, .slice ra rn rc])] w20 := (‹w20.cell? ⟨wB.heap.size, 0, none⟩ = some (.int .u8 ((x.op : UInt8).toNat : Int)) ∧ w20.cell? ⟨wB.heap.size, 1, none⟩ = some (.int .i64 ((x.mod : Nat) : Int)) ∧ w20.cell? ⟨wB.heap.size, 2, none⟩ = some (.bool x.nt) ∧ w20.cell? ⟨wB.heap.size, 3, none⟩ = some (.slice ra rn rc) ∧ w20.cell? ⟨w2.heap.size, 0, none⟩ = some (.bool vs.neg) ∧ w20.cell? ⟨w2.heap.size, 1, none⟩ = some (S i) ∧ w20.cell? ⟨w2.heap.size, 2, none⟩ = some (S vs.f) ∧ w20.cell? ⟨w3.heap.size, 0, none⟩ = some (S o.i) ∧ w20.cell? ⟨w3.heap.size, 1, none⟩ = some (S o.f) ∧ w20.cell? ⟨w3.heap.size, 2, none⟩ = some (.int .i64 o.e) ∧ HeldL wB [(w3.heap.size, #[S o.i, S o.f, .int .i64 o.e]), (w2.heap.size, #[.bool vs.neg, S i, S vs.f]), (wB.heap.size, #[.int .u8 ((x.op : UInt8).toNat : Int), .int .i64 ((x.mod : Nat) : Int), .bool x.nt, .slice ra rn rc])] w20›).2.2.2.2.2.2.2.2.2.2
        have H8 : Hid (HeldL wB [(w3.heap.size, #[S o.i, S o.f, .int .i64 o.e]), (w2.heap.size, #[.bool vs.neg, S i, S vs.f]), (wB.heap.size, #[.int .u8 ((x.op : UInt8).toNat : Int), .int .i64 ((x.mod : Nat) : Int), .bool x.nt, .slice ra rn rc])] w20) := Lib.hid HH
        clear HH ALL2 KEEP2 HS2 TAB2 H7
        clear BEL
        go_wp2
        go_ret
        exact ⟨by first | rfl | simp | (cases b <;> rfl), BB.out.trans (H8.out.bel.mono BB.out.size)⟩
      · have hte1 : t.isEmpty = true := by rw [hte]; rfl
        have hte2 := empty_of hte1
        have hfe1 := ne_empty hfe
        have hfe2 := empty_of hfe1
        clear hte hfe
        obtain ⟨i, hi⟩ : ∃ i : List UInt8, i = t := ⟨_, rfl⟩
        have HIV : Hid (val i % x.mod = val vs.i % x.mod) := Lib.hid (by rw [hi]; exact HTV.out)
        have HID : Hid (isDig i = true) := Lib.hid (by rw [hi]; exact HTD.out)
        have hil : i.length ≤ 1000 := by rw [hi]; exact htl
        go_upto_region 14 with fail
        clear v0 vz0 v1 vz1 v2 vz2 vl
        rw [← hi] at H6
        obtain ⟨o2, ho2⟩ : ∃ o2, ofP ⟨vs.neg, i, vs.f⟩ 0 = o2 := ⟨_, rfl⟩
        have HB2 : Hid (OgB o2) := Lib.hid (by rw [← ho2]; exact of_B 0 (by show i.length ≤ 400000; omega) (by show vs.f.length ≤ 400000; omega) HID.out HDF.out)
        have HO2 := Lib.hid ho2
        have HEQ : Hid (holdsP x o2 = holdsP x o) := Lib.hid (by rw [← ho2, ← HO.out]; exact holds_per hm0 HDI.out HID.out HIV.out)
        clear ho2 hi HIV HTV HTD ht0 htl
        obtain ⟨b, hb⟩ : ∃ b, holdsP x o = b := ⟨_, rfl⟩
        have HE := Lib.hid hb
        have HE2 : Hid (holdsP x o2 = b) := Lib.hid (by rw [HEQ.out, hb])
        clear hb HEQ
        have HRR : Hid (∀ w' : World, Below wB.heap.size wB w' → Rngs w' 0 x.rs (.slice ra rn rc)) := Lib.hid (fun w' h => Rngs.kept HRG.out (grown_of_below h none) (Apart.none _ _))
        have BEL : Hid (∀ w' : World, (w'.cell? ⟨wB.heap.size, 0, none⟩ = some (.int .u8 ((x.op : UInt8).toNat : Int)) ∧ w'.cell? ⟨wB.heap.size, 1, none⟩ = some (.int .i64 ((x.mod : Nat) : Int)) ∧ w'.cell? ⟨wB.heap.size, 2, none⟩ = some (.bool x.nt) ∧ w'.cell? ⟨wB.heap.size, 3, none⟩ = some (.slice ra rn rc) ∧ w'.cell? ⟨w2.heap.size, 0, none⟩ = some (.bool vs.neg) ∧ w'.cell? ⟨w2.heap.size, 1, none⟩ = some (S i) ∧ w'.cell? ⟨w2.heap.size, 2, none⟩ = some (S vs.f) ∧ w'.cell? ⟨w3.heap.size, 0, none⟩ = some (S o.i) ∧ w'.cell? ⟨w3.heap.size, 1, none⟩ = some (S o.f) ∧ w'.cell? ⟨w3.heap.size, 2, none⟩ = some (.int .i64 o.e) ∧ HeldL wB [(w3.heap.size, #[S o.i, S o.f, .int .i64 o.e]), (w2.heap.size, #[.bool vs.neg, S i, S vs.f]), (wB.heap.size, #[.int .u8 ((x.op : UInt8).toNat : Int), .int .i64 ((x.mod : Nat) : Int), .bool x.nt, .slice ra rn rc])] w') → Below wB.heap.size wB w') := Lib.hid (fun w' h => (h.2.2.2.2.2.2.2.2.2.2).bel)
        have ALL2 : Hid (∀ w' : World, HeldL wB [(w3.heap.size, #[S o.i, S o.f, .int .i64 o.e]), (w2.heap.size, #[.bool vs.neg, S i, S vs.f]), (wB.heap.size, #[.int .u8 ((x.op : UInt8).toNat : Int), .int .i64 ((x.mod : Nat) : Int), .bool x.nt, .slice ra rn rc])] w' → w'.cell? ⟨wB.heap.size, 0, none⟩ = some (.int .u8 ((x.op : UInt8).toNat : Int)) ∧ w'.cell? ⟨wB.heap.size, 1, none⟩ = some (.int .i64 ((x.mod : Nat) : Int)) ∧ w'.cell? ⟨wB.heap.size, 2, none⟩ = some (.bool x.nt) ∧ w'.cell? ⟨wB.heap.size, 3, none⟩ = some (.slice ra rn rc) ∧ w'.cell? ⟨w2.heap.size, 0, none⟩ = some (.bool vs.neg) ∧ w'.cell? ⟨w2.heap.size, 1, none⟩ = some (S i) ∧ w'.cell? ⟨w2.heap.size, 2, none⟩ = some (S vs.f) ∧ w'.cell? ⟨w3.heap.size, 0, none⟩ = some (S o.i) ∧ w'.cell? ⟨w3.heap.size, 1, none⟩ = some (S o.f) ∧ w'.cell? ⟨w3.heap.size, 2, none⟩ = some (.int .i64 o.e) ∧ HeldL wB [(w3.heap.size, #[S o.i, S o.f, .int .i64 o.e]), (w2.heap.size, #[.bool vs.neg, S i, S vs.f]), (wB.heap.size, #[.int .u8 ((x.op : UInt8).toNat : Int), .int .i64 ((x.mod : Nat) : Int), .bool x.nt, .slice ra rn rc])] w') := Lib.hid (fun w' h => ⟨(h.f (List.Mem.tail _ (List.Mem.tail _ (List.Mem.head _)))).cell 0, (h.f (List.Mem.tail _ (List.Mem.tail _ (List.Mem.head _)))).cell 1, (h.f (List.Mem.tail _ (List.Mem.tail _ (List.Mem.head _)))).cell 2, (h.f (List.Mem.tail _ (List.Mem.tail _ (List.Mem.head _)))).cell 3, (h.f (List.Mem.tail _ (List.Mem.head _))).cell 0, (h.f (List.Mem.tail _ (List.Mem.head _))).cell 1, (h.f (List.Mem.tail _ (List.Mem.head _))).cell 2, (h.f (List.Mem.head _)).cell 0, (h.f (List.Mem.head _)).cell 1, (h.f (List.Mem.head _)).cell 2, h⟩)
        have KEEP2 : Hid (∀ w' w'' : World, (w'.cell? ⟨wB.heap.size, 0, none⟩ = some (.int .u8 ((x.op : UInt8).toNat : Int)) ∧ w'.cell? ⟨wB.heap.size, 1, none⟩ = some (.int .i64 ((x.mod : Nat) : Int)) ∧ w'.cell? ⟨wB.heap.size, 2, none⟩ = some (.bool x.nt) ∧ w'.cell? ⟨wB.heap.size, 3, none⟩ = some (.slice ra rn rc) ∧ w'.cell? ⟨w2.heap.size, 0, none⟩ = some (.bool vs.neg) ∧ w'.cell? ⟨w2.heap.size, 1, none⟩ = some (S i) ∧ w'.cell? ⟨w2.heap.size, 2, none⟩ = some (S vs.f) ∧ w'.cell? ⟨w3.heap.size, 0, none⟩ = some (S o.i) ∧ w'.cell? ⟨w3.heap.size, 1, none⟩ = some (S o.f) ∧ w'.cell? ⟨w3.heap.size, 2, none⟩ = some (.int .i64 o.e) ∧ HeldL wB [(w3.heap.size, #[S o.i, S o.f, .int .i64 o.e]), (w2.heap.size, #[.bool vs.neg, S i, S vs.f]), (wB.heap.size, #[.int .u8 ((x.op : UInt8).toNat : Int), .int .i64 ((x.mod : Nat) : Int), .bool x.nt, .slice ra rn rc])] w') → Below w'.heap.size w' w'' → (w''.cell? ⟨wB.heap.size, 0, none⟩ = some (.int .u8 ((x.op : UInt8).toNat : Int)) ∧ w''.cell? ⟨wB.heap.size, 1, none⟩ = some (.int .i64 ((x.mod : Nat) : Int)) ∧ w''.cell? ⟨wB.heap.size, 2, none⟩ = some (.bool x.nt) ∧ w''.cell? ⟨wB.heap.size, 3, none⟩ = some (.slice ra rn rc) ∧ w''.cell? ⟨w2.heap.size, 0, none⟩ = some (.bool vs.neg) ∧ w''.cell? ⟨w2.heap.size, 1, none⟩ = some (S i) ∧ w''.cell? ⟨w2.heap.size, 2, none⟩ = some (S vs.f) ∧ w''.cell? ⟨w3.heap.size, 0, none⟩ = some (S o.i) ∧ w''.cell? ⟨w3.heap.size, 1, none⟩ = some (S o.f) ∧ w''.cell? ⟨w3.heap.size, 2, none⟩ = some (.int .i64 o.e) ∧ HeldL wB [(w3.heap.size, #[S o.i, S o.f, .int .i64 o.e]), (w2.heap.size, #[.bool vs.neg, S i, S vs.f]), (wB.heap.size, #[.int .u8 ((x.op : UInt8).toNat : Int), .int .i64 ((x.mod : Nat) : Int), .bool x.nt, .slice ra rn rc])] w'')) := Lib.hid (fun w' w'' h hb => ALL2.out _ (HeldL.keep (h.2.2.2.2.2.2.2.2.2.2) hb))
        have HS2 : Hid (HeldL wB [(w3.heap.size, #[S o.i, S o.f, .int .i64 o.e]), (w2.heap.size, #[.bool vs.neg, S i, S vs.f]), (wB.heap.size, #[.int .u8 ((x.op : UInt8).toNat : Int), .int .i64 ((x.mod : Nat) : Int), .bool x.nt, .slice ra rn rc])] _) := Lib.hid H6.out
        have TAB2 : Hid (∀ w' : World, (w'.cell? ⟨wB.heap.size, 0, none⟩ = some (.int .u8 ((x.op : UInt8).toNat : Int)) ∧ w'.cell? ⟨wB.heap.size, 1, none⟩ = some (.int .i64 ((x.mod : Nat) : Int)) ∧ w'.cell? ⟨wB.heap.size, 2, none⟩ = some (.bool x.nt) ∧ w'.cell? ⟨wB.heap.size, 3, none⟩ = some (.slice ra rn rc) ∧ w'.cell? ⟨w2.heap.size, 0, none⟩ = some (.bool vs.neg) ∧ w'.cell? ⟨w2.heap.size, 1, none⟩ = some (S i) ∧ w'.cell? ⟨w2.heap.size, 2, none⟩ = some (S vs.f) ∧ w'.cell? ⟨w3.heap.size, 0, none⟩ = some (S o.i) ∧ w'.cell? ⟨w3.heap.size, 1, none⟩ = some (S o.f) ∧ w'.cell? ⟨w3.heap.size, 2, none⟩ = some (.int .i64 o.e) ∧ HeldL wB [(w3.heap.size, #[S o.i, S o.f, .int .i64 o.e]), (w2.heap.size, #[.bool vs.neg, S i, S vs.f]), (wB.heap.size, #[.int .u8 ((x.op : UInt8).toNat : Int), .int .i64 ((x.mod : Nat) : Int), .bool x.nt, .slice ra rn rc])] w') → Tab w') := Lib.hid (fun w' h => HT.out.below (h.2.2.2.2.2.2.2.2.2.2).bel)
        go_region_held3 (fun w' => w'.cell? ⟨wB.heap.size, 0, none⟩ = some (.int .u8 ((x.op : UInt8).toNat : Int)) ∧ w'.cell? ⟨wB.heap.size, 1, none⟩ = some (.int .i64 ((x.mod : Nat) : Int)) ∧ w'.cell? ⟨wB.heap.size, 2, none⟩ = some (.bool x.nt) ∧ w'.cell? ⟨wB.heap.size, 3, none⟩ = some (.slice ra rn rc) ∧ w'.cell? ⟨w2.heap.size, 0, none⟩ = some (.bool vs.neg) ∧ w'.cell? ⟨w2.heap.size, 1, none⟩ = some (S i) ∧ w'.cell? ⟨w2.heap.size, 2, none⟩ = some (S vs.f) ∧ w'.cell? ⟨w3.heap.size, 0, none⟩ = some (S o.i) ∧ w'.cell? ⟨w3.heap.size, 1, none⟩ = some (S o.f) ∧ w'.cell? ⟨w3.heap.size, 2, none⟩ = some (.int .i64 o.e) ∧ HeldL wB [(w3.heap.size, #[S o.i, S o.f, .int .i64 o.e]), (w2.heap.size, #[.bool vs.neg, S i, S vs.f]), (wB.heap.size, #[.int .u8 ((x.op : UInt8).toNat : Int), .int .i64 ((x.mod : Nat) : Int), .bool x.nt, .slice ra rn rc])] w')
          (first | exact ALL2.out _ (HeldL.drew HS2.out) | exact KEEP2.out _ _ (by assumption) hb | assumption)
          (first | (go_at_call 18; (with_reducible refine (of_as ⟨vs.neg, i, vs.f⟩ 0 _ (by show i.length ≤ 900000; omega) fl o2 HO2.out).mono ?_); rintro x w20 ⟨rfl, hb⟩) | (go_at_call 20; (first | (with_reducible refine (holds_as x (.slice ra rn rc) 0 o2 _ HB2.out (by first | exact HT.out.below HS2.out.bel.drew | exact TAB2.out _ (by assumption)) HRB.out (HRR.out _ (by first | exact HS2.out.bel.drew | exact BEL.out _ (by assumption))) b HE2.out).mono ?_) | (with_reducible refine (holds_as x (.slice ra rn rc) 0 o _ HB.out (by first | exact HT.out.below HS2.out.bel.drew | exact TAB2.out _ (by assumption)) HRB.out (HRR.out _ (by first | exact HS2.out.bel.drew | exact BEL.out _ (by assumption))) b HE.out).mono ?_)); rintro x w20 ⟨rfl, hb⟩))
        have HH : HeldL wB [(w3.heap.size, #[S o.i, S o.f, .int .i64 o.e]), (w2.heap.size, #[.bool vs.neg, S i, S vs.f]), (wB.heap.size, #[.int .u8 ((x.op : UInt8).toNat : Int), .int .i64 ((x.mod : Nat) : Int), .bool x.nt, .slice ra rn rc])] w20 := (‹w20.cell? ⟨wB.heap.size, 0, none⟩ = some (.int .u8 ((x.op : UInt8).toNat : Int)) ∧ w20.cell? ⟨wB.heap.size, 1, none⟩ = some (.int .i64 ((x.mod : Nat) : Int)) ∧ w20.cell? ⟨wB.heap.size, 2, none⟩ = some (.bool x.nt) ∧ w20.cell? ⟨wB.heap.size, 3, none⟩ = some (.slice ra rn rc) ∧ w20.cell? ⟨w2.heap.size, 0, none⟩ = some (.bool vs.neg) ∧ w20.cell? ⟨w2.heap.size, 1, none⟩ = some (S i) ∧ w20.cell? ⟨w2.heap.size, 2, none⟩ = some (S vs.f) ∧ w20.cell? ⟨w3.heap.size, 0, none⟩ = some (S o.i) ∧ w20.cell? ⟨w3.heap.size, 1, none⟩ = some (S o.f) ∧ w20.cell? ⟨w3.heap.size, 2, none⟩ = some (.int .i64 o.e) ∧ HeldL wB [(w3.heap.size, #[S o.i, S o.f, .int .i64 o.e]), (w2.heap.size, #[.bool vs.neg, S i, S vs.f]), (wB.heap.size, #[.int .u8 ((x.op : UInt8).toNat : Int), .int .i64 ((x.mod : Nat) : Int), .bool x.nt, .slice ra rn rc])] w20›).2.2.2.2.2.2.2.2.2.2
        have H7 : Hid (HeldL wB [(w3.heap.size, #[S o.i, S o.f, .int .i64 o.e]), (w2.heap.size, #[.bool vs.neg, S i, S vs.f]), (wB.heap.size, #[.int .u8 ((x.op : UInt8).toNat : Int), .int .i64 ((x.mod : Nat) : Int), .bool x.nt, .slice ra rn rc])] w20) := Lib.hid HH
        clear HH ALL2 KEEP2 HS2 TAB2 H6
        clear BEL
        go_wp2
        go_ret
        exact ⟨by first | rfl | simp | (cases b <;> rfl), BB.out.trans (H7.out.bel.mono BB.out.size)⟩
    · have hte1 := ne_empty hte
      have hte2 := empty_of hte1
      clear hte
      obtain ⟨i, hi⟩ : ∃ i : List UInt8, i = t := ⟨_, rfl⟩
      have HIV : Hid (val i % x.mod = val vs.i % x.mod) := Lib.hid (by rw [hi]; exact HTV.out)
      have HID : Hid (isDig i = true) := Lib.hid (by rw [hi]; exact HTD.out)
      have hil : i.length ≤ 1000 := by rw [hi]; exact htl
      go_upto_region 14 with fail
      clear v0 vz0 v1 vz1 v2 vz2 vl
      rw [← hi] at H6
      obtain ⟨o2, ho2⟩ : ∃ o2, ofP ⟨vs.neg, i, vs.f⟩ 0 = o2 := ⟨_, rfl⟩
      have HB2 : Hid (OgB o2) := Lib.hid (by rw [← ho2]; exact of_B 0 (by show i.length ≤ 400000; omega) (by show vs.f.length ≤ 400000; omega) HID.out HDF.out)
      have HO2 := Lib.hid ho2
      have HEQ : Hid (holdsP x o2 = holdsP x o) := Lib.hid (by rw [← ho2, ← HO.out]; exact holds_per hm0 HDI.out HID.out HIV.out)
      clear ho2 hi HIV HTV HTD ht0 htl
      obtain ⟨b, hb⟩ : ∃ b, holdsP x o = b := ⟨_, rfl⟩
      have HE := Lib.hid hb
      have HE2 : Hid (holdsP x o2 = b) := Lib.hid (by rw [HEQ.out, hb])
      clear hb HEQ
      have HRR : Hid (∀ w' : World, Below wB.heap.size wB w' → Rngs w' 0 x.rs (.slice ra rn rc)) := Lib.hid (fun w' h => Rngs.kept HRG.out (grown_of_below h none) (Apart.none _ _))
      have BEL : Hid (∀ w' : World, (w'.cell? ⟨wB.heap.size, 0, none⟩ = some (.int .u8 ((x.op : UInt8).toNat : Int)) ∧ w'.cell? ⟨wB.heap.size, 1, none⟩ = some (.int .i64 ((x.mod : Nat) : Int)) ∧ w'.cell? ⟨wB.heap.size, 2, none⟩ = some (.bool x.nt) ∧ w'.cell? ⟨wB.heap.size, 3, none⟩ = some (.slice ra rn rc) ∧ w'.cell? ⟨w2.heap.size, 0, none⟩ = some (.bool vs.neg) ∧ w'.cell? ⟨w2.heap.size, 1, none⟩ = some (S i) ∧ w'.cell? ⟨w2.heap.size, 2, none⟩ = some (S vs.f) ∧ w'.cell? ⟨w3.heap.size, 0, none⟩ = some (S o.i) ∧ w'.cell? ⟨w3.heap.size, 1, none⟩ = some (S o.f) ∧ w'.cell? ⟨w3.heap.size, 2, none⟩ = some (.int .i64 o.e) ∧ HeldL wB [(w3.heap.size, #[S o.i, S o.f, .int .i64 o.e]), (w2.heap.size, #[.bool vs.neg, S i, S vs.f]), (wB.heap.size, #[.int .u8 ((x.op : UInt8).toNat : Int), .int .i64 ((x.mod : Nat) : Int), .bool x.nt, .slice ra rn rc])] w') → Below wB.heap.size wB w') := Lib.hid (fun w' h => (h.2.2.2.2.2.2.2.2.2.2).bel)
      have ALL2 : Hid (∀ w' : World, HeldL wB [(w3.heap.size, #[S o.i, S o.f, .int .i64 o.e]), (w2.heap.size, #[.bool vs.neg, S i, S vs.f]), (wB.heap.size, #[.int .u8 ((x.op : UInt8).toNat : Int), .int .i64 ((x.mod : Nat) : Int), .bool x.nt, .slice ra rn rc])] w' → w'.cell? ⟨wB.heap.size, 0, none⟩ = some (.int .u8 ((x.op : UInt8).toNat : Int)) ∧ w'.cell? ⟨wB.heap.size, 1, none⟩ = some (.int .i64 ((x.mod : Nat) : Int)) ∧ w'.cell? ⟨wB.heap.size, 2, none⟩ = some (.bool x.nt) ∧ w'.cell? ⟨wB.heap.size, 3, none⟩ = some (.slice ra rn rc) ∧ w'.cell? ⟨w2.heap.size, 0, none⟩ = some (.bool vs.neg) ∧ w'.cell? ⟨w2.heap.size, 1, none⟩ = some (S i) ∧ w'.cell? ⟨w2.heap.size, 2, none⟩ = some (S vs.f) ∧ w'.cell? ⟨w3.heap.size, 0, none⟩ = some (S o.i) ∧ w'.cell? ⟨w3.heap.size, 1, none⟩ = some (S o.f) ∧ w'.cell? ⟨w3.heap.size, 2, none⟩ = some (.int .i64 o.e) ∧ HeldL wB [(w3.heap.size, #[S o.i, S o.f, .int .i64 o.e]), (w2.heap.size, #[.bool vs.neg, S i, S vs.f]), (wB.heap.size, #[.int .u8 ((x.op : UInt8).toNat : Int), .int .i64 ((x.mod : Nat) : Int), .bool x.nt, .slice ra rn rc])] w') := Lib.hid (fun w' h => ⟨(h.f (List.Mem.tail _ (List.Mem.tail _ (List.Mem.head _)))).cell 0, (h.f (List.Mem.tail _ (List.Mem.tail _ (List.Mem.head _)))).cell 1, (h.f (List.Mem.tail _ (List.Mem.tail _ (List.Mem.head _)))).cell 2, (h.f (List.Mem.tail _ (List.Mem.tail _ (List.Mem.head _)))).cell 3, (h.f (List.Mem.tail _ (List.Mem.head _))).cell 0, (h.f (List.Mem.tail _ (List.Mem.head _))).cell 1, (h.f (List.Mem.tail _ (List.Mem.head _))).cell 2, (h.f (List.Mem.head _)).cell 0, (h.f (List.Mem.head _)).cell 1, (h.f (List.Mem.head _)).cell 2, h⟩)
      have KEEP2 : Hid (∀ w' w'' : World, (w'.cell? ⟨wB.heap.size, 0, none⟩ = some (.int .u8 ((x.op : UInt8).toNat : Int)) ∧ w'.cell? ⟨wB.heap.size, 1, none⟩ = some (.int .i64 ((x.mod : Nat) : Int)) ∧ w'.cell? ⟨wB.heap.size, 2, none⟩ = some (.bool x.nt) ∧ w'.cell? ⟨wB.heap.size, 3, none⟩ = some (.slice ra rn rc) ∧ w'.cell? ⟨w2.heap.size, 0, none⟩ = some (.bool vs.neg) ∧ w'.cell? ⟨w2.heap.size, 1, none⟩ = some (S i) ∧ w'.cell? ⟨w2.heap.size, 2, none⟩ = some (S vs.f) ∧ w'.cell? ⟨w3.heap.size, 0, none⟩ = some (S o.i) ∧ w'.cell? ⟨w3.heap.size, 1, none⟩ = some (S o.f) ∧ w'.cell? ⟨w3.heap.size, 2, none⟩ = some (.int .i64 o.e) ∧ HeldL wB [(w3.heap.size, #[S o.i, S o.f, .int .i64 o.e]), (w2.heap.size, #[.bool vs.neg, S i, S vs.f]), (wB.heap.size, #[.int .u8 ((x.op : UInt8).toNat : Int), .int .i64 ((x.mod : Nat) : Int), .bool x.nt, .slice ra rn rc])] w') → Below w'.heap.size w' w'' → (w''.cell? ⟨wB.heap.size, 0, none⟩ = some (.int .u8 ((x.op : UInt8).toNat : Int)) ∧ w''.cell? ⟨wB.heap.size, 1, none⟩ = some (.int .i64 ((x.mod : Nat) : Int)) ∧ w''.cell? ⟨wB.heap.size, 2, none⟩ = some (.bool x.nt) ∧ w''.cell? ⟨wB.heap.size, 3, none⟩ = some (.slice ra rn rc) ∧ w''.cell? ⟨w2.heap.size, 0, none⟩ = some (.bool vs.neg) ∧ w''.cell? ⟨w2.heap.size, 1, none⟩ = some (S i) ∧ w''.cell? ⟨w2.heap.size, 2, none⟩ = some (S vs.f) ∧ w''.cell? ⟨w3.heap.size, 0, none⟩ = some (S o.i) ∧ w''.cell? ⟨w3.heap.size, 1, none⟩ = some (S o.f) ∧ w''.cell? ⟨w3.heap.size, 2, none⟩ = some (.int .i64 o.e) ∧ HeldL wB [(w3.heap.size, #[S o.i, S o.f, .int .i64 o.e]), (w2.heap.size, #[.bool vs.neg, S i, S vs.f]), (wB.heap.size, #[.int .u8 ((x.op : UInt8).toNat : Int), .int .i64 ((x.mod : Nat) : Int), .bool x.nt, .slice ra rn rc])] w'')) := Lib.hid (fun w' w'' h hb => ALL2.out _ (HeldL.keep (h.2.2.2.2.2.2.2.2.2.2) hb))
      have HS2 : Hid (HeldL wB [(w3.heap.size, #[S o.i, S o.f, .int .i64 o.e]), (w2.heap.size, #[.bool vs.neg, S i, S vs.f]), (wB.heap.size, #[.int .u8 ((x.op : UInt8).toNat : Int), .int .i64 ((x.mod : Nat) : Int), .bool x.nt, .slice ra rn rc])] _) := Lib.hid H6.out
      have TAB2 : Hid (∀ w' : World, (w'.cell? ⟨wB.heap.size, 0, none⟩ = some (.int .u8 ((x.op : UInt8).toNat : Int)) ∧ w'.cell? ⟨wB.heap.size, 1, none⟩ = some (.int .i64 ((x.mod : Nat) : Int)) ∧ w'.cell? ⟨wB.heap.size, 2, none⟩ = some (.bool x.nt) ∧ w'.cell? ⟨wB.heap.size, 3, none⟩ = some (.slice ra rn rc) ∧ w'.cell? ⟨w2.heap.size, 0, none⟩ = some (.bool vs.neg) ∧ w'.cell? ⟨w2.heap.size, 1, none⟩ = some (S i) ∧ w'.cell? ⟨w2.heap.size, 2, none⟩ = some (S vs.f) ∧ w'.cell? ⟨w3.heap.size, 0, none⟩ = some (S o.i) ∧ w'.cell? ⟨w3.heap.size, 1, none⟩ = some (S o.f) ∧ w'.cell? ⟨w3.heap.size, 2, none⟩ = some (.int .i64 o.e) ∧ HeldL wB [(w3.heap.size, #[S o.i, S o.f, .int .i64 o.e]), (w2.heap.size, #[.bool vs.neg, S i, S vs.f]), (wB.heap.size, #[.int .u8 ((x.op : UInt8).toNat : Int), .int .i64 ((x.mod : Nat) : Int), .bool x.nt, .slice ra rn rc])] w') → Tab w') := Lib.hid (fun w' h => HT.out.below (h.2.2.2.2.2.2.2.2.2.2).bel)
      go_region_held3 (fun w' => w'.cell? ⟨wB.heap.size, 0, none⟩ = some (.int .u8 ((x.op : UInt8).toNat : Int)) ∧ w'.cell? ⟨wB.heap.size, 1, none⟩ = some (.int .i64 ((x.mod : Nat) : Int)) ∧ w'.cell? ⟨wB.heap.size, 2, none⟩ = some (.bool x.nt) ∧ w'.cell? ⟨wB.heap.size, 3, none⟩ = some (.slice ra rn rc) ∧ w'.cell? ⟨w2.heap.size, 0, none⟩ = some (.bool vs.neg) ∧ w'.cell? ⟨w2.heap.size, 1, none⟩ = some (S i) ∧ w'.cell? ⟨w2.heap.size, 2, none⟩ = some (S vs.f) ∧ w'.cell? ⟨w3.heap.size, 0, none⟩ = some (S o.i) ∧ w'.cell? ⟨w3.heap.size, 1, none⟩ = some (S o.f) ∧ w'.cell? ⟨w3.heap.size, 2, none⟩ = some (.int .i64 o.e) ∧ HeldL wB [(w3.heap.size, #[S o.i, S o.f, .int .i64 o.e]), (w2.heap.size, #[.bool vs.neg, S i, S vs.f]), (wB.heap.size, #[.int .u8 ((x.op : UInt8).toNat : Int), .int .i64 ((x.mod : Nat) : Int), .bool x.nt, .slice ra rn rc])] w')
        (first | exact ALL2.out _ (HeldL.drew HS2.out) | exact KEEP2.out _ _ (by assumption) hb | assumption)
        (first | (go_at_call 18; (with_reducible refine (of_as ⟨vs.neg, i, vs.f⟩ 0 _ (by show i.length ≤ 900000; omega) fl o2 HO2.out).mono ?_); rintro x w20 ⟨rfl, hb⟩) | (go_at_call 20; (first | (with_reducible refine (holds_as x (.slice ra rn rc) 0 o2 _ HB2.out (by first | exact HT.out.below HS2.out.bel.drew | exact TAB2.out _ (by assumption)) HRB.out (HRR.out _ (by first | exact HS2.out.bel.drew | exact BEL.out _ (by assumption))) b HE2.out).mono ?_) | (with_reducible refine (holds_as x (.slice ra rn rc) 0 o _ HB.out (by first | exact HT.out.below HS2.out.bel.drew | exact TAB2.out _ (by assumption)) HRB.out (HRR.out _ (by first | exact HS2.out.bel.drew | exact BEL.out _ (by assumption))) b HE.out).mono ?_)); rintro x w20 ⟨rfl, hb⟩))
      have HH : HeldL wB [(w3.heap.size, #[S o.i, S o.f, .int .i64 o.e]), (w2.heap.size, #[.bool vs.neg, S i, S vs.f]), (wB.heap.size, #[.int .u8 ((x.op : UInt8).toNat : Int), .int .i64 ((x.mod : Nat) : Int), .bool x.nt, .slice ra rn rc])] w20 := (‹w20.cell? ⟨wB.heap.size, 0, none⟩ = some (.int .u8 ((x.op : UInt8).toNat : Int)) ∧ w20.cell? ⟨wB.heap.size, 1, none⟩ = some (.int .i64 ((x.mod : Nat) : Int)) ∧ w20.cell? ⟨wB.heap.size, 2, none⟩ = some (.bool x.nt) ∧ w20.cell? ⟨wB.heap.size, 3, none⟩ = some (.slice ra rn rc) ∧ w20.cell? ⟨w2.heap.size, 0, none⟩ = some (.bool vs.neg) ∧ w20.cell? ⟨w2.heap.size, 1, none⟩ = some (S i) ∧ w20.cell? ⟨w2.heap.size, 2, none⟩ = some (S vs.f) ∧ w20.cell? ⟨w3.heap.size, 0, none⟩ = some (S o.i) ∧ w20.cell? ⟨w3.heap.size, 1, none⟩ = some (S o.f) ∧ w20.cell? ⟨w3.heap.size, 2, none⟩ = some (.int .i64 o.e) ∧ HeldL wB [(w3.heap.size, #[S o.i, S o.f, .int .i64 o.e]), (w2.heap.size, #[.bool vs.neg, S i, S vs.f]), (wB.heap.size, #[.int .u8 ((x.op : UInt8).toNat : Int), .int .i64 ((x.mod : Nat) : Int), .bool x.nt, .slice ra rn rc])] w20›).2.2.2.2.2.2.2.2.2.2
      have H7 : Hid (HeldL wB [(w3.heap.size, #[S o.i, S o.f, .int .i64 o.e]), (w2.heap.size, #[.bool vs.neg, S i, S vs.f]), (wB.heap.size, #[.int .u8 ((x.op : UInt8).toNat : Int), .int .i64 ((x.mod : Nat) : Int), .bool x.nt, .slice ra rn rc])] w20) := Lib.hid HH
      clear HH ALL2 KEEP2 HS2 TAB2 H6
      clear BEL
      go_wp2
      go_ret
      exact ⟨by first | rfl | simp | (cases b <;> rfl), BB.out.trans (H7.out.bel.mono BB.out.size)⟩
end Go.Proofs.YtkjhdehpcanciaaGreatDoor
