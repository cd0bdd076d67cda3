/- OgX, LawEP0, LawEP1, LawEN0, LawEN, in one text. -/
import Derived.Test.YtkjhdehpcanciaaGreatDoorEvP
import Derived.Test.YtkjhdehpcanciaaGreatDoorLawRF
import Derived.Test.YtkjhdehpcanciaaGreatDoorHd7
import Derived.Deep.AppendLies
namespace Go.Proofs.YtkjhdehpcanciaaGreatDoor
open Go.RowKit Florin
set_option linter.unusedVariables false
set_option linter.unusedSimpArgs false
theorem sh_ok (L M : List UInt8) (h1 : L.length ≤ 40) (h2 : M.length ≤ 40) : (shP L M).i.length ≤ 40 ∧ (shP L M).f.length ≤ 40 ∧ isDig (shP L M).i = true ∧ isDig (shP L M).f = true := by
  unfold shP
  split
  · exact ⟨by simp, by simp, by decide, by decide⟩
  · refine ⟨?_, ?_, isDig_dgs _, isDig_dgs _⟩
    · show (dgs L).length ≤ 40; rw [dgs_length]; exact h1
    · show (dgs M).length ≤ 40; rw [dgs_length]; exact h2
theorem isDig_take {l : List UInt8} (h : isDig l = true) (k : Nat) : isDig (l.take k) = true := by
  unfold isDig at h ⊢
  rw [List.all_eq_true] at h ⊢
  exact fun x hx => h x (List.mem_of_mem_take hx)
theorem isDig_drop {l : List UInt8} (h : isDig l = true) (k : Nat) : isDig (l.drop k) = true := by
  unfold isDig at h ⊢
  rw [List.all_eq_true] at h ⊢
  exact fun x hx => h x (List.mem_of_mem_drop hx)
theorem of_B {v : Vs} (e : Int) (il : v.i.length ≤ 400000) (fl : v.f.length ≤ 400000) (hi : isDig v.i = true) (hf : isDig v.f = true) : OgB (ofP v e) := by
  have hk := kOf_le e
  have h1 := bare_length_le (v.i ++ v.f.take (kOf e) ++ zs (kOf e - v.f.length))
  have hz : (zs (kOf e - v.f.length)).length ≤ 10000 := by unfold zs; rw [List.length_replicate]; omega
  rw [List.length_append, List.length_append, List.length_take] at h1
  refine ⟨?_, ?_, ?_, ?_, ?_, ?_⟩
  · show (bare (v.i ++ v.f.take (kOf e) ++ zs (kOf e - v.f.length))).length ≤ 900000; omega
  · show (v.f.drop (kOf e)).length ≤ 900000; rw [List.length_drop]; omega
  · show (0 : Int) ≤ ((kOf e : Nat) : Int); omega
  · show ((kOf e : Nat) : Int) ≤ 10000; omega
  · exact bare_isDig (by rw [isDig_append, isDig_append, hi, isDig_take hf, isDig_zs]; rfl)
  · exact isDig_drop hf _
/-- A number as these laws make it. -/
theorem og_any (L M : List UInt8) (h1 : L.length ≤ 40) (h2 : M.length ≤ 40) (e : Int) :
    ∃ v : Vs, shP L M = v ∧ v.i.length ≤ 900000 ∧ v.f.length ≤ 900000 ∧ ∃ o, ofP v e = o ∧ OgB o := by
  obtain ⟨a, b, c, d⟩ := sh_ok L M h1 h2
  exact ⟨_, rfl, by omega, by omega, _, rfl, of_B e (by omega) (by omega) c d⟩
end Go.Proofs.YtkjhdehpcanciaaGreatDoor

namespace Go.Proofs.YtkjhdehpcanciaaGreatDoor
open Go.RowKit Florin
set_option linter.unusedVariables false
set_option linter.unusedSimpArgs false
theorem of_zero (v : Vs) : ofP v 0 = ⟨bare v.i, v.f, 0⟩ := by
  have hk : kOf 0 = 0 := by unfold kOf; decide
  unfold ofP
  rw [hk, List.take_zero, Nat.zero_sub, List.drop_zero]
  show (⟨bare (v.i ++ [] ++ zs 0), v.f, ((0 : Nat) : Int)⟩ : Og) = _
  have hz : zs 0 = [] := rfl
  rw [hz, List.append_nil, List.append_nil]
  rfl
theorem vl_per {x : RelT} {i j f : List UInt8} (hm : x.mod ≠ 0) (hi : isDig i = true) (hj : isDig j = true) (h : val j % x.mod = val i % x.mod) : vlP x ⟨bare j, f, 0⟩ = vlP x ⟨bare i, f, 0⟩ := by
  have bi : isDig (bare i) = true := by rw [bare_dig hi]; exact isDig_dig _
  have bj : isDig (bare j) = true := by rw [bare_dig hj]; exact isDig_dig _
  have e : val (bare (bare j)) % x.mod = val (bare (bare i)) % x.mod := by
    rw [val_bare bj, val_bare hj, val_bare bi, val_bare hi, h]
  unfold vlP wvP
  simp only
  by_cases h1 : x.op = 110
  · simp only [h1, if_true]
    by_cases h2 : bare (rt f) = []
    · simp only [h2, if_true, hm, ne_eq, not_false_eq_true, e]
    · simp only [h2, if_false]
  · by_cases h2 : x.op = 105
    · simp only [h1, h2, if_true, if_false, hm, ne_eq, not_false_eq_true, e]
      split <;> simp_all
    · simp only [h1, h2, if_false]
theorem holds_per {x : RelT} {i j f : List UInt8} {n n' : Bool} (hm : x.mod ≠ 0) (hi : isDig i = true) (hj : isDig j = true) (h : val j % x.mod = val i % x.mod) : holdsP x (ofP ⟨n', j, f⟩ 0) = holdsP x (ofP ⟨n, i, f⟩ 0) := by
  rw [of_zero, of_zero]
  unfold holdsP inP
  rw [vl_per hm hi hj h]
/-- Not is turned about. -/
theorem holds_not (x : RelT) (o : Og) : holdsP ⟨x.op, x.mod, !x.nt, x.rs⟩ o = !holdsP x o := by
  have e : inP ⟨x.op, x.mod, !x.nt, x.rs⟩ o = inP x o := rfl
  unfold holdsP
  rw [e]
  cases inP x o <;> cases x.nt <;> rfl
theorem holds_more (x : RelT) (o : Og) (y : Nat × Nat) : holdsP ⟨x.op, x.mod, false, y :: x.rs⟩ o = (holdsP ⟨x.op, x.mod, false, x.rs⟩ o || holdsP ⟨x.op, x.mod, false, [y]⟩ o) := by
  have e : ∀ rs, holdsP ⟨x.op, x.mod, false, rs⟩ o = match vlP x o with | none => false | some n => rs.any fun r => decide (r.1 ≤ n) && decide (n ≤ r.2) := by
    intro rs
    have e2 : vlP ⟨x.op, x.mod, false, rs⟩ o = vlP x o := rfl
    unfold holdsP inP
    rw [e2]
    cases vlP x o with
    | none => rfl
    | some n => simp only [Bool.bne_false]
  rw [e, e, e]
  cases vlP x o with
  | none => rfl
  | some n => simp only [List.any_cons, List.any_nil, Bool.or_false]; rw [Bool.or_comm]
end Go.Proofs.YtkjhdehpcanciaaGreatDoor

namespace Go.Proofs.YtkjhdehpcanciaaGreatDoor
open Go.RowKit Florin
set_option linter.unusedVariables false
set_option linter.unusedSimpArgs false
theorem Box.keep {W w : World} {b : Nat} {cs : Array Value} (h : Box W b cs) (hb : Below W.heap.size W w) : Box w b cs := h.below hb h.lt
def oneM (r : RelM) : MadeM := ⟨1, 0, 0, [[r]]⟩
theorem one_few {r : RelM} (h : r.rs.length ≤ 5) : fewR [oneM r] := by
  refine ⟨by simp [oneM], ?_⟩
  intro m hm
  obtain rfl := List.mem_singleton.1 hm
  refine ⟨by simp [oneM], ?_⟩
  intro a ha
  obtain rfl := List.mem_singleton.1 (show a ∈ [[r]] from ha)
  refine ⟨by simp [oneM], ?_⟩
  intro x hx
  obtain rfl := List.mem_singleton.1 hx
  exact h
theorem one_cat (r : RelM) : mcat (oneM r) = 1 := by
  show modM 1 6 = 1
  have e : IntKind.u64.wrap 1 = 1 := by
    show (1 : Int) % _ = _
    exact Int.emod_eq_of_lt (by omega) (by show (1 : Int) < 18446744073709551616; omega)
  have e2 : (1 : Int).tmod 6 = 1 := by decide
  have e3 : wrap64 1 = 1 := by unfold wrap64; omega
  unfold modM
  rw [e, e2, e3]
  rfl
theorem one_mn (r : RelM) : madesMn [oneM r] = [⟨1, [[relMn r]], msmp (oneM r)⟩] := by
  unfold madesMn keepM keepM
  rw [if_neg (by simp)]
  show [madeMn (oneM r)] = _
  unfold madeMn
  rw [one_cat, if_neg (by decide)]
  rfl
theorem one_B {r : RelM} (h : r.rs.length ≤ 5) : RelB (relMn r) := by
  have hF := mades_F (one_few h)
  have h1 := hF.all ⟨1, [[relMn r]], msmp (oneM r)⟩ (by rw [one_mn]; exact List.mem_singleton.2 rfl)
  have h2 := (h1.rels [relMn r] (List.mem_singleton.2 rfl)).2 (relMn r) (List.mem_singleton.2 rfl)
  exact ⟨h2.op, by have := h2.md; omega⟩
theorem one_md (r : RelM) : (relMn r).mod ≤ 65535 := (andN_is r.md 65535 (by decide)).2
theorem inr_lit (w : World) (cs : Array Value) (T : TypeId) (n sz : Nat) (hl : cs.size = n * sz) (hm : n ≤ maxLen) : InR (w.alloc (.cells cs T)) sz (.slice (some ⟨w.heap.size, 0, none⟩) n n) n cs.toList := by
  refine ⟨_, n, rfl, Nat.le_refl _, hm, by simpa using hl, fun _ => ⟨w.heap.size, 0, rfl, by simp, fun j hj => ?_⟩⟩
  have h := (BoxT.new w cs T).box.cell j
  rw [Nat.zero_add]
  simp [h]
theorem one_at {r : RelM} {u : Value} {w : World} (h : NumsAt w r.rs u) :
    MadesAt (((w.alloc (.cells #[.int .i64 r.op, .int .i64 r.md, .int .i64 r.gp, .bool r.nt, u] 58)).alloc (.cells #[.slice (some ⟨w.heap.size, 0, none⟩) 1 1] 59)).alloc (.cells #[.int .i64 1, .int .i64 0, .int .i64 0, .slice (some ⟨w.heap.size + 1, 0, none⟩) 1 1] 62)) [oneM r] (.slice (some ⟨w.heap.size + 1 + 1, 0, none⟩) 1 1) := by
  have b1 : Below w.heap.size w (w.alloc (.cells #[.int .i64 r.op, .int .i64 r.md, .int .i64 r.gp, .bool r.nt, u] 58)) := (Below.refl _ _).alloc (Nat.le_refl _) _
  have i1 := inr_lit w #[.int .i64 r.op, .int .i64 r.md, .int .i64 r.gp, .bool r.nt, u] 58 1 5 rfl (by decide)
  have a1 : AllmAt (w.alloc (.cells #[.int .i64 r.op, .int .i64 r.md, .int .i64 r.gp, .bool r.nt, u] 58)) [r] (.slice (some ⟨w.heap.size, 0, none⟩) 1 1) :=
    ⟨_, i1, _, [], by simp, ⟨u, rfl, h.below b1⟩, rfl⟩
  generalize hw1 : (w.alloc (.cells #[.int .i64 r.op, .int .i64 r.md, .int .i64 r.gp, .bool r.nt, u] 58)) = w1 at *
  have hs1 : w1.heap.size = w.heap.size + 1 := by rw [← hw1]; simp
  have b2 : Below w1.heap.size w1 (w1.alloc (.cells #[.slice (some ⟨w.heap.size, 0, none⟩) 1 1] 59)) := (Below.refl _ _).alloc (Nat.le_refl _) _
  have i2 := inr_lit w1 #[.slice (some ⟨w.heap.size, 0, none⟩) 1 1] 59 1 1 rfl (by decide)
  rw [hs1] at i2
  have a2 : AnymAt (w1.alloc (.cells #[.slice (some ⟨w.heap.size, 0, none⟩) 1 1] 59)) [[r]] (.slice (some ⟨w.heap.size + 1, 0, none⟩) 1 1) :=
    ⟨_, i2, _, [], by simp, ⟨_, rfl, a1.below b2⟩, rfl⟩
  generalize hw2 : (w1.alloc (.cells #[.slice (some ⟨w.heap.size, 0, none⟩) 1 1] 59)) = w2 at *
  have hs2 : w2.heap.size = w.heap.size + 1 + 1 := by rw [← hw2]; simp [hs1]
  have b3 : Below w2.heap.size w2 (w2.alloc (.cells #[.int .i64 1, .int .i64 0, .int .i64 0, .slice (some ⟨w.heap.size + 1, 0, none⟩) 1 1] 62)) := (Below.refl _ _).alloc (Nat.le_refl _) _
  have i3 := inr_lit w2 #[.int .i64 1, .int .i64 0, .int .i64 0, .slice (some ⟨w.heap.size + 1, 0, none⟩) 1 1] 62 1 4 rfl (by decide)
  rw [hs2] at i3
  exact ⟨_, i3, [.int .i64 1, .int .i64 0, .int .i64 0, .slice (some ⟨w.heap.size + 1, 0, none⟩) 1 1], [], by simp, ⟨_, rfl, a2.below b3⟩, rfl⟩
/-- The cells of one rule of one relation. -/
theorem one_cells {w : World} {base : Nat} {c : Nat} {s : List UInt8} {x : RelT} {v : Value} (h : RulesAt w base [⟨c, [[x]], s⟩] v) :
    ∃ g cap g1 cap1 g2 cap2 ra rn rc, v = .slice (some ⟨g, 0, none⟩) 1 cap ∧ 1 ≤ cap ∧ 1 ≤ cap1 ∧ 1 ≤ cap2 ∧ g < w.heap.size ∧ g1 < w.heap.size ∧ g2 < w.heap.size ∧
      w.cell? ⟨g, 1, none⟩ = some (.slice (some ⟨g1, 0, none⟩) 1 cap1) ∧ w.cell? ⟨g1, 0, none⟩ = some (.slice (some ⟨g2, 0, none⟩) 1 cap2) ∧
      w.cell? ⟨g2, 0, none⟩ = some (.int .u8 ((x.op : UInt8).toNat : Int)) ∧ w.cell? ⟨g2, 1, none⟩ = some (.int .i64 ((x.mod : Nat) : Int)) ∧ w.cell? ⟨g2, 2, none⟩ = some (.bool x.nt) ∧ w.cell? ⟨g2, 3, none⟩ = some (.slice ra rn rc) ∧ Rngs w 0 x.rs (.slice ra rn rc) := by
  obtain ⟨cs, ho, cj, dj, hcs, ⟨vj, hcj, hnj⟩, hd⟩ := h
  obtain ⟨g, cap, rfl, h1, _, _, hg, hc⟩ := own_blk ho (by simp)
  obtain rfl := hd
  subst hcj hcs
  obtain ⟨cs1, ho1, cj1, dj1, hcs1, ⟨vj1, hcj1, hnj1⟩, hd1⟩ := hnj
  obtain ⟨g1, cap1, rfl, h2, _, _, hg1, hc1⟩ := own_blk ho1 (by simp)
  obtain rfl := hd1
  subst hcj1 hcs1
  obtain ⟨cs2, ho2, cj2, dj2, hcs2, ⟨vj2, hcj2, hnj2⟩, hd2⟩ := hnj1
  obtain ⟨g2, cap2, rfl, h3, _, _, hg2, hc2⟩ := own_blk ho2 (by simp)
  obtain rfl := hd2
  subst hcj2 hcs2
  obtain ⟨ra, rn, rc, hsv⟩ := own_slice hnj2
  subst hsv
  exact ⟨g, cap, g1, cap1, g2, cap2, ra, rn, rc, rfl, h1, h2, h3, hg, hg1, hg2, hc 1 (by simp), hc1 0 (by simp), hc2 0 (by simp), hc2 1 (by simp), hc2 2 (by simp), hc2 3 (by simp), hnj2⟩
end Go.Proofs.YtkjhdehpcanciaaGreatDoor

namespace Go.Proofs.YtkjhdehpcanciaaGreatDoor
open Go.RowKit Florin
set_option linter.unusedVariables false
set_option linter.unusedSimpArgs false
theorem HeldL.store4 {w : World} (L1 L2 : List (Nat × Array Value)) {b : Nat} {v0 v1 v2 v3 : Value} {W : World} (h : HeldL w (L1 ++ (b, #[v0, v1, v2, v3]) :: L2) W) (x0 x1 x2 x3 : Value) :
    HeldL w (L1 ++ (b, #[x0, x1, x2, x3]) :: L2) ((((W.setCell ⟨b, 0, none⟩ x0).setCell ⟨b, 1, none⟩ x1).setCell ⟨b, 2, none⟩ x2).setCell ⟨b, 3, none⟩ x3) := (((h.set1 0 x0).set1 1 x1).set1 2 x2).set1 3 x3
theorem HeldL.grownNe {w : World} {L : List (Nat × Array Value)} {W W' : World} {r : Option Nat} (h : HeldL w L W) (hg : W.grownBy W' r) (hr : ∀ k, r = some k → w.heap.size ≤ k ∧ ∀ p ∈ L, p.1 ≠ k) : HeldL w L W' := by
  refine ⟨fun p hp => (h.box p hp).grown hg ?_, h.own, h.desc, ?_⟩
  · intro e; exact (hr p.1 e.symm).2 p hp rfl
  · refine ⟨hg.os.trans h.bel.os, hg.tape.trans h.bel.tape, hg.output.trans h.bel.output, Nat.le_trans h.bel.size hg.size, fun i hi => (hg.block i (Nat.lt_of_lt_of_le hi h.bel.size) ?_).trans (h.bel.block i hi)⟩
    intro e; have := (hr i e.symm).1; omega
theorem HeldL.tail {w : World} {x : Nat × Array Value} {L : List (Nat × Array Value)} {W : World} (h : HeldL w (x :: L) W) : HeldL w L W :=
  ⟨fun p hp => h.box p (List.Mem.tail _ hp), fun p hp => h.own p (List.Mem.tail _ hp), (List.pairwise_cons.1 h.desc).2, h.bel⟩
theorem HeldL.ltAll {w : World} {L : List (Nat × Array Value)} {W : World} (h : HeldL w L W) : ∀ p ∈ L, p.1 < W.heap.size := fun p hp => (h.box p hp).lt
theorem own_setNe {W : World} {B : Nat} {e : TypeId} {sz : Nat} {v : Value} {n : Nat} {xs : List Value} (h : W.ownsRow B e sz v n xs) {b : Nat} (hb : v.ownBlock ≠ some b) (i : Nat) (x : Value) : (W.setCell ⟨b, i, none⟩ x).ownsRow B e sz v n xs :=
  h.kept (grown_set (grown_of_below (Below.refl _ _) (some b)) i x) (Or.inr hb)
theorem own_first {w : World} {base g n cap : Nat} {y : Nat × Nat} {rs : List (Nat × Nat)} (h : w.ownsRow base 64 2 (.slice (some ⟨g, 0, none⟩) n cap) (rs.length + 1) (rngC (y :: rs))) : Rngs w base [y] (.slice (some ⟨g, 0, none⟩) 1 cap) := by
  rcases h.2 with ⟨hv0, h0⟩ | ⟨g', cap', cur, hv, hb, hg, hcap, hcm, hs, ht⟩
  · omega
  · injection hv with h1 h2 h3
    injection h1 with h1
    injection h1 with h1 _ _
    subst h1 h3
    refine ⟨rfl, Or.inr ⟨g, cap, cur, rfl, hb, hg, by show 1 ≤ cap; omega, hcm, hs, ?_⟩⟩
    show cur.toList.take 2 = _
    have e : cur.toList.take 2 = (cur.toList.take ((rs.length + 1) * 2)).take 2 := by rw [List.take_take]; congr 1; omega
    rw [e, ht]
    rfl
theorem holds_at (op : UInt8) (md : Nat) (nt : Bool) (rs : List (Nat × Nat)) (v : Value) (base : Nat) (o : Og) (w : World) (hB : OgB o) (ht : Tab w) (hx : RelB ⟨op, md, nt, rs⟩) (hv : Rngs w base rs v) (r : Bool) (hr : holdsP ⟨op, md, nt, rs⟩ o = r) :
    Calls Tryz.prog 20 #[.agg #[.int .u8 ((op : UInt8).toNat : Int), .int .i64 ((md : Nat) : Int), .bool nt, v], OV o] w fun z w' => z = .returned (.bool r) ∧ Below w.heap.size w w' := holds_as ⟨op, md, nt, rs⟩ v base o w hB ht hx hv r hr
theorem RelB.any {x : RelT} (h : RelB x) (nt : Bool) (rs : List (Nat × Nat)) : RelB ⟨x.op, x.mod, nt, rs⟩ := ⟨h.1, h.2⟩
theorem relMn_ne (r : RelM) : 0 < (relMn r).rs.length := by
  show 0 < ((numL r.rs).map numMn).length
  rw [List.length_map]
  unfold numL
  split
  · decide
  · rename_i h
    exact List.length_pos_iff.2 h
theorem relMn_len {r : RelM} (h : r.rs.length ≤ 5) : (relMn r).rs.length ≤ 5 := by
  show ((numL r.rs).map numMn).length ≤ 5
  rw [List.length_map]
  exact (numL_len h).1
theorem rngC_cons (y : Nat × Nat) (rs : List (Nat × Nat)) : rngC (y :: rs) = [.int .i64 (y.1 : Int), .int .i64 (y.2 : Int)] ++ rngC rs := rfl
theorem rngC_one (rs : List (Nat × Nat)) : ∀ u ∈ rngC rs, u.oneCell' = true := by
  intro u hu
  unfold rngC at hu
  simp only [List.mem_flatMap, List.mem_cons, List.not_mem_nil, or_false] at hu
  obtain ⟨x, _, rfl | rfl⟩ := hu <;> rfl
theorem add_none2 (b off i : Nat) : (⟨b, off, none⟩ : Addr).add i = ⟨b, off + i, none⟩ := by unfold Addr.add; split <;> simp_all
/-- The ranges of a row, where it lies. -/
theorem own_g1 {w : World} {base : Nat} {e : TypeId} {sz : Nat} {sa : Option Addr} {sn sc n : Nat} {xs : List Value} (h : w.ownsRow base e sz (.slice sa sn sc) n xs) : sn = n := by
  rcases h.2 with ⟨hv0, h0⟩ | ⟨g, cap, cur, hv0, _⟩
  · injection hv0 with h1 h2 h3
    omega
  · injection hv0 with h1 h2 h3
theorem rng_news {w wq : World} {base g n cap : Nat} {rs : List (Nat × Nat)} (h : Rngs w base rs (.slice (some ⟨g, 0, none⟩) n cap)) (hq : Below w.heap.size w wq) : ∀ j u, (rngC rs)[j]? = some u → wq.cell? ((⟨g, 0, none⟩ : Addr).add j) = some u := by
  intro j u hu
  have hn := (own_g1 h)
  have hgl := (h.lt g rfl).2
  have hj : j < rs.length * 2 := by
    have h1 := (List.getElem?_eq_some_iff.1 hu).1
    rw [h.1] at h1
    exact h1
  rw [add_none2, Nat.zero_add, hq.cell (p := ⟨g, j, none⟩) hgl]
  subst hn
  rw [h.cellAt j hj]
  exact hu
theorem box_four {w : World} {b : Nat} {v0 v1 v2 v3 : Value} (h : Box w b #[v0, v1, v2, v3]) : w.cell? ⟨b, 0, none⟩ = some v0 ∧ w.cell? ⟨b, 1, none⟩ = some v1 ∧ w.cell? ⟨b, 2, none⟩ = some v2 ∧ w.cell? ⟨b, 3, none⟩ = some v3 ∧ w.frozen? ⟨b, 0, none⟩ = false ∧ w.frozen? ⟨b, 1, none⟩ = false ∧ w.frozen? ⟨b, 2, none⟩ = false ∧ w.frozen? ⟨b, 3, none⟩ = false ∧ b < w.heap.size :=
  ⟨h.cell 0, h.cell 1, h.cell 2, h.cell 3, h.frozen 0, h.frozen 1, h.frozen 2, h.frozen 3, h.lt⟩
theorem own_blk_ne {g n c b : Nat} (h : g ≠ b) : (Value.slice (some ⟨g, 0, none⟩) n c).ownBlock ≠ some b := fun e => h (by injection e)
theorem rngs_cons {w : World} {base l m : Nat} {rs : List (Nat × Nat)} {v : Value} (h : w.ownsRow base 64 2 v (1 + rs.length) ([.int .i64 ((l : Nat) : Int), .int .i64 ((m : Nat) : Int)] ++ rngC rs)) : Rngs w 0 ((l, m) :: rs) v := by
  have e : 1 + rs.length = ((l, m) :: rs).length := by rw [List.length_cons]; omega
  rw [e] at h
  exact own_mono h (Nat.zero_le _)
end Go.Proofs.YtkjhdehpcanciaaGreatDoor

namespace Go.Proofs.YtkjhdehpcanciaaGreatDoor
open Go.RowKit Florin
set_option linter.unusedVariables false
set_option linter.unusedSimpArgs false
attribute [local go_sem ↓] Go.wp_at_zero Go.wp_at_succ
set_option maxRecDepth 100000 in
set_option maxHeartbeats 6400000 in
theorem evalNots_walk (r : RelM) (u : Value) (lo more : Int) (a1 : Option Addr) (len1 cap1' : Nat) (L1 : List UInt8) (a2 : Option Addr) (len2 cap2' : Nat) (L2 : List UInt8) (e : Int) (w : World) (hr : NumsAt w r.rs u) (_h1 : (Lit.int .i64 lo).wf = true) (_h2 : (Lit.int .i64 more).wf = true) (hi1 : InB w a1 len1 cap1' L1) (hi2 : InB w a2 len2 cap2' L2) (_he : (Lit.int .i64 e).wf = true) (ht : Tab w) (hw : Wds w) :
    Calls Tryz.prog 8 #[.agg #[.int .i64 r.op, .int .i64 r.md, .int .i64 r.gp, .bool r.nt, u], .int .i64 lo, .int .i64 more, .slice a1 len1 cap1', .slice a2 len2 cap2', .int .i64 e] w fun x w' => x = .returned (.bool true) ∧ Below w.heap.size w w' := by
  clear _h1 _h2 _he
  have HT0 := Lib.hid ht
  have HW0 := Lib.hid hw
  have HI10 := Lib.hid hi1
  have HI20 := Lib.hid hi2
  have HR0 := Lib.hid hr
  have hc1 := hi1.2.1
  have hm1 := hi1.2.2.1
  have hc2 := hi2.2.1
  have hm2 := hi2.2.2.1
  have hL1 := hi1.1
  have hL2 := hi2.1
  obtain ⟨ua, uc, e0, hu1, hu2, hu3⟩ := hr
  subst e0
  have huci : (uc : Int) ≤ 9223372036854775807 := by unfold maxLen at hu2; omega
  clear ht hw hi1 hi2 hu3
  go_enter Tryz.func8, Tryz.ntmps8
  have BA : Hid (Below w.heap.size w (w.alloc (.cells #[.int .i64 r.op, .int .i64 r.md, .int .i64 r.gp, .bool r.nt, .slice ua r.rs.length uc] 58))) := Lib.hid ((Below.refl _ _).alloc (Nat.le_refl _) _)
  have XA := Lib.hid (BoxT.new w #[.int .i64 r.op, .int .i64 r.md, .int .i64 r.gp, .bool r.nt, .slice ua r.rs.length uc] 58)
  go_wp2_with fail
  with_reducible refine (head7 _ (HT0.out.below BA.out) (HW0.out.below BA.out)).mono ?_
  rintro y wp ⟨rfl, hb⟩
  have B1 : Hid (Below w.heap.size w wp) := Lib.hid (BA.out.trans (hb.mono BA.out.size))
  have X1 := Lib.hid (XA.out.box.keep hb)
  clear hb BA XA
  have r0 : wp.cell? ⟨w.heap.size, 0, none⟩ = some (.int .i64 r.op) := X1.out.cell 0
  have r1 : wp.cell? ⟨w.heap.size, 1, none⟩ = some (.int .i64 r.md) := X1.out.cell 1
  have r2 : wp.cell? ⟨w.heap.size, 2, none⟩ = some (.int .i64 r.gp) := X1.out.cell 2
  have r3 : wp.cell? ⟨w.heap.size, 3, none⟩ = some (.bool r.nt) := X1.out.cell 3
  have r4 : wp.cell? ⟨w.heap.size, 4, none⟩ = some (.slice ua r.rs.length uc) := X1.out.cell 4
  have rl := X1.out.lt
  by_cases hg0 : 5 < r.rs.length
  · have hg0i : (5 : Int) < (r.rs.length : Int) := by omega
    go_wp2
    go_ret
    exact ⟨rfl, B1.out⟩
  have hg0i : ¬ (5 : Int) < (r.rs.length : Int) := by omega
  by_cases hg1 : 40 < len1
  · have hg1i : (40 : Int) < (len1 : Int) := by omega
    go_wp2
    go_ret
    exact ⟨rfl, B1.out⟩
  have hg1i : ¬ (40 : Int) < (len1 : Int) := by omega
  by_cases hg2 : 40 < len2
  · have hg2i : (40 : Int) < (len2 : Int) := by omega
    go_wp2
    go_ret
    exact ⟨rfl, B1.out⟩
  have hg2i : ¬ (40 : Int) < (len2 : Int) := by omega
  have HNM := Lib.hid (one_at (InR.below HR0.out B1.out))
  have BN : Hid (Below w.heap.size w (((wp.alloc (.cells #[.int .i64 r.op, .int .i64 r.md, .int .i64 r.gp, .bool r.nt, .slice ua r.rs.length uc] 58)).alloc (.cells #[.slice (some ⟨wp.heap.size, 0, none⟩) 1 1] 59)).alloc (.cells #[.int .i64 1, .int .i64 0, .int .i64 0, .slice (some ⟨wp.heap.size + 1, 0, none⟩) 1 1] 62))) := Lib.hid (((B1.out.alloc B1.out.size _).alloc (Nat.le_trans B1.out.size (by simp)) _).alloc (Nat.le_trans B1.out.size (by simp; omega)) _)
  have HFW := Lib.hid (one_few (r := r) (by omega))
  have HRB := Lib.hid (one_B (r := r) (by omega))
  have HMD := Lib.hid (one_md r)
  have HNE := Lib.hid (relMn_ne r)
  have HLN := Lib.hid (relMn_len (r := r) (by omega))
  go_wp2_with fail
  with_reducible refine (allM_as [oneM r] _ 0 _ (HT0.out.below BN.out) (HW0.out.below BN.out) HNM.out HFW.out.L HFW.out.B HFW.out.R).mono ?_
  rintro y wB ⟨v, rfl, hru, hb⟩
  have BB : Hid (Below w.heap.size w wB) := Lib.hid (BN.out.trans (hb.mono BN.out.size))
  rw [one_mn] at hru
  obtain ⟨x, hx⟩ : ∃ x, relMn r = x := ⟨_, rfl⟩
  rw [hx] at hru HRB HMD HNE HLN
  obtain ⟨g, cap, g1, cap1, g2, cap2, ra, rn, rc, hv, k0, k1, k2, gl, gl1, gl2, c1, c2, c3, c4, c5, c6, hrg⟩ := one_cells hru
  subst hv
  have HRG := Lib.hid hrg
  have HT := Lib.hid (HT0.out.below BB.out)
  have HI1 := Lib.hid (HI10.out.below BB.out)
  have HI2 := Lib.hid (HI20.out.below BB.out)
  clear hru hb hrg BN HNM HFW X1 B1 HT0 HW0 HI10 HI20 HR0 r0 r1 r2 r3 r4 rl hg0 hg0i hg1i hg2i hx huci hu1 hu2
  have kb0 : (0 : Int) < (cap : Int) := by omega
  have kb1 : (0 : Int) < (cap1 : Int) := by omega
  have kb2 : (0 : Int) < (cap2 : Int) := by omega
  go_upto_region 7 with fail
  have H1 : Hid (HeldL wB [(wB.heap.size, #[.int .u8 ((x.op : UInt8).toNat : Int), .int .i64 ((x.mod : Nat) : Int), .bool x.nt, .slice ra rn rc])] (wB.alloc (.cells #[.int .u8 ((x.op : UInt8).toNat : Int), .int .i64 ((x.mod : Nat) : Int), .bool x.nt, .slice ra rn rc] 50))) := Lib.hid ((HeldL.alloc (HeldL.refl wB) (wB.heap.size) #[.int .u8 ((x.op : UInt8).toNat : Int), .int .i64 ((x.mod : Nat) : Int), .bool x.nt, .slice ra rn rc] 50 (by simp)))
  generalize (wB.alloc (.cells #[.int .u8 ((x.op : UInt8).toNat : Int), .int .i64 ((x.mod : Nat) : Int), .bool x.nt, .slice ra rn rc] 50)) = w1 at *
  clear c1 c2 c3 c4 c5 c6 k0 k1 k2 kb0 kb1 kb2 gl gl1 gl2
  obtain ⟨ek, hek, hand⟩ : ∃ q : Nat, q ≤ 15 ∧ bits .and .i64 e 15 = (q : Int) := and_mask e 15 (by decide)
  obtain ⟨vs, hvs, il, fl, o, ho, hoB⟩ := og_any L1 L2 (by omega) (by omega) (ek : Int)
  have HVS := Lib.hid hvs
  have HO := Lib.hid ho
  have HB := Lib.hid hoB
  clear hvs ho hoB
  go_wp2_with fail
  with_reducible refine (shown_as a1 len1 cap1' L1 a2 len2 cap2' L2 _ (HI1.out.below H1.out.bel) (HI2.out.below H1.out.bel) (by omega) (by omega) vs HVS.out).mono ?_
  rintro x w2 ⟨rfl, hb⟩
  have H2 : Hid (HeldL wB [(wB.heap.size, #[.int .u8 ((x.op : UInt8).toNat : Int), .int .i64 ((x.mod : Nat) : Int), .bool x.nt, .slice ra rn rc])] w2) := Lib.hid (HeldL.keep H1.out hb)
  clear H1
  clear hb
  go_wp2_with fail
  clear hL1 hL2 hc1 hm1 hc2 hm2 HVS hg1 hg2
  with_reducible refine (of_as vs (ek : Int) _ il fl o HO.out).mono ?_
  rintro x w3 ⟨rfl, hb⟩
  have H3 : Hid (HeldL wB [(wB.heap.size, #[.int .u8 ((x.op : UInt8).toNat : Int), .int .i64 ((x.mod : Nat) : Int), .bool x.nt, .slice ra rn rc])] w3) := Lib.hid (HeldL.keep H2.out hb)
  clear H2
  clear hb
  clear HO il fl hand hek
  go_upto_region 8 with fail
  have H4 : Hid (HeldL wB [(w3.heap.size, #[S o.i, S o.f, .int .i64 o.e]), (wB.heap.size, #[.int .u8 ((x.op : UInt8).toNat : Int), .int .i64 ((x.mod : Nat) : Int), .bool x.nt, .slice ra rn rc])] (w3.alloc (.cells #[S o.i, S o.f, .int .i64 o.e] 42))) := Lib.hid ((HeldL.alloc H3.out (w3.heap.size) #[S o.i, S o.f, .int .i64 o.e] 42 (by simp)))
  generalize (w3.alloc (.cells #[S o.i, S o.f, .int .i64 o.e] 42)) = w4 at *
  clear H3
  have x0 : w4.cell? ⟨wB.heap.size, 0, none⟩ = some (.int .u8 ((x.op : UInt8).toNat : Int)) := (H4.out.f (List.Mem.tail _ (List.Mem.head _))).cell 0
  have x1 : w4.cell? ⟨wB.heap.size, 1, none⟩ = some (.int .i64 ((x.mod : Nat) : Int)) := (H4.out.f (List.Mem.tail _ (List.Mem.head _))).cell 1
  have x2 : w4.cell? ⟨wB.heap.size, 2, none⟩ = some (.bool x.nt) := (H4.out.f (List.Mem.tail _ (List.Mem.head _))).cell 2
  have x3 : w4.cell? ⟨wB.heap.size, 3, none⟩ = some (.slice ra rn rc) := (H4.out.f (List.Mem.tail _ (List.Mem.head _))).cell 3
  have xl : wB.heap.size < w4.heap.size := (H4.out.f (List.Mem.tail _ (List.Mem.head _))).lt
  go_upto_region 9 with fail
  clear x0 x1 x2 x3 xl
  have H5 : Hid (HeldL wB [(w4.heap.size, #[.int .u8 ((x.op : UInt8).toNat : Int), .int .i64 ((x.mod : Nat) : Int), .bool x.nt, .slice ra rn rc]), (w3.heap.size, #[S o.i, S o.f, .int .i64 o.e]), (wB.heap.size, #[.int .u8 ((x.op : UInt8).toNat : Int), .int .i64 ((x.mod : Nat) : Int), .bool x.nt, .slice ra rn rc])] (w4.alloc (.cells #[.int .u8 ((x.op : UInt8).toNat : Int), .int .i64 ((x.mod : Nat) : Int), .bool x.nt, .slice ra rn rc] 50))) := Lib.hid ((HeldL.alloc H4.out (w4.heap.size) #[.int .u8 ((x.op : UInt8).toNat : Int), .int .i64 ((x.mod : Nat) : Int), .bool x.nt, .slice ra rn rc] 50 (by simp)))
  generalize (w4.alloc (.cells #[.int .u8 ((x.op : UInt8).toNat : Int), .int .i64 ((x.mod : Nat) : Int), .bool x.nt, .slice ra rn rc] 50)) = w5 at *
  clear H4
  have x0 : w5.cell? ⟨wB.heap.size, 0, none⟩ = some (.int .u8 ((x.op : UInt8).toNat : Int)) := (H5.out.f (List.Mem.tail _ (List.Mem.tail _ (List.Mem.head _)))).cell 0
  have x1 : w5.cell? ⟨wB.heap.size, 1, none⟩ = some (.int .i64 ((x.mod : Nat) : Int)) := (H5.out.f (List.Mem.tail _ (List.Mem.tail _ (List.Mem.head _)))).cell 1
  have x2 : w5.cell? ⟨wB.heap.size, 2, none⟩ = some (.bool x.nt) := (H5.out.f (List.Mem.tail _ (List.Mem.tail _ (List.Mem.head _)))).cell 2
  have x3 : w5.cell? ⟨wB.heap.size, 3, none⟩ = some (.slice ra rn rc) := (H5.out.f (List.Mem.tail _ (List.Mem.tail _ (List.Mem.head _)))).cell 3
  have xl : wB.heap.size < w5.heap.size := (H5.out.f (List.Mem.tail _ (List.Mem.tail _ (List.Mem.head _)))).lt
  have y0 : w5.cell? ⟨w4.heap.size, 0, none⟩ = some (.int .u8 ((x.op : UInt8).toNat : Int)) := (H5.out.f (List.Mem.head _)).cell 0
  have yz0 : w5.frozen? ⟨w4.heap.size, 0, none⟩ = false := (H5.out.f (List.Mem.head _)).frozen 0
  have y1 : w5.cell? ⟨w4.heap.size, 1, none⟩ = some (.int .i64 ((x.mod : Nat) : Int)) := (H5.out.f (List.Mem.head _)).cell 1
  have yz1 : w5.frozen? ⟨w4.heap.size, 1, none⟩ = false := (H5.out.f (List.Mem.head _)).frozen 1
  have y2 : w5.cell? ⟨w4.heap.size, 2, none⟩ = some (.bool x.nt) := (H5.out.f (List.Mem.head _)).cell 2
  have yz2 : w5.frozen? ⟨w4.heap.size, 2, none⟩ = false := (H5.out.f (List.Mem.head _)).frozen 2
  have y3 : w5.cell? ⟨w4.heap.size, 3, none⟩ = some (.slice ra rn rc) := (H5.out.f (List.Mem.head _)).cell 3
  have yz3 : w5.frozen? ⟨w4.heap.size, 3, none⟩ = false := (H5.out.f (List.Mem.head _)).frozen 3
  have yl : w4.heap.size < w5.heap.size := (H5.out.f (List.Mem.head _)).lt
  go_upto_region 10 with fail
  have H6 : Hid (HeldL wB [(w4.heap.size, #[.int .u8 ((x.op : UInt8).toNat : Int), .int .i64 ((x.mod : Nat) : Int), .bool (!x.nt), .slice ra rn rc]), (w3.heap.size, #[S o.i, S o.f, .int .i64 o.e]), (wB.heap.size, #[.int .u8 ((x.op : UInt8).toNat : Int), .int .i64 ((x.mod : Nat) : Int), .bool x.nt, .slice ra rn rc])] (w5.setCell ⟨w4.heap.size, 2, none⟩ (.bool (!x.nt)))) := Lib.hid (HeldL.set1 (L1 := []) (L2 := [(w3.heap.size, #[S o.i, S o.f, .int .i64 o.e]), (wB.heap.size, #[.int .u8 ((x.op : UInt8).toNat : Int), .int .i64 ((x.mod : Nat) : Int), .bool x.nt, .slice ra rn rc])]) H5.out 2 (.bool (!x.nt)))
  clear x0 x1 x2 x3 xl y0 yz0 y1 yz1 y2 yz2 y3 yz3 yl
  generalize (w5.setCell ⟨w4.heap.size, 2, none⟩ (.bool (!x.nt))) = w6 at *
  clear H5
  obtain ⟨yb, hyb⟩ : ∃ b : Nat, w4.heap.size = b := ⟨_, rfl⟩
  rw [hyb] at H6
  simp only [hyb]
  obtain ⟨ob, hob⟩ : ∃ b : Nat, w3.heap.size = b := ⟨_, rfl⟩
  rw [hob] at H6
  simp only [hob]
  obtain ⟨xb, hxb⟩ : ∃ b : Nat, wB.heap.size = b := ⟨_, rfl⟩
  rw [hxb] at H6
  simp only [hxb]
  clear hyb hob hxb
  have HRR : Hid (∀ w' : World, Below wB.heap.size wB w' → Rngs w' 0 x.rs (.slice ra rn rc)) := Lib.hid (fun w' h => Rngs.kept HRG.out (grown_of_below h none) (Apart.none _ _))
  go_cut [70] from 71 (fun v w' => v = .bool false ∧ HeldL wB [(yb, #[.int .u8 ((x.op : UInt8).toNat : Int), .int .i64 ((x.mod : Nat) : Int), .bool (!x.nt), .slice ra rn rc]), (ob, #[S o.i, S o.f, .int .i64 o.e]), (xb, #[.int .u8 ((x.op : UInt8).toNat : Int), .int .i64 ((x.mod : Nat) : Int), .bool x.nt, .slice ra rn rc])] w')
  case first =>
    cases hb0 : holdsP ⟨x.op, x.mod, x.nt, x.rs⟩ o with
    | true =>
      have HE := Lib.hid hb0
      have HE2 : Hid (holdsP ⟨x.op, x.mod, !x.nt, x.rs⟩ o = false) := Lib.hid (by have h := holds_not ⟨x.op, x.mod, x.nt, x.rs⟩ o; rw [hb0] at h; exact h)
      clear hb0
      have BEL : Hid (∀ w' : World, (w'.cell? ⟨xb, 0, none⟩ = some (.int .u8 ((x.op : UInt8).toNat : Int)) ∧ w'.cell? ⟨xb, 1, none⟩ = some (.int .i64 ((x.mod : Nat) : Int)) ∧ w'.cell? ⟨xb, 2, none⟩ = some (.bool x.nt) ∧ w'.cell? ⟨xb, 3, none⟩ = some (.slice ra rn rc) ∧ w'.cell? ⟨yb, 0, none⟩ = some (.int .u8 ((x.op : UInt8).toNat : Int)) ∧ w'.cell? ⟨yb, 1, none⟩ = some (.int .i64 ((x.mod : Nat) : Int)) ∧ w'.cell? ⟨yb, 2, none⟩ = some (.bool (!x.nt)) ∧ w'.cell? ⟨yb, 3, none⟩ = some (.slice ra rn rc) ∧ w'.cell? ⟨ob, 0, none⟩ = some (S o.i) ∧ w'.cell? ⟨ob, 1, none⟩ = some (S o.f) ∧ w'.cell? ⟨ob, 2, none⟩ = some (.int .i64 o.e) ∧ HeldL wB [(yb, #[.int .u8 ((x.op : UInt8).toNat : Int), .int .i64 ((x.mod : Nat) : Int), .bool (!x.nt), .slice ra rn rc]), (ob, #[S o.i, S o.f, .int .i64 o.e]), (xb, #[.int .u8 ((x.op : UInt8).toNat : Int), .int .i64 ((x.mod : Nat) : Int), .bool x.nt, .slice ra rn rc])] w') → Below wB.heap.size wB w') := Lib.hid (fun w' h => (h.2.2.2.2.2.2.2.2.2.2.2).bel)
      have ALL1 : Hid (∀ w' : World, HeldL wB [(yb, #[.int .u8 ((x.op : UInt8).toNat : Int), .int .i64 ((x.mod : Nat) : Int), .bool (!x.nt), .slice ra rn rc]), (ob, #[S o.i, S o.f, .int .i64 o.e]), (xb, #[.int .u8 ((x.op : UInt8).toNat : Int), .int .i64 ((x.mod : Nat) : Int), .bool x.nt, .slice ra rn rc])] w' → w'.cell? ⟨xb, 0, none⟩ = some (.int .u8 ((x.op : UInt8).toNat : Int)) ∧ w'.cell? ⟨xb, 1, none⟩ = some (.int .i64 ((x.mod : Nat) : Int)) ∧ w'.cell? ⟨xb, 2, none⟩ = some (.bool x.nt) ∧ w'.cell? ⟨xb, 3, none⟩ = some (.slice ra rn rc) ∧ w'.cell? ⟨yb, 0, none⟩ = some (.int .u8 ((x.op : UInt8).toNat : Int)) ∧ w'.cell? ⟨yb, 1, none⟩ = some (.int .i64 ((x.mod : Nat) : Int)) ∧ w'.cell? ⟨yb, 2, none⟩ = some (.bool (!x.nt)) ∧ w'.cell? ⟨yb, 3, none⟩ = some (.slice ra rn rc) ∧ w'.cell? ⟨ob, 0, none⟩ = some (S o.i) ∧ w'.cell? ⟨ob, 1, none⟩ = some (S o.f) ∧ w'.cell? ⟨ob, 2, none⟩ = some (.int .i64 o.e) ∧ HeldL wB [(yb, #[.int .u8 ((x.op : UInt8).toNat : Int), .int .i64 ((x.mod : Nat) : Int), .bool (!x.nt), .slice ra rn rc]), (ob, #[S o.i, S o.f, .int .i64 o.e]), (xb, #[.int .u8 ((x.op : UInt8).toNat : Int), .int .i64 ((x.mod : Nat) : Int), .bool x.nt, .slice ra rn rc])] w') := Lib.hid (fun w' h => ⟨(h.f (List.Mem.tail _ (List.Mem.tail _ (List.Mem.head _)))).cell 0, (h.f (List.Mem.tail _ (List.Mem.tail _ (List.Mem.head _)))).cell 1, (h.f (List.Mem.tail _ (List.Mem.tail _ (List.Mem.head _)))).cell 2, (h.f (List.Mem.tail _ (List.Mem.tail _ (List.Mem.head _)))).cell 3, (h.f (List.Mem.head _)).cell 0, (h.f (List.Mem.head _)).cell 1, (h.f (List.Mem.head _)).cell 2, (h.f (List.Mem.head _)).cell 3, (h.f (List.Mem.tail _ (List.Mem.head _))).cell 0, (h.f (List.Mem.tail _ (List.Mem.head _))).cell 1, (h.f (List.Mem.tail _ (List.Mem.head _))).cell 2, h⟩)
      have KEEP1 : Hid (∀ w' w'' : World, (w'.cell? ⟨xb, 0, none⟩ = some (.int .u8 ((x.op : UInt8).toNat : Int)) ∧ w'.cell? ⟨xb, 1, none⟩ = some (.int .i64 ((x.mod : Nat) : Int)) ∧ w'.cell? ⟨xb, 2, none⟩ = some (.bool x.nt) ∧ w'.cell? ⟨xb, 3, none⟩ = some (.slice ra rn rc) ∧ w'.cell? ⟨yb, 0, none⟩ = some (.int .u8 ((x.op : UInt8).toNat : Int)) ∧ w'.cell? ⟨yb, 1, none⟩ = some (.int .i64 ((x.mod : Nat) : Int)) ∧ w'.cell? ⟨yb, 2, none⟩ = some (.bool (!x.nt)) ∧ w'.cell? ⟨yb, 3, none⟩ = some (.slice ra rn rc) ∧ w'.cell? ⟨ob, 0, none⟩ = some (S o.i) ∧ w'.cell? ⟨ob, 1, none⟩ = some (S o.f) ∧ w'.cell? ⟨ob, 2, none⟩ = some (.int .i64 o.e) ∧ HeldL wB [(yb, #[.int .u8 ((x.op : UInt8).toNat : Int), .int .i64 ((x.mod : Nat) : Int), .bool (!x.nt), .slice ra rn rc]), (ob, #[S o.i, S o.f, .int .i64 o.e]), (xb, #[.int .u8 ((x.op : UInt8).toNat : Int), .int .i64 ((x.mod : Nat) : Int), .bool x.nt, .slice ra rn rc])] w') → Below w'.heap.size w' w'' → (w''.cell? ⟨xb, 0, none⟩ = some (.int .u8 ((x.op : UInt8).toNat : Int)) ∧ w''.cell? ⟨xb, 1, none⟩ = some (.int .i64 ((x.mod : Nat) : Int)) ∧ w''.cell? ⟨xb, 2, none⟩ = some (.bool x.nt) ∧ w''.cell? ⟨xb, 3, none⟩ = some (.slice ra rn rc) ∧ w''.cell? ⟨yb, 0, none⟩ = some (.int .u8 ((x.op : UInt8).toNat : Int)) ∧ w''.cell? ⟨yb, 1, none⟩ = some (.int .i64 ((x.mod : Nat) : Int)) ∧ w''.cell? ⟨yb, 2, none⟩ = some (.bool (!x.nt)) ∧ w''.cell? ⟨yb, 3, none⟩ = some (.slice ra rn rc) ∧ w''.cell? ⟨ob, 0, none⟩ = some (S o.i) ∧ w''.cell? ⟨ob, 1, none⟩ = some (S o.f) ∧ w''.cell? ⟨ob, 2, none⟩ = some (.int .i64 o.e) ∧ HeldL wB [(yb, #[.int .u8 ((x.op : UInt8).toNat : Int), .int .i64 ((x.mod : Nat) : Int), .bool (!x.nt), .slice ra rn rc]), (ob, #[S o.i, S o.f, .int .i64 o.e]), (xb, #[.int .u8 ((x.op : UInt8).toNat : Int), .int .i64 ((x.mod : Nat) : Int), .bool x.nt, .slice ra rn rc])] w'')) := Lib.hid (fun w' w'' h hb => ALL1.out _ (HeldL.keep (h.2.2.2.2.2.2.2.2.2.2.2) hb))
      have HS1 : Hid (HeldL wB [(yb, #[.int .u8 ((x.op : UInt8).toNat : Int), .int .i64 ((x.mod : Nat) : Int), .bool (!x.nt), .slice ra rn rc]), (ob, #[S o.i, S o.f, .int .i64 o.e]), (xb, #[.int .u8 ((x.op : UInt8).toNat : Int), .int .i64 ((x.mod : Nat) : Int), .bool x.nt, .slice ra rn rc])] _) := Lib.hid H6.out
      have TAB1 : Hid (∀ w' : World, (w'.cell? ⟨xb, 0, none⟩ = some (.int .u8 ((x.op : UInt8).toNat : Int)) ∧ w'.cell? ⟨xb, 1, none⟩ = some (.int .i64 ((x.mod : Nat) : Int)) ∧ w'.cell? ⟨xb, 2, none⟩ = some (.bool x.nt) ∧ w'.cell? ⟨xb, 3, none⟩ = some (.slice ra rn rc) ∧ w'.cell? ⟨yb, 0, none⟩ = some (.int .u8 ((x.op : UInt8).toNat : Int)) ∧ w'.cell? ⟨yb, 1, none⟩ = some (.int .i64 ((x.mod : Nat) : Int)) ∧ w'.cell? ⟨yb, 2, none⟩ = some (.bool (!x.nt)) ∧ w'.cell? ⟨yb, 3, none⟩ = some (.slice ra rn rc) ∧ w'.cell? ⟨ob, 0, none⟩ = some (S o.i) ∧ w'.cell? ⟨ob, 1, none⟩ = some (S o.f) ∧ w'.cell? ⟨ob, 2, none⟩ = some (.int .i64 o.e) ∧ HeldL wB [(yb, #[.int .u8 ((x.op : UInt8).toNat : Int), .int .i64 ((x.mod : Nat) : Int), .bool (!x.nt), .slice ra rn rc]), (ob, #[S o.i, S o.f, .int .i64 o.e]), (xb, #[.int .u8 ((x.op : UInt8).toNat : Int), .int .i64 ((x.mod : Nat) : Int), .bool x.nt, .slice ra rn rc])] w') → Tab w') := Lib.hid (fun w' h => HT.out.below (h.2.2.2.2.2.2.2.2.2.2.2).bel)
      go_region_held3 (fun w' => w'.cell? ⟨xb, 0, none⟩ = some (.int .u8 ((x.op : UInt8).toNat : Int)) ∧ w'.cell? ⟨xb, 1, none⟩ = some (.int .i64 ((x.mod : Nat) : Int)) ∧ w'.cell? ⟨xb, 2, none⟩ = some (.bool x.nt) ∧ w'.cell? ⟨xb, 3, none⟩ = some (.slice ra rn rc) ∧ w'.cell? ⟨yb, 0, none⟩ = some (.int .u8 ((x.op : UInt8).toNat : Int)) ∧ w'.cell? ⟨yb, 1, none⟩ = some (.int .i64 ((x.mod : Nat) : Int)) ∧ w'.cell? ⟨yb, 2, none⟩ = some (.bool (!x.nt)) ∧ w'.cell? ⟨yb, 3, none⟩ = some (.slice ra rn rc) ∧ w'.cell? ⟨ob, 0, none⟩ = some (S o.i) ∧ w'.cell? ⟨ob, 1, none⟩ = some (S o.f) ∧ w'.cell? ⟨ob, 2, none⟩ = some (.int .i64 o.e) ∧ HeldL wB [(yb, #[.int .u8 ((x.op : UInt8).toNat : Int), .int .i64 ((x.mod : Nat) : Int), .bool (!x.nt), .slice ra rn rc]), (ob, #[S o.i, S o.f, .int .i64 o.e]), (xb, #[.int .u8 ((x.op : UInt8).toNat : Int), .int .i64 ((x.mod : Nat) : Int), .bool x.nt, .slice ra rn rc])] w')
        (first | exact ALL1.out _ (HeldL.drew HS1.out) | exact KEEP1.out _ _ (by assumption) hb | assumption)
        (first | (go_at_call 20; (first | (with_reducible refine (holds_at x.op x.mod x.nt x.rs (.slice ra rn rc) 0 o _ HB.out (by first | exact HT.out.below HS1.out.bel.drew | exact TAB1.out _ (by assumption)) (RelB.any HRB.out _ _) (HRR.out _ (by first | exact HS1.out.bel.drew | exact BEL.out _ (by assumption))) true HE.out).mono ?_) | (with_reducible refine (holds_at x.op x.mod (!x.nt) x.rs (.slice ra rn rc) 0 o _ HB.out (by first | exact HT.out.below HS1.out.bel.drew | exact TAB1.out _ (by assumption)) (RelB.any HRB.out _ _) (HRR.out _ (by first | exact HS1.out.bel.drew | exact BEL.out _ (by assumption))) false HE2.out).mono ?_)); rintro q w30 ⟨rfl, hb⟩))
      have HH : HeldL wB [(yb, #[.int .u8 ((x.op : UInt8).toNat : Int), .int .i64 ((x.mod : Nat) : Int), .bool (!x.nt), .slice ra rn rc]), (ob, #[S o.i, S o.f, .int .i64 o.e]), (xb, #[.int .u8 ((x.op : UInt8).toNat : Int), .int .i64 ((x.mod : Nat) : Int), .bool x.nt, .slice ra rn rc])] w30 := (‹w30.cell? ⟨xb, 0, none⟩ = some (.int .u8 ((x.op : UInt8).toNat : Int)) ∧ w30.cell? ⟨xb, 1, none⟩ = some (.int .i64 ((x.mod : Nat) : Int)) ∧ w30.cell? ⟨xb, 2, none⟩ = some (.bool x.nt) ∧ w30.cell? ⟨xb, 3, none⟩ = some (.slice ra rn rc) ∧ w30.cell? ⟨yb, 0, none⟩ = some (.int .u8 ((x.op : UInt8).toNat : Int)) ∧ w30.cell? ⟨yb, 1, none⟩ = some (.int .i64 ((x.mod : Nat) : Int)) ∧ w30.cell? ⟨yb, 2, none⟩ = some (.bool (!x.nt)) ∧ w30.cell? ⟨yb, 3, none⟩ = some (.slice ra rn rc) ∧ w30.cell? ⟨ob, 0, none⟩ = some (S o.i) ∧ w30.cell? ⟨ob, 1, none⟩ = some (S o.f) ∧ w30.cell? ⟨ob, 2, none⟩ = some (.int .i64 o.e) ∧ HeldL wB [(yb, #[.int .u8 ((x.op : UInt8).toNat : Int), .int .i64 ((x.mod : Nat) : Int), .bool (!x.nt), .slice ra rn rc]), (ob, #[S o.i, S o.f, .int .i64 o.e]), (xb, #[.int .u8 ((x.op : UInt8).toNat : Int), .int .i64 ((x.mod : Nat) : Int), .bool x.nt, .slice ra rn rc])] w30›).2.2.2.2.2.2.2.2.2.2.2
      have H7 : Hid (HeldL wB [(yb, #[.int .u8 ((x.op : UInt8).toNat : Int), .int .i64 ((x.mod : Nat) : Int), .bool (!x.nt), .slice ra rn rc]), (ob, #[S o.i, S o.f, .int .i64 o.e]), (xb, #[.int .u8 ((x.op : UInt8).toNat : Int), .int .i64 ((x.mod : Nat) : Int), .bool x.nt, .slice ra rn rc])] w30) := Lib.hid HH
      clear HH ALL1 KEEP1 HS1 TAB1 H6
      clear BEL
      go_wp2
      go_meet
      case rel => exact ⟨by first | rfl | simp, H7.out⟩
    | false =>
      have HE := Lib.hid hb0
      have HE2 : Hid (holdsP ⟨x.op, x.mod, !x.nt, x.rs⟩ o = true) := Lib.hid (by have h := holds_not ⟨x.op, x.mod, x.nt, x.rs⟩ o; rw [hb0] at h; exact h)
      clear hb0
      have BEL : Hid (∀ w' : World, (w'.cell? ⟨xb, 0, none⟩ = some (.int .u8 ((x.op : UInt8).toNat : Int)) ∧ w'.cell? ⟨xb, 1, none⟩ = some (.int .i64 ((x.mod : Nat) : Int)) ∧ w'.cell? ⟨xb, 2, none⟩ = some (.bool x.nt) ∧ w'.cell? ⟨xb, 3, none⟩ = some (.slice ra rn rc) ∧ w'.cell? ⟨yb, 0, none⟩ = some (.int .u8 ((x.op : UInt8).toNat : Int)) ∧ w'.cell? ⟨yb, 1, none⟩ = some (.int .i64 ((x.mod : Nat) : Int)) ∧ w'.cell? ⟨yb, 2, none⟩ = some (.bool (!x.nt)) ∧ w'.cell? ⟨yb, 3, none⟩ = some (.slice ra rn rc) ∧ w'.cell? ⟨ob, 0, none⟩ = some (S o.i) ∧ w'.cell? ⟨ob, 1, none⟩ = some (S o.f) ∧ w'.cell? ⟨ob, 2, none⟩ = some (.int .i64 o.e) ∧ HeldL wB [(yb, #[.int .u8 ((x.op : UInt8).toNat : Int), .int .i64 ((x.mod : Nat) : Int), .bool (!x.nt), .slice ra rn rc]), (ob, #[S o.i, S o.f, .int .i64 o.e]), (xb, #[.int .u8 ((x.op : UInt8).toNat : Int), .int .i64 ((x.mod : Nat) : Int), .bool x.nt, .slice ra rn rc])] w') → Below wB.heap.size wB w') := Lib.hid (fun w' h => (h.2.2.2.2.2.2.2.2.2.2.2).bel)
      have ALL1 : Hid (∀ w' : World, HeldL wB [(yb, #[.int .u8 ((x.op : UInt8).toNat : Int), .int .i64 ((x.mod : Nat) : Int), .bool (!x.nt), .slice ra rn rc]), (ob, #[S o.i, S o.f, .int .i64 o.e]), (xb, #[.int .u8 ((x.op : UInt8).toNat : Int), .int .i64 ((x.mod : Nat) : Int), .bool x.nt, .slice ra rn rc])] w' → w'.cell? ⟨xb, 0, none⟩ = some (.int .u8 ((x.op : UInt8).toNat : Int)) ∧ w'.cell? ⟨xb, 1, none⟩ = some (.int .i64 ((x.mod : Nat) : Int)) ∧ w'.cell? ⟨xb, 2, none⟩ = some (.bool x.nt) ∧ w'.cell? ⟨xb, 3, none⟩ = some (.slice ra rn rc) ∧ w'.cell? ⟨yb, 0, none⟩ = some (.int .u8 ((x.op : UInt8).toNat : Int)) ∧ w'.cell? ⟨yb, 1, none⟩ = some (.int .i64 ((x.mod : Nat) : Int)) ∧ w'.cell? ⟨yb, 2, none⟩ = some (.bool (!x.nt)) ∧ w'.cell? ⟨yb, 3, none⟩ = some (.slice ra rn rc) ∧ w'.cell? ⟨ob, 0, none⟩ = some (S o.i) ∧ w'.cell? ⟨ob, 1, none⟩ = some (S o.f) ∧ w'.cell? ⟨ob, 2, none⟩ = some (.int .i64 o.e) ∧ HeldL wB [(yb, #[.int .u8 ((x.op : UInt8).toNat : Int), .int .i64 ((x.mod : Nat) : Int), .bool (!x.nt), .slice ra rn rc]), (ob, #[S o.i, S o.f, .int .i64 o.e]), (xb, #[.int .u8 ((x.op : UInt8).toNat : Int), .int .i64 ((x.mod : Nat) : Int), .bool x.nt, .slice ra rn rc])] w') := Lib.hid (fun w' h => ⟨(h.f (List.Mem.tail _ (List.Mem.tail _ (List.Mem.head _)))).cell 0, (h.f (List.Mem.tail _ (List.Mem.tail _ (List.Mem.head _)))).cell 1, (h.f (List.Mem.tail _ (List.Mem.tail _ (List.Mem.head _)))).cell 2, (h.f (List.Mem.tail _ (List.Mem.tail _ (List.Mem.head _)))).cell 3, (h.f (List.Mem.head _)).cell 0, (h.f (List.Mem.head _)).cell 1, (h.f (List.Mem.head _)).cell 2, (h.f (List.Mem.head _)).cell 3, (h.f (List.Mem.tail _ (List.Mem.head _))).cell 0, (h.f (List.Mem.tail _ (List.Mem.head _))).cell 1, (h.f (List.Mem.tail _ (List.Mem.head _))).cell 2, h⟩)
      have KEEP1 : Hid (∀ w' w'' : World, (w'.cell? ⟨xb, 0, none⟩ = some (.int .u8 ((x.op : UInt8).toNat : Int)) ∧ w'.cell? ⟨xb, 1, none⟩ = some (.int .i64 ((x.mod : Nat) : Int)) ∧ w'.cell? ⟨xb, 2, none⟩ = some (.bool x.nt) ∧ w'.cell? ⟨xb, 3, none⟩ = some (.slice ra rn rc) ∧ w'.cell? ⟨yb, 0, none⟩ = some (.int .u8 ((x.op : UInt8).toNat : Int)) ∧ w'.cell? ⟨yb, 1, none⟩ = some (.int .i64 ((x.mod : Nat) : Int)) ∧ w'.cell? ⟨yb, 2, none⟩ = some (.bool (!x.nt)) ∧ w'.cell? ⟨yb, 3, none⟩ = some (.slice ra rn rc) ∧ w'.cell? ⟨ob, 0, none⟩ = some (S o.i) ∧ w'.cell? ⟨ob, 1, none⟩ = some (S o.f) ∧ w'.cell? ⟨ob, 2, none⟩ = some (.int .i64 o.e) ∧ HeldL wB [(yb, #[.int .u8 ((x.op : UInt8).toNat : Int), .int .i64 ((x.mod : Nat) : Int), .bool (!x.nt), .slice ra rn rc]), (ob, #[S o.i, S o.f, .int .i64 o.e]), (xb, #[.int .u8 ((x.op : UInt8).toNat : Int), .int .i64 ((x.mod : Nat) : Int), .bool x.nt, .slice ra rn rc])] w') → Below w'.heap.size w' w'' → (w''.cell? ⟨xb, 0, none⟩ = some (.int .u8 ((x.op : UInt8).toNat : Int)) ∧ w''.cell? ⟨xb, 1, none⟩ = some (.int .i64 ((x.mod : Nat) : Int)) ∧ w''.cell? ⟨xb, 2, none⟩ = some (.bool x.nt) ∧ w''.cell? ⟨xb, 3, none⟩ = some (.slice ra rn rc) ∧ w''.cell? ⟨yb, 0, none⟩ = some (.int .u8 ((x.op : UInt8).toNat : Int)) ∧ w''.cell? ⟨yb, 1, none⟩ = some (.int .i64 ((x.mod : Nat) : Int)) ∧ w''.cell? ⟨yb, 2, none⟩ = some (.bool (!x.nt)) ∧ w''.cell? ⟨yb, 3, none⟩ = some (.slice ra rn rc) ∧ w''.cell? ⟨ob, 0, none⟩ = some (S o.i) ∧ w''.cell? ⟨ob, 1, none⟩ = some (S o.f) ∧ w''.cell? ⟨ob, 2, none⟩ = some (.int .i64 o.e) ∧ HeldL wB [(yb, #[.int .u8 ((x.op : UInt8).toNat : Int), .int .i64 ((x.mod : Nat) : Int), .bool (!x.nt), .slice ra rn rc]), (ob, #[S o.i, S o.f, .int .i64 o.e]), (xb, #[.int .u8 ((x.op : UInt8).toNat : Int), .int .i64 ((x.mod : Nat) : Int), .bool x.nt, .slice ra rn rc])] w'')) := Lib.hid (fun w' w'' h hb => ALL1.out _ (HeldL.keep (h.2.2.2.2.2.2.2.2.2.2.2) hb))
      have HS1 : Hid (HeldL wB [(yb, #[.int .u8 ((x.op : UInt8).toNat : Int), .int .i64 ((x.mod : Nat) : Int), .bool (!x.nt), .slice ra rn rc]), (ob, #[S o.i, S o.f, .int .i64 o.e]), (xb, #[.int .u8 ((x.op : UInt8).toNat : Int), .int .i64 ((x.mod : Nat) : Int), .bool x.nt, .slice ra rn rc])] _) := Lib.hid H6.out
      have TAB1 : Hid (∀ w' : World, (w'.cell? ⟨xb, 0, none⟩ = some (.int .u8 ((x.op : UInt8).toNat : Int)) ∧ w'.cell? ⟨xb, 1, none⟩ = some (.int .i64 ((x.mod : Nat) : Int)) ∧ w'.cell? ⟨xb, 2, none⟩ = some (.bool x.nt) ∧ w'.cell? ⟨xb, 3, none⟩ = some (.slice ra rn rc) ∧ w'.cell? ⟨yb, 0, none⟩ = some (.int .u8 ((x.op : UInt8).toNat : Int)) ∧ w'.cell? ⟨yb, 1, none⟩ = some (.int .i64 ((x.mod : Nat) : Int)) ∧ w'.cell? ⟨yb, 2, none⟩ = some (.bool (!x.nt)) ∧ w'.cell? ⟨yb, 3, none⟩ = some (.slice ra rn rc) ∧ w'.cell? ⟨ob, 0, none⟩ = some (S o.i) ∧ w'.cell? ⟨ob, 1, none⟩ = some (S o.f) ∧ w'.cell? ⟨ob, 2, none⟩ = some (.int .i64 o.e) ∧ HeldL wB [(yb, #[.int .u8 ((x.op : UInt8).toNat : Int), .int .i64 ((x.mod : Nat) : Int), .bool (!x.nt), .slice ra rn rc]), (ob, #[S o.i, S o.f, .int .i64 o.e]), (xb, #[.int .u8 ((x.op : UInt8).toNat : Int), .int .i64 ((x.mod : Nat) : Int), .bool x.nt, .slice ra rn rc])] w') → Tab w') := Lib.hid (fun w' h => HT.out.below (h.2.2.2.2.2.2.2.2.2.2.2).bel)
      go_region_held3 (fun w' => w'.cell? ⟨xb, 0, none⟩ = some (.int .u8 ((x.op : UInt8).toNat : Int)) ∧ w'.cell? ⟨xb, 1, none⟩ = some (.int .i64 ((x.mod : Nat) : Int)) ∧ w'.cell? ⟨xb, 2, none⟩ = some (.bool x.nt) ∧ w'.cell? ⟨xb, 3, none⟩ = some (.slice ra rn rc) ∧ w'.cell? ⟨yb, 0, none⟩ = some (.int .u8 ((x.op : UInt8).toNat : Int)) ∧ w'.cell? ⟨yb, 1, none⟩ = some (.int .i64 ((x.mod : Nat) : Int)) ∧ w'.cell? ⟨yb, 2, none⟩ = some (.bool (!x.nt)) ∧ w'.cell? ⟨yb, 3, none⟩ = some (.slice ra rn rc) ∧ w'.cell? ⟨ob, 0, none⟩ = some (S o.i) ∧ w'.cell? ⟨ob, 1, none⟩ = some (S o.f) ∧ w'.cell? ⟨ob, 2, none⟩ = some (.int .i64 o.e) ∧ HeldL wB [(yb, #[.int .u8 ((x.op : UInt8).toNat : Int), .int .i64 ((x.mod : Nat) : Int), .bool (!x.nt), .slice ra rn rc]), (ob, #[S o.i, S o.f, .int .i64 o.e]), (xb, #[.int .u8 ((x.op : UInt8).toNat : Int), .int .i64 ((x.mod : Nat) : Int), .bool x.nt, .slice ra rn rc])] w')
        (first | exact ALL1.out _ (HeldL.drew HS1.out) | exact KEEP1.out _ _ (by assumption) hb | assumption)
        (first | (go_at_call 20; (first | (with_reducible refine (holds_at x.op x.mod x.nt x.rs (.slice ra rn rc) 0 o _ HB.out (by first | exact HT.out.below HS1.out.bel.drew | exact TAB1.out _ (by assumption)) (RelB.any HRB.out _ _) (HRR.out _ (by first | exact HS1.out.bel.drew | exact BEL.out _ (by assumption))) false HE.out).mono ?_) | (with_reducible refine (holds_at x.op x.mod (!x.nt) x.rs (.slice ra rn rc) 0 o _ HB.out (by first | exact HT.out.below HS1.out.bel.drew | exact TAB1.out _ (by assumption)) (RelB.any HRB.out _ _) (HRR.out _ (by first | exact HS1.out.bel.drew | exact BEL.out _ (by assumption))) true HE2.out).mono ?_)); rintro q w30 ⟨rfl, hb⟩))
      have HH : HeldL wB [(yb, #[.int .u8 ((x.op : UInt8).toNat : Int), .int .i64 ((x.mod : Nat) : Int), .bool (!x.nt), .slice ra rn rc]), (ob, #[S o.i, S o.f, .int .i64 o.e]), (xb, #[.int .u8 ((x.op : UInt8).toNat : Int), .int .i64 ((x.mod : Nat) : Int), .bool x.nt, .slice ra rn rc])] w30 := (‹w30.cell? ⟨xb, 0, none⟩ = some (.int .u8 ((x.op : UInt8).toNat : Int)) ∧ w30.cell? ⟨xb, 1, none⟩ = some (.int .i64 ((x.mod : Nat) : Int)) ∧ w30.cell? ⟨xb, 2, none⟩ = some (.bool x.nt) ∧ w30.cell? ⟨xb, 3, none⟩ = some (.slice ra rn rc) ∧ w30.cell? ⟨yb, 0, none⟩ = some (.int .u8 ((x.op : UInt8).toNat : Int)) ∧ w30.cell? ⟨yb, 1, none⟩ = some (.int .i64 ((x.mod : Nat) : Int)) ∧ w30.cell? ⟨yb, 2, none⟩ = some (.bool (!x.nt)) ∧ w30.cell? ⟨yb, 3, none⟩ = some (.slice ra rn rc) ∧ w30.cell? ⟨ob, 0, none⟩ = some (S o.i) ∧ w30.cell? ⟨ob, 1, none⟩ = some (S o.f) ∧ w30.cell? ⟨ob, 2, none⟩ = some (.int .i64 o.e) ∧ HeldL wB [(yb, #[.int .u8 ((x.op : UInt8).toNat : Int), .int .i64 ((x.mod : Nat) : Int), .bool (!x.nt), .slice ra rn rc]), (ob, #[S o.i, S o.f, .int .i64 o.e]), (xb, #[.int .u8 ((x.op : UInt8).toNat : Int), .int .i64 ((x.mod : Nat) : Int), .bool x.nt, .slice ra rn rc])] w30›).2.2.2.2.2.2.2.2.2.2.2
      have H7 : Hid (HeldL wB [(yb, #[.int .u8 ((x.op : UInt8).toNat : Int), .int .i64 ((x.mod : Nat) : Int), .bool (!x.nt), .slice ra rn rc]), (ob, #[S o.i, S o.f, .int .i64 o.e]), (xb, #[.int .u8 ((x.op : UInt8).toNat : Int), .int .i64 ((x.mod : Nat) : Int), .bool x.nt, .slice ra rn rc])] w30) := Lib.hid HH
      clear HH ALL1 KEEP1 HS1 TAB1 H6
      clear BEL
      go_wp2
      go_meet
      case rel => exact ⟨by first | rfl | simp, H7.out⟩
  case rest =>
  obtain ⟨rfl, hh⟩ := hcut
  have H7 := Lib.hid hh
  clear hh H6
  generalize wc = w7 at *
  have x0 : w7.cell? ⟨xb, 0, none⟩ = some (.int .u8 ((x.op : UInt8).toNat : Int)) := (H7.out.f (List.Mem.tail _ (List.Mem.tail _ (List.Mem.head _)))).cell 0
  have xz0 : w7.frozen? ⟨xb, 0, none⟩ = false := (H7.out.f (List.Mem.tail _ (List.Mem.tail _ (List.Mem.head _)))).frozen 0
  have x1 : w7.cell? ⟨xb, 1, none⟩ = some (.int .i64 ((x.mod : Nat) : Int)) := (H7.out.f (List.Mem.tail _ (List.Mem.tail _ (List.Mem.head _)))).cell 1
  have xz1 : w7.frozen? ⟨xb, 1, none⟩ = false := (H7.out.f (List.Mem.tail _ (List.Mem.tail _ (List.Mem.head _)))).frozen 1
  have x2 : w7.cell? ⟨xb, 2, none⟩ = some (.bool x.nt) := (H7.out.f (List.Mem.tail _ (List.Mem.tail _ (List.Mem.head _)))).cell 2
  have xz2 : w7.frozen? ⟨xb, 2, none⟩ = false := (H7.out.f (List.Mem.tail _ (List.Mem.tail _ (List.Mem.head _)))).frozen 2
  have x3 : w7.cell? ⟨xb, 3, none⟩ = some (.slice ra rn rc) := (H7.out.f (List.Mem.tail _ (List.Mem.tail _ (List.Mem.head _)))).cell 3
  have xz3 : w7.frozen? ⟨xb, 3, none⟩ = false := (H7.out.f (List.Mem.tail _ (List.Mem.tail _ (List.Mem.head _)))).frozen 3
  have xl : xb < w7.heap.size := (H7.out.f (List.Mem.tail _ (List.Mem.tail _ (List.Mem.head _)))).lt
  go_upto_region 13 with fail
  have H8 : Hid (HeldL wB [(yb, #[.int .u8 ((x.op : UInt8).toNat : Int), .int .i64 ((x.mod : Nat) : Int), .bool (!x.nt), .slice ra rn rc]), (ob, #[S o.i, S o.f, .int .i64 o.e]), (xb, #[.int .u8 ((x.op : UInt8).toNat : Int), .int .i64 ((x.mod : Nat) : Int), .bool false, .slice ra rn rc])] (w7.setCell ⟨xb, 2, none⟩ (.bool false))) := Lib.hid (HeldL.set1 (L1 := [(yb, #[.int .u8 ((x.op : UInt8).toNat : Int), .int .i64 ((x.mod : Nat) : Int), .bool (!x.nt), .slice ra rn rc]), (ob, #[S o.i, S o.f, .int .i64 o.e])]) (L2 := []) H7.out 2 (.bool false))
  clear x0 xz0 x1 xz1 x2 xz2 x3 xz3 xl
  generalize (w7.setCell ⟨xb, 2, none⟩ (.bool false)) = w8 at *
  clear H7
  obtain ⟨l0, hl0, hand1⟩ : ∃ q : Nat, q ≤ 65535 ∧ bits .and .i64 lo 65535 = (q : Int) := and_mask lo 65535 (by decide)
  obtain ⟨m0, hm0, hand2⟩ : ∃ q : Nat, q ≤ 255 ∧ bits .and .i64 more 255 = (q : Int) := and_mask more 255 (by decide)
  obtain ⟨gr, hgr⟩ : ∃ g, ra = some ⟨g, 0, none⟩ := by
    obtain ⟨g, cap, hv, _⟩ := own_blk HRG.out HNE.out
    injection hv with h1 _ _
    exact ⟨g, h1⟩
  subst hgr
  have hrn := own_g1 HRG.out
  subst hrn
  go_cut [18] from 71 (fun vz w' => ∃ (zb : Nat) (v : Value), vz = .pointer (some ⟨zb, 0, none⟩) ∧ HeldL wB ((zb, #[.int .u8 ((x.op : UInt8).toNat : Int), .int .i64 ((x.mod : Nat) : Int), .bool false, v]) :: [(yb, #[.int .u8 ((x.op : UInt8).toNat : Int), .int .i64 ((x.mod : Nat) : Int), .bool (!x.nt), .slice (some ⟨gr, 0, none⟩) x.rs.length rc]), (ob, #[S o.i, S o.f, .int .i64 o.e]), (xb, #[.int .u8 ((x.op : UInt8).toNat : Int), .int .i64 ((x.mod : Nat) : Int), .bool false, .slice (some ⟨gr, 0, none⟩) x.rs.length rc])]) w' ∧ Rngs w' 0 ((l0, l0 + m0) :: x.rs) v)
  case first =>
    have ALL : Hid (∀ w' : World, HeldL wB [(yb, #[.int .u8 ((x.op : UInt8).toNat : Int), .int .i64 ((x.mod : Nat) : Int), .bool (!x.nt), .slice (some ⟨gr, 0, none⟩) x.rs.length rc]), (ob, #[S o.i, S o.f, .int .i64 o.e]), (xb, #[.int .u8 ((x.op : UInt8).toNat : Int), .int .i64 ((x.mod : Nat) : Int), .bool false, .slice (some ⟨gr, 0, none⟩) x.rs.length rc])] w' → w'.cell? ⟨xb, 0, none⟩ = some (.int .u8 ((x.op : UInt8).toNat : Int)) ∧ w'.cell? ⟨xb, 1, none⟩ = some (.int .i64 ((x.mod : Nat) : Int)) ∧ w'.cell? ⟨xb, 2, none⟩ = some (.bool false) ∧ w'.cell? ⟨xb, 3, none⟩ = some (.slice (some ⟨gr, 0, none⟩) x.rs.length rc) ∧ HeldL wB [(yb, #[.int .u8 ((x.op : UInt8).toNat : Int), .int .i64 ((x.mod : Nat) : Int), .bool (!x.nt), .slice (some ⟨gr, 0, none⟩) x.rs.length rc]), (ob, #[S o.i, S o.f, .int .i64 o.e]), (xb, #[.int .u8 ((x.op : UInt8).toNat : Int), .int .i64 ((x.mod : Nat) : Int), .bool false, .slice (some ⟨gr, 0, none⟩) x.rs.length rc])] w') := Lib.hid (fun w' h => ⟨(h.f (List.Mem.tail _ (List.Mem.tail _ (List.Mem.head _)))).cell 0, (h.f (List.Mem.tail _ (List.Mem.tail _ (List.Mem.head _)))).cell 1, (h.f (List.Mem.tail _ (List.Mem.tail _ (List.Mem.head _)))).cell 2, (h.f (List.Mem.tail _ (List.Mem.tail _ (List.Mem.head _)))).cell 3, h⟩)
    have HS : Hid (HeldL wB [(yb, #[.int .u8 ((x.op : UInt8).toNat : Int), .int .i64 ((x.mod : Nat) : Int), .bool (!x.nt), .slice (some ⟨gr, 0, none⟩) x.rs.length rc]), (ob, #[S o.i, S o.f, .int .i64 o.e]), (xb, #[.int .u8 ((x.op : UInt8).toNat : Int), .int .i64 ((x.mod : Nat) : Int), .bool false, .slice (some ⟨gr, 0, none⟩) x.rs.length rc])] w8) := Lib.hid H8.out
    have hlw : IntKind.i64.wrap ((l0 : Int) + (m0 : Int)) = (l0 : Int) + (m0 : Int) := by simp only [IntKind.wrap_i64]; omega
    have hlw2 : wrap64 ((l0 : Int) + (m0 : Int)) = (l0 : Int) + (m0 : Int) := by unfold wrap64; omega
    refine wp_region_held_drew (S := fun w' => w'.cell? ⟨xb, 0, none⟩ = some (.int .u8 ((x.op : UInt8).toNat : Int)) ∧ w'.cell? ⟨xb, 1, none⟩ = some (.int .i64 ((x.mod : Nat) : Int)) ∧ w'.cell? ⟨xb, 2, none⟩ = some (.bool false) ∧ w'.cell? ⟨xb, 3, none⟩ = some (.slice (some ⟨gr, 0, none⟩) x.rs.length rc) ∧ HeldL wB [(yb, #[.int .u8 ((x.op : UInt8).toNat : Int), .int .i64 ((x.mod : Nat) : Int), .bool (!x.nt), .slice (some ⟨gr, 0, none⟩) x.rs.length rc]), (ob, #[S o.i, S o.f, .int .i64 o.e]), (xb, #[.int .u8 ((x.op : UInt8).toNat : Int), .int .i64 ((x.mod : Nat) : Int), .bool false, .slice (some ⟨gr, 0, none⟩) x.rs.length rc])] w') (by kernel_rfl) (ALL.out _ (HeldL.drew HS.out)) (fun hHeld => ?_)
    obtain ⟨i0, hi, hz0, hz1, hz2⟩ := info_parts infoRange
    have hn0 := HNE.out
    have hn5 := HLN.out
    have h63 : 1 + x.rs.length ≤ maxLen := by unfold maxLen; omega
    have hby : (1 + x.rs.length) * 16 ≤ 140737488355328 := by omega
    refine wpAnyH_take (i := 0) (oi := { dst := some 72, op := Go.Op.fieldAddr 50 (Go.Operand.tmp 15) 0, type := 0, pos := "law.go:162", after := #[], guard := none }) (v := ?_) rfl (by kernel_rfl) (by kernel_rfl) (by kernel_rfl) (fun _ _ _ h => h) (Or.inl ⟨by rfl, ?_⟩) hHeld ?_
    case refine_2 => (intro w hSw; (try dsimp only at hSw); go_simp <;> with_reducible rfl)
    try simp only [Act.put, List.setIfInBounds_toArray, List.set_cons_zero, List.set_cons_succ]
    refine wpAnyH_take (i := 1) (oi := { dst := some 73, op := Go.Op.load 5 (Go.Operand.tmp 72), type := 5, pos := "law.go:162", after := #[{ on := 0, ground := Go.Ground.data }], guard := none }) (v := ?_) rfl (by kernel_rfl) (by kernel_rfl) (by kernel_rfl) (fun _ _ _ h => h) (Or.inl ⟨by rfl, ?_⟩) hHeld ?_
    case refine_2 => (intro w hSw; (try dsimp only at hSw); go_simp <;> with_reducible rfl)
    try simp only [Act.put, List.setIfInBounds_toArray, List.set_cons_zero, List.set_cons_succ]
    refine wpAnyH_take (i := 2) (oi := { dst := some 74, op := Go.Op.fieldAddr 50 (Go.Operand.tmp 15) 1, type := 0, pos := "law.go:162", after := #[], guard := none }) (v := ?_) rfl (by kernel_rfl) (by kernel_rfl) (by kernel_rfl) (fun _ _ _ h => h) (Or.inl ⟨by rfl, ?_⟩) hHeld ?_
    case refine_2 => (intro w hSw; (try dsimp only at hSw); go_simp <;> with_reducible rfl)
    try simp only [Act.put, List.setIfInBounds_toArray, List.set_cons_zero, List.set_cons_succ]
    refine wpAnyH_take (i := 3) (oi := { dst := some 75, op := Go.Op.load 3 (Go.Operand.tmp 74), type := 3, pos := "law.go:162", after := #[{ on := 2, ground := Go.Ground.data }], guard := none }) (v := ?_) rfl (by kernel_rfl) (by kernel_rfl) (by kernel_rfl) (fun _ _ _ h => h) (Or.inl ⟨by rfl, ?_⟩) hHeld ?_
    case refine_2 => (intro w hSw; (try dsimp only at hSw); go_simp <;> with_reducible rfl)
    try simp only [Act.put, List.setIfInBounds_toArray, List.set_cons_zero, List.set_cons_succ]
    refine wpAnyH_take (i := 4) (oi := { dst := some 76, op := Go.Op.move (Go.Operand.tmp 1), type := 3, pos := "law.go:162", after := #[], guard := none }) (v := ?_) rfl (by kernel_rfl) (by kernel_rfl) (by kernel_rfl) (fun _ _ _ h => h) (Or.inl ⟨by rfl, ?_⟩) hHeld ?_
    case refine_2 => (intro w hSw; (try dsimp only at hSw); go_simp <;> with_reducible rfl)
    try simp only [Act.put, List.setIfInBounds_toArray, List.set_cons_zero, List.set_cons_succ]
    refine wpAnyH_take (i := 5) (oi := { dst := some 77, op := Go.Op.binOp Go.BinOp.and 3 (Go.Operand.tmp 76) (Go.Operand.const (Go.Value.int Go.IntKind.i64 65535)) 3, type := 3, pos := "law.go:162", after := #[{ on := 4, ground := Go.Ground.data }], guard := none }) (v := ?_) rfl (by kernel_rfl) (by kernel_rfl) (by kernel_rfl) (fun _ _ _ h => h) (Or.inl ⟨by rfl, ?_⟩) hHeld ?_
    case refine_2 => (intro w hSw; (try dsimp only at hSw); go_simp <;> with_reducible rfl)
    try simp only [Act.put, List.setIfInBounds_toArray, List.set_cons_zero, List.set_cons_succ]
    refine wpAnyH_take (i := 6) (oi := { dst := some 78, op := Go.Op.move (Go.Operand.tmp 1), type := 3, pos := "law.go:162", after := #[], guard := none }) (v := ?_) rfl (by kernel_rfl) (by kernel_rfl) (by kernel_rfl) (fun _ _ _ h => h) (Or.inl ⟨by rfl, ?_⟩) hHeld ?_
    case refine_2 => (intro w hSw; (try dsimp only at hSw); go_simp <;> with_reducible rfl)
    try simp only [Act.put, List.setIfInBounds_toArray, List.set_cons_zero, List.set_cons_succ]
    refine wpAnyH_take (i := 7) (oi := { dst := some 79, op := Go.Op.binOp Go.BinOp.and 3 (Go.Operand.tmp 78) (Go.Operand.const (Go.Value.int Go.IntKind.i64 65535)) 3, type := 3, pos := "law.go:162", after := #[{ on := 6, ground := Go.Ground.data }], guard := none }) (v := ?_) rfl (by kernel_rfl) (by kernel_rfl) (by kernel_rfl) (fun _ _ _ h => h) (Or.inl ⟨by rfl, ?_⟩) hHeld ?_
    case refine_2 => (intro w hSw; (try dsimp only at hSw); go_simp <;> with_reducible rfl)
    try simp only [Act.put, List.setIfInBounds_toArray, List.set_cons_zero, List.set_cons_succ]
    refine wpAnyH_take (i := 8) (oi := { dst := some 80, op := Go.Op.move (Go.Operand.tmp 2), type := 3, pos := "law.go:162", after := #[], guard := none }) (v := ?_) rfl (by kernel_rfl) (by kernel_rfl) (by kernel_rfl) (fun _ _ _ h => h) (Or.inl ⟨by rfl, ?_⟩) hHeld ?_
    case refine_2 => (intro w hSw; (try dsimp only at hSw); go_simp <;> with_reducible rfl)
    try simp only [Act.put, List.setIfInBounds_toArray, List.set_cons_zero, List.set_cons_succ]
    refine wpAnyH_take (i := 9) (oi := { dst := some 81, op := Go.Op.binOp Go.BinOp.and 3 (Go.Operand.tmp 80) (Go.Operand.const (Go.Value.int Go.IntKind.i64 255)) 3, type := 3, pos := "law.go:162", after := #[{ on := 8, ground := Go.Ground.data }], guard := none }) (v := ?_) rfl (by kernel_rfl) (by kernel_rfl) (by kernel_rfl) (fun _ _ _ h => h) (Or.inl ⟨by rfl, ?_⟩) hHeld ?_
    case refine_2 => (intro w hSw; (try dsimp only at hSw); go_simp <;> with_reducible rfl)
    try simp only [Act.put, List.setIfInBounds_toArray, List.set_cons_zero, List.set_cons_succ]
    refine wpAnyH_take (i := 10) (oi := { dst := some 82, op := Go.Op.binOp Go.BinOp.add 3 (Go.Operand.tmp 79) (Go.Operand.tmp 81) 3, type := 3, pos := "law.go:162", after := #[{ on := 7, ground := Go.Ground.data }, { on := 9, ground := Go.Ground.data }], guard := none }) (v := ?_) rfl (by kernel_rfl) (by kernel_rfl) (by kernel_rfl) (fun _ _ _ h => h) (Or.inl ⟨by rfl, ?_⟩) hHeld ?_
    case refine_2 => (intro w hSw; (try dsimp only at hSw); go_simp <;> with_reducible rfl)
    try simp only [Act.put, List.setIfInBounds_toArray, List.set_cons_zero, List.set_cons_succ]
    refine wpAnyH_take (i := 11) (oi := { dst := some 83, op := Go.Op.build 64 #[(0, Go.Operand.tmp 77), (1, Go.Operand.tmp 82)], type := 64, pos := "law.go:162", after := #[{ on := 5, ground := Go.Ground.data }, { on := 10, ground := Go.Ground.data }], guard := none }) (v := ?_) rfl (by kernel_rfl) (by kernel_rfl) (by kernel_rfl) (fun _ _ _ h => h) (Or.inl ⟨by rfl, ?_⟩) hHeld ?_
    case refine_2 => (intro w hSw; (try dsimp only at hSw); go_simp <;> with_reducible rfl)
    try simp only [Act.put, List.setIfInBounds_toArray, List.set_cons_zero, List.set_cons_succ]
    refine wpAnyH_take (i := 13) (oi := { dst := some 85, op := Go.Op.fieldAddr 50 (Go.Operand.tmp 15) 3, type := 0, pos := "law.go:162", after := #[], guard := none }) (v := ?_) rfl (by kernel_rfl) (by kernel_rfl) (by kernel_rfl) (fun _ _ _ h => h) (Or.inl ⟨by rfl, ?_⟩) hHeld ?_
    case refine_2 => (intro w hSw; (try dsimp only at hSw); go_simp <;> with_reducible rfl)
    try simp only [Act.put, List.setIfInBounds_toArray, List.set_cons_zero, List.set_cons_succ]
    refine wpAnyH_take (i := 14) (oi := { dst := some 86, op := Go.Op.load 48 (Go.Operand.tmp 85), type := 48, pos := "law.go:162", after := #[{ on := 13, ground := Go.Ground.data }], guard := none }) (v := ?_) rfl (by kernel_rfl) (by kernel_rfl) (by kernel_rfl) (fun _ _ _ h => h) (Or.inl ⟨by rfl, ?_⟩) hHeld ?_
    case refine_2 => (intro w hSw; (try dsimp only at hSw); go_simp <;> with_reducible rfl)
    try simp only [Act.put, List.setIfInBounds_toArray, List.set_cons_zero, List.set_cons_succ]
    refine wpAnyH_ready (rs := [12, 17]) (by kernel_rfl) (by simp) ?_
    refine (AllReadyH.cons (o := { dst := some 84, op := Go.Op.buildSlice 48 1 #[(0, Go.Operand.tmp 83)], type := 48, pos := "law.go:162", after := #[{ on := 11, ground := Go.Ground.data }], guard := none }) rfl (fun KK hK => ?_) (AllReadyH.cons (o := { dst := some 18, op := Go.Op.alloc 50, type := 0, pos := "law.go:162", after := #[], guard := none }) rfl (fun KK hK => ?_) AllReadyH.nil))
    ·
      have HL0 := Lib.hid (hHeld.2.2.2.2)
      go_simp
      have HA : Hid ((w8.alloc (.cells #[.int .i64 ((l0 : Nat) : Int), .int .i64 ((l0 : Int) + (m0 : Int))] 64)).drew.ownsRow (w8.heap.size) 64 2 (.slice (some ⟨w8.heap.size, 0, none⟩) 1 1) 1 [.int .i64 ((l0 : Nat) : Int), .int .i64 ((l0 : Int) + (m0 : Int))]) := Lib.hid (by
        have e := World.ownsRow_lit (e := 64) (size := 2) (base := w8.heap.size) w8 #[.int .i64 ((l0 : Nat) : Int), .int .i64 ((l0 : Int) + (m0 : Int))] 1 (by first | exact Nat.le_refl _ | (simp; done)) (by decide) rfl
        first | exact e | (rw [World.size_alloc] at e; exact e))
      refine hK.out _ _ (ALL.out _ (HeldL.skip HL0.out _)) (fun hHeld2 => ?_)
      clear hK hHeld
      have hHeld := hHeld2
      clear hHeld2
      try simp only [Act.put, List.setIfInBounds_toArray, List.set_cons_zero, List.set_cons_succ]
      refine wpAnyH_ready (rs := [15, 17]) (by kernel_rfl) (by simp) ?_
      refine (AllReadyH.cons (o := { dst := some 87, op := Go.Op.call { callee := Go.Callee.builtin Go.Builtin.append, args := #[Go.Operand.tmp 84, Go.Operand.tmp 86], argTypes := #[48, 48] }, type := 48, pos := "law.go:162", after := #[{ on := 12, ground := Go.Ground.data }, { on := 14, ground := Go.Ground.data }], guard := none }) rfl (fun KK hK => ?_) (AllReadyH.cons (o := { dst := some 18, op := Go.Op.alloc 50, type := 0, pos := "law.go:162", after := #[], guard := none }) rfl (fun KK hK => ?_) AllReadyH.nil))
      ·
        refine step_append_lies _ rfl _ _ 48 rfl (w8.heap.size) 64 i0 (.agg #[.int .i64 0, .int .i64 0]) 2 16 Tryz.underlying48 hi hz0 hz1 hz2 rfl (by decide) (.slice (some ⟨w8.heap.size, 0, none⟩) 1 1) 1 [.int .i64 ((l0 : Nat) : Int), .int .i64 ((l0 : Int) + (m0 : Int))] rfl HA.out ⟨gr, 0, none⟩ x.rs.length rc (rngC x.rs) rfl HRG.out.1 (rng_news HRG.out (hHeld.2.2.2.2).bel) (rngC_one x.rs) hn0 h63 hby (by first | exact Nat.le_refl _ | (simp; done) | (simp; omega) | omega) _ rfl ?_
        intro gz capz w2 hown hgr hgz hgl
        have HOWN := Lib.hid hown
        have hgz2 : gz = w8.heap.size ∨ gz = w8.heap.size + 1 := by
          rcases hgz with h | h
          · left; have h2 : w8.heap.size = gz := by injection h
            exact h2.symm
          · right; rw [h]; first | rfl | (simp; done)
        have HL1 : Hid (HeldL wB [(yb, #[.int .u8 ((x.op : UInt8).toNat : Int), .int .i64 ((x.mod : Nat) : Int), .bool (!x.nt), .slice (some ⟨gr, 0, none⟩) x.rs.length rc]), (ob, #[S o.i, S o.f, .int .i64 o.e]), (xb, #[.int .u8 ((x.op : UInt8).toNat : Int), .int .i64 ((x.mod : Nat) : Int), .bool false, .slice (some ⟨gr, 0, none⟩) x.rs.length rc])] w2) := Lib.hid (HeldL.grownNe (hHeld.2.2.2.2) hgr (fun k hk => by
          obtain rfl : w8.heap.size = k := by injection hk
          refine ⟨Nat.le_trans HS.out.bel.size (by simp), fun p hp => ?_⟩
          have := HS.out.ltAll p hp
          omega))
        clear hown hgr hgz HA
        refine hK.out _ _ (ALL.out _ HL1.out) (fun hHeld2 => ?_)
        clear HL1
        clear hK hHeld
        have hHeld := hHeld2
        clear hHeld2
        try simp only [Act.put, List.setIfInBounds_toArray, List.set_cons_zero, List.set_cons_succ]
        refine wpAnyH_take (i := 16) (oi := { dst := some 88, op := Go.Op.build 50 #[(0, Go.Operand.tmp 73), (1, Go.Operand.tmp 75), (3, Go.Operand.tmp 87)], type := 50, pos := "law.go:162", after := #[{ on := 1, ground := Go.Ground.data }, { on := 3, ground := Go.Ground.data }, { on := 15, ground := Go.Ground.data }], guard := none }) (v := ?_) rfl (by kernel_rfl) (by kernel_rfl) (by kernel_rfl) (fun _ _ _ h => h) (Or.inl ⟨by rfl, ?_⟩) hHeld ?_
        case refine_2 => (intro w hSw; (try dsimp only at hSw); go_simp <;> with_reducible rfl)
        try simp only [Act.put, List.setIfInBounds_toArray, List.set_cons_zero, List.set_cons_succ]
        refine wpAnyH_ready (rs := [17]) (by kernel_rfl) (by simp) ?_
        refine (AllReadyH.cons (o := { dst := some 18, op := Go.Op.alloc 50, type := 0, pos := "law.go:162", after := #[], guard := none }) rfl (fun KK hK => ?_) AllReadyH.nil)
        have hH0 := hHeld
        go_simp
        refine hK.out _ _ (ALL.out _ (HeldL.skip (hHeld.2.2.2.2) _)) (fun hHeld2 => ?_)
        clear hK hHeld
        have hHeld := hHeld2
        clear hHeld2
        try simp only [Act.put, List.setIfInBounds_toArray, List.set_cons_zero, List.set_cons_succ]
        refine wpAnyH_ready (rs := [18]) (by kernel_rfl) (by simp) ?_
        refine (AllReadyH.cons (o := { dst := none, op := Go.Op.store 50 (Go.Operand.tmp 18) (Go.Operand.tmp 88), type := 0, pos := "law.go:162", after := #[{ on := 17, ground := Go.Ground.data }, { on := 16, ground := Go.Ground.data }, { on := 15, ground := Go.Ground.chain }, { on := 0, ground := Go.Ground.phase }, { on := 1, ground := Go.Ground.phase }, { on := 2, ground := Go.Ground.phase }, { on := 3, ground := Go.Ground.phase }, { on := 4, ground := Go.Ground.phase }, { on := 5, ground := Go.Ground.phase }, { on := 6, ground := Go.Ground.phase }, { on := 7, ground := Go.Ground.phase }, { on := 8, ground := Go.Ground.phase }, { on := 9, ground := Go.Ground.phase }, { on := 10, ground := Go.Ground.phase }, { on := 11, ground := Go.Ground.phase }, { on := 12, ground := Go.Ground.phase }, { on := 13, ground := Go.Ground.phase }, { on := 14, ground := Go.Ground.phase }, { on := 15, ground := Go.Ground.phase }, { on := 16, ground := Go.Ground.phase }, { on := 17, ground := Go.Ground.phase }], guard := none }) rfl (fun KK hK => ?_) AllReadyH.nil)
        go_simp
        refine hK.out _ _ (ALL.out _ (HeldL.skip (hH0.2.2.2.2) _)) (fun hHeld2 => ?_)
        clear hK hHeld
        have hHeld := hHeld2
        clear hHeld2
        try simp only [Act.put, List.setIfInBounds_toArray, List.set_cons_zero, List.set_cons_succ]
        refine wpAnyH_done (by kernel_rfl) ?_ _
        go_wp2
        go_meet
        case rel => exact ⟨_, _, rfl, HeldL.alloc (hH0.2.2.2.2) _ _ _ rfl, rngs_cons (HOWN.out.alloc _)⟩
      ·
        have HL0 := Lib.hid (hHeld.2.2.2.2)
        go_simp
        have HN : Hid (HeldL wB ((w8.heap.size + 1, #[.int .u8 0, .int .i64 0, .bool false, .slice none 0 0]) :: [(yb, #[.int .u8 ((x.op : UInt8).toNat : Int), .int .i64 ((x.mod : Nat) : Int), .bool (!x.nt), .slice (some ⟨gr, 0, none⟩) x.rs.length rc]), (ob, #[S o.i, S o.f, .int .i64 o.e]), (xb, #[.int .u8 ((x.op : UInt8).toNat : Int), .int .i64 ((x.mod : Nat) : Int), .bool false, .slice (some ⟨gr, 0, none⟩) x.rs.length rc])]) _) := Lib.hid (HeldL.alloc HL0.out (w8.heap.size + 1) #[.int .u8 0, .int .i64 0, .bool false, .slice none 0 0] 50 (by first | rfl | simp))
        refine hK.out _ _ (ALL.out _ (HeldL.tail HN.out)) (fun hHeld2 => ?_)
        clear hK hHeld
        have hHeld := hHeld2
        clear hHeld2
        try simp only [Act.put, List.setIfInBounds_toArray, List.set_cons_zero, List.set_cons_succ]
        have HA2 : Hid (((w8.alloc (.cells #[.int .i64 ((l0 : Nat) : Int), .int .i64 ((l0 : Int) + (m0 : Int))] 64)).alloc (.cells #[.int .u8 0, .int .i64 0, .bool false, .slice none 0 0] 50)).drew.ownsRow (w8.heap.size) 64 2 (.slice (some ⟨w8.heap.size, 0, none⟩) 1 1) 1 [.int .i64 ((l0 : Nat) : Int), .int .i64 ((l0 : Int) + (m0 : Int))]) := Lib.hid (HA.out.alloc (.cells #[.int .u8 0, .int .i64 0, .bool false, .slice none 0 0] 50))
        clear HA
        have HA := HA2
        clear HA2
        refine wpAnyH_ready (rs := [15]) (by kernel_rfl) (by simp) ?_
        refine (AllReadyH.cons (o := { dst := some 87, op := Go.Op.call { callee := Go.Callee.builtin Go.Builtin.append, args := #[Go.Operand.tmp 84, Go.Operand.tmp 86], argTypes := #[48, 48] }, type := 48, pos := "law.go:162", after := #[{ on := 12, ground := Go.Ground.data }, { on := 14, ground := Go.Ground.data }], guard := none }) rfl (fun KK hK => ?_) AllReadyH.nil)
        refine step_append_lies _ rfl _ _ 48 rfl (w8.heap.size) 64 i0 (.agg #[.int .i64 0, .int .i64 0]) 2 16 Tryz.underlying48 hi hz0 hz1 hz2 rfl (by decide) (.slice (some ⟨w8.heap.size, 0, none⟩) 1 1) 1 [.int .i64 ((l0 : Nat) : Int), .int .i64 ((l0 : Int) + (m0 : Int))] rfl HA.out ⟨gr, 0, none⟩ x.rs.length rc (rngC x.rs) rfl HRG.out.1 (rng_news HRG.out (hHeld.2.2.2.2).bel) (rngC_one x.rs) hn0 h63 hby (by first | exact Nat.le_refl _ | (simp; done) | (simp; omega) | omega) _ rfl ?_
        intro gz capz w2 hown hgr hgz hgl
        have HOWN := Lib.hid hown
        have hgz2 : gz = w8.heap.size ∨ gz = w8.heap.size + 1 + 1 := by
          rcases hgz with h | h
          · left; have h2 : w8.heap.size = gz := by injection h
            exact h2.symm
          · right; rw [h]; first | rfl | (simp; done)
        have HL1 : Hid (HeldL wB [(yb, #[.int .u8 ((x.op : UInt8).toNat : Int), .int .i64 ((x.mod : Nat) : Int), .bool (!x.nt), .slice (some ⟨gr, 0, none⟩) x.rs.length rc]), (ob, #[S o.i, S o.f, .int .i64 o.e]), (xb, #[.int .u8 ((x.op : UInt8).toNat : Int), .int .i64 ((x.mod : Nat) : Int), .bool false, .slice (some ⟨gr, 0, none⟩) x.rs.length rc])] w2) := Lib.hid (HeldL.grownNe (hHeld.2.2.2.2) hgr (fun k hk => by
          obtain rfl : w8.heap.size = k := by injection hk
          refine ⟨Nat.le_trans HS.out.bel.size (by simp), fun p hp => ?_⟩
          have := HS.out.ltAll p hp
          omega))
        have HM : Hid (HeldL wB ((w8.heap.size + 1, #[.int .u8 0, .int .i64 0, .bool false, .slice none 0 0]) :: [(yb, #[.int .u8 ((x.op : UInt8).toNat : Int), .int .i64 ((x.mod : Nat) : Int), .bool (!x.nt), .slice (some ⟨gr, 0, none⟩) x.rs.length rc]), (ob, #[S o.i, S o.f, .int .i64 o.e]), (xb, #[.int .u8 ((x.op : UInt8).toNat : Int), .int .i64 ((x.mod : Nat) : Int), .bool false, .slice (some ⟨gr, 0, none⟩) x.rs.length rc])]) w2) := Lib.hid (HeldL.grownNe HN.out hgr (fun k hk => by
          obtain rfl : w8.heap.size = k := by injection hk
          refine ⟨Nat.le_trans HS.out.bel.size (by simp), fun p hp => ?_⟩
          rcases List.mem_cons.1 hp with h | h
          · rw [h]; simp
          · have := HS.out.ltAll p h
            omega))
        clear HN
        have HN := HM
        clear HM
        clear hown hgr hgz HA
        refine hK.out _ _ (ALL.out _ HL1.out) (fun hHeld2 => ?_)
        clear HL1
        clear hK hHeld
        have hHeld := hHeld2
        clear hHeld2
        try simp only [Act.put, List.setIfInBounds_toArray, List.set_cons_zero, List.set_cons_succ]
        refine wpAnyH_take (i := 16) (oi := { dst := some 88, op := Go.Op.build 50 #[(0, Go.Operand.tmp 73), (1, Go.Operand.tmp 75), (3, Go.Operand.tmp 87)], type := 50, pos := "law.go:162", after := #[{ on := 1, ground := Go.Ground.data }, { on := 3, ground := Go.Ground.data }, { on := 15, ground := Go.Ground.data }], guard := none }) (v := ?_) rfl (by kernel_rfl) (by kernel_rfl) (by kernel_rfl) (fun _ _ _ h => h) (Or.inl ⟨by rfl, ?_⟩) hHeld ?_
        case refine_2 => (intro w hSw; (try dsimp only at hSw); go_simp <;> with_reducible rfl)
        try simp only [Act.put, List.setIfInBounds_toArray, List.set_cons_zero, List.set_cons_succ]
        refine wpAnyH_ready (rs := [18]) (by kernel_rfl) (by simp) ?_
        refine (AllReadyH.cons (o := { dst := none, op := Go.Op.store 50 (Go.Operand.tmp 18) (Go.Operand.tmp 88), type := 0, pos := "law.go:162", after := #[{ on := 17, ground := Go.Ground.data }, { on := 16, ground := Go.Ground.data }, { on := 15, ground := Go.Ground.chain }, { on := 0, ground := Go.Ground.phase }, { on := 1, ground := Go.Ground.phase }, { on := 2, ground := Go.Ground.phase }, { on := 3, ground := Go.Ground.phase }, { on := 4, ground := Go.Ground.phase }, { on := 5, ground := Go.Ground.phase }, { on := 6, ground := Go.Ground.phase }, { on := 7, ground := Go.Ground.phase }, { on := 8, ground := Go.Ground.phase }, { on := 9, ground := Go.Ground.phase }, { on := 10, ground := Go.Ground.phase }, { on := 11, ground := Go.Ground.phase }, { on := 12, ground := Go.Ground.phase }, { on := 13, ground := Go.Ground.phase }, { on := 14, ground := Go.Ground.phase }, { on := 15, ground := Go.Ground.phase }, { on := 16, ground := Go.Ground.phase }, { on := 17, ground := Go.Ground.phase }], guard := none }) rfl (fun KK hK => ?_) AllReadyH.nil)
        obtain ⟨nn0, nn1, nn2, nn3, nnz0, nnz1, nnz2, nnz3, nnl⟩ := box_four (HN.out.f (List.Mem.head _))
        go_simp
        have HN2 := Lib.hid (HeldL.store4 [] [(yb, #[.int .u8 ((x.op : UInt8).toNat : Int), .int .i64 ((x.mod : Nat) : Int), .bool (!x.nt), .slice (some ⟨gr, 0, none⟩) x.rs.length rc]), (ob, #[S o.i, S o.f, .int .i64 o.e]), (xb, #[.int .u8 ((x.op : UInt8).toNat : Int), .int .i64 ((x.mod : Nat) : Int), .bool false, .slice (some ⟨gr, 0, none⟩) x.rs.length rc])] HN.out (.int .u8 ((x.op : UInt8).toNat : Int)) (.int .i64 ((x.mod : Nat) : Int)) (.bool false) (.slice (some ⟨gz, 0, none⟩) (1 + x.rs.length) capz))
        have hgc : gz ≠ w8.heap.size + 1 := by omega
        have HRZ := Lib.hid (own_setNe (own_setNe (own_setNe (own_setNe HOWN.out (b := w8.heap.size + 1) (own_blk_ne hgc) 0 (.int .u8 ((x.op : UInt8).toNat : Int))) (own_blk_ne hgc) 1 (.int .i64 ((x.mod : Nat) : Int))) (own_blk_ne hgc) 2 (.bool false)) (own_blk_ne hgc) 3 (.slice (some ⟨gz, 0, none⟩) (1 + x.rs.length) capz))
        refine hK.out _ _ (ALL.out _ (HeldL.tail HN2.out)) (fun hHeld2 => ?_)
        clear hK hHeld
        have hHeld := hHeld2
        clear hHeld2
        try simp only [Act.put, List.setIfInBounds_toArray, List.set_cons_zero, List.set_cons_succ]
        refine wpAnyH_done (by kernel_rfl) ?_ _
        go_wp2
        go_meet
        case rel => exact ⟨_, _, rfl, HN2.out, rngs_cons HRZ.out⟩
    ·
      have HL0 := Lib.hid (hHeld.2.2.2.2)
      go_simp
      have HN : Hid (HeldL wB ((w8.heap.size, #[.int .u8 0, .int .i64 0, .bool false, .slice none 0 0]) :: [(yb, #[.int .u8 ((x.op : UInt8).toNat : Int), .int .i64 ((x.mod : Nat) : Int), .bool (!x.nt), .slice (some ⟨gr, 0, none⟩) x.rs.length rc]), (ob, #[S o.i, S o.f, .int .i64 o.e]), (xb, #[.int .u8 ((x.op : UInt8).toNat : Int), .int .i64 ((x.mod : Nat) : Int), .bool false, .slice (some ⟨gr, 0, none⟩) x.rs.length rc])]) _) := Lib.hid (HeldL.alloc HL0.out (w8.heap.size) #[.int .u8 0, .int .i64 0, .bool false, .slice none 0 0] 50 (by first | rfl | simp))
      refine hK.out _ _ (ALL.out _ (HeldL.tail HN.out)) (fun hHeld2 => ?_)
      clear hK hHeld
      have hHeld := hHeld2
      clear hHeld2
      try simp only [Act.put, List.setIfInBounds_toArray, List.set_cons_zero, List.set_cons_succ]
      refine wpAnyH_ready (rs := [12]) (by kernel_rfl) (by simp) ?_
      refine (AllReadyH.cons (o := { dst := some 84, op := Go.Op.buildSlice 48 1 #[(0, Go.Operand.tmp 83)], type := 48, pos := "law.go:162", after := #[{ on := 11, ground := Go.Ground.data }], guard := none }) rfl (fun KK hK => ?_) AllReadyH.nil)
      have HL0 := Lib.hid (hHeld.2.2.2.2)
      go_simp
      have HA : Hid (((w8.alloc (.cells #[.int .u8 0, .int .i64 0, .bool false, .slice none 0 0] 50)).alloc (.cells #[.int .i64 ((l0 : Nat) : Int), .int .i64 ((l0 : Int) + (m0 : Int))] 64)).drew.ownsRow (w8.heap.size + 1) 64 2 (.slice (some ⟨w8.heap.size + 1, 0, none⟩) 1 1) 1 [.int .i64 ((l0 : Nat) : Int), .int .i64 ((l0 : Int) + (m0 : Int))]) := Lib.hid (by
        have e := World.ownsRow_lit (e := 64) (size := 2) (base := w8.heap.size + 1) (w8.alloc (.cells #[.int .u8 0, .int .i64 0, .bool false, .slice none 0 0] 50)) #[.int .i64 ((l0 : Nat) : Int), .int .i64 ((l0 : Int) + (m0 : Int))] 1 (by first | exact Nat.le_refl _ | (simp; done)) (by decide) rfl
        first | exact e | (rw [World.size_alloc] at e; exact e))
      refine hK.out _ _ (ALL.out _ (HeldL.skip HL0.out _)) (fun hHeld2 => ?_)
      have HM := Lib.hid (HeldL.skip HN.out (.cells #[.int .i64 ((l0 : Nat) : Int), .int .i64 ((l0 : Int) + (m0 : Int))] 64))
      clear HN
      have HN := HM
      clear HM
      clear hK hHeld
      have hHeld := hHeld2
      clear hHeld2
      try simp only [Act.put, List.setIfInBounds_toArray, List.set_cons_zero, List.set_cons_succ]
      refine wpAnyH_ready (rs := [15]) (by kernel_rfl) (by simp) ?_
      refine (AllReadyH.cons (o := { dst := some 87, op := Go.Op.call { callee := Go.Callee.builtin Go.Builtin.append, args := #[Go.Operand.tmp 84, Go.Operand.tmp 86], argTypes := #[48, 48] }, type := 48, pos := "law.go:162", after := #[{ on := 12, ground := Go.Ground.data }, { on := 14, ground := Go.Ground.data }], guard := none }) rfl (fun KK hK => ?_) AllReadyH.nil)
      refine step_append_lies _ rfl _ _ 48 rfl (w8.heap.size + 1) 64 i0 (.agg #[.int .i64 0, .int .i64 0]) 2 16 Tryz.underlying48 hi hz0 hz1 hz2 rfl (by decide) (.slice (some ⟨w8.heap.size + 1, 0, none⟩) 1 1) 1 [.int .i64 ((l0 : Nat) : Int), .int .i64 ((l0 : Int) + (m0 : Int))] rfl HA.out ⟨gr, 0, none⟩ x.rs.length rc (rngC x.rs) rfl HRG.out.1 (rng_news HRG.out (hHeld.2.2.2.2).bel) (rngC_one x.rs) hn0 h63 hby (by first | exact Nat.le_refl _ | (simp; done) | (simp; omega) | omega) _ rfl ?_
      intro gz capz w2 hown hgr hgz hgl
      have HOWN := Lib.hid hown
      have hgz2 : gz = w8.heap.size + 1 ∨ gz = w8.heap.size + 1 + 1 := by
        rcases hgz with h | h
        · left; have h2 : w8.heap.size + 1 = gz := by injection h
          exact h2.symm
        · right; rw [h]; first | rfl | (simp; done)
      have HL1 : Hid (HeldL wB [(yb, #[.int .u8 ((x.op : UInt8).toNat : Int), .int .i64 ((x.mod : Nat) : Int), .bool (!x.nt), .slice (some ⟨gr, 0, none⟩) x.rs.length rc]), (ob, #[S o.i, S o.f, .int .i64 o.e]), (xb, #[.int .u8 ((x.op : UInt8).toNat : Int), .int .i64 ((x.mod : Nat) : Int), .bool false, .slice (some ⟨gr, 0, none⟩) x.rs.length rc])] w2) := Lib.hid (HeldL.grownNe (hHeld.2.2.2.2) hgr (fun k hk => by
        obtain rfl : w8.heap.size + 1 = k := by injection hk
        refine ⟨Nat.le_trans HS.out.bel.size (by simp), fun p hp => ?_⟩
        have := HS.out.ltAll p hp
        omega))
      have HM : Hid (HeldL wB ((w8.heap.size, #[.int .u8 0, .int .i64 0, .bool false, .slice none 0 0]) :: [(yb, #[.int .u8 ((x.op : UInt8).toNat : Int), .int .i64 ((x.mod : Nat) : Int), .bool (!x.nt), .slice (some ⟨gr, 0, none⟩) x.rs.length rc]), (ob, #[S o.i, S o.f, .int .i64 o.e]), (xb, #[.int .u8 ((x.op : UInt8).toNat : Int), .int .i64 ((x.mod : Nat) : Int), .bool false, .slice (some ⟨gr, 0, none⟩) x.rs.length rc])]) w2) := Lib.hid (HeldL.grownNe HN.out hgr (fun k hk => by
        obtain rfl : w8.heap.size + 1 = k := by injection hk
        refine ⟨Nat.le_trans HS.out.bel.size (by simp), fun p hp => ?_⟩
        rcases List.mem_cons.1 hp with h | h
        · rw [h]; simp
        · have := HS.out.ltAll p h
          omega))
      clear HN
      have HN := HM
      clear HM
      clear hown hgr hgz HA
      refine hK.out _ _ (ALL.out _ HL1.out) (fun hHeld2 => ?_)
      clear HL1
      clear hK hHeld
      have hHeld := hHeld2
      clear hHeld2
      try simp only [Act.put, List.setIfInBounds_toArray, List.set_cons_zero, List.set_cons_succ]
      refine wpAnyH_take (i := 16) (oi := { dst := some 88, op := Go.Op.build 50 #[(0, Go.Operand.tmp 73), (1, Go.Operand.tmp 75), (3, Go.Operand.tmp 87)], type := 50, pos := "law.go:162", after := #[{ on := 1, ground := Go.Ground.data }, { on := 3, ground := Go.Ground.data }, { on := 15, ground := Go.Ground.data }], guard := none }) (v := ?_) rfl (by kernel_rfl) (by kernel_rfl) (by kernel_rfl) (fun _ _ _ h => h) (Or.inl ⟨by rfl, ?_⟩) hHeld ?_
      case refine_2 => (intro w hSw; (try dsimp only at hSw); go_simp <;> with_reducible rfl)
      try simp only [Act.put, List.setIfInBounds_toArray, List.set_cons_zero, List.set_cons_succ]
      refine wpAnyH_ready (rs := [18]) (by kernel_rfl) (by simp) ?_
      refine (AllReadyH.cons (o := { dst := none, op := Go.Op.store 50 (Go.Operand.tmp 18) (Go.Operand.tmp 88), type := 0, pos := "law.go:162", after := #[{ on := 17, ground := Go.Ground.data }, { on := 16, ground := Go.Ground.data }, { on := 15, ground := Go.Ground.chain }, { on := 0, ground := Go.Ground.phase }, { on := 1, ground := Go.Ground.phase }, { on := 2, ground := Go.Ground.phase }, { on := 3, ground := Go.Ground.phase }, { on := 4, ground := Go.Ground.phase }, { on := 5, ground := Go.Ground.phase }, { on := 6, ground := Go.Ground.phase }, { on := 7, ground := Go.Ground.phase }, { on := 8, ground := Go.Ground.phase }, { on := 9, ground := Go.Ground.phase }, { on := 10, ground := Go.Ground.phase }, { on := 11, ground := Go.Ground.phase }, { on := 12, ground := Go.Ground.phase }, { on := 13, ground := Go.Ground.phase }, { on := 14, ground := Go.Ground.phase }, { on := 15, ground := Go.Ground.phase }, { on := 16, ground := Go.Ground.phase }, { on := 17, ground := Go.Ground.phase }], guard := none }) rfl (fun KK hK => ?_) AllReadyH.nil)
      obtain ⟨nn0, nn1, nn2, nn3, nnz0, nnz1, nnz2, nnz3, nnl⟩ := box_four (HN.out.f (List.Mem.head _))
      go_simp
      have HN2 := Lib.hid (HeldL.store4 [] [(yb, #[.int .u8 ((x.op : UInt8).toNat : Int), .int .i64 ((x.mod : Nat) : Int), .bool (!x.nt), .slice (some ⟨gr, 0, none⟩) x.rs.length rc]), (ob, #[S o.i, S o.f, .int .i64 o.e]), (xb, #[.int .u8 ((x.op : UInt8).toNat : Int), .int .i64 ((x.mod : Nat) : Int), .bool false, .slice (some ⟨gr, 0, none⟩) x.rs.length rc])] HN.out (.int .u8 ((x.op : UInt8).toNat : Int)) (.int .i64 ((x.mod : Nat) : Int)) (.bool false) (.slice (some ⟨gz, 0, none⟩) (1 + x.rs.length) capz))
      have hgc : gz ≠ w8.heap.size := by omega
      have HRZ := Lib.hid (own_setNe (own_setNe (own_setNe (own_setNe HOWN.out (b := w8.heap.size) (own_blk_ne hgc) 0 (.int .u8 ((x.op : UInt8).toNat : Int))) (own_blk_ne hgc) 1 (.int .i64 ((x.mod : Nat) : Int))) (own_blk_ne hgc) 2 (.bool false)) (own_blk_ne hgc) 3 (.slice (some ⟨gz, 0, none⟩) (1 + x.rs.length) capz))
      refine hK.out _ _ (ALL.out _ (HeldL.tail HN2.out)) (fun hHeld2 => ?_)
      clear hK hHeld
      have hHeld := hHeld2
      clear hHeld2
      try simp only [Act.put, List.setIfInBounds_toArray, List.set_cons_zero, List.set_cons_succ]
      refine wpAnyH_done (by kernel_rfl) ?_ _
      go_wp2
      go_meet
      case rel => exact ⟨_, _, rfl, HN2.out, rngs_cons HRZ.out⟩
  case rest =>
  obtain ⟨zb, v, rfl, hh, hrz⟩ := hcut
  obtain ⟨gz, capz, hv, hcz, hcm, _, hgz, hcell⟩ := own_blk hrz (by simp)
  subst hv
  have H9 : Hid (HeldL wB [(zb, #[.int .u8 ((x.op : UInt8).toNat : Int), .int .i64 ((x.mod : Nat) : Int), .bool false, .slice (some ⟨gz, 0, none⟩) (x.rs.length + 1) capz]), (yb, #[.int .u8 ((x.op : UInt8).toNat : Int), .int .i64 ((x.mod : Nat) : Int), .bool (!x.nt), .slice (some ⟨gr, 0, none⟩) x.rs.length rc]), (ob, #[S o.i, S o.f, .int .i64 o.e]), (xb, #[.int .u8 ((x.op : UInt8).toNat : Int), .int .i64 ((x.mod : Nat) : Int), .bool false, .slice (some ⟨gr, 0, none⟩) x.rs.length rc])] wc) := Lib.hid hh
  have HRZ : Hid (Rngs wc 0 ((l0, l0 + m0) :: x.rs) (.slice (some ⟨gz, 0, none⟩) (x.rs.length + 1) capz)) := Lib.hid hrz
  clear hh hcell hrz H8
  generalize wc = w9 at *
  clear hand1 hand2
  go_upto_region 14 with fail
  go_cut [19] from 71 (fun vz w' => ∃ (b1 : Nat), vz = .pointer (some ⟨b1, 0, none⟩) ∧ HeldL wB ((b1, #[.int .u8 ((x.op : UInt8).toNat : Int), .int .i64 ((x.mod : Nat) : Int), .bool false, .slice (some ⟨gz, 0, none⟩) 1 capz]) :: [(zb, #[.int .u8 ((x.op : UInt8).toNat : Int), .int .i64 ((x.mod : Nat) : Int), .bool false, .slice (some ⟨gz, 0, none⟩) (x.rs.length + 1) capz]), (yb, #[.int .u8 ((x.op : UInt8).toNat : Int), .int .i64 ((x.mod : Nat) : Int), .bool (!x.nt), .slice (some ⟨gr, 0, none⟩) x.rs.length rc]), (ob, #[S o.i, S o.f, .int .i64 o.e]), (xb, #[.int .u8 ((x.op : UInt8).toNat : Int), .int .i64 ((x.mod : Nat) : Int), .bool false, .slice (some ⟨gr, 0, none⟩) x.rs.length rc])]) w' ∧ Below w9.heap.size w9 w')
  case first =>
    have ALL : Hid (∀ w' : World, HeldL wB [(zb, #[.int .u8 ((x.op : UInt8).toNat : Int), .int .i64 ((x.mod : Nat) : Int), .bool false, .slice (some ⟨gz, 0, none⟩) (x.rs.length + 1) capz]), (yb, #[.int .u8 ((x.op : UInt8).toNat : Int), .int .i64 ((x.mod : Nat) : Int), .bool (!x.nt), .slice (some ⟨gr, 0, none⟩) x.rs.length rc]), (ob, #[S o.i, S o.f, .int .i64 o.e]), (xb, #[.int .u8 ((x.op : UInt8).toNat : Int), .int .i64 ((x.mod : Nat) : Int), .bool false, .slice (some ⟨gr, 0, none⟩) x.rs.length rc])] w' → Below w9.heap.size w9 w' → w'.cell? ⟨xb, 0, none⟩ = some (.int .u8 ((x.op : UInt8).toNat : Int)) ∧ w'.cell? ⟨xb, 1, none⟩ = some (.int .i64 ((x.mod : Nat) : Int)) ∧ w'.cell? ⟨xb, 2, none⟩ = some (.bool false) ∧ w'.cell? ⟨xb, 3, none⟩ = some (.slice (some ⟨gr, 0, none⟩) x.rs.length rc) ∧ w'.cell? ⟨zb, 0, none⟩ = some (.int .u8 ((x.op : UInt8).toNat : Int)) ∧ w'.cell? ⟨zb, 1, none⟩ = some (.int .i64 ((x.mod : Nat) : Int)) ∧ w'.cell? ⟨zb, 2, none⟩ = some (.bool false) ∧ w'.cell? ⟨zb, 3, none⟩ = some (.slice (some ⟨gz, 0, none⟩) (x.rs.length + 1) capz) ∧ HeldL wB [(zb, #[.int .u8 ((x.op : UInt8).toNat : Int), .int .i64 ((x.mod : Nat) : Int), .bool false, .slice (some ⟨gz, 0, none⟩) (x.rs.length + 1) capz]), (yb, #[.int .u8 ((x.op : UInt8).toNat : Int), .int .i64 ((x.mod : Nat) : Int), .bool (!x.nt), .slice (some ⟨gr, 0, none⟩) x.rs.length rc]), (ob, #[S o.i, S o.f, .int .i64 o.e]), (xb, #[.int .u8 ((x.op : UInt8).toNat : Int), .int .i64 ((x.mod : Nat) : Int), .bool false, .slice (some ⟨gr, 0, none⟩) x.rs.length rc])] w' ∧ Below w9.heap.size w9 w') := Lib.hid (fun w' h hq => ⟨(h.f (List.Mem.tail _ (List.Mem.tail _ (List.Mem.tail _ (List.Mem.head _))))).cell 0, (h.f (List.Mem.tail _ (List.Mem.tail _ (List.Mem.tail _ (List.Mem.head _))))).cell 1, (h.f (List.Mem.tail _ (List.Mem.tail _ (List.Mem.tail _ (List.Mem.head _))))).cell 2, (h.f (List.Mem.tail _ (List.Mem.tail _ (List.Mem.tail _ (List.Mem.head _))))).cell 3, (h.f (List.Mem.head _)).cell 0, (h.f (List.Mem.head _)).cell 1, (h.f (List.Mem.head _)).cell 2, (h.f (List.Mem.head _)).cell 3, h, hq⟩)
    have HS : Hid (HeldL wB [(zb, #[.int .u8 ((x.op : UInt8).toNat : Int), .int .i64 ((x.mod : Nat) : Int), .bool false, .slice (some ⟨gz, 0, none⟩) (x.rs.length + 1) capz]), (yb, #[.int .u8 ((x.op : UInt8).toNat : Int), .int .i64 ((x.mod : Nat) : Int), .bool (!x.nt), .slice (some ⟨gr, 0, none⟩) x.rs.length rc]), (ob, #[S o.i, S o.f, .int .i64 o.e]), (xb, #[.int .u8 ((x.op : UInt8).toNat : Int), .int .i64 ((x.mod : Nat) : Int), .bool false, .slice (some ⟨gr, 0, none⟩) x.rs.length rc])] w9) := Lib.hid H9.out
    have hc1z : (1 : Int) ≤ (capz : Int) := by have := hcz; simp at this; omega
    have hc1n : 1 ≤ capz := by omega
    have hczi : (capz : Int) ≤ 9223372036854775807 := by unfold maxLen at hcm; omega
    refine wp_region_held_drew (S := fun w' => w'.cell? ⟨xb, 0, none⟩ = some (.int .u8 ((x.op : UInt8).toNat : Int)) ∧ w'.cell? ⟨xb, 1, none⟩ = some (.int .i64 ((x.mod : Nat) : Int)) ∧ w'.cell? ⟨xb, 2, none⟩ = some (.bool false) ∧ w'.cell? ⟨xb, 3, none⟩ = some (.slice (some ⟨gr, 0, none⟩) x.rs.length rc) ∧ w'.cell? ⟨zb, 0, none⟩ = some (.int .u8 ((x.op : UInt8).toNat : Int)) ∧ w'.cell? ⟨zb, 1, none⟩ = some (.int .i64 ((x.mod : Nat) : Int)) ∧ w'.cell? ⟨zb, 2, none⟩ = some (.bool false) ∧ w'.cell? ⟨zb, 3, none⟩ = some (.slice (some ⟨gz, 0, none⟩) (x.rs.length + 1) capz) ∧ HeldL wB [(zb, #[.int .u8 ((x.op : UInt8).toNat : Int), .int .i64 ((x.mod : Nat) : Int), .bool false, .slice (some ⟨gz, 0, none⟩) (x.rs.length + 1) capz]), (yb, #[.int .u8 ((x.op : UInt8).toNat : Int), .int .i64 ((x.mod : Nat) : Int), .bool (!x.nt), .slice (some ⟨gr, 0, none⟩) x.rs.length rc]), (ob, #[S o.i, S o.f, .int .i64 o.e]), (xb, #[.int .u8 ((x.op : UInt8).toNat : Int), .int .i64 ((x.mod : Nat) : Int), .bool false, .slice (some ⟨gr, 0, none⟩) x.rs.length rc])] w' ∧ Below w9.heap.size w9 w') (by kernel_rfl) (ALL.out _ (HeldL.drew HS.out) (Below.refl _ _).drew) (fun hHeld => ?_)
    refine wpAnyH_take (i := 0) (oi := { dst := some 89, op := Go.Op.fieldAddr 50 (Go.Operand.tmp 15) 0, type := 0, pos := "law.go:163", after := #[], guard := none }) (v := ?_) rfl (by kernel_rfl) (by kernel_rfl) (by kernel_rfl) (fun _ _ _ h => h) (Or.inl ⟨by rfl, ?_⟩) hHeld ?_
    case refine_2 => (intro w hSw; (try dsimp only at hSw); go_simp <;> with_reducible rfl)
    try simp only [Act.put, List.setIfInBounds_toArray, List.set_cons_zero, List.set_cons_succ]
    refine wpAnyH_take (i := 1) (oi := { dst := some 90, op := Go.Op.load 5 (Go.Operand.tmp 89), type := 5, pos := "law.go:163", after := #[{ on := 0, ground := Go.Ground.data }], guard := none }) (v := ?_) rfl (by kernel_rfl) (by kernel_rfl) (by kernel_rfl) (fun _ _ _ h => h) (Or.inl ⟨by rfl, ?_⟩) hHeld ?_
    case refine_2 => (intro w hSw; (try dsimp only at hSw); go_simp <;> with_reducible rfl)
    try simp only [Act.put, List.setIfInBounds_toArray, List.set_cons_zero, List.set_cons_succ]
    refine wpAnyH_take (i := 2) (oi := { dst := some 91, op := Go.Op.fieldAddr 50 (Go.Operand.tmp 15) 1, type := 0, pos := "law.go:163", after := #[], guard := none }) (v := ?_) rfl (by kernel_rfl) (by kernel_rfl) (by kernel_rfl) (fun _ _ _ h => h) (Or.inl ⟨by rfl, ?_⟩) hHeld ?_
    case refine_2 => (intro w hSw; (try dsimp only at hSw); go_simp <;> with_reducible rfl)
    try simp only [Act.put, List.setIfInBounds_toArray, List.set_cons_zero, List.set_cons_succ]
    refine wpAnyH_take (i := 3) (oi := { dst := some 92, op := Go.Op.load 3 (Go.Operand.tmp 91), type := 3, pos := "law.go:163", after := #[{ on := 2, ground := Go.Ground.data }], guard := none }) (v := ?_) rfl (by kernel_rfl) (by kernel_rfl) (by kernel_rfl) (fun _ _ _ h => h) (Or.inl ⟨by rfl, ?_⟩) hHeld ?_
    case refine_2 => (intro w hSw; (try dsimp only at hSw); go_simp <;> with_reducible rfl)
    try simp only [Act.put, List.setIfInBounds_toArray, List.set_cons_zero, List.set_cons_succ]
    refine wpAnyH_take (i := 4) (oi := { dst := some 93, op := Go.Op.fieldAddr 50 (Go.Operand.tmp 18) 3, type := 0, pos := "law.go:163", after := #[], guard := none }) (v := ?_) rfl (by kernel_rfl) (by kernel_rfl) (by kernel_rfl) (fun _ _ _ h => h) (Or.inl ⟨by rfl, ?_⟩) hHeld ?_
    case refine_2 => (intro w hSw; (try dsimp only at hSw); go_simp <;> with_reducible rfl)
    try simp only [Act.put, List.setIfInBounds_toArray, List.set_cons_zero, List.set_cons_succ]
    refine wpAnyH_take (i := 5) (oi := { dst := some 94, op := Go.Op.load 48 (Go.Operand.tmp 93), type := 48, pos := "law.go:163", after := #[{ on := 4, ground := Go.Ground.data }], guard := none }) (v := ?_) rfl (by kernel_rfl) (by kernel_rfl) (by kernel_rfl) (fun _ _ _ h => h) (Or.inl ⟨by rfl, ?_⟩) hHeld ?_
    case refine_2 => (intro w hSw; (try dsimp only at hSw); go_simp <;> with_reducible rfl)
    try simp only [Act.put, List.setIfInBounds_toArray, List.set_cons_zero, List.set_cons_succ]
    refine wpAnyH_take (i := 6) (oi := { dst := some 95, op := Go.Op.slice 48 (Go.Operand.tmp 94) none (some (Go.Operand.const (Go.Value.int Go.IntKind.i64 1))) none, type := 48, pos := "law.go:163", after := #[{ on := 5, ground := Go.Ground.data }], guard := none }) (v := ?_) rfl (by kernel_rfl) (by kernel_rfl) (by kernel_rfl) (fun _ _ _ h => h) (Or.inl ⟨by rfl, ?_⟩) hHeld ?_
    case refine_2 => (intro w hSw; (try dsimp only at hSw); go_simp <;> with_reducible rfl)
    try simp only [Act.put, List.setIfInBounds_toArray, List.set_cons_zero, List.set_cons_succ]
    refine wpAnyH_take (i := 7) (oi := { dst := some 96, op := Go.Op.build 50 #[(0, Go.Operand.tmp 90), (1, Go.Operand.tmp 92), (3, Go.Operand.tmp 95)], type := 50, pos := "law.go:163", after := #[{ on := 1, ground := Go.Ground.data }, { on := 3, ground := Go.Ground.data }, { on := 6, ground := Go.Ground.data }], guard := none }) (v := ?_) rfl (by kernel_rfl) (by kernel_rfl) (by kernel_rfl) (fun _ _ _ h => h) (Or.inl ⟨by rfl, ?_⟩) hHeld ?_
    case refine_2 => (intro w hSw; (try dsimp only at hSw); go_simp <;> with_reducible rfl)
    try simp only [Act.put, List.setIfInBounds_toArray, List.set_cons_zero, List.set_cons_succ]
    refine wpAnyH_ready (rs := [8]) (by kernel_rfl) (by simp) ?_
    refine (AllReadyH.cons (o := { dst := some 19, op := Go.Op.alloc 50, type := 0, pos := "law.go:163", after := #[], guard := none }) rfl (fun KK hK => ?_) AllReadyH.nil)
    have hH0 := hHeld
    go_simp
    refine hK.out _ _ (ALL.out _ (HeldL.skip (hHeld.2.2.2.2.2.2.2.2).1 _) ((hHeld.2.2.2.2.2.2.2.2).2.alloc (hHeld.2.2.2.2.2.2.2.2).2.size _)) (fun hHeld2 => ?_)
    clear hK hHeld
    have hHeld := hHeld2
    clear hHeld2
    try simp only [Act.put, List.setIfInBounds_toArray, List.set_cons_zero, List.set_cons_succ]
    refine wpAnyH_ready (rs := [9]) (by kernel_rfl) (by simp) ?_
    refine (AllReadyH.cons (o := { dst := none, op := Go.Op.store 50 (Go.Operand.tmp 19) (Go.Operand.tmp 96), type := 0, pos := "law.go:163", after := #[{ on := 8, ground := Go.Ground.data }, { on := 7, ground := Go.Ground.data }, { on := 0, ground := Go.Ground.phase }, { on := 1, ground := Go.Ground.phase }, { on := 2, ground := Go.Ground.phase }, { on := 3, ground := Go.Ground.phase }, { on := 4, ground := Go.Ground.phase }, { on := 5, ground := Go.Ground.phase }, { on := 6, ground := Go.Ground.phase }, { on := 7, ground := Go.Ground.phase }, { on := 8, ground := Go.Ground.phase }], guard := none }) rfl (fun KK hK => ?_) AllReadyH.nil)
    go_simp
    refine hK.out _ _ (ALL.out _ (HeldL.skip (hH0.2.2.2.2.2.2.2.2).1 _) ((hH0.2.2.2.2.2.2.2.2).2.alloc (hH0.2.2.2.2.2.2.2.2).2.size _)) (fun hHeld2 => ?_)
    clear hK hHeld
    have hHeld := hHeld2
    clear hHeld2
    try simp only [Act.put, List.setIfInBounds_toArray, List.set_cons_zero, List.set_cons_succ]
    refine wpAnyH_done (by kernel_rfl) ?_ _
    go_wp2
    go_meet
    case rel => exact ⟨_, rfl, HeldL.alloc (hH0.2.2.2.2.2.2.2.2).1 _ _ _ rfl, (hH0.2.2.2.2.2.2.2.2).2.alloc (hH0.2.2.2.2.2.2.2.2).2.size _⟩
  case rest =>
  obtain ⟨b1, rfl, hh, hq⟩ := hcut
  have H10 := Lib.hid hh
  have HRZ2 := Lib.hid (Rngs.kept HRZ.out (grown_of_below hq none) (Apart.none _ _))
  clear hh hq H9 HRZ
  generalize wc = w10 at *
  have HRX := Lib.hid (HRR.out _ H10.out.bel)
  have HR1 : Hid (Rngs w10 0 [(l0, l0 + m0)] (.slice (some ⟨gz, 0, none⟩) 1 capz)) := Lib.hid (own_first HRZ2.out)
  have HTD := Lib.hid (HT.out.below H10.out.bel)
  go_upto_region 15 with fail
  have Kz : Hid (Box w10 zb #[.int .u8 ((x.op : UInt8).toNat : Int), .int .i64 ((x.mod : Nat) : Int), .bool false, .slice (some ⟨gz, 0, none⟩) (x.rs.length + 1) capz]) := Lib.hid (H10.out.f (List.Mem.tail _ (List.Mem.head _)))
  have lz := Kz.out.lt
  have Kx : Hid (Box w10 xb #[.int .u8 ((x.op : UInt8).toNat : Int), .int .i64 ((x.mod : Nat) : Int), .bool false, .slice (some ⟨gr, 0, none⟩) x.rs.length rc]) := Lib.hid (H10.out.f (List.Mem.tail _ (List.Mem.tail _ (List.Mem.tail _ (List.Mem.tail _ (List.Mem.head _))))))
  have lx := Kx.out.lt
  have Kone : Hid (Box w10 b1 #[.int .u8 ((x.op : UInt8).toNat : Int), .int .i64 ((x.mod : Nat) : Int), .bool false, .slice (some ⟨gz, 0, none⟩) 1 capz]) := Lib.hid (H10.out.f (List.Mem.head _))
  have lone := Kone.out.lt
  have Ko : Hid (Box w10 ob #[S o.i, S o.f, .int .i64 o.e]) := Lib.hid (H10.out.f (List.Mem.tail _ (List.Mem.tail _ (List.Mem.tail _ (List.Mem.head _)))))
  have lo := Ko.out.lt
  have ALL : Hid (∀ w' : World, Below w10.heap.size w10 w' → w'.cell? ⟨zb, 0, none⟩ = some (.int .u8 ((x.op : UInt8).toNat : Int)) ∧ w'.cell? ⟨zb, 1, none⟩ = some (.int .i64 ((x.mod : Nat) : Int)) ∧ w'.cell? ⟨zb, 2, none⟩ = some (.bool false) ∧ w'.cell? ⟨zb, 3, none⟩ = some (.slice (some ⟨gz, 0, none⟩) (x.rs.length + 1) capz) ∧ w'.cell? ⟨xb, 0, none⟩ = some (.int .u8 ((x.op : UInt8).toNat : Int)) ∧ w'.cell? ⟨xb, 1, none⟩ = some (.int .i64 ((x.mod : Nat) : Int)) ∧ w'.cell? ⟨xb, 2, none⟩ = some (.bool false) ∧ w'.cell? ⟨xb, 3, none⟩ = some (.slice (some ⟨gr, 0, none⟩) x.rs.length rc) ∧ w'.cell? ⟨b1, 0, none⟩ = some (.int .u8 ((x.op : UInt8).toNat : Int)) ∧ w'.cell? ⟨b1, 1, none⟩ = some (.int .i64 ((x.mod : Nat) : Int)) ∧ w'.cell? ⟨b1, 2, none⟩ = some (.bool false) ∧ w'.cell? ⟨b1, 3, none⟩ = some (.slice (some ⟨gz, 0, none⟩) 1 capz) ∧ w'.cell? ⟨ob, 0, none⟩ = some (S o.i) ∧ w'.cell? ⟨ob, 1, none⟩ = some (S o.f) ∧ w'.cell? ⟨ob, 2, none⟩ = some (.int .i64 o.e) ∧ Below w10.heap.size w10 w') := Lib.hid (fun w' h => ⟨(h.cell (p := ⟨zb, 0, none⟩) lz).trans (Kz.out.cell 0), (h.cell (p := ⟨zb, 1, none⟩) lz).trans (Kz.out.cell 1), (h.cell (p := ⟨zb, 2, none⟩) lz).trans (Kz.out.cell 2), (h.cell (p := ⟨zb, 3, none⟩) lz).trans (Kz.out.cell 3), (h.cell (p := ⟨xb, 0, none⟩) lx).trans (Kx.out.cell 0), (h.cell (p := ⟨xb, 1, none⟩) lx).trans (Kx.out.cell 1), (h.cell (p := ⟨xb, 2, none⟩) lx).trans (Kx.out.cell 2), (h.cell (p := ⟨xb, 3, none⟩) lx).trans (Kx.out.cell 3), (h.cell (p := ⟨b1, 0, none⟩) lone).trans (Kone.out.cell 0), (h.cell (p := ⟨b1, 1, none⟩) lone).trans (Kone.out.cell 1), (h.cell (p := ⟨b1, 2, none⟩) lone).trans (Kone.out.cell 2), (h.cell (p := ⟨b1, 3, none⟩) lone).trans (Kone.out.cell 3), (h.cell (p := ⟨ob, 0, none⟩) lo).trans (Ko.out.cell 0), (h.cell (p := ⟨ob, 1, none⟩) lo).trans (Ko.out.cell 1), (h.cell (p := ⟨ob, 2, none⟩) lo).trans (Ko.out.cell 2), h⟩)
  obtain ⟨b0, hb0⟩ : ∃ b, holdsP ⟨x.op, x.mod, false, [(l0, l0 + m0)]⟩ o = b := ⟨_, rfl⟩
  have HE1 := Lib.hid hb0
  clear hb0
  cases hbx : holdsP ⟨x.op, x.mod, false, x.rs⟩ o with
  | true =>
    have HEX := Lib.hid hbx
    have HEZ : Hid (holdsP ⟨x.op, x.mod, false, (l0, l0 + m0) :: x.rs⟩ o = true) := Lib.hid (by have h := holds_more x o (l0, l0 + m0); rw [h, hbx, HE1.out]; first | rfl | (cases b0 <;> rfl))
    clear hbx
    refine wp_region_held_drew (S := fun w' => w'.cell? ⟨zb, 0, none⟩ = some (.int .u8 ((x.op : UInt8).toNat : Int)) ∧ w'.cell? ⟨zb, 1, none⟩ = some (.int .i64 ((x.mod : Nat) : Int)) ∧ w'.cell? ⟨zb, 2, none⟩ = some (.bool false) ∧ w'.cell? ⟨zb, 3, none⟩ = some (.slice (some ⟨gz, 0, none⟩) (x.rs.length + 1) capz) ∧ w'.cell? ⟨xb, 0, none⟩ = some (.int .u8 ((x.op : UInt8).toNat : Int)) ∧ w'.cell? ⟨xb, 1, none⟩ = some (.int .i64 ((x.mod : Nat) : Int)) ∧ w'.cell? ⟨xb, 2, none⟩ = some (.bool false) ∧ w'.cell? ⟨xb, 3, none⟩ = some (.slice (some ⟨gr, 0, none⟩) x.rs.length rc) ∧ w'.cell? ⟨b1, 0, none⟩ = some (.int .u8 ((x.op : UInt8).toNat : Int)) ∧ w'.cell? ⟨b1, 1, none⟩ = some (.int .i64 ((x.mod : Nat) : Int)) ∧ w'.cell? ⟨b1, 2, none⟩ = some (.bool false) ∧ w'.cell? ⟨b1, 3, none⟩ = some (.slice (some ⟨gz, 0, none⟩) 1 capz) ∧ w'.cell? ⟨ob, 0, none⟩ = some (S o.i) ∧ w'.cell? ⟨ob, 1, none⟩ = some (S o.f) ∧ w'.cell? ⟨ob, 2, none⟩ = some (.int .i64 o.e) ∧ Below w10.heap.size w10 w') (by kernel_rfl) (ALL.out _ (Below.refl _ w10).drew) (fun hHeld => ?_)
    refine wpAnyH_take (i := 0) (oi := { dst := some 97, op := Go.Op.load 50 (Go.Operand.tmp 18), type := 50, pos := "law.go:164", after := #[], guard := none }) (v := ?_) rfl (by kernel_rfl) (by kernel_rfl) (by kernel_rfl) (fun _ _ _ h => h) (Or.inl ⟨by rfl, ?_⟩) hHeld ?_
    case refine_2 => (intro w hSw; (try dsimp only at hSw); go_simp <;> with_reducible rfl)
    try simp only [Act.put, List.setIfInBounds_toArray, List.set_cons_zero, List.set_cons_succ]
    refine wpAnyH_take (i := 1) (oi := { dst := some 98, op := Go.Op.load 42 (Go.Operand.tmp 16), type := 42, pos := "law.go:164", after := #[], guard := none }) (v := ?_) rfl (by kernel_rfl) (by kernel_rfl) (by kernel_rfl) (fun _ _ _ h => h) (Or.inl ⟨by rfl, ?_⟩) hHeld ?_
    case refine_2 => (intro w hSw; (try dsimp only at hSw); go_simp <;> with_reducible rfl)
    try simp only [Act.put, List.setIfInBounds_toArray, List.set_cons_zero, List.set_cons_succ]
    refine wpAnyH_take (i := 3) (oi := { dst := some 100, op := Go.Op.load 50 (Go.Operand.tmp 15), type := 50, pos := "law.go:164", after := #[], guard := none }) (v := ?_) rfl (by kernel_rfl) (by kernel_rfl) (by kernel_rfl) (fun _ _ _ h => h) (Or.inl ⟨by rfl, ?_⟩) hHeld ?_
    case refine_2 => (intro w hSw; (try dsimp only at hSw); go_simp <;> with_reducible rfl)
    try simp only [Act.put, List.setIfInBounds_toArray, List.set_cons_zero, List.set_cons_succ]
    refine wpAnyH_take (i := 4) (oi := { dst := some 101, op := Go.Op.load 42 (Go.Operand.tmp 16), type := 42, pos := "law.go:164", after := #[], guard := none }) (v := ?_) rfl (by kernel_rfl) (by kernel_rfl) (by kernel_rfl) (fun _ _ _ h => h) (Or.inl ⟨by rfl, ?_⟩) hHeld ?_
    case refine_2 => (intro w hSw; (try dsimp only at hSw); go_simp <;> with_reducible rfl)
    try simp only [Act.put, List.setIfInBounds_toArray, List.set_cons_zero, List.set_cons_succ]
    refine wpAnyH_ready (rs := [2]) (by kernel_rfl) (by simp) ?_
    refine (AllReadyH.cons (o := { dst := some 99, op := Go.Op.call { callee := Go.Callee.value (Go.Operand.func 20), args := #[Go.Operand.tmp 97, Go.Operand.tmp 98], argTypes := #[50, 42] }, type := 4, pos := "law.go:164", after := #[{ on := 0, ground := Go.Ground.data }, { on := 1, ground := Go.Ground.data }], guard := none }) rfl (fun KK hK => ?_) AllReadyH.nil)
    go_simp
    with_reducible refine (holds_at x.op x.mod false ((l0, l0 + m0) :: x.rs) (.slice (some ⟨gz, 0, none⟩) (x.rs.length + 1) capz) 0 o _ HB.out (HTD.out.below (hHeld.2.2.2.2.2.2.2.2.2.2.2.2.2.2.2)) (RelB.any HRB.out _ _) (Rngs.kept HRZ2.out (grown_of_below (hHeld.2.2.2.2.2.2.2.2.2.2.2.2.2.2.2) none) (Apart.none _ _)) true HEZ.out).mono ?_
    rintro q w40 ⟨rfl, hb⟩
    go_wp2_with fail
    refine hK.out _ _ (ALL.out _ ((hHeld.2.2.2.2.2.2.2.2.2.2.2.2.2.2.2).trans (hb.mono (hHeld.2.2.2.2.2.2.2.2.2.2.2.2.2.2.2).size))) (fun hHeld2 => ?_)
    clear hK hHeld hb
    have hHeld := hHeld2
    clear hHeld2
    try simp only [Act.put, List.setIfInBounds_toArray, List.set_cons_zero, List.set_cons_succ]
    refine wpAnyH_ready (rs := [5]) (by kernel_rfl) (by simp) ?_
    refine (AllReadyH.cons (o := { dst := some 102, op := Go.Op.call { callee := Go.Callee.value (Go.Operand.func 20), args := #[Go.Operand.tmp 100, Go.Operand.tmp 101], argTypes := #[50, 42] }, type := 4, pos := "law.go:164", after := #[{ on := 3, ground := Go.Ground.data }, { on := 4, ground := Go.Ground.data }, { on := 2, ground := Go.Ground.chain }], guard := none }) rfl (fun KK hK => ?_) AllReadyH.nil)
    go_simp
    with_reducible refine (holds_at x.op x.mod false x.rs (.slice (some ⟨gr, 0, none⟩) x.rs.length rc) 0 o _ HB.out (HTD.out.below (hHeld.2.2.2.2.2.2.2.2.2.2.2.2.2.2.2)) (RelB.any HRB.out _ _) (Rngs.kept HRX.out (grown_of_below (hHeld.2.2.2.2.2.2.2.2.2.2.2.2.2.2.2) none) (Apart.none _ _)) true HEX.out).mono ?_
    rintro q w40 ⟨rfl, hb⟩
    go_wp2_with fail
    refine hK.out _ _ (ALL.out _ ((hHeld.2.2.2.2.2.2.2.2.2.2.2.2.2.2.2).trans (hb.mono (hHeld.2.2.2.2.2.2.2.2.2.2.2.2.2.2.2).size))) (fun hHeld2 => ?_)
    clear hK hHeld hb
    have hHeld := hHeld2
    clear hHeld2
    try simp only [Act.put, List.setIfInBounds_toArray, List.set_cons_zero, List.set_cons_succ]
    refine wpAnyH_take (i := 6) (oi := { dst := some 103, op := Go.Op.move (Go.Operand.tmp 102), type := 4, pos := "law.go:164", after := #[{ on := 5, ground := Go.Ground.data }, { on := 5, ground := Go.Ground.chain }], guard := none }) (v := ?_) rfl (by kernel_rfl) (by kernel_rfl) (by kernel_rfl) (fun _ _ _ h => h) (Or.inl ⟨by rfl, ?_⟩) hHeld ?_
    case refine_2 => (intro w hSw; (try dsimp only at hSw); go_simp <;> with_reducible rfl)
    try simp only [Act.put, List.setIfInBounds_toArray, List.set_cons_zero, List.set_cons_succ]
    refine wpAnyH_take (i := 7) (oi := { dst := some 104, op := Go.Op.load 50 (Go.Operand.tmp 19), type := 50, pos := "law.go:164", after := #[{ on := 6, ground := Go.Ground.guard }], guard := some (6, false) }) (v := undef) rfl (by kernel_rfl) (by kernel_rfl) (by kernel_rfl) (fun _ _ _ h => h) (Or.inr ⟨by rfl, rfl⟩) hHeld ?_
    try simp only [Act.put, List.setIfInBounds_toArray, List.set_cons_zero, List.set_cons_succ]
    refine wpAnyH_take (i := 8) (oi := { dst := some 105, op := Go.Op.load 42 (Go.Operand.tmp 16), type := 42, pos := "law.go:164", after := #[{ on := 6, ground := Go.Ground.guard }], guard := some (6, false) }) (v := undef) rfl (by kernel_rfl) (by kernel_rfl) (by kernel_rfl) (fun _ _ _ h => h) (Or.inr ⟨by rfl, rfl⟩) hHeld ?_
    try simp only [Act.put, List.setIfInBounds_toArray, List.set_cons_zero, List.set_cons_succ]
    refine wpAnyH_take (i := 9) (oi := { dst := some 106, op := Go.Op.call { callee := Go.Callee.value (Go.Operand.func 20), args := #[Go.Operand.tmp 104, Go.Operand.tmp 105], argTypes := #[50, 42] }, type := 4, pos := "law.go:164", after := #[{ on := 7, ground := Go.Ground.data }, { on := 8, ground := Go.Ground.data }, { on := 6, ground := Go.Ground.chain }, { on := 6, ground := Go.Ground.guard }], guard := some (6, false) }) (v := undef) rfl (by kernel_rfl) (by kernel_rfl) (by kernel_rfl) (fun _ _ _ h => h) (Or.inr ⟨by rfl, rfl⟩) hHeld ?_
    try simp only [Act.put, List.setIfInBounds_toArray, List.set_cons_zero, List.set_cons_succ]
    refine wpAnyH_take (i := 10) (oi := { dst := some 107, op := Go.Op.pick (Go.Operand.tmp 103) (Go.Operand.const (Go.Value.bool true)) (Go.Operand.tmp 106), type := 4, pos := "law.go:164", after := #[{ on := 6, ground := Go.Ground.data }, { on := 9, ground := Go.Ground.data }], guard := none }) (v := ?_) rfl (by kernel_rfl) (by kernel_rfl) (by kernel_rfl) (fun _ _ _ h => h) (Or.inl ⟨by rfl, ?_⟩) hHeld ?_
    case refine_2 => (intro w hSw; (try dsimp only at hSw); go_simp <;> with_reducible rfl)
    try simp only [Act.put, List.setIfInBounds_toArray, List.set_cons_zero, List.set_cons_succ]
    refine wpAnyH_take (i := 11) (oi := { dst := some 108, op := Go.Op.binOp Go.BinOp.eql 4 (Go.Operand.tmp 99) (Go.Operand.tmp 107) 4, type := 4, pos := "law.go:164", after := #[{ on := 2, ground := Go.Ground.data }, { on := 10, ground := Go.Ground.data }], guard := none }) (v := ?_) rfl (by kernel_rfl) (by kernel_rfl) (by kernel_rfl) (fun _ _ _ h => h) (Or.inl ⟨by rfl, ?_⟩) hHeld ?_
    case refine_2 => (intro w hSw; (try dsimp only at hSw); go_simp <;> with_reducible rfl)
    try simp only [Act.put, List.setIfInBounds_toArray, List.set_cons_zero, List.set_cons_succ]
    refine wpAnyH_take (i := 12) (oi := { dst := some 12, op := Go.Op.assign (Go.Operand.tmp 108), type := 4, pos := "law.go:164", after := #[{ on := 11, ground := Go.Ground.data }, { on := 9, ground := Go.Ground.chain }, { on := 0, ground := Go.Ground.phase }, { on := 1, ground := Go.Ground.phase }, { on := 2, ground := Go.Ground.phase }, { on := 3, ground := Go.Ground.phase }, { on := 4, ground := Go.Ground.phase }, { on := 5, ground := Go.Ground.phase }, { on := 6, ground := Go.Ground.phase }, { on := 7, ground := Go.Ground.phase }, { on := 8, ground := Go.Ground.phase }, { on := 9, ground := Go.Ground.phase }, { on := 10, ground := Go.Ground.phase }, { on := 11, ground := Go.Ground.phase }], guard := none }) (v := ?_) rfl (by kernel_rfl) (by kernel_rfl) (by kernel_rfl) (fun _ _ _ h => h) (Or.inl ⟨by rfl, ?_⟩) hHeld ?_
    case refine_2 => (intro w hSw; (try dsimp only at hSw); go_simp <;> with_reducible rfl)
    try simp only [Act.put, List.setIfInBounds_toArray, List.set_cons_zero, List.set_cons_succ]
    refine wpAnyH_done (by kernel_rfl) ?_ _
    have B40 : Hid (Below wB.heap.size wB w40) := Lib.hid (H10.out.bel.trans ((hHeld.2.2.2.2.2.2.2.2.2.2.2.2.2.2.2).mono H10.out.bel.size))
    clear hHeld ALL
    go_wp2
    go_ret
    exact ⟨by first | rfl | simp | (cases b0 <;> rfl), BB.out.trans (B40.out.mono BB.out.size)⟩
  | false =>
    have HEX := Lib.hid hbx
    have HEZ : Hid (holdsP ⟨x.op, x.mod, false, (l0, l0 + m0) :: x.rs⟩ o = b0) := Lib.hid (by have h := holds_more x o (l0, l0 + m0); rw [h, hbx, HE1.out]; first | rfl | (cases b0 <;> rfl))
    clear hbx
    refine wp_region_held_drew (S := fun w' => w'.cell? ⟨zb, 0, none⟩ = some (.int .u8 ((x.op : UInt8).toNat : Int)) ∧ w'.cell? ⟨zb, 1, none⟩ = some (.int .i64 ((x.mod : Nat) : Int)) ∧ w'.cell? ⟨zb, 2, none⟩ = some (.bool false) ∧ w'.cell? ⟨zb, 3, none⟩ = some (.slice (some ⟨gz, 0, none⟩) (x.rs.length + 1) capz) ∧ w'.cell? ⟨xb, 0, none⟩ = some (.int .u8 ((x.op : UInt8).toNat : Int)) ∧ w'.cell? ⟨xb, 1, none⟩ = some (.int .i64 ((x.mod : Nat) : Int)) ∧ w'.cell? ⟨xb, 2, none⟩ = some (.bool false) ∧ w'.cell? ⟨xb, 3, none⟩ = some (.slice (some ⟨gr, 0, none⟩) x.rs.length rc) ∧ w'.cell? ⟨b1, 0, none⟩ = some (.int .u8 ((x.op : UInt8).toNat : Int)) ∧ w'.cell? ⟨b1, 1, none⟩ = some (.int .i64 ((x.mod : Nat) : Int)) ∧ w'.cell? ⟨b1, 2, none⟩ = some (.bool false) ∧ w'.cell? ⟨b1, 3, none⟩ = some (.slice (some ⟨gz, 0, none⟩) 1 capz) ∧ w'.cell? ⟨ob, 0, none⟩ = some (S o.i) ∧ w'.cell? ⟨ob, 1, none⟩ = some (S o.f) ∧ w'.cell? ⟨ob, 2, none⟩ = some (.int .i64 o.e) ∧ Below w10.heap.size w10 w') (by kernel_rfl) (ALL.out _ (Below.refl _ w10).drew) (fun hHeld => ?_)
    refine wpAnyH_take (i := 0) (oi := { dst := some 97, op := Go.Op.load 50 (Go.Operand.tmp 18), type := 50, pos := "law.go:164", after := #[], guard := none }) (v := ?_) rfl (by kernel_rfl) (by kernel_rfl) (by kernel_rfl) (fun _ _ _ h => h) (Or.inl ⟨by rfl, ?_⟩) hHeld ?_
    case refine_2 => (intro w hSw; (try dsimp only at hSw); go_simp <;> with_reducible rfl)
    try simp only [Act.put, List.setIfInBounds_toArray, List.set_cons_zero, List.set_cons_succ]
    refine wpAnyH_take (i := 1) (oi := { dst := some 98, op := Go.Op.load 42 (Go.Operand.tmp 16), type := 42, pos := "law.go:164", after := #[], guard := none }) (v := ?_) rfl (by kernel_rfl) (by kernel_rfl) (by kernel_rfl) (fun _ _ _ h => h) (Or.inl ⟨by rfl, ?_⟩) hHeld ?_
    case refine_2 => (intro w hSw; (try dsimp only at hSw); go_simp <;> with_reducible rfl)
    try simp only [Act.put, List.setIfInBounds_toArray, List.set_cons_zero, List.set_cons_succ]
    refine wpAnyH_take (i := 3) (oi := { dst := some 100, op := Go.Op.load 50 (Go.Operand.tmp 15), type := 50, pos := "law.go:164", after := #[], guard := none }) (v := ?_) rfl (by kernel_rfl) (by kernel_rfl) (by kernel_rfl) (fun _ _ _ h => h) (Or.inl ⟨by rfl, ?_⟩) hHeld ?_
    case refine_2 => (intro w hSw; (try dsimp only at hSw); go_simp <;> with_reducible rfl)
    try simp only [Act.put, List.setIfInBounds_toArray, List.set_cons_zero, List.set_cons_succ]
    refine wpAnyH_take (i := 4) (oi := { dst := some 101, op := Go.Op.load 42 (Go.Operand.tmp 16), type := 42, pos := "law.go:164", after := #[], guard := none }) (v := ?_) rfl (by kernel_rfl) (by kernel_rfl) (by kernel_rfl) (fun _ _ _ h => h) (Or.inl ⟨by rfl, ?_⟩) hHeld ?_
    case refine_2 => (intro w hSw; (try dsimp only at hSw); go_simp <;> with_reducible rfl)
    try simp only [Act.put, List.setIfInBounds_toArray, List.set_cons_zero, List.set_cons_succ]
    refine wpAnyH_ready (rs := [2]) (by kernel_rfl) (by simp) ?_
    refine (AllReadyH.cons (o := { dst := some 99, op := Go.Op.call { callee := Go.Callee.value (Go.Operand.func 20), args := #[Go.Operand.tmp 97, Go.Operand.tmp 98], argTypes := #[50, 42] }, type := 4, pos := "law.go:164", after := #[{ on := 0, ground := Go.Ground.data }, { on := 1, ground := Go.Ground.data }], guard := none }) rfl (fun KK hK => ?_) AllReadyH.nil)
    go_simp
    with_reducible refine (holds_at x.op x.mod false ((l0, l0 + m0) :: x.rs) (.slice (some ⟨gz, 0, none⟩) (x.rs.length + 1) capz) 0 o _ HB.out (HTD.out.below (hHeld.2.2.2.2.2.2.2.2.2.2.2.2.2.2.2)) (RelB.any HRB.out _ _) (Rngs.kept HRZ2.out (grown_of_below (hHeld.2.2.2.2.2.2.2.2.2.2.2.2.2.2.2) none) (Apart.none _ _)) b0 HEZ.out).mono ?_
    rintro q w40 ⟨rfl, hb⟩
    go_wp2_with fail
    refine hK.out _ _ (ALL.out _ ((hHeld.2.2.2.2.2.2.2.2.2.2.2.2.2.2.2).trans (hb.mono (hHeld.2.2.2.2.2.2.2.2.2.2.2.2.2.2.2).size))) (fun hHeld2 => ?_)
    clear hK hHeld hb
    have hHeld := hHeld2
    clear hHeld2
    try simp only [Act.put, List.setIfInBounds_toArray, List.set_cons_zero, List.set_cons_succ]
    refine wpAnyH_ready (rs := [5]) (by kernel_rfl) (by simp) ?_
    refine (AllReadyH.cons (o := { dst := some 102, op := Go.Op.call { callee := Go.Callee.value (Go.Operand.func 20), args := #[Go.Operand.tmp 100, Go.Operand.tmp 101], argTypes := #[50, 42] }, type := 4, pos := "law.go:164", after := #[{ on := 3, ground := Go.Ground.data }, { on := 4, ground := Go.Ground.data }, { on := 2, ground := Go.Ground.chain }], guard := none }) rfl (fun KK hK => ?_) AllReadyH.nil)
    go_simp
    with_reducible refine (holds_at x.op x.mod false x.rs (.slice (some ⟨gr, 0, none⟩) x.rs.length rc) 0 o _ HB.out (HTD.out.below (hHeld.2.2.2.2.2.2.2.2.2.2.2.2.2.2.2)) (RelB.any HRB.out _ _) (Rngs.kept HRX.out (grown_of_below (hHeld.2.2.2.2.2.2.2.2.2.2.2.2.2.2.2) none) (Apart.none _ _)) false HEX.out).mono ?_
    rintro q w40 ⟨rfl, hb⟩
    go_wp2_with fail
    refine hK.out _ _ (ALL.out _ ((hHeld.2.2.2.2.2.2.2.2.2.2.2.2.2.2.2).trans (hb.mono (hHeld.2.2.2.2.2.2.2.2.2.2.2.2.2.2.2).size))) (fun hHeld2 => ?_)
    clear hK hHeld hb
    have hHeld := hHeld2
    clear hHeld2
    try simp only [Act.put, List.setIfInBounds_toArray, List.set_cons_zero, List.set_cons_succ]
    refine wpAnyH_take (i := 6) (oi := { dst := some 103, op := Go.Op.move (Go.Operand.tmp 102), type := 4, pos := "law.go:164", after := #[{ on := 5, ground := Go.Ground.data }, { on := 5, ground := Go.Ground.chain }], guard := none }) (v := ?_) rfl (by kernel_rfl) (by kernel_rfl) (by kernel_rfl) (fun _ _ _ h => h) (Or.inl ⟨by rfl, ?_⟩) hHeld ?_
    case refine_2 => (intro w hSw; (try dsimp only at hSw); go_simp <;> with_reducible rfl)
    try simp only [Act.put, List.setIfInBounds_toArray, List.set_cons_zero, List.set_cons_succ]
    refine wpAnyH_take (i := 7) (oi := { dst := some 104, op := Go.Op.load 50 (Go.Operand.tmp 19), type := 50, pos := "law.go:164", after := #[{ on := 6, ground := Go.Ground.guard }], guard := some (6, false) }) (v := ?_) rfl (by kernel_rfl) (by kernel_rfl) (by kernel_rfl) (fun _ _ _ h => h) (Or.inl ⟨by rfl, ?_⟩) hHeld ?_
    case refine_2 => (intro w hSw; (try dsimp only at hSw); go_simp <;> with_reducible rfl)
    try simp only [Act.put, List.setIfInBounds_toArray, List.set_cons_zero, List.set_cons_succ]
    refine wpAnyH_take (i := 8) (oi := { dst := some 105, op := Go.Op.load 42 (Go.Operand.tmp 16), type := 42, pos := "law.go:164", after := #[{ on := 6, ground := Go.Ground.guard }], guard := some (6, false) }) (v := ?_) rfl (by kernel_rfl) (by kernel_rfl) (by kernel_rfl) (fun _ _ _ h => h) (Or.inl ⟨by rfl, ?_⟩) hHeld ?_
    case refine_2 => (intro w hSw; (try dsimp only at hSw); go_simp <;> with_reducible rfl)
    try simp only [Act.put, List.setIfInBounds_toArray, List.set_cons_zero, List.set_cons_succ]
    refine wpAnyH_ready (rs := [9]) (by kernel_rfl) (by simp) ?_
    refine (AllReadyH.cons (o := { dst := some 106, op := Go.Op.call { callee := Go.Callee.value (Go.Operand.func 20), args := #[Go.Operand.tmp 104, Go.Operand.tmp 105], argTypes := #[50, 42] }, type := 4, pos := "law.go:164", after := #[{ on := 7, ground := Go.Ground.data }, { on := 8, ground := Go.Ground.data }, { on := 6, ground := Go.Ground.chain }, { on := 6, ground := Go.Ground.guard }], guard := some (6, false) }) rfl (fun KK hK => ?_) AllReadyH.nil)
    go_simp
    with_reducible refine (holds_at x.op x.mod false [(l0, l0 + m0)] (.slice (some ⟨gz, 0, none⟩) 1 capz) 0 o _ HB.out (HTD.out.below (hHeld.2.2.2.2.2.2.2.2.2.2.2.2.2.2.2)) (RelB.any HRB.out _ _) (Rngs.kept HR1.out (grown_of_below (hHeld.2.2.2.2.2.2.2.2.2.2.2.2.2.2.2) none) (Apart.none _ _)) b0 HE1.out).mono ?_
    rintro q w40 ⟨rfl, hb⟩
    go_wp2_with fail
    refine hK.out _ _ (ALL.out _ ((hHeld.2.2.2.2.2.2.2.2.2.2.2.2.2.2.2).trans (hb.mono (hHeld.2.2.2.2.2.2.2.2.2.2.2.2.2.2.2).size))) (fun hHeld2 => ?_)
    clear hK hHeld hb
    have hHeld := hHeld2
    clear hHeld2
    try simp only [Act.put, List.setIfInBounds_toArray, List.set_cons_zero, List.set_cons_succ]
    refine wpAnyH_take (i := 10) (oi := { dst := some 107, op := Go.Op.pick (Go.Operand.tmp 103) (Go.Operand.const (Go.Value.bool true)) (Go.Operand.tmp 106), type := 4, pos := "law.go:164", after := #[{ on := 6, ground := Go.Ground.data }, { on := 9, ground := Go.Ground.data }], guard := none }) (v := ?_) rfl (by kernel_rfl) (by kernel_rfl) (by kernel_rfl) (fun _ _ _ h => h) (Or.inl ⟨by rfl, ?_⟩) hHeld ?_
    case refine_2 => (intro w hSw; (try dsimp only at hSw); go_simp <;> with_reducible rfl)
    try simp only [Act.put, List.setIfInBounds_toArray, List.set_cons_zero, List.set_cons_succ]
    refine wpAnyH_take (i := 11) (oi := { dst := some 108, op := Go.Op.binOp Go.BinOp.eql 4 (Go.Operand.tmp 99) (Go.Operand.tmp 107) 4, type := 4, pos := "law.go:164", after := #[{ on := 2, ground := Go.Ground.data }, { on := 10, ground := Go.Ground.data }], guard := none }) (v := ?_) rfl (by kernel_rfl) (by kernel_rfl) (by kernel_rfl) (fun _ _ _ h => h) (Or.inl ⟨by rfl, ?_⟩) hHeld ?_
    case refine_2 => (intro w hSw; (try dsimp only at hSw); go_simp <;> with_reducible rfl)
    try simp only [Act.put, List.setIfInBounds_toArray, List.set_cons_zero, List.set_cons_succ]
    refine wpAnyH_take (i := 12) (oi := { dst := some 12, op := Go.Op.assign (Go.Operand.tmp 108), type := 4, pos := "law.go:164", after := #[{ on := 11, ground := Go.Ground.data }, { on := 9, ground := Go.Ground.chain }, { on := 0, ground := Go.Ground.phase }, { on := 1, ground := Go.Ground.phase }, { on := 2, ground := Go.Ground.phase }, { on := 3, ground := Go.Ground.phase }, { on := 4, ground := Go.Ground.phase }, { on := 5, ground := Go.Ground.phase }, { on := 6, ground := Go.Ground.phase }, { on := 7, ground := Go.Ground.phase }, { on := 8, ground := Go.Ground.phase }, { on := 9, ground := Go.Ground.phase }, { on := 10, ground := Go.Ground.phase }, { on := 11, ground := Go.Ground.phase }], guard := none }) (v := ?_) rfl (by kernel_rfl) (by kernel_rfl) (by kernel_rfl) (fun _ _ _ h => h) (Or.inl ⟨by rfl, ?_⟩) hHeld ?_
    case refine_2 => (intro w hSw; (try dsimp only at hSw); go_simp <;> with_reducible rfl)
    try simp only [Act.put, List.setIfInBounds_toArray, List.set_cons_zero, List.set_cons_succ]
    refine wpAnyH_done (by kernel_rfl) ?_ _
    have B40 : Hid (Below wB.heap.size wB w40) := Lib.hid (H10.out.bel.trans ((hHeld.2.2.2.2.2.2.2.2.2.2.2.2.2.2.2).mono H10.out.bel.size))
    clear hHeld ALL
    go_wp2
    go_ret
    exact ⟨by first | rfl | simp | (cases b0 <;> rfl), BB.out.trans (B40.out.mono BB.out.size)⟩
end Go.Proofs.YtkjhdehpcanciaaGreatDoor
