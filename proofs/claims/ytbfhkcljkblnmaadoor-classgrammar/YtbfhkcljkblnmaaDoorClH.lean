/- Some ranges as a class. -/
import Derived.Test.YtbfhkcljkblnmaaDoorClG
namespace Go.Proofs.YtbfhkcljkblnmaaDoor
open Go.RowKit Florin
set_option linter.unusedVariables false
set_option linter.unusedSimpArgs false
def clip1 (x : Int × Int) : Int × Int := (max x.1 0, min x.2 1114111)
def clipC (l : List (Int × Int)) : List (Int × Int) := (l.map clip1).filter fun x => decide (x.1 ≤ x.2)
theorem clip_yes (l : List (Int × Int)) (k : Nat) (hk : k < l.length) (y : Int × Int) (hy : clip1 l[k] = y) (h : y.1 ≤ y.2) : clipC (l.take (k + 1)) = clipC (l.take k) ++ [y] := by
  unfold clipC
  rw [List.take_succ_eq_append_getElem hk, List.map_append, List.filter_append]
  simp [hy, h]
theorem clip_no (l : List (Int × Int)) (k : Nat) (hk : k < l.length) (y : Int × Int) (hy : clip1 l[k] = y) (h : ¬ y.1 ≤ y.2) : clipC (l.take (k + 1)) = clipC (l.take k) := by
  unfold clipC
  rw [List.take_succ_eq_append_getElem hk, List.map_append, List.filter_append]
  simp [hy, h]
theorem clip_len (l : List (Int × Int)) : (clipC l).length ≤ l.length := by
  unfold clipC
  exact Nat.le_trans (List.length_filter_le _ _) (by simp)
theorem clip_in {l : List (Int × Int)} {y : Int × Int} (h : y ∈ clipC l) : 0 ≤ y.1 ∧ y.1 ≤ y.2 ∧ y.2 ≤ cTop := by
  unfold clipC at h
  rw [List.mem_filter, List.mem_map] at h
  obtain ⟨⟨x, _, rfl⟩, h2⟩ := h
  have h3 : max x.1 0 ≤ min x.2 1114111 := of_decide_eq_true h2
  show 0 ≤ max x.1 0 ∧ max x.1 0 ≤ min x.2 1114111 ∧ min x.2 1114111 ≤ cTop
  unfold cTop
  omega
theorem clip_mem (l : List (Int × Int)) (r : Int) : memC (clipC l) r ↔ 0 ≤ r ∧ r ≤ cTop ∧ memC l r := by
  constructor
  · rintro ⟨y, hy, h1, h2⟩
    unfold clipC at hy
    rw [List.mem_filter, List.mem_map] at hy
    obtain ⟨⟨x, hx, rfl⟩, _⟩ := hy
    have h1' : max x.1 0 ≤ r := h1
    have h2' : r ≤ min x.2 1114111 := h2
    exact ⟨by omega, by unfold cTop; omega, x, hx, by omega, by omega⟩
  · rintro ⟨h0, ht, x, hx, h1, h2⟩
    unfold cTop at ht
    have h3 : max x.1 0 ≤ r := by omega
    have h4 : r ≤ min x.2 1114111 := by omega
    refine ⟨clip1 x, ?_, h3, h4⟩
    unfold clipC
    rw [List.mem_filter, List.mem_map]
    refine ⟨⟨x, hx, rfl⟩, ?_⟩
    show decide (max x.1 0 ≤ min x.2 1114111) = true
    exact decide_eq_true (by omega)
theorem OwnC.down {w : World} {B B' : Nat} {v : Value} {c : List (Int × Int)} (h : OwnC w B v c) (hb : B' ≤ B) : OwnC w B' v c := by
  refine ⟨h.1, ?_⟩
  rcases h.2 with hn | ⟨g, cap, cur, rfl, hB, rest⟩
  · exact .inl hn
  · exact .inr ⟨g, cap, cur, rfl, Nat.le_trans hb hB, rest⟩
theorem fold_take {s l : List (Int × Int)} (hp : s.Perm (clipC l)) (hs : s.Pairwise fun x y => x.1 ≤ y.1) (k : Nat) : settledC ((s.take k).foldl joinC []) ∧ ∀ r, memC ((s.take k).foldl joinC []) r ↔ memC [] r ∨ memC (s.take k) r :=
  fold_join (s.take k) [] trivial (fun x hx => clip_in (hp.mem_iff.1 (List.mem_of_mem_take hx))) (hs.sublist (List.take_sublist k s)) (fun y hy => by simp at hy)
theorem fold_all {s l : List (Int × Int)} (hp : s.Perm (clipC l)) (hs : s.Pairwise fun x y => x.1 ≤ y.1) (c : List (Int × Int)) (hc : c = s.foldl joinC []) : settledC c ∧ ∀ r, memC c r ↔ 0 ≤ r ∧ r ≤ cTop ∧ memC l r := by
  have h := fold_take hp hs s.length
  rw [List.take_length, ← hc] at h
  refine ⟨h.1, fun r => ?_⟩
  rw [h.2 r, ← clip_mem l r]
  constructor
  · rintro (h | ⟨y, hy, h⟩)
    · exact absurd h (memC_nil r)
    · exact ⟨y, hp.mem_iff.1 hy, h⟩
  · rintro ⟨y, hy, h⟩
    exact .inr ⟨y, hp.mem_iff.2 hy, h⟩
set_option maxRecDepth 100000 in
set_option maxHeartbeats 3200000 in
theorem made_as (w : World) (v : Value) (l : List (Int × Int)) (hc : InC w v l) (hl : l.length ≤ 1000000) :
    Calls Tryd.prog 12 #[v] w fun e w' => ∃ v' c, e = .returned v' ∧ settledC c ∧ (∀ r, memC c r ↔ 0 ≤ r ∧ r ≤ cTop ∧ memC l r) ∧ OwnC w' w.heap.size v' c ∧ Below w.heap.size w w' := by
  obtain ⟨a, cap, rfl, h1, h2, h3⟩ := hc
  have H3 := Lib.hid h3
  clear h3
  obtain ⟨i0, hi, hz0, hz1, hz2⟩ := info_parts infoC
  go_enter Tryd.func12, Tryd.ntmps12
  go_wp2_with fail
  go_loopw [3, 11] (fun u i wr => ∃ k : Nat, k ≤ l.length ∧ i = .int .i64 k ∧ OwnC wr w.heap.size u (clipC (l.take k)) ∧ Below w.heap.size w wr) (fun _ i _ => l.length - (intOf i).toNat)
  case atStart => exact ⟨0, Nat.zero_le _, rfl, World.ownsRow_nil _ _ _ _, Below.refl _ _⟩
  case round =>
    obtain ⟨k, hk, rfl, ho, hb⟩ := hrel
    have HB := Lib.hid hb
    clear hb
    have HCL : Hid ((clipC (l.take k)).length ≤ 1000000) := Lib.hid (Nat.le_trans (clip_len _) (by simp; omega))
    obtain ⟨ao, cp, rfl, hcap, hm, _⟩ := ho.inC
    have HO := Lib.hid ho
    clear ho
    by_cases hlt : k < l.length
    · have hki : (k : Int) < (l.length : Int) := by omega
      obtain ⟨b, off, rfl, hbl, hcell⟩ := H3.out (by omega)
      have c0 : wr.cell? ⟨b, off + k * 2, none⟩ = some (.int .i32 l[k].1) := (HB.out.cell (p := ⟨b, off + k * 2, none⟩) hbl).trans (hcell k hlt).1
      have c1 : wr.cell? ⟨b, off + k * 2 + 1, none⟩ = some (.int .i32 l[k].2) := (HB.out.cell (p := ⟨b, off + k * 2 + 1, none⟩) hbl).trans (hcell k hlt).2
      clear hcell
      obtain ⟨⟨x1, x2⟩, hx⟩ : ∃ z, l[k] = z := ⟨_, rfl⟩
      rw [hx] at c0 c1
      have HX : Hid (clip1 l[k] = (max x1 0, min x2 1114111)) := Lib.hid (by rw [hx]; rfl)
      clear hx
      by_cases hle : max x1 0 ≤ min x2 1114111
      · have HY := Lib.hid (clip_yes l k hlt _ HX.out hle)
        have OW1 : Hid ((wr.alloc (.cells #[.int .i32 (max x1 0), .int .i32 (min x2 1114111)] 28)).ownsRow w.heap.size 28 2 (.slice ao (clipC (l.take k)).length cp) (clipC (l.take k)).length (cC (clipC (l.take k)))) := Lib.hid (HO.out.alloc _)
        have HW1 : Hid (wr.heap.size + 1 = (wr.alloc (.cells #[.int .i32 (max x1 0), .int .i32 (min x2 1114111)] 28)).heap.size) := Lib.hid (by simp)
        generalize hd : clipC (l.take k) = d at *
        have hdl : d.length ≤ 1000000 := HCL.out
        have hsz := HB.out.size
        go_wp2_with (at_builtin; refine wpList_append_own _ rfl _ _ 22 rfl w.heap.size 28 i0 (.agg #[.int .i32 0, .int .i32 0]) 2 8 Tryd.underlying22 hi hz0 hz1 hz2 rfl (by decide) _ _ _ rfl (OW1.out.alloc _) ⟨wr.heap.size + 1, 0, none⟩ 1 1 [.int .i32 (max x1 0), .int .i32 (min x2 1114111)] rfl rfl (lit_cells3 _ _ _ _ _ HW1.out) (by simp [Value.oneCell']) (by unfold maxLen; omega) (by omega) (by simp; omega) ?_; intro v8 w8 hown8 hgr8 _)
        have OW8 : Hid (OwnC w8 w.heap.size v8 (clipC (l.take (k + 1)))) := Lib.hid (by
          rw [HY.out]
          show w8.ownsRow _ _ _ _ _ _
          rw [cC_append, List.length_append]
          exact hown8)
        have BE8 : Hid (Below w.heap.size w w8) := Lib.hid (((HB.out.alloc hsz _).alloc (by simp; omega) _).grown hgr8 (by simp; omega) (fun k hk => (OW1.out.lt k hk).1))
        clear hown8 hgr8
        go_wp2
        go_roundw
        case rel => exact ⟨k + 1, by omega, by go_num, OW8.out, BE8.out⟩
        case measure => simp [intOf]; omega
      · have HY := Lib.hid (clip_no l k hlt _ HX.out hle)
        go_wp2_with fail
        go_roundw
        case rel => exact ⟨k + 1, by omega, by go_num, by rw [HY.out]; exact HO.out.alloc _, HB.out.alloc HB.out.size _⟩
        case measure => simp [intOf]; omega
    · have hke : l.take k = l := List.take_of_length_le (by omega)
      rw [hke] at HO HCL
      rw [hke]
      have HLEN := HCL.out
      go_wp2_with fail
      with_reducible refine (sort_as wr w.heap.size _ (clipC l) HO.out HB.out.size (by omega)).mono ?_
      rintro e w1 ⟨rfl, s, hp, hs, ho1, hb1⟩
      have hsl : (clipC l).length = s.length := hp.length_eq.symm
      rw [hsl] at ho1
      rw [hsl]
      have hs1 : s.length ≤ 1000000 := by omega
      have HF := Lib.hid (fun j => fold_take hp hs j)
      have HALL := Lib.hid (fun c hc => fold_all hp hs c hc)
      have HIN := Lib.hid (fun (y : Int × Int) (hy : y ∈ s) => clip_in (hp.mem_iff.1 hy))
      have HB1 := Lib.hid (HB.out.trans hb1)
      have hb1s := HB1.out.size
      obtain ⟨aq, cq, hq, hcq, hmq, hrow⟩ := ho1.inC
      injection hq with hq1 hq2 hq3
      subst hq1
      subst hq3
      have HR := Lib.hid hrow
      clear hrow ho1 hb1 hp hs hsl HLEN HO HB
      clear HCL
      go_wp2_with fail
      go_loopw [6, 36] (fun u i wq => ∃ j : Nat, j ≤ s.length ∧ i = .int .i64 j ∧ OwnC wq w1.heap.size u ((s.take j).foldl joinC []) ∧ Below w1.heap.size w1 wq) (fun _ i _ => s.length - (intOf i).toNat)
      case atStart => exact ⟨0, Nat.zero_le _, rfl, World.ownsRow_nil _ _ _ _, Below.refl _ _⟩
      case round =>
        obtain ⟨j, hj, rfl, ho, hb⟩ := hrel
        have HO := Lib.hid ho
        have HB := Lib.hid hb
        clear ho hb
        by_cases hlj : j < s.length
        · have hji : (j : Int) < (s.length : Int) := by omega
          obtain ⟨b, off, rfl, hbl, hcell⟩ := HR.out (by omega)
          have c0 : wr.cell? ⟨b, off + j * 2, none⟩ = some (.int .i32 s[j].1) := (HB.out.cell (p := ⟨b, off + j * 2, none⟩) hbl).trans (hcell j hlj).1
          have c1 : wr.cell? ⟨b, off + j * 2 + 1, none⟩ = some (.int .i32 s[j].2) := (HB.out.cell (p := ⟨b, off + j * 2 + 1, none⟩) hbl).trans (hcell j hlj).2
          clear hcell
          have hbd := HIN.out s[j] (List.getElem_mem hlj)
          have HT : Hid ((s.take (j + 1)).foldl joinC [] = joinC ((s.take j).foldl joinC []) s[j]) := Lib.hid (by rw [List.take_succ_eq_append_getElem hlj, List.foldl_append]; rfl)
          obtain ⟨⟨y1, y2⟩, hy⟩ : ∃ z, s[j] = z := ⟨_, rfl⟩
          rw [hy] at c0 c1 hbd HT
          clear hy
          have hbd2 : 0 ≤ y2 ∧ y2 ≤ 1114111 := by have h1 : 0 ≤ y1 := hbd.1; have h2 : y1 ≤ y2 := hbd.2.1; have h3 : y2 ≤ 1114111 := hbd.2.2; omega
          clear hbd
          have OW1 : Hid (OwnC (wr.alloc (.cells #[.int .i32 y1, .int .i32 y2] 28)) w1.heap.size u6 ((s.take j).foldl joinC [])) := Lib.hid (HO.out.alloc _)
          have SF := Lib.hid (HF.out j).1
          have hz := HB.out.size
          go_wp2_with fail
          with_reducible refine (joined_as _ w1.heap.size u6 _ (y1, y2) OW1.out (by simp; omega) (settled_few SF.out) (settled_his SF.out) hbd2).mono ?_
          rintro e w2 ⟨v2, rfl, ho2, hb2⟩
          have HO2 := Lib.hid ho2
          have HB2 := Lib.hid ((HB.out.alloc hz _).trans hb2)
          clear ho2 hb2
          go_wp2
          go_roundw
          case rel => exact ⟨j + 1, by omega, by go_num, by rw [HT.out]; exact HO2.out, HB2.out⟩
          case measure => simp [intOf]; omega
        · have hje : s.take j = s := List.take_of_length_le (by omega)
          rw [hje] at HO
          go_wp2
          go_ret
          exact ⟨_, _, rfl, (HALL.out _ rfl).1, (HALL.out _ rfl).2, HO.out.down hb1s, HB1.out.trans (HB.out.mono hb1s)⟩
end Go.Proofs.YtbfhkcljkblnmaaDoor
