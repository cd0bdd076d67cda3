/- The numbers at the bounds of ranges, and beside them, as the law lists them. -/
import Derived.Test.YtbfhkcljkblnmaaDoorCrZ
namespace Go.Proofs.YtbfhkcljkblnmaaDoor
open Go.RowKit Florin
set_option linter.unusedVariables false
set_option linter.unusedSimpArgs false
def clampB (x : Int) : Int := min (max x (-1)) 1114112
def bndT (x : Int × Int) (k : Nat) : List Int := (List.range k).flatMap fun (j : Nat) => [clampB x.1 + ((j : Int) - 1), clampB x.2 + ((j : Int) - 1)]
def bndL (l : List (Int × Int)) : List Int := l.flatMap fun x => bndT x 3
def bnd0 : List Int := [-1, 0, 1, 97, 1114110, 1114111, 1114112]
def bndA (ls : List (Value × List (Int × Int))) : List Int := ls.flatMap fun p => bndL p.2
theorem bndT_succ (x : Int × Int) (k : Nat) : bndT x (k + 1) = bndT x k ++ [clampB x.1 + ((k : Int) - 1), clampB x.2 + ((k : Int) - 1)] := by
  unfold bndT
  rw [List.range_succ, List.flatMap_append]
  simp
theorem bndT_len (x : Int × Int) : ∀ k, (bndT x k).length = 2 * k
  | 0 => rfl
  | k + 1 => by rw [bndT_succ, List.length_append, bndT_len x k]; simp; omega
theorem bndL_len : ∀ l : List (Int × Int), (bndL l).length = 6 * l.length
  | [] => rfl
  | x :: t => by
    have := bndL_len t
    unfold bndL at *
    rw [List.flatMap_cons, List.length_append, this, bndT_len, List.length_cons]
    omega
theorem bndL_snoc (l : List (Int × Int)) (k : Nat) (h : k < l.length) : bndL (l.take (k + 1)) = bndL (l.take k) ++ bndT l[k] 3 := by
  unfold bndL
  rw [List.take_succ_eq_append_getElem h, List.flatMap_append]
  simp
theorem bndA_len : ∀ ls : List (Value × List (Int × Int)), (∀ p ∈ ls, p.2.length ≤ 30) → (bndA ls).length ≤ 180 * ls.length
  | [], _ => by simp [bndA]
  | x :: t, h => by
    have h1 := bndA_len t (fun p hp => h p (List.mem_cons_of_mem _ hp))
    have h2 := h x (List.mem_cons_self ..)
    have h3 := bndL_len x.2
    unfold bndA at *
    rw [List.flatMap_cons, List.length_append, List.length_cons]
    omega
theorem bndA_snoc (ls : List (Value × List (Int × Int))) (k : Nat) (h : k < ls.length) : bndA (ls.take (k + 1)) = bndA (ls.take k) ++ bndL ls[k].2 := by
  unfold bndA
  rw [List.take_succ_eq_append_getElem h, List.flatMap_append]
  simp
def iC (rs : List Int) : List Value := rs.map fun z => .int .i32 z
theorem iC_append (a b : List Int) : iC (a ++ b) = iC a ++ iC b := by simp [iC]
/-- A row of code points of the call's own. -/
abbrev OwnI (w : World) (B : Nat) (v : Value) (rs : List Int) : Prop := w.ownsRow B 21 1 v rs.length (iC rs)
/-- A row of code points in memory. -/
def InI (w : World) (v : Value) (rs : List Int) : Prop := ∃ a cap, v = .slice a rs.length cap ∧ (0 < rs.length → ∃ b, a = some ⟨b, 0, none⟩ ∧ b < w.heap.size ∧ ∀ k (h : k < rs.length), w.cell? ⟨b, k, none⟩ = some (.int .i32 rs[k]))
theorem OwnI.inI {w : World} {B : Nat} {v : Value} {rs : List Int} (h : OwnI w B v rs) : InI w v rs := by
  rcases h.2 with ⟨rfl, hn⟩ | ⟨g, cap, cur, rfl, hB, hg, h1, h2, h3, h4⟩
  · exact ⟨none, 0, by rw [hn], fun h0 => absurd h0 (by omega)⟩
  · refine ⟨_, cap, rfl, fun h0 => ⟨g, rfl, BoxT.lt (cs := cur) (t := 21) hg, fun k hk => ?_⟩⟩
    rw [h.cellAt _ (by omega)]
    simp [iC, hk]
theorem InI.below {w w' : World} {v : Value} {rs : List Int} (h : InI w v rs) (hb : Below w.heap.size w w') : InI w' v rs := by
  obtain ⟨a, cap, h1, h2⟩ := h
  refine ⟨a, cap, h1, fun h0 => ?_⟩
  obtain ⟨b, e, hl, hc⟩ := h2 h0
  exact ⟨b, e, Nat.lt_of_lt_of_le hl hb.size, fun k hk => (hb.cell (p := ⟨b, k, none⟩) hl).trans (hc k hk)⟩
theorem OwnI.shape {w : World} {B : Nat} {v : Value} {rs : List Int} (h : OwnI w B v rs) : ∃ a cap, v = .slice a rs.length cap ∧ rs.length ≤ cap ∧ cap ≤ maxLen := by
  rcases h.2 with ⟨rfl, hn⟩ | ⟨g, cap, cur, rfl, hB, hg, h1, h2, h3, h4⟩
  · exact ⟨none, 0, by rw [hn], by omega, by unfold maxLen; omega⟩
  · exact ⟨_, cap, rfl, h1, h2⟩
theorem BoxT.row {w w' : World} {B : Nat} {e : TypeId} {size : Nat} {v : Value} {n : Nat} {xs : List Value} {b : Nat} {cs : Array Value} {t : TypeId} (h : BoxT w b cs t) (ho : w.ownsRow B e size v n xs) (hg : w.grownBy w' v.ownBlock) (ht : t ≠ e) : BoxT w' b cs t :=
  (hg.block b h.lt (fun q => by
    rcases ho.2 with ⟨rfl, _⟩ | ⟨g, cap, cur, rfl, _, hgc, _⟩
    · cases q
    · have e2 : b = g := Option.some.inj q
      subst e2
      have h4 : w.heap[b]? = some (.cells cs t) := h
      rw [h4] at hgc
      cases hgc
      exact ht rfl)).trans h
theorem infoI : (Tryd.prog.info? 21).map (fun i => (i.zero, i.size, i.bytes)) = some (some (.int .i32 0), 1, 4) := by kernel_rfl
theorem lit_cells4 (w : World) (x y : Value) (e : TypeId) (b : Nat) (hb : b = w.heap.size) : ∀ j u, [x, y][j]? = some u → (w.alloc (.cells #[x, y] e)).cell? ((⟨b, 0, none⟩ : Addr).add j) = some u := by
  subst hb
  exact lit_cells2 w x y e
set_option maxRecDepth 100000 in
set_option maxHeartbeats 6400000 in
theorem bounds_as (w : World) (g : Nat) (ls : List (Value × List (Int × Int))) (N : Nat) (hN : ls.length = N) (hl : ls.length ≤ 10) (hg : g < w.heap.size)
    (hc : ∀ k (h : k < ls.length), w.cell? ⟨g, k, none⟩ = some ls[k].1 ∧ InC w ls[k].1 ls[k].2) (h30 : ∀ p ∈ ls, p.2.length ≤ 30) :
    Calls Tryd.prog 13 #[.slice (some ⟨g, 0, none⟩) N N] w fun e w' => ∃ v, e = .returned v ∧ OwnI w' w.heap.size v (bnd0 ++ bndA ls) ∧ Below w.heap.size w w' := by
  subst hN
  obtain ⟨i0, hi, hz0, hz1, hz2⟩ := info_parts infoI
  have HC := Lib.hid hc
  have H30 := Lib.hid h30
  clear hc h30
  go_enter Tryd.func13, Tryd.ntmps13
  go_wp2_with fail
  go_loopw [3, 14] (fun u i wr => ∃ k : Nat, k ≤ ls.length ∧ i = .int .i64 (k : Int) ∧ OwnI wr w.heap.size u (bnd0 ++ bndA (ls.take k)) ∧ Below w.heap.size w wr) (fun _ i _ => ls.length - (intOf i).toNat)
  case atStart => exact ⟨0, Nat.zero_le _, rfl, World.ownsRow_lit w _ 7 (Nat.le_refl _) (by unfold maxLen; omega) rfl, (Below.refl _ _).alloc (Nat.le_refl _) _⟩
  case round =>
    obtain ⟨k, hk, rfl, ho, hb⟩ := hrel
    have HB := Lib.hid hb
    have HO := Lib.hid ho
    clear hb ho
    by_cases hlt : k < ls.length
    · have hki : (k : Int) < (ls.length : Int) := by omega
      obtain ⟨d0, hin⟩ := HC.out k hlt
      have hlen30 := H30.out ls[k] (List.getElem_mem hlt)
      have HSN := Lib.hid (bndA_snoc ls k hlt)
      have c0 := (HB.out.cell (p := ⟨g, k, none⟩) hg).trans d0
      have hRl : (bnd0 ++ bndA (ls.take k)).length ≤ 2000 := by
        have h1 := bndA_len (ls.take k) (fun p hp => H30.out p (List.mem_of_mem_take hp))
        have h2 := List.length_take_le k ls
        rw [List.length_append]
        have h3 : bnd0.length = 7 := rfl
        omega
      obtain ⟨⟨v, l⟩, hy⟩ : ∃ z, ls[k] = z := ⟨_, rfl⟩
      rw [hy] at c0 hin hlen30 HSN
      dsimp only at c0 hin hlen30 HSN
      clear hy d0
      obtain ⟨R, hR⟩ : ∃ R, bnd0 ++ bndA (ls.take k) = R := ⟨_, rfl⟩
      have HSN2 : Hid (bnd0 ++ bndA (ls.take (k + 1)) = R ++ bndL l) := Lib.hid (by rw [HSN.out, ← List.append_assoc, hR])
      rw [hR] at HO hRl
      clear hR HSN
      obtain ⟨a, cap, rfl, h1, h2, h3⟩ := hin
      have H3 := Lib.hid h3
      clear h3
      have hz := HB.out.size
      go_wp2_with fail
      go_loopw [3, 20] (fun u i wq => ∃ j : Nat, j ≤ l.length ∧ i = .int .i64 (j : Int) ∧ OwnI wq w.heap.size u (R ++ bndL (l.take j)) ∧ Below w.heap.size w wq) (fun _ i _ => l.length - (intOf i).toNat)
      case atStart => exact ⟨0, Nat.zero_le _, rfl, by rw [List.take_zero, show bndL [] = [] from rfl, List.append_nil]; exact HO.out, HB.out⟩
      case round =>
        obtain ⟨j, hj, rfl, ho, hb⟩ := hrel
        have HB2 := Lib.hid hb
        have HO2 := Lib.hid ho
        clear hb ho
        by_cases hlj : j < l.length
        · have hji : (j : Int) < (l.length : Int) := by omega
          obtain ⟨b, off, rfl, hbl, hcell⟩ := H3.out (by omega)
          have c1 := (HB2.out.cell (p := ⟨b, off + j * 2, none⟩) hbl).trans (hcell j hlj).1
          have c2 := (HB2.out.cell (p := ⟨b, off + j * 2 + 1, none⟩) hbl).trans (hcell j hlj).2
          clear hcell
          have HSJ := Lib.hid (bndL_snoc l j hlj)
          have hR2 : (R ++ bndL (l.take j)).length ≤ 2200 := by
            have h4 := bndL_len (l.take j)
            have h5 := List.length_take_le j l
            rw [List.length_append]
            omega
          obtain ⟨⟨x1, x2⟩, hy⟩ : ∃ z, l[j] = z := ⟨_, rfl⟩
          rw [hy] at c1 c2 HSJ
          dsimp only at c1 c2
          clear hy
          obtain ⟨Q, hQ⟩ : ∃ Q, R ++ bndL (l.take j) = Q := ⟨_, rfl⟩
          have HSJ2 : Hid (R ++ bndL (l.take (j + 1)) = Q ++ bndT (x1, x2) 3) := Lib.hid (by rw [HSJ.out, ← List.append_assoc, hQ])
          rw [hQ] at HO2 hR2
          clear hQ HSJ
          have hzq := HB2.out.size
          have BX := Lib.hid ((Below.refl wr.heap.size wr).alloc (Nat.le_refl _) (.cells #[.int .i32 x1, .int .i32 x2] 28))
          have XB0 := Lib.hid (BoxT.new wr #[.int .i32 x1, .int .i32 x2] 28)
          have HOX : Hid (OwnI (wr.alloc (.cells #[.int .i32 x1, .int .i32 x2] 28)) w.heap.size u3 Q) := Lib.hid (HO2.out.alloc _)
          go_wp2_with fail
          go_loopw [3, 8] (fun u d wp => ∃ m : Nat, m ≤ 3 ∧ d = .int .i32 ((m : Int) - 1) ∧ OwnI wp w.heap.size u (Q ++ bndT (x1, x2) m) ∧ BoxT wp wr.heap.size #[.int .i32 x1, .int .i32 x2] 28 ∧ Below w.heap.size w wp) (fun _ d _ => (2 - intOf d).toNat)
          case atStart => exact ⟨0, by omega, rfl, by rw [show bndT (x1, x2) 0 = [] from rfl, List.append_nil]; exact HOX.out, XB0.out, HB2.out.trans (BX.out.mono hzq)⟩
          case round =>
            obtain ⟨m, hm, rfl, ho, hbx, hb⟩ := hrel
            have HB3 := Lib.hid hb
            have HO3 := Lib.hid ho
            have HBX := Lib.hid hbx
            have q0 := hbx.cell 0
            have q1 := hbx.cell 1
            have ql := hbx.lt
            simp at q0 q1
            clear hb ho hbx
            have hzp := HB3.out.size
            by_cases hm3 : m < 3
            · have hmi : (m : Int) - 1 ≤ 1 := by omega
              have hlb : (Q ++ bndT (x1, x2) m).length ≤ 2300 := by
                have h6 := bndT_len (x1, x2) m
                rw [List.length_append]
                omega
              have HST := Lib.hid (bndT_succ (x1, x2) m)
              obtain ⟨P, hP⟩ : ∃ P, Q ++ bndT (x1, x2) m = P := ⟨_, rfl⟩
              have HST2 : Hid (Q ++ bndT (x1, x2) (m + 1) = P ++ [clampB x1 + ((m : Int) - 1), clampB x2 + ((m : Int) - 1)]) := Lib.hid (by rw [HST.out, ← List.append_assoc, hP])
              rw [hP] at HO3 hlb
              clear hP HST
              have OW1 : Hid (wr.ownsRow w.heap.size 21 1 u3 P.length (iC P)) := Lib.hid HO3.out
              go_wp2_with (at_builtin; refine wpList_append_own _ rfl _ _ 29 rfl w.heap.size 21 i0 (.int .i32 0) 1 4 Tryd.underlying29 hi hz0 hz1 hz2 rfl (by decide) _ _ _ rfl (OW1.out.alloc _) ⟨wr.heap.size, 0, none⟩ 2 2 [.int .i32 (min (max x1 (-1)) 1114112 + ((m : Int) - 1)), .int .i32 (min (max x2 (-1)) 1114112 + ((m : Int) - 1))] rfl rfl (lit_cells4 _ _ _ _ _ rfl) (by simp [Value.oneCell']) (by unfold maxLen; omega) (by omega) (by simp; omega) ?_; intro v8 w8 hown8 hgr8 _)
              have OW8 : Hid (OwnI w8 w.heap.size v8 (Q ++ bndT (x1, x2) (m + 1))) := Lib.hid (by
                rw [HST2.out]
                show w8.ownsRow _ _ _ _ _ _
                rw [iC_append, List.length_append]
                exact hown8)
              have BE8 : Hid (Below w.heap.size w w8) := Lib.hid ((HB3.out.alloc hzp _).grown hgr8 (by simp; omega) (fun k hk => (OW1.out.lt k hk).1))
              have BX8 := Lib.hid (BoxT.row (HBX.out.alloc _) (OW1.out.alloc _) hgr8 (by decide))
              clear hown8 hgr8
              go_wp2
              go_roundw
              case rel => exact ⟨m + 1, by omega, by go_num, OW8.out, BX8.out, BE8.out⟩
              case measure => simp [intOf]; omega
            · have hm4 : m = 3 := by omega
              have hmi : ¬ (m : Int) - 1 ≤ 1 := by omega
              go_wp2
              go_roundw
              case rel => exact ⟨j + 1, by omega, by go_num, by rw [HSJ2.out, ← hm4]; exact HO3.out, HB3.out⟩
              case measure => simp [intOf]; omega
        · have HTJ : Hid (l.take j = l) := Lib.hid (List.take_of_length_le (by omega))
          have hjn : ¬ (j : Int) < (l.length : Int) := by omega
          go_wp2
          go_roundw
          case rel => exact ⟨k + 1, by omega, by go_num, by rw [HSN2.out]; have h := HO2.out; rw [HTJ.out] at h; exact h, HB2.out⟩
          case measure => simp [intOf]; omega
    · have HTK : Hid (ls.take k = ls) := Lib.hid (List.take_of_length_le (by omega))
      have hkn : ¬ (k : Int) < (ls.length : Int) := by omega
      go_wp2
      go_ret
      exact ⟨_, rfl, by have h := HO.out; rw [HTK.out] at h; exact h, HB.out⟩
end Go.Proofs.YtbfhkcljkblnmaaDoor
