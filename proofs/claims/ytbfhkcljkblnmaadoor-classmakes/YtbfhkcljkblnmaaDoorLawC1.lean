/- The walk of the law ClassMakes. -/
import Derived.Test.YtbfhkcljkblnmaaDoorCrS
namespace Go.Proofs.YtbfhkcljkblnmaaDoor
open Go.RowKit Florin
set_option linter.unusedVariables false
set_option linter.unusedSimpArgs false
attribute [local go_sem ↓] Go.wp_at_zero Go.wp_at_succ
theorem own_zero {w : World} {B : Nat} {e : TypeId} {size : Nat} {v : Value} {n n' : Nat} {xs xs' : List Value} (h : w.ownsRow B e size v n xs) (hn : n' = n) (hx : xs' = xs) : w.ownsRow B e size v n' xs' := by
  subst hn
  subst hx
  exact h
set_option maxRecDepth 100000 in
set_option maxHeartbeats 25600000 in
theorem classMakes_walk (l0 : List (Int × Int)) (v0 : Value) (n : Int) (w : World) (h0 : InC w v0 l0 ∧ (v0 = .slice none 0 0 ∨ ∃ a m c, v0 = .slice (some a) m c)) (hn : (Lit.int .i64 n).wf = true) (hTD : Tabs w ∧ Deb w) :
    Calls Tryd.prog 3 #[v0, .int .i64 n] w fun x w' => x = .returned (.bool true) ∧ Below w.heap.size w w' := by
  have HT := Lib.hid hTD.1
  have HD := Lib.hid hTD.2
  have HH : Hid (HeldI w [(v0, l0)] w) := Lib.hid ⟨(fun p hp => by
    rcases List.mem_cons.1 hp with rfl | hp
    · exact h0.1
    · cases hp), Below.refl _ _⟩
  have HIN := Lib.hid h0.1
  obtain ⟨⟨a0, p0, rfl, hlp0, hpm0, _⟩, hsh⟩ := h0
  obtain ⟨i0, hi, hz0, hz1', hz2⟩ := info_parts infoC
  clear hTD
  obtain ⟨K, hK, hand⟩ : ∃ k : Nat, k ≤ 65535 ∧ bits .and .i64 n 65535 = (k : Int) := and_mask n 65535 (by decide)
  cases hf : fewB [l0.length] with
  | false =>
    have HF := Lib.hid hf
    clear hf
    go_enter Tryd.func3, Tryd.ntmps3
    go_wp2_with fail
    with_reducible refine (head10 _ HT.out HD.out).mono ?_
    rintro x w1 ⟨rfl, hb⟩
    have B1 := Lib.hid (HeldI.keep HH.out hb)
    clear hb HH
    have FC : Hid (∀ k (h : k < [l0.length].length), (w1.alloc (.cells #[.slice a0 l0.length p0] 22)).cell? ⟨w1.heap.size, k, none⟩ = some (.slice ([a0][k]'h) ([l0.length][k]'h) ([p0][k]'h))) := Lib.hid (fun k h => by
      rw [BoxT.cell (BoxT.new w1 _ _) k]
      match k, h with
      | 0, _ => rfl)
    go_wp2_with fail
    with_reducible refine (few_as _ w1.heap.size [a0] [l0.length] [p0] rfl rfl (by simp) FC.out false HF.out 1 rfl).mono ?_
    rintro x w2 ⟨rfl, rfl⟩
    go_wp2
    go_ret
    exact ⟨rfl, B1.out.bel.alloc B1.out.bel.size _⟩
  | true =>
    have hlen : l0.length ≤ 30 := by
      unfold fewB at hf
      simpa using hf
    have HF := Lib.hid hf
    clear hf
    go_enter Tryd.func3, Tryd.ntmps3
    go_wp2_with fail
    with_reducible refine (head10 _ HT.out HD.out).mono ?_
    rintro x w1 ⟨rfl, hb⟩
    have B1 := Lib.hid (HeldI.keep HH.out hb)
    clear hb HH
    have FC : Hid (∀ k (h : k < [l0.length].length), (w1.alloc (.cells #[.slice a0 l0.length p0] 22)).cell? ⟨w1.heap.size, k, none⟩ = some (.slice ([a0][k]'h) ([l0.length][k]'h) ([p0][k]'h))) := Lib.hid (fun k h => by
      rw [BoxT.cell (BoxT.new w1 _ _) k]
      match k, h with
      | 0, _ => rfl)
    go_wp2_with fail
    with_reducible refine (few_as _ w1.heap.size [a0] [l0.length] [p0] rfl rfl (by simp) FC.out true HF.out 1 rfl).mono ?_
    rintro x w2 ⟨rfl, rfl⟩
    have H0 := Lib.hid (HeldI.keep B1.out ((Below.refl w1.heap.size w1).alloc (Nat.le_refl _) (.cells #[.slice a0 l0.length p0] 22)))
    clear B1 FC HF
    have hz1 := H0.out.bel.size
    simp at hz1
    rcases hsh with hsh | ⟨ad, ms, cs, hsh⟩
    · have hl0 : l0.length = 0 := by injection hsh
      have hp0 : p0 = 0 := by injection hsh
      obtain rfl : a0 = none := by injection hsh
      have hnil : l0 = [] := List.length_eq_zero_iff.1 hl0
      have OE : Hid (((w1.alloc (.cells #[.slice none l0.length p0] 22)).alloc (.cells #[] 28)).ownsRow w.heap.size 28 2 (.slice (some ⟨w1.heap.size + 1, 0, none⟩) 0 0) 0 []) := Lib.hid (by
        have h := World.ownsRow_lit (base := w.heap.size) (e := 28) (size := 2) (w1.alloc (.cells #[.slice none l0.length p0] 22)) #[] 0 (by simp; omega) (by unfold maxLen; omega) rfl
        have e : (w1.alloc (.cells #[.slice none l0.length p0] 22)).heap.size = w1.heap.size + 1 := by simp
        rw [e] at h
        exact h)
      have KM0 := Lib.hid (HeldI.keep H0.out ((Below.refl (w1.alloc (.cells #[.slice none l0.length p0] 22)).heap.size _).alloc (Nat.le_refl _) (.cells #[] 28)))
      have HL0 := Lib.hid hl0
      have HP0 := Lib.hid hp0
      have HNIL := Lib.hid hnil
      clear hsh H0 hl0 hp0 hnil
      go_wp2_with (at_builtin; refine wpList_append_own_none rfl _ _ 22 rfl w.heap.size 28 i0 2 Tryd.underlying22 hi _ _ _ rfl OE.out (by show Value.slice none l0.length p0 = _; rw [HL0.out, HP0.out]) ?_)
      have OM : Hid (OwnC ((w1.alloc (.cells #[.slice none l0.length p0] 22)).alloc (.cells #[] 28)) w.heap.size (.slice (some ⟨w1.heap.size + 1, 0, none⟩) 0 0) l0) := Lib.hid (own_zero OE.out HL0.out (by rw [HNIL.out]; rfl))
      have KM1 := Lib.hid (HeldI.add KM0.out (Below.refl _ _) OM.out)
      obtain ⟨am, cm, hvm, _, _, _⟩ := OM.out.inC
      rw [hvm] at KM1 ⊢
      generalize ((w1.alloc (.cells #[.slice none l0.length p0] 22)).alloc (.cells #[] 28)) = wM at *
      have KM := KM1
      clear KM0 OM OE KM1 hvm
      go_wp2_with fail
      with_reducible refine (made_at _ (.slice am l0.length cm) l0 (HeldI.f KM.out (List.Mem.head _)) (by omega)).mono ?_
      rintro e q21 ⟨vv21, c21, rfl, hs, hm, ho, hb⟩
      have S21 := Lib.hid hs
      have M21 := Lib.hid hm
      have K21 := Lib.hid (HeldI.add KM.out hb ho)
      clear hs hm ho hb KM
      go_wp2_with fail
      go_loopw [26] (fun i wr => ∃ k : Nat, k ≤ l0.length ∧ i = .int .i64 (k : Int) ∧ HeldI w [(vv21, c21), ((.slice am l0.length cm), l0), ((.slice none l0.length p0), l0)] wr) (fun i _ => l0.length - (intOf i).toNat)
      case atStart => exact ⟨0, Nat.zero_le _, rfl, K21.out⟩
      case round =>
        obtain ⟨k, hk, rfl, hh⟩ := hrel
        have HL := Lib.hid hh
        clear hh K21
        by_cases hlt : k < l0.length
        · exfalso; have := HL0.out; omega
        · have hkn : ¬ (k : Int) < (l0.length : Int) := by omega
          have KA := Lib.hid (HeldI.keep HL.out ((Below.refl wr.heap.size wr).alloc (Nat.le_refl _) (.cells #[.slice none l0.length p0] 22)))
          have BH : Hid (∀ k (h : k < [(Value.slice none l0.length p0, l0)].length), (wr.alloc (.cells #[.slice none l0.length p0] 22)).cell? ⟨wr.heap.size, k, none⟩ = some ([(Value.slice none l0.length p0, l0)][k]).1 ∧ InC (wr.alloc (.cells #[.slice none l0.length p0] 22)) ([(Value.slice none l0.length p0, l0)][k]).1 ([(Value.slice none l0.length p0, l0)][k]).2) := Lib.hid (fun k h => by
            rw [BoxT.cell (BoxT.new wr _ _) k]
            match k, h with
            | 0, _ => exact ⟨rfl, (HeldI.f KA.out (List.Mem.tail _ (List.Mem.tail _ (List.Mem.head _))))⟩)
          have B30 : Hid (∀ p ∈ [(Value.slice none l0.length p0, l0)], p.2.length ≤ 30) := Lib.hid (by
            intro p hp
            rcases List.mem_cons.1 hp with rfl | hp
            · exact hlen
            · cases hp)
          go_wp2_with fail
          with_reducible refine (bounds_as _ _ [(Value.slice none l0.length p0, l0)] 1 rfl (by simp) (by simp) BH.out B30.out).mono ?_
          rintro e qB ⟨vB, rfl, ho, hb⟩
          have hrl := bnd_len B30.out (by simp)
          have IB := Lib.hid ho.inI
          have KB := Lib.hid (HeldI.keep KA.out hb)
          obtain ⟨rs, hrs⟩ : ∃ rs, bnd0 ++ bndA [(Value.slice none l0.length p0, l0)] = rs := ⟨_, rfl⟩
          rw [hrs] at hrl IB ho
          obtain ⟨aB, cB, rfl, _, _⟩ := ho.shape
          clear hrs ho hb KA BH B30
          go_wp2_with fail
          go_loopw [43] (fun i wr => ∃ k : Nat, k ≤ rs.length ∧ i = .int .i64 (k : Int) ∧ HeldI w [(vv21, c21), ((.slice am l0.length cm), l0), ((.slice none l0.length p0), l0)] wr ∧ InI wr (.slice aB rs.length cB) rs) (fun i _ => rs.length - (intOf i).toNat)
          case atStart => exact ⟨0, Nat.zero_le _, rfl, KB.out, IB.out⟩
          case round =>
            obtain ⟨k, hk, rfl, hh, hii⟩ := hrel
            have HB := Lib.hid hh
            have HI := Lib.hid hii
            clear hh hii KB IB
            by_cases hlt : k < rs.length
            · have hki : (k : Int) < (rs.length : Int) := by omega
              obtain ⟨aX, cX, hvX, hcl⟩ := HI.out
              obtain ⟨rfl, _, rfl⟩ : aB = aX ∧ True ∧ cB = cX := by injection hvX with h1 h2 h3; exact ⟨h1, trivial, h3⟩
              obtain ⟨bb, rfl, hbbl, hcell⟩ := hcl (by omega)
              have c0 := hcell k hlt
              clear hcell hvX hcl
              generalize rs[k] = r at c0
              obtain ⟨p, hp⟩ : ∃ p, inL l0 r = p := ⟨_, rfl⟩
              have ex : hasC c21 r = p := by rw [M21.out r]; exact hp
              have HPp := Lib.hid hp
              have EX := Lib.hid ex
              clear hp ex
              go_wp2_with fail
              with_reducible refine (has_at _ vv21 c21 r (HeldI.f HB.out (List.Mem.head _)) S21.out p EX.out).mono ?_
              rintro e q22 ⟨rfl, hb⟩
              have K22 := Lib.hid (HeldI.keep HB.out hb)
              have HI22 := Lib.hid (HI.out.below hb)
              clear hb HB
              go_wp2_with fail
              with_reducible refine (in_at _ (.slice none l0.length p0) l0 r (HeldI.f K22.out (List.Mem.tail _ (List.Mem.tail _ (List.Mem.head _)))) (by omega) p HPp.out).mono ?_
              rintro e q23 ⟨rfl, hb⟩
              have K23 := Lib.hid (HeldI.keep K22.out hb)
              have HI23 := Lib.hid (HI22.out.below hb)
              clear hb K22
              cases p <;> (go_wp2; go_roundw)
              case rel => exact ⟨k + 1, by omega, by go_num, K23.out, HI23.out⟩
              case measure => simp [intOf]; omega
              case rel => exact ⟨k + 1, by omega, by go_num, K23.out, HI23.out⟩
              case measure => simp [intOf]; omega
            · have hkn2 : ¬ (k : Int) < (rs.length : Int) := by omega
              obtain ⟨wS, hwS⟩ : ∃ W, W = wr := ⟨_, rfl⟩
              subst hwS
              go_wp2_with fail
              generalize hmx : max (l0.length : Int) 1 = mx
              have HMX := Lib.hid hmx
              have hmx1 : 1 ≤ mx := by omega
              clear hmx
              go_loopw [10, 61] (fun u i wq => ∃ k : Nat, k ≤ l0.length ∧ i = .int .i64 (k : Int) ∧ OwnC wq wS.heap.size u (turnL l0 K k) ∧ Below wS.heap.size wS wq) (fun _ i _ => l0.length - (intOf i).toNat)
              case atStart => exact ⟨0, Nat.zero_le _, rfl, World.ownsRow_lit wS #[] 0 (Nat.le_refl _) (by unfold maxLen; omega) rfl, (Below.refl _ _).alloc (Nat.le_refl _) _⟩
              case round =>
                obtain ⟨k, hk, rfl, ho, hb⟩ := hrel
                have HO := Lib.hid ho
                have HBq := Lib.hid hb
                clear ho hb
                by_cases hlt : k < l0.length
                · exfalso; have := HL0.out; omega
                · have hkn3 : ¬ (k : Int) < (l0.length : Int) := by omega
                  have HTH : Hid (∀ r, hasC (turnL l0 K k) r = hasC l0 r) := Lib.hid (by
                    intro r
                    have e : k = l0.length := by omega
                    rw [e]
                    exact turn_has l0 K r)
                  have htl := turn_len l0 K k
                  have KQ := Lib.hid (HeldI.keep HB.out HBq.out)
                  have IT := Lib.hid HO.out.inC
                  obtain ⟨T, hT⟩ : ∃ T, turnL l0 K k = T := ⟨_, rfl⟩
                  rw [hT] at HTH htl IT
                  clear hT HO
                  go_wp2_with fail
                  with_reducible refine (settled_as _ vv21 c21 (HeldI.f KQ.out (List.Mem.head _)) S21.out).mono ?_
                  rintro e q24 ⟨rfl, hb⟩
                  have K24 := Lib.hid (HeldI.keep KQ.out hb)
                  have IT2 := Lib.hid (IT.out.below hb (Nat.le_refl _))
                  clear hb KQ IT
                  go_wp2_with fail
                  with_reducible refine (made_at _ u10 T IT2.out (by omega)).mono ?_
                  rintro e q25 ⟨vv25, c25, rfl, hs, hm, ho, hb⟩
                  have S25 := Lib.hid hs
                  have M25 := Lib.hid hm
                  have K25 := Lib.hid (HeldI.add K24.out hb ho)
                  clear hs hm ho hb K24
                  have EQ26 : Hid (c25 = c21) := Lib.hid (ext_b S25.out S21.out (fun r => by
                    rw [M25.out r, M21.out r, HTH.out r]))
                  go_wp2_with fail
                  with_reducible refine (same_as _ vv25 vv21 c25 c21 (HeldI.f K25.out (List.Mem.head _)) (HeldI.f K25.out (List.Mem.tail _ (List.Mem.head _))) (settled_few S25.out) (settled_few S21.out) true (decide_eq_true EQ26.out)).mono ?_
                  rintro e q26 ⟨rfl, hb⟩
                  have K26 := Lib.hid (HeldI.keep K25.out hb)
                  clear hb K25
                  go_wp2_with fail
                  with_reducible refine (made_at _ vv21 c21 (HeldI.f K26.out (List.Mem.tail _ (List.Mem.head _))) (settled_few S21.out)).mono ?_
                  rintro e q27 ⟨vv27, c27, rfl, hs, hm, ho, hb⟩
                  have S27 := Lib.hid hs
                  have M27 := Lib.hid hm
                  have K27 := Lib.hid (HeldI.add K26.out hb ho)
                  clear hs hm ho hb K26
                  have EQ28 : Hid (c27 = c21) := Lib.hid (ext_b S27.out S21.out (fun r => by
                    rw [M27.out r, ← hself S21.out r]))
                  go_wp2_with fail
                  with_reducible refine (same_as _ vv27 vv21 c27 c21 (HeldI.f K27.out (List.Mem.head _)) (HeldI.f K27.out (List.Mem.tail _ (List.Mem.tail _ (List.Mem.head _)))) (settled_few S27.out) (settled_few S21.out) true (decide_eq_true EQ28.out)).mono ?_
                  rintro e q28 ⟨rfl, hb⟩
                  have K28 := Lib.hid (HeldI.keep K27.out hb)
                  clear hb K27
                  go_wp2_with fail
                  with_reducible refine (made_at _ (.slice none 0 0) [] (nil_inC _) (by decide)).mono ?_
                  rintro e q29 ⟨vv29, c29, rfl, hs, hm, ho, hb⟩
                  have S29 := Lib.hid hs
                  have M29 := Lib.hid hm
                  have K29 := Lib.hid (HeldI.add K28.out hb ho)
                  clear hs hm ho hb K28
                  have en : c29 = [] := ext_b S29.out trivial (fun r => by rw [M29.out r, hnil]; simp)
                  obtain ⟨ae, ce, hve, _, _, _⟩ := (HeldI.f K29.out (List.Mem.head _))
                  rw [en] at hve
                  subst hve
                  go_wp2
                  go_ret
                  exact ⟨rfl, K29.out.bel⟩
    · obtain rfl : a0 = some ad := by injection hsh
      have OE : Hid (((w1.alloc (.cells #[.slice (some ad) l0.length p0] 22)).alloc (.cells #[] 28)).ownsRow w.heap.size 28 2 (.slice (some ⟨w1.heap.size + 1, 0, none⟩) 0 0) 0 []) := Lib.hid (by
        have h := World.ownsRow_lit (base := w.heap.size) (e := 28) (size := 2) (w1.alloc (.cells #[.slice (some ad) l0.length p0] 22)) #[] 0 (by simp; omega) (by unfold maxLen; omega) rfl
        have e : (w1.alloc (.cells #[.slice (some ad) l0.length p0] 22)).heap.size = w1.heap.size + 1 := by simp
        rw [e] at h
        exact h)
      have KM0 := Lib.hid (HeldI.keep H0.out ((Below.refl (w1.alloc (.cells #[.slice (some ad) l0.length p0] 22)).heap.size _).alloc (Nat.le_refl _) (.cells #[] 28)))
      have NW : Hid (∀ j u, (cC l0)[j]? = some u → ((w1.alloc (.cells #[.slice (some ad) l0.length p0] 22)).alloc (.cells #[] 28)).cell? (ad.add j) = some u) := Lib.hid (by
        intro j u hu
        obtain ⟨x1, y1, hv1, _, _, hc1⟩ := HeldI.f KM0.out (List.Mem.head _)
        have f1 : some ad = x1 := by injection hv1
        have hl : 0 < l0.length := by
          rcases Nat.lt_or_ge 0 l0.length with h | h
          · exact h
          · have : l0 = [] := List.length_eq_zero_iff.1 (by omega)
            rw [this] at hu
            simp [cC] at hu
        obtain ⟨b1, o1, hb1, _, hx1⟩ := hc1 hl
        obtain rfl : ad = ⟨b1, o1, none⟩ := Option.some.inj (f1.trans hb1)
        exact inC_cells hx1 j u hu)
      clear hsh H0
      go_wp2_with (at_builtin; refine wpList_append_own _ rfl _ _ 22 rfl w.heap.size 28 i0 (.agg #[.int .i32 0, .int .i32 0]) 2 8 Tryd.underlying22 hi hz0 hz1' hz2 rfl (by decide) _ _ _ rfl OE.out ad l0.length p0 (cC l0) rfl (cC_len l0) NW.out (cC_one l0) (by unfold maxLen; omega) (by omega) (by simp; omega) ?_; intro v8 wM hown8 hgr8 _)
      have OM : Hid (OwnC wM w.heap.size v8 l0) := Lib.hid (own_zero hown8 (Nat.zero_add _).symm (List.nil_append _).symm)
      have BM : Hid (Below w.heap.size w wM) := Lib.hid (KM0.out.bel.grown hgr8 (by simp; omega) (fun k hk => (OE.out.lt k hk).1))
      have KM : Hid (HeldI w [(v8, l0), (.slice (some ad) l0.length p0, l0)] wM) := Lib.hid ⟨(fun p hp => by
        rcases List.mem_cons.1 hp with rfl | hp
        · exact OM.out.inC
        · rcases List.mem_cons.1 hp with rfl | hp
          · exact HIN.out.below BM.out (Nat.le_refl _)
          · cases hp), BM.out⟩
      obtain ⟨am, cm, rfl, _, _, _⟩ := OM.out.inC
      clear hown8 hgr8 OE KM0 NW BM OM
      go_wp2_with fail
      with_reducible refine (made_at _ (.slice am l0.length cm) l0 (HeldI.f KM.out (List.Mem.head _)) (by omega)).mono ?_
      rintro e q61 ⟨vv61, c61, rfl, hs, hm, ho, hb⟩
      have S61 := Lib.hid hs
      have M61 := Lib.hid hm
      have K61 := Lib.hid (HeldI.add KM.out hb ho)
      clear hs hm ho hb KM
      go_wp2_with fail
      go_loopw [26] (fun i wr => ∃ k : Nat, k ≤ l0.length ∧ i = .int .i64 (k : Int) ∧ HeldI w [(vv61, c61), ((.slice am l0.length cm), l0), ((.slice (some ad) l0.length p0), l0)] wr) (fun i _ => l0.length - (intOf i).toNat)
      case atStart => exact ⟨0, Nat.zero_le _, rfl, K61.out⟩
      case round =>
        obtain ⟨k, hk, rfl, hh⟩ := hrel
        have HL := Lib.hid hh
        clear hh K61
        by_cases hlt : k < l0.length
        · have hki : (k : Int) < (l0.length : Int) := by omega
          obtain ⟨x1, y1, hv1, _, _, hc1⟩ := (HeldI.f HL.out (List.Mem.tail _ (List.Mem.tail _ (List.Mem.head _))))
          obtain ⟨x2, y2, hv2, _, _, hc2⟩ := (HeldI.f HL.out (List.Mem.tail _ (List.Mem.head _)))
          have f1 : some ad = x1 := by injection hv1
          have f2 : am = x2 := by injection hv2
          obtain ⟨b1, o1, hb1, hl1, hx1⟩ := hc1 (by omega)
          obtain ⟨b2, o2, hb2, hl2, hx2⟩ := hc2 (by omega)
          obtain rfl : ad = ⟨b1, o1, none⟩ := Option.some.inj (f1.trans hb1)
          obtain rfl : am = some ⟨b2, o2, none⟩ := f2.trans hb2
          obtain ⟨c0, c1⟩ := hx1 k hlt
          obtain ⟨d0, d1⟩ := hx2 k hlt
          clear hx1 hx2 hv1 hv2 hc1 hc2 f1 f2 hb1 hb2
          generalize (l0[k]).1 = z1 at *
          generalize (l0[k]).2 = z2 at *
          go_wp2_with fail
          go_region
          all_goals (try go_wp2)
          all_goals go_roundw
          case rel => exact ⟨k + 1, by omega, by go_num, HL.out.keep ((Below.refl _ _).drew)⟩
          case measure => simp [intOf]; omega
        · have hkn : ¬ (k : Int) < (l0.length : Int) := by omega
          have KA := Lib.hid (HeldI.keep HL.out ((Below.refl wr.heap.size wr).alloc (Nat.le_refl _) (.cells #[.slice (some ad) l0.length p0] 22)))
          have BH : Hid (∀ k (h : k < [(Value.slice (some ad) l0.length p0, l0)].length), (wr.alloc (.cells #[.slice (some ad) l0.length p0] 22)).cell? ⟨wr.heap.size, k, none⟩ = some ([(Value.slice (some ad) l0.length p0, l0)][k]).1 ∧ InC (wr.alloc (.cells #[.slice (some ad) l0.length p0] 22)) ([(Value.slice (some ad) l0.length p0, l0)][k]).1 ([(Value.slice (some ad) l0.length p0, l0)][k]).2) := Lib.hid (fun k h => by
            rw [BoxT.cell (BoxT.new wr _ _) k]
            match k, h with
            | 0, _ => exact ⟨rfl, (HeldI.f KA.out (List.Mem.tail _ (List.Mem.tail _ (List.Mem.head _))))⟩)
          have B30 : Hid (∀ p ∈ [(Value.slice (some ad) l0.length p0, l0)], p.2.length ≤ 30) := Lib.hid (by
            intro p hp
            rcases List.mem_cons.1 hp with rfl | hp
            · exact hlen
            · cases hp)
          go_wp2_with fail
          with_reducible refine (bounds_as _ _ [(Value.slice (some ad) l0.length p0, l0)] 1 rfl (by simp) (by simp) BH.out B30.out).mono ?_
          rintro e qB ⟨vB, rfl, ho, hb⟩
          have hrl := bnd_len B30.out (by simp)
          have IB := Lib.hid ho.inI
          have KB := Lib.hid (HeldI.keep KA.out hb)
          obtain ⟨rs, hrs⟩ : ∃ rs, bnd0 ++ bndA [(Value.slice (some ad) l0.length p0, l0)] = rs := ⟨_, rfl⟩
          rw [hrs] at hrl IB ho
          obtain ⟨aB, cB, rfl, _, _⟩ := ho.shape
          clear hrs ho hb KA BH B30
          go_wp2_with fail
          go_loopw [43] (fun i wr => ∃ k : Nat, k ≤ rs.length ∧ i = .int .i64 (k : Int) ∧ HeldI w [(vv61, c61), ((.slice am l0.length cm), l0), ((.slice (some ad) l0.length p0), l0)] wr ∧ InI wr (.slice aB rs.length cB) rs) (fun i _ => rs.length - (intOf i).toNat)
          case atStart => exact ⟨0, Nat.zero_le _, rfl, KB.out, IB.out⟩
          case round =>
            obtain ⟨k, hk, rfl, hh, hii⟩ := hrel
            have HB := Lib.hid hh
            have HI := Lib.hid hii
            clear hh hii KB IB
            by_cases hlt : k < rs.length
            · have hki : (k : Int) < (rs.length : Int) := by omega
              obtain ⟨aX, cX, hvX, hcl⟩ := HI.out
              obtain ⟨rfl, _, rfl⟩ : aB = aX ∧ True ∧ cB = cX := by injection hvX with h1 h2 h3; exact ⟨h1, trivial, h3⟩
              obtain ⟨bb, rfl, hbbl, hcell⟩ := hcl (by omega)
              have c0 := hcell k hlt
              clear hcell hvX hcl
              generalize rs[k] = r at c0
              obtain ⟨p, hp⟩ : ∃ p, inL l0 r = p := ⟨_, rfl⟩
              have ex : hasC c61 r = p := by rw [M61.out r]; exact hp
              have HPp := Lib.hid hp
              have EX := Lib.hid ex
              clear hp ex
              go_wp2_with fail
              with_reducible refine (has_at _ vv61 c61 r (HeldI.f HB.out (List.Mem.head _)) S61.out p EX.out).mono ?_
              rintro e q62 ⟨rfl, hb⟩
              have K62 := Lib.hid (HeldI.keep HB.out hb)
              have HI62 := Lib.hid (HI.out.below hb)
              clear hb HB
              go_wp2_with fail
              with_reducible refine (in_at _ (.slice (some ad) l0.length p0) l0 r (HeldI.f K62.out (List.Mem.tail _ (List.Mem.tail _ (List.Mem.head _)))) (by omega) p HPp.out).mono ?_
              rintro e q63 ⟨rfl, hb⟩
              have K63 := Lib.hid (HeldI.keep K62.out hb)
              have HI63 := Lib.hid (HI62.out.below hb)
              clear hb K62
              cases p <;> (go_wp2; go_roundw)
              case rel => exact ⟨k + 1, by omega, by go_num, K63.out, HI63.out⟩
              case measure => simp [intOf]; omega
              case rel => exact ⟨k + 1, by omega, by go_num, K63.out, HI63.out⟩
              case measure => simp [intOf]; omega
            · have hkn2 : ¬ (k : Int) < (rs.length : Int) := by omega
              obtain ⟨wS, hwS⟩ : ∃ W, W = wr := ⟨_, rfl⟩
              subst hwS
              go_wp2_with fail
              generalize hmx : max (l0.length : Int) 1 = mx
              have HMX := Lib.hid hmx
              have hmx1 : 1 ≤ mx := by omega
              clear hmx
              go_loopw [10, 61] (fun u i wq => ∃ k : Nat, k ≤ l0.length ∧ i = .int .i64 (k : Int) ∧ OwnC wq wS.heap.size u (turnL l0 K k) ∧ Below wS.heap.size wS wq) (fun _ i _ => l0.length - (intOf i).toNat)
              case atStart => exact ⟨0, Nat.zero_le _, rfl, World.ownsRow_lit wS #[] 0 (Nat.le_refl _) (by unfold maxLen; omega) rfl, (Below.refl _ _).alloc (Nat.le_refl _) _⟩
              case round =>
                obtain ⟨k, hk, rfl, ho, hb⟩ := hrel
                have HO := Lib.hid ho
                have HBq := Lib.hid hb
                clear ho hb
                by_cases hlt : k < l0.length
                · have hki : (k : Int) < (l0.length : Int) := by omega
                  obtain ⟨x1, y1, hv1, _, _, hc1⟩ := HeldI.f (HeldI.keep HB.out HBq.out) (List.Mem.tail _ (List.Mem.tail _ (List.Mem.head _)))
                  have f1 : some ad = x1 := by injection hv1
                  obtain ⟨b1, o1, hb1, hl1, hx1⟩ := hc1 (by omega)
                  obtain rfl : ad = ⟨b1, o1, none⟩ := Option.some.inj (f1.trans hb1)
                  have hml : (k + K) % l0.length < l0.length := Nat.mod_lt _ (by omega)
                  obtain ⟨c0, c1⟩ := hx1 _ hml
                  clear hx1 hv1 hc1 f1 hb1
                  have HTU : Hid (turnL l0 K (k + 1) = turnL l0 K k ++ [l0[(k + K) % l0.length]]) := Lib.hid (by
                    show turnL l0 K k ++ [l0.getD ((k + K) % l0.length) (0, 0)] = _
                    rw [List.getD_eq_getElem?_getD, List.getElem?_eq_getElem hml]; rfl)
                  have hix : ((k : Int) + (K : Int)) % mx = (((k + K) % l0.length : Nat) : Int) := by
                    have h1 : mx = (l0.length : Int) := by have := HMX.out; omega
                    rw [h1, Int.natCast_emod, Int.natCast_add]
                  generalize (k + K) % l0.length = m at *
                  obtain ⟨⟨z1, z2⟩, hz⟩ : ∃ z, l0[m] = z := ⟨_, rfl⟩
                  rw [hz] at c0 c1 HTU
                  clear hz
                  dsimp only at c0 c1
                  have htl := turn_len l0 K k
                  have hzq := HBq.out.size
                  obtain ⟨T, hT⟩ : ∃ T, turnL l0 K k = T := ⟨_, rfl⟩
                  rw [hT] at HO HTU htl
                  clear hT
                  have OW1 : Hid (wr.ownsRow wS.heap.size 28 2 u10 T.length (cC T)) := Lib.hid HO.out
                  go_wp2_with (at_builtin; refine wpList_append_own _ rfl _ _ 22 rfl wS.heap.size 28 i0 (.agg #[.int .i32 0, .int .i32 0]) 2 8 Tryd.underlying22 hi hz0 hz1' hz2 rfl (by decide) _ _ _ rfl (OW1.out.alloc _) ⟨wr.heap.size, 0, none⟩ 1 1 [.int .i32 z1, .int .i32 z2] rfl rfl (lit_cells4 _ _ _ _ _ rfl) (by simp [Value.oneCell']) (by unfold maxLen; omega) (by omega) (by simp; omega) ?_; intro v8 w8 hown8 hgr8 _)
                  have OW8 : Hid (OwnC w8 wS.heap.size v8 (turnL l0 K (k + 1))) := Lib.hid (by
                    rw [HTU.out]
                    show w8.ownsRow _ _ _ _ _ _
                    rw [cC_append, List.length_append]
                    exact hown8)
                  have BE8 : Hid (Below wS.heap.size wS w8) := Lib.hid ((HBq.out.alloc hzq _).grown hgr8 (by simp; omega) (fun k hk => (OW1.out.lt k hk).1))
                  clear hown8 hgr8
                  go_wp2
                  go_roundw
                  case rel => exact ⟨k + 1, by omega, by go_num, OW8.out, BE8.out⟩
                  case measure => simp [intOf]; omega
                · have hkn3 : ¬ (k : Int) < (l0.length : Int) := by omega
                  have HTH : Hid (∀ r, hasC (turnL l0 K k) r = hasC l0 r) := Lib.hid (by
                    intro r
                    have e : k = l0.length := by omega
                    rw [e]
                    exact turn_has l0 K r)
                  have htl := turn_len l0 K k
                  have KQ := Lib.hid (HeldI.keep HB.out HBq.out)
                  have IT := Lib.hid HO.out.inC
                  obtain ⟨T, hT⟩ : ∃ T, turnL l0 K k = T := ⟨_, rfl⟩
                  rw [hT] at HTH htl IT
                  clear hT HO
                  go_wp2_with fail
                  with_reducible refine (settled_as _ vv61 c61 (HeldI.f KQ.out (List.Mem.head _)) S61.out).mono ?_
                  rintro e q64 ⟨rfl, hb⟩
                  have K64 := Lib.hid (HeldI.keep KQ.out hb)
                  have IT2 := Lib.hid (IT.out.below hb (Nat.le_refl _))
                  clear hb KQ IT
                  go_wp2_with fail
                  with_reducible refine (made_at _ u10 T IT2.out (by omega)).mono ?_
                  rintro e q65 ⟨vv65, c65, rfl, hs, hm, ho, hb⟩
                  have S65 := Lib.hid hs
                  have M65 := Lib.hid hm
                  have K65 := Lib.hid (HeldI.add K64.out hb ho)
                  clear hs hm ho hb K64
                  have EQ66 : Hid (c65 = c61) := Lib.hid (ext_b S65.out S61.out (fun r => by
                    rw [M65.out r, M61.out r, HTH.out r]))
                  go_wp2_with fail
                  with_reducible refine (same_as _ vv65 vv61 c65 c61 (HeldI.f K65.out (List.Mem.head _)) (HeldI.f K65.out (List.Mem.tail _ (List.Mem.head _))) (settled_few S65.out) (settled_few S61.out) true (decide_eq_true EQ66.out)).mono ?_
                  rintro e q66 ⟨rfl, hb⟩
                  have K66 := Lib.hid (HeldI.keep K65.out hb)
                  clear hb K65
                  go_wp2_with fail
                  with_reducible refine (made_at _ vv61 c61 (HeldI.f K66.out (List.Mem.tail _ (List.Mem.head _))) (settled_few S61.out)).mono ?_
                  rintro e q67 ⟨vv67, c67, rfl, hs, hm, ho, hb⟩
                  have S67 := Lib.hid hs
                  have M67 := Lib.hid hm
                  have K67 := Lib.hid (HeldI.add K66.out hb ho)
                  clear hs hm ho hb K66
                  have EQ68 : Hid (c67 = c61) := Lib.hid (ext_b S67.out S61.out (fun r => by
                    rw [M67.out r, ← hself S61.out r]))
                  go_wp2_with fail
                  with_reducible refine (same_as _ vv67 vv61 c67 c61 (HeldI.f K67.out (List.Mem.head _)) (HeldI.f K67.out (List.Mem.tail _ (List.Mem.tail _ (List.Mem.head _)))) (settled_few S67.out) (settled_few S61.out) true (decide_eq_true EQ68.out)).mono ?_
                  rintro e q68 ⟨rfl, hb⟩
                  have K68 := Lib.hid (HeldI.keep K67.out hb)
                  clear hb K67
                  go_wp2_with fail
                  with_reducible refine (made_at _ (.slice none 0 0) [] (nil_inC _) (by decide)).mono ?_
                  rintro e q69 ⟨vv69, c69, rfl, hs, hm, ho, hb⟩
                  have S69 := Lib.hid hs
                  have M69 := Lib.hid hm
                  have K69 := Lib.hid (HeldI.add K68.out hb ho)
                  clear hs hm ho hb K68
                  have en : c69 = [] := ext_b S69.out trivial (fun r => by rw [M69.out r, hnil]; simp)
                  obtain ⟨ae, ce, hve, _, _, _⟩ := (HeldI.f K69.out (List.Mem.head _))
                  rw [en] at hve
                  subst hve
                  go_wp2
                  go_ret
                  exact ⟨rfl, K69.out.bel⟩
end Go.Proofs.YtbfhkcljkblnmaaDoor
