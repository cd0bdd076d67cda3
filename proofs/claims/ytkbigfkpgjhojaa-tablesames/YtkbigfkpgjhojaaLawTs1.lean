/- The walk of the law TableSames. -/
import Derived.Test.YtkbigfkpgjhojaaTuC
import Derived.Test.YtkbigfkpgjhojaaTuD

namespace Go.Proofs.Ytkbigfkpgjhojaa
open Go.RowKit Florin
set_option linter.unusedVariables false
set_option linter.unusedSimpArgs false
attribute [local go_sem ↓] Go.wp_at_zero Go.wp_at_succ
theorem curL_head {w : World} {lim : Nat} {a : Option Addr} {n cap : Nat} {c : CurM} {cs : List CurM} (h : CurL w lim (.slice a n cap) (c :: cs)) : ∃ b o, a = some ⟨b, o, none⟩ ∧ n = cs.length + 1 ∧ b < lim ∧ w.cell? ⟨b, o + 7, none⟩ = some (.int .i64 c.ci) := by
  obtain ⟨a', cap', e, _, _, hc⟩ := h
  injection e with e1 e2 e3
  subst e1
  obtain ⟨b, off, rfl, h1, h2, hx⟩ := hc (by simp)
  obtain ⟨c8, ⟨u, rfl, _⟩, _, hj⟩ := hx 0 (by simp)
  exact ⟨b, off, rfl, by simpa using e2, h1, by have := hj 7 (by decide); simpa using this⟩
theorem rowL_head {w : World} {lim : Nat} {a : Option Addr} {n cap : Nat} {c : RowM} {cs : List RowM} (h : RowL w lim (.slice a n cap) (c :: cs)) : ∃ b o, a = some ⟨b, o, none⟩ ∧ n = cs.length + 1 ∧ b < lim ∧ w.cell? ⟨b, o, none⟩ = some (.int .i64 c.1) := by
  obtain ⟨a', cap', e, _, _, hc⟩ := h
  injection e with e1 e2 e3
  subst e1
  obtain ⟨b, off, rfl, h1, h2, hx⟩ := hc (by simp)
  obtain ⟨c8, ⟨u, rfl, _⟩, _, hj⟩ := hx 0 (by simp)
  exact ⟨b, off, rfl, by simpa using e2, h1, by have := hj 0 (by decide); simpa using this⟩
def Sml (mg : Int) (sh : List RowM) (cu : List CurM) : Prop := mg ≤ 1000 ∧ (∀ c cs, cu = c :: cs → c.ci ≤ 1000) ∧ ∀ r rs, sh = r :: rs → r.1 ≤ 1000
set_option maxRecDepth 100000 in
set_option maxHeartbeats 25600000 in
theorem tableSames_core (f : Nat → List UInt8) (mg : Int) (vsh vlo vms vcu vun vmu : Value) (sh lo ms : List RowM) (cu : List CurM) (un : List UntM) (mu : List TxM) (which : Int) (w : World) (hg : Good f mg sh lo ms cu un mu) (hs6 : Six w vsh vlo vms vcu vun vmu sh lo ms cu un mu) (hfl : ∀ k, k < 27 → (f k).length ≤ maxLen) (hgc : ∀ c ∈ cu, c.code.length ≤ 1048576 ∧ c.sym.length ≤ 1048576 ∧ c.nar.length ≤ 1048576) :
    Calls Try.prog 3 #[.agg (tbA f mg vsh vlo vms vcu vun vmu), .int .i64 which] w fun e w' => e = .returned (.bool true) ∧ Below w.heap.size w w' := by
  obtain ⟨ash, csh, rfl, _⟩ : ∃ a c, vsh = .slice a sh.length c ∧ True := by obtain ⟨a, c, e, _⟩ := hs6.sh; exact ⟨a, c, e, trivial⟩
  obtain ⟨alo, clo, rfl, _⟩ : ∃ a c, vlo = .slice a lo.length c ∧ True := by obtain ⟨a, c, e, _⟩ := hs6.lo; exact ⟨a, c, e, trivial⟩
  obtain ⟨ams, cms, rfl, _⟩ : ∃ a c, vms = .slice a ms.length c ∧ True := by obtain ⟨a, c, e, _⟩ := hs6.ms; exact ⟨a, c, e, trivial⟩
  obtain ⟨acu, ccu, rfl, _⟩ : ∃ a c, vcu = .slice a cu.length c ∧ True := by obtain ⟨a, c, e, _⟩ := hs6.cu; exact ⟨a, c, e, trivial⟩
  obtain ⟨aun, cun, rfl, _⟩ : ∃ a c, vun = .slice a un.length c ∧ True := by obtain ⟨a, c, e, _⟩ := hs6.un; exact ⟨a, c, e, trivial⟩
  obtain ⟨amu, cmu, rfl, _⟩ : ∃ a c, vmu = .slice a mu.length c ∧ True := by obtain ⟨a, c, e, _⟩ := hs6.mu; exact ⟨a, c, e, trivial⟩
  have HSX := Lib.hid hs6
  have HIX := Lib.hid (tb_info f mg (.slice ash sh.length csh) (.slice alo lo.length clo) (.slice ams ms.length cms) (.slice acu cu.length ccu) (.slice aun un.length cun) (.slice amu mu.length cmu))
  have HPL : Hid (∀ w', Below w.heap.size w w' → Calls Try.prog 5 #[.agg (tbA f mg (.slice ash sh.length csh) (.slice alo lo.length clo) (.slice ams ms.length cms) (.slice acu cu.length ccu) (.slice aun un.length cun) (.slice amu mu.length cmu))] w' fun e w'' => CkR e (ckTb f mg sh lo ms cu un mu) ∧ Below w'.heap.size w' w'') := Lib.hid (fun w' hb => plain_as f mg _ _ _ _ _ _ sh lo ms cu un mu w' (hs6.below hb).sh (hs6.below hb).lo (hs6.below hb).ms (hs6.below hb).cu (hs6.below hb).un (hs6.below hb).mu hfl hgc)
  have HG := Lib.hid hg
  obtain ⟨X, hX⟩ : ∃ X, X = (tbA f mg (.slice ash sh.length csh) (.slice alo lo.length clo) (.slice ams ms.length cms) (.slice acu cu.length ccu) (.slice aun un.length cun) (.slice amu mu.length cmu)) := ⟨_, rfl⟩
  rw [← hX] at HIX HPL ⊢
  have HXE := Lib.hid hX
  clear hX hg hfl hgc
  obtain ⟨q, hq⟩ : ∃ q, q = w.heap.size := ⟨_, rfl⟩
  have HQ := Lib.hid hq
  have HB0 := Lib.hid ((Below.refl w.heap.size w).alloc (Nat.le_refl _) (.cells X TTb))
  have HX0 : Hid (BoxT (w.alloc (.cells X TTb)) q X TTb) := Lib.hid (by rw [hq]; exact BoxT.new w X TTb)
  go_enter Try.func3, Try.ntmps3
  go_wp2_with fail
  rw [← hq]
  clear hq
  generalize w.alloc (.cells X TTb) = w0 at *
  with_reducible refine (head15 _).mono ?_
  rintro e w1 ⟨rfl, hb⟩
  have B1 := Lib.hid (HB0.out.trans (hb.mono HB0.out.size))
  have X1 := Lib.hid (HX0.out.below hb)
  clear hb HB0 HX0
  go_upto_region 3 with fail
  go_cut [44] from 7 (fun v44 w' => ∃ bad, v44 = .bool bad ∧ Below w.heap.size w w' ∧ BoxT w' q X TTb ∧ (bad = false → ckTb f mg sh lo ms cu un mu ∧ Sml mg sh cu))
  case first =>
    go_wp2_with (first | (refine wpList_load_box (by rfl) TTb (.tmp 2) (by rfl) q (by rfl) X TTb _ X1.out Try.underlying31 (by rfl) HIX.out ?_))
    with_reducible refine (HPL.out _ B1.out).mono ?_
    rintro e w2 ⟨⟨b, rfl, hck⟩, hb⟩
    have B2 := Lib.hid (B1.out.trans (hb.mono B1.out.size))
    have X2 := Lib.hid (X1.out.below hb)
    clear hb B1 X1 HPL
    have f16 : w2.cell? ⟨q, 16, none⟩ = some (.int .i64 mg) := (X2.out.cell 16).trans (by rw [HXE.out]; rfl)
    have f22 : w2.cell? ⟨q, 22, none⟩ = some (.slice ash sh.length csh) := (X2.out.cell 22).trans (by rw [HXE.out]; rfl)
    have f25 : w2.cell? ⟨q, 25, none⟩ = some (.slice acu cu.length ccu) := (X2.out.cell 25).trans (by rw [HXE.out]; rfl)
    cases b with
    | false =>
      clear hck
      go_wp2
      go_meet
      case rel => exact ⟨true, rfl, B2.out, X2.out, fun h => by cases h⟩
    | true =>
    have HK := Lib.hid (hck rfl)
    clear hck
    by_cases hmg : 1000 < mg
    · go_wp2
      go_meet
      case rel => exact ⟨true, rfl, B2.out, X2.out, fun h => by cases h⟩
    have SL := Lib.hid (HSX.out.below B2.out)
    have hmg2 : mg ≤ 1000 := by omega
    have HMG := Lib.hid hmg2
    clear hmg2
    rcases cu with _ | ⟨c, cs⟩
    · rcases sh with _ | ⟨r, rs⟩
      · go_wp2
        go_meet
        case rel => exact ⟨false, (by first | rfl | (have h1 := HMG.out; congr 1; simp; omega)), B2.out, X2.out, fun _ => ⟨HK.out, HMG.out, fun _ _ h => (by cases h), fun _ _ h => (by cases h)⟩⟩
      · obtain ⟨rb, ro, rfl, hrn, hrl, hrc⟩ := rowL_head SL.out.sh
        clear hrn hrl
        have hr0 : (0 : Int) < ((rs.length + 1 : Nat) : Int) := by omega
        by_cases hrm : 1000 < r.1
        · go_wp2
          go_meet
          case rel => exact ⟨true, rfl, B2.out, X2.out, fun h => by cases h⟩
        · have hrm2 : r.1 ≤ 1000 := by omega
          have HRM := Lib.hid hrm2
          clear hrm2
          go_wp2
          go_meet
          case rel => exact ⟨false, (by first | rfl | (have h1 := HMG.out; (try have h2 := HRM.out); (try have h3 := HCM.out); congr 1; simp; omega)), B2.out, X2.out, fun _ => ⟨HK.out, HMG.out, fun _ _ h => (by cases h), fun _ _ h => by injection h with h1 _; rw [← h1]; exact HRM.out⟩⟩
    · obtain ⟨cb, co, rfl, hcn, hcl, hcc⟩ := curL_head SL.out.cu
      clear hcn hcl
      have hc0 : (0 : Int) < ((cs.length + 1 : Nat) : Int) := by omega
      by_cases hcm : 1000 < c.ci
      · go_wp2
        go_meet
        case rel => exact ⟨true, rfl, B2.out, X2.out, fun h => by cases h⟩
      · have hcm2 : c.ci ≤ 1000 := by omega
        have HCM := Lib.hid hcm2
        clear hcm2
        rcases sh with _ | ⟨r, rs⟩
        · go_wp2
          go_meet
          case rel => exact ⟨false, (by first | rfl | (have h1 := HMG.out; (try have h2 := HRM.out); (try have h3 := HCM.out); congr 1; simp; omega)), B2.out, X2.out, fun _ => ⟨HK.out, HMG.out, (fun _ _ h => by injection h with h1 _; rw [← h1]; exact HCM.out), fun _ _ h => (by cases h)⟩⟩
        · obtain ⟨rb, ro, rfl, hrn, hrl, hrc⟩ := rowL_head SL.out.sh
          clear hrn hrl
          have hr0 : (0 : Int) < ((rs.length + 1 : Nat) : Int) := by omega
          by_cases hrm : 1000 < r.1
          · go_wp2
            go_meet
            case rel => exact ⟨true, rfl, B2.out, X2.out, fun h => by cases h⟩
          · have hrm2 : r.1 ≤ 1000 := by omega
            have HRM := Lib.hid hrm2
            clear hrm2
            go_wp2
            go_meet
            case rel => exact ⟨false, (by first | rfl | (have h1 := HMG.out; (try have h2 := HRM.out); (try have h3 := HCM.out); congr 1; simp; omega)), B2.out, X2.out, fun _ => ⟨HK.out, HMG.out, (fun _ _ h => by injection h with h1 _; rw [← h1]; exact HCM.out), fun _ _ h => by injection h with h1 _; rw [← h1]; exact HRM.out⟩⟩
  case rest =>
  obtain ⟨bad, rfl, hb2, hx2, hP⟩ := hcut
  have B2 := Lib.hid hb2
  have X2 := Lib.hid hx2
  clear hb2 hx2 B1 X1
  cases bad with
  | true =>
    go_wp2
    go_ret
    exact ⟨rfl, B2.out⟩
  | false =>
  obtain ⟨hk, hm, hc, hr⟩ := hP rfl
  clear hP
  have hci : ∀ c cs, cu = c :: cs → 0 ≤ c.ci ∧ c.ci ≤ 1000 := fun c cs e => ⟨(hk.kcu c (by rw [e]; exact List.mem_cons_self ..)).2.2.2.2.2, hc c cs e⟩
  have hma : ∀ r rs, sh = r :: rs → 0 ≤ r.1 ∧ r.1 ≤ 1000 := fun r rs e => ⟨(hk.ksh.1 r (by rw [e]; exact List.mem_cons_self ..)).1, hr r rs e⟩
  have HTU : Hid (∀ w', Below w.heap.size w w' → Calls Try.prog 6 #[.agg X, .int .i64 which] w' fun e w'' => TurnP f mg sh lo ms cu un mu w' e w'') := Lib.hid (fun w' hb => by rw [HXE.out]; exact turn_as f mg _ _ _ _ _ _ sh lo ms cu un mu which w' (HSX.out.below hb) hk.ksh.2 hk.kcn hk.knn hk.klo.2 hk.kms.2 hk.kmu.2 hk.kfs ⟨hk.kmg, hm⟩ hci hma)
  have HOK := Lib.hid (Ok2.of HG.out hk)
  have HTK : Hid (∀ b f' mg' sh' lo' ms' cu' un' mu', TurnR f mg sh lo ms cu un mu b f' mg' sh' lo' ms' cu' un' mu' → Ok2 f' mg' sh' lo' ms' cu' un' mu') := Lib.hid (fun b f' mg' sh' lo' ms' cu' un' mu' h => h.ok HG.out hk hm hci hma)
  clear hk hm hc hr hci hma
  go_wp2_with (first | (refine wpList_load_box (by rfl) TTb (.tmp 2) (by rfl) q (by rfl) X TTb _ X2.out Try.underlying31 (by rfl) HIX.out ?_))
  with_reducible refine (HTU.out _ B2.out).mono ?_
  rintro e w3 ⟨ok, f', mg', a1, a2, a3, a4, a5, a6, c1, c2, c3, c4, c5, c6, sh', lo', ms', cu', un', mu', rfl, hsix, hb, hR⟩
  have B3 := Lib.hid (B2.out.trans (hb.mono B2.out.size))
  have X3 := Lib.hid (X2.out.below hb)
  have HS6 := Lib.hid hsix
  have HOU := Lib.hid (HTK.out _ _ _ _ _ _ _ _ _ hR)
  have HR := Lib.hid hR
  clear hb hR hsix B2 X2 HTU HTK
  have HIU := Lib.hid (tb_info f' mg' (.slice a1 sh'.length c1) (.slice a2 lo'.length c2) (.slice a3 ms'.length c3) (.slice a4 cu'.length c4) (.slice a5 un'.length c5) (.slice a6 mu'.length c6))
  have HON := Lib.hid (tb_one f' mg' a1 a2 a3 a4 a5 a6 sh'.length lo'.length ms'.length cu'.length un'.length mu'.length c1 c2 c3 c4 c5 c6)
  obtain ⟨U, hU⟩ : ∃ U, U = tbA f' mg' (.slice a1 sh'.length c1) (.slice a2 lo'.length c2) (.slice a3 ms'.length c3) (.slice a4 cu'.length c4) (.slice a5 un'.length c5) (.slice a6 mu'.length c6) := ⟨_, rfl⟩
  rw [← hU] at HIU HON ⊢
  have HSZ : Hid (Z34.size = U.size) := Lib.hid (by rw [hU]; rfl)
  have HUE := Lib.hid hU
  clear hU
  have HZ := Lib.hid (BoxT.new w3 Z34 TTb)
  have X4 := Lib.hid (X3.out.alloc (.cells Z34 TTb))
  have hql := X3.out.lt
  rw [← Z34_eq] at HZ
  go_upto_region 6 with (refine wpList_store_box (by rfl) TTb (.tmp 5) (.tmp 49) (by rfl) w3.heap.size _ U TTb (by rfl) (by rfl) HZ.out HIU.out (by rw [Z34_eq]; exact HSZ.out) HON.out ?_; intro w4 hx4 hg4)
  rw [Z34_eq] at *
  have HU4 := Lib.hid hx4
  have HX4 := Lib.hid (X4.out.grown hg4 (fun e => by have := Option.some.inj e; omega))
  have hbd : Below w3.heap.size w3 w4 := ((Below.refl w3.heap.size w3).alloc (Nat.le_refl _) (.cells Z34 TTb)).grown hg4 (by simp) (fun j hj => by obtain rfl := Option.some.inj hj; exact Nat.le_refl _)
  have HB34 := Lib.hid hbd
  have B4 := Lib.hid (B3.out.trans (hbd.mono B3.out.size))
  clear hx4 hg4 hbd HZ X4 X3
  obtain ⟨D, hD⟩ : ∃ D, D = w4.drew := ⟨_, rfl⟩
  have HD0 : Hid (Below D.heap.size D w4.drew) := Lib.hid (by rw [hD]; exact Below.refl _ _)
  have HD1 : Hid (Below D.heap.size D w4.drew) := HD0
  have BX : Hid (BoxT D q X TTb) := Lib.hid (by rw [hD]; exact HX4.out.drew3)
  have BU : Hid (BoxT D w3.heap.size U TTb) := Lib.hid (by rw [hD]; exact HU4.out.drew3)
  have BD : Hid (Below w.heap.size w D) := Lib.hid (by rw [hD]; exact B4.out.drew)
  have SX : Hid (∀ w', Below D.heap.size D w' → Six w' (.slice ash sh.length csh) (.slice alo lo.length clo) (.slice ams ms.length cms) (.slice acu cu.length ccu) (.slice aun un.length cun) (.slice amu mu.length cmu) sh lo ms cu un mu) := Lib.hid (fun w' hb => HSX.out.below (below_two BD.out hb))
  have B3D : Hid (Below w3.heap.size w3 D) := Lib.hid (by rw [hD]; exact HB34.out.drew)
  have SU : Hid (∀ w', Below D.heap.size D w' → Six w' (.slice a1 sh'.length c1) (.slice a2 lo'.length c2) (.slice a3 ms'.length c3) (.slice a4 cu'.length c4) (.slice a5 un'.length c5) (.slice a6 mu'.length c6) sh' lo' ms' cu' un' mu') := Lib.hid (fun w' hb => HS6.out.below (below_two B3D.out hb))
  have SXX : Hid (∀ w', Below D.heap.size D w' → Calls Try.prog 7 #[.agg X, .agg X] w' fun e w'' => e = .returned (.bool true) ∧ Below w'.heap.size w' w'') := Lib.hid (fun w' hb => by rw [HXE.out]; exact same_six (SX.out w' hb) (SX.out w' hb) (fun _ _ => rfl))
  have EX : Hid (∀ w', Below D.heap.size D w' → Calls Try.prog 8 #[.agg X] w' fun e w'' => e = .returned (S (encT (tmOf f mg sh lo ms cu un mu))) ∧ Below w'.heap.size w' w'') := Lib.hid (fun w' hb => by rw [HXE.out]; exact HOK.out.encode (SX.out w' hb))
  have EU : Hid (∀ w', Below D.heap.size D w' → Calls Try.prog 8 #[.agg U] w' fun e w'' => e = .returned (S (encT (tmOf f' mg' sh' lo' ms' cu' un' mu'))) ∧ Below w'.heap.size w' w'') := Lib.hid (fun w' hb => by rw [HUE.out]; exact HOU.out.encode (SU.out w' hb))
  generalize w3.heap.size = r at *
  cases ok with
  | false =>
    clear HR
    refine wp_region_held_drew (S := fun w' => Below D.heap.size D w') (by kernel_rfl) HD0.out (fun hHeld => ?_)
    refine wpAnyH_take (i := 0) (oi := { dst := some 51, op := Go.Op.load 31 (Go.Operand.tmp 2), type := 31, pos := "law.go:246", after := #[], guard := none }) (v := .agg X) rfl (by kernel_rfl) (by kernel_rfl) (by kernel_rfl) (fun _ _ _ h => h) (yieldsIf_load_box (by rfl) TTb (.tmp 2) (by rfl) q (by rfl) X TTb _ (fun _ h => BX.out.below h) Try.underlying31 (by rfl) HIX.out) hHeld ?_
    try simp only [Act.put, List.setIfInBounds_toArray, List.set_cons_zero, List.set_cons_succ]
    refine wpAnyH_take (i := 1) (oi := { dst := some 52, op := Go.Op.load 31 (Go.Operand.tmp 2), type := 31, pos := "law.go:246", after := #[], guard := none }) (v := .agg X) rfl (by kernel_rfl) (by kernel_rfl) (by kernel_rfl) (fun _ _ _ h => h) (yieldsIf_load_box (by rfl) TTb (.tmp 2) (by rfl) q (by rfl) X TTb _ (fun _ h => BX.out.below h) Try.underlying31 (by rfl) HIX.out) hHeld ?_
    try simp only [Act.put, List.setIfInBounds_toArray, List.set_cons_zero, List.set_cons_succ]
    refine wpAnyH_ready (rs := [2]) (by kernel_rfl) (by simp) ?_
    refine AllReadyH.cons (o := { dst := some 53, op := Go.Op.call { callee := Go.Callee.value (Go.Operand.func 7), args := #[Go.Operand.tmp 51, Go.Operand.tmp 52], argTypes := #[31, 31] }, type := 4, pos := "law.go:246", after := #[{ on := 0, ground := Go.Ground.data }, { on := 1, ground := Go.Ground.data }], guard := none }) rfl (fun KK hK => ?_) AllReadyH.nil
    go_simp
    with_reducible refine (SXX.out _ HD1.out).mono ?_
    rintro y w30 ⟨rfl, hb30⟩
    have E30 := Lib.hid (HD1.out.trans (hb30.mono HD1.out.size))
    clear hb30
    go_wp2_with fail
    refine hK.out _ _ E30.out (fun hHeld2 => ?_)
    clear hK hHeld
    have hHeld := hHeld2
    clear hHeld2
    try simp only [Act.put, List.setIfInBounds_toArray, List.set_cons_zero, List.set_cons_succ]
    refine wpAnyH_take (i := 3) (oi := { dst := some 54, op := Go.Op.move (Go.Operand.tmp 53), type := 4, pos := "law.go:246", after := #[{ on := 2, ground := Go.Ground.data }, { on := 2, ground := Go.Ground.chain }], guard := none }) (v := ?_) rfl (by kernel_rfl) (by kernel_rfl) (by kernel_rfl) (fun _ _ _ h => h) (Or.inl ⟨by rfl, ?_⟩) hHeld ?_
    case refine_2 => (intro w hSw; (try dsimp only at hSw); go_simp <;> with_reducible rfl)
    try simp only [Act.put, List.setIfInBounds_toArray, List.set_cons_zero, List.set_cons_succ]
    refine wpAnyH_take (i := 4) (oi := { dst := some 55, op := Go.Op.move (Go.Operand.tmp 6), type := 4, pos := "law.go:246", after := #[{ on := 3, ground := Go.Ground.guard }], guard := some (3, true) }) (v := ?_) rfl (by kernel_rfl) (by kernel_rfl) (by kernel_rfl) (fun _ _ _ h => h) (Or.inl ⟨by rfl, ?_⟩) hHeld ?_
    case refine_2 => (intro w hSw; (try dsimp only at hSw); go_simp <;> with_reducible rfl)
    try simp only [Act.put, List.setIfInBounds_toArray, List.set_cons_zero, List.set_cons_succ]
    refine wpAnyH_take (i := 5) (oi := { dst := some 56, op := Go.Op.unOp Go.UnOp.not 4 (Go.Operand.tmp 55), type := 4, pos := "law.go:246", after := #[{ on := 4, ground := Go.Ground.data }, { on := 3, ground := Go.Ground.guard }], guard := some (3, true) }) (v := ?_) rfl (by kernel_rfl) (by kernel_rfl) (by kernel_rfl) (fun _ _ _ h => h) (Or.inl ⟨by rfl, ?_⟩) hHeld ?_
    case refine_2 => (intro w hSw; (try dsimp only at hSw); go_simp <;> with_reducible rfl)
    try simp only [Act.put, List.setIfInBounds_toArray, List.set_cons_zero, List.set_cons_succ]
    refine wpAnyH_take (i := 6) (oi := { dst := some 57, op := Go.Op.move (Go.Operand.tmp 56), type := 4, pos := "law.go:246", after := #[{ on := 5, ground := Go.Ground.data }, { on := 3, ground := Go.Ground.chain }, { on := 3, ground := Go.Ground.guard }], guard := some (3, true) }) (v := ?_) rfl (by kernel_rfl) (by kernel_rfl) (by kernel_rfl) (fun _ _ _ h => h) (Or.inl ⟨by rfl, ?_⟩) hHeld ?_
    case refine_2 => (intro w hSw; (try dsimp only at hSw); go_simp <;> with_reducible rfl)
    try simp only [Act.put, List.setIfInBounds_toArray, List.set_cons_zero, List.set_cons_succ]
    refine wpAnyH_take (i := 7) (oi := { dst := some 58, op := Go.Op.load 31 (Go.Operand.tmp 2), type := 31, pos := "law.go:246", after := #[{ on := 6, ground := Go.Ground.guard }], guard := some (6, false) }) (v := undef) rfl (by kernel_rfl) (by kernel_rfl) (by kernel_rfl) (fun _ _ _ h => h) (Or.inr ⟨by rfl, rfl⟩) hHeld ?_
    try simp only [Act.put, List.setIfInBounds_toArray, List.set_cons_zero, List.set_cons_succ]
    refine wpAnyH_take (i := 8) (oi := { dst := some 59, op := Go.Op.load 31 (Go.Operand.tmp 5), type := 31, pos := "law.go:246", after := #[{ on := 6, ground := Go.Ground.guard }], guard := some (6, false) }) (v := undef) rfl (by kernel_rfl) (by kernel_rfl) (by kernel_rfl) (fun _ _ _ h => h) (Or.inr ⟨by rfl, rfl⟩) hHeld ?_
    try simp only [Act.put, List.setIfInBounds_toArray, List.set_cons_zero, List.set_cons_succ]
    refine wpAnyH_take (i := 9) (oi := { dst := some 60, op := Go.Op.call { callee := Go.Callee.value (Go.Operand.func 7), args := #[Go.Operand.tmp 58, Go.Operand.tmp 59], argTypes := #[31, 31] }, type := 4, pos := "law.go:246", after := #[{ on := 7, ground := Go.Ground.data }, { on := 8, ground := Go.Ground.data }, { on := 6, ground := Go.Ground.chain }, { on := 6, ground := Go.Ground.guard }], guard := some (6, false) }) (v := undef) rfl (by kernel_rfl) (by kernel_rfl) (by kernel_rfl) (fun _ _ _ h => h) (Or.inr ⟨by rfl, rfl⟩) hHeld ?_
    try simp only [Act.put, List.setIfInBounds_toArray, List.set_cons_zero, List.set_cons_succ]
    refine wpAnyH_take (i := 10) (oi := { dst := some 61, op := Go.Op.unOp Go.UnOp.not 4 (Go.Operand.tmp 60), type := 4, pos := "law.go:246", after := #[{ on := 9, ground := Go.Ground.data }, { on := 6, ground := Go.Ground.guard }], guard := some (6, false) }) (v := undef) rfl (by kernel_rfl) (by kernel_rfl) (by kernel_rfl) (fun _ _ _ h => h) (Or.inr ⟨by rfl, rfl⟩) hHeld ?_
    try simp only [Act.put, List.setIfInBounds_toArray, List.set_cons_zero, List.set_cons_succ]
    refine wpAnyH_take (i := 11) (oi := { dst := some 62, op := Go.Op.move (Go.Operand.tmp 61), type := 4, pos := "law.go:246", after := #[{ on := 10, ground := Go.Ground.data }, { on := 9, ground := Go.Ground.chain }, { on := 6, ground := Go.Ground.guard }], guard := some (6, false) }) (v := undef) rfl (by kernel_rfl) (by kernel_rfl) (by kernel_rfl) (fun _ _ _ h => h) (Or.inr ⟨by rfl, rfl⟩) hHeld ?_
    try simp only [Act.put, List.setIfInBounds_toArray, List.set_cons_zero, List.set_cons_succ]
    refine wpAnyH_take (i := 12) (oi := { dst := some 63, op := Go.Op.load 31 (Go.Operand.tmp 5), type := 31, pos := "law.go:246", after := #[{ on := 11, ground := Go.Ground.guard }], guard := some (11, true) }) (v := undef) rfl (by kernel_rfl) (by kernel_rfl) (by kernel_rfl) (fun _ _ _ h => h) (Or.inr ⟨by rfl, rfl⟩) hHeld ?_
    try simp only [Act.put, List.setIfInBounds_toArray, List.set_cons_zero, List.set_cons_succ]
    refine wpAnyH_take (i := 13) (oi := { dst := some 64, op := Go.Op.load 31 (Go.Operand.tmp 2), type := 31, pos := "law.go:246", after := #[{ on := 11, ground := Go.Ground.guard }], guard := some (11, true) }) (v := undef) rfl (by kernel_rfl) (by kernel_rfl) (by kernel_rfl) (fun _ _ _ h => h) (Or.inr ⟨by rfl, rfl⟩) hHeld ?_
    try simp only [Act.put, List.setIfInBounds_toArray, List.set_cons_zero, List.set_cons_succ]
    refine wpAnyH_take (i := 14) (oi := { dst := some 65, op := Go.Op.call { callee := Go.Callee.value (Go.Operand.func 7), args := #[Go.Operand.tmp 63, Go.Operand.tmp 64], argTypes := #[31, 31] }, type := 4, pos := "law.go:246", after := #[{ on := 12, ground := Go.Ground.data }, { on := 13, ground := Go.Ground.data }, { on := 11, ground := Go.Ground.chain }, { on := 11, ground := Go.Ground.guard }], guard := some (11, true) }) (v := undef) rfl (by kernel_rfl) (by kernel_rfl) (by kernel_rfl) (fun _ _ _ h => h) (Or.inr ⟨by rfl, rfl⟩) hHeld ?_
    try simp only [Act.put, List.setIfInBounds_toArray, List.set_cons_zero, List.set_cons_succ]
    refine wpAnyH_take (i := 15) (oi := { dst := some 66, op := Go.Op.unOp Go.UnOp.not 4 (Go.Operand.tmp 65), type := 4, pos := "law.go:246", after := #[{ on := 14, ground := Go.Ground.data }, { on := 11, ground := Go.Ground.guard }], guard := some (11, true) }) (v := undef) rfl (by kernel_rfl) (by kernel_rfl) (by kernel_rfl) (fun _ _ _ h => h) (Or.inr ⟨by rfl, rfl⟩) hHeld ?_
    try simp only [Act.put, List.setIfInBounds_toArray, List.set_cons_zero, List.set_cons_succ]
    refine wpAnyH_take (i := 16) (oi := { dst := some 67, op := Go.Op.pick (Go.Operand.tmp 62) (Go.Operand.tmp 66) (Go.Operand.const (Go.Value.bool false)), type := 4, pos := "law.go:246", after := #[{ on := 11, ground := Go.Ground.data }, { on := 15, ground := Go.Ground.data }, { on := 6, ground := Go.Ground.guard }], guard := some (6, false) }) (v := undef) rfl (by kernel_rfl) (by kernel_rfl) (by kernel_rfl) (fun _ _ _ h => h) (Or.inr ⟨by rfl, rfl⟩) hHeld ?_
    try simp only [Act.put, List.setIfInBounds_toArray, List.set_cons_zero, List.set_cons_succ]
    refine wpAnyH_take (i := 17) (oi := { dst := some 68, op := Go.Op.move (Go.Operand.tmp 67), type := 4, pos := "law.go:246", after := #[{ on := 16, ground := Go.Ground.data }, { on := 14, ground := Go.Ground.chain }, { on := 6, ground := Go.Ground.guard }], guard := some (6, false) }) (v := undef) rfl (by kernel_rfl) (by kernel_rfl) (by kernel_rfl) (fun _ _ _ h => h) (Or.inr ⟨by rfl, rfl⟩) hHeld ?_
    try simp only [Act.put, List.setIfInBounds_toArray, List.set_cons_zero, List.set_cons_succ]
    refine wpAnyH_take (i := 18) (oi := { dst := some 69, op := Go.Op.load 31 (Go.Operand.tmp 2), type := 31, pos := "law.go:246", after := #[{ on := 17, ground := Go.Ground.guard }], guard := some (17, true) }) (v := undef) rfl (by kernel_rfl) (by kernel_rfl) (by kernel_rfl) (fun _ _ _ h => h) (Or.inr ⟨by rfl, rfl⟩) hHeld ?_
    try simp only [Act.put, List.setIfInBounds_toArray, List.set_cons_zero, List.set_cons_succ]
    refine wpAnyH_take (i := 19) (oi := { dst := some 70, op := Go.Op.call { callee := Go.Callee.value (Go.Operand.func 8), args := #[Go.Operand.tmp 69], argTypes := #[31] }, type := 9, pos := "law.go:246", after := #[{ on := 18, ground := Go.Ground.data }, { on := 17, ground := Go.Ground.chain }, { on := 17, ground := Go.Ground.guard }], guard := some (17, true) }) (v := undef) rfl (by kernel_rfl) (by kernel_rfl) (by kernel_rfl) (fun _ _ _ h => h) (Or.inr ⟨by rfl, rfl⟩) hHeld ?_
    try simp only [Act.put, List.setIfInBounds_toArray, List.set_cons_zero, List.set_cons_succ]
    refine wpAnyH_take (i := 20) (oi := { dst := some 71, op := Go.Op.load 31 (Go.Operand.tmp 5), type := 31, pos := "law.go:246", after := #[{ on := 17, ground := Go.Ground.guard }], guard := some (17, true) }) (v := undef) rfl (by kernel_rfl) (by kernel_rfl) (by kernel_rfl) (fun _ _ _ h => h) (Or.inr ⟨by rfl, rfl⟩) hHeld ?_
    try simp only [Act.put, List.setIfInBounds_toArray, List.set_cons_zero, List.set_cons_succ]
    refine wpAnyH_take (i := 21) (oi := { dst := some 72, op := Go.Op.call { callee := Go.Callee.value (Go.Operand.func 8), args := #[Go.Operand.tmp 71], argTypes := #[31] }, type := 9, pos := "law.go:246", after := #[{ on := 20, ground := Go.Ground.data }, { on := 19, ground := Go.Ground.chain }, { on := 17, ground := Go.Ground.guard }], guard := some (17, true) }) (v := undef) rfl (by kernel_rfl) (by kernel_rfl) (by kernel_rfl) (fun _ _ _ h => h) (Or.inr ⟨by rfl, rfl⟩) hHeld ?_
    try simp only [Act.put, List.setIfInBounds_toArray, List.set_cons_zero, List.set_cons_succ]
    refine wpAnyH_take (i := 22) (oi := { dst := some 73, op := Go.Op.binOp Go.BinOp.neq 9 (Go.Operand.tmp 70) (Go.Operand.tmp 72) 9, type := 4, pos := "law.go:246", after := #[{ on := 19, ground := Go.Ground.data }, { on := 21, ground := Go.Ground.data }, { on := 17, ground := Go.Ground.guard }], guard := some (17, true) }) (v := undef) rfl (by kernel_rfl) (by kernel_rfl) (by kernel_rfl) (fun _ _ _ h => h) (Or.inr ⟨by rfl, rfl⟩) hHeld ?_
    try simp only [Act.put, List.setIfInBounds_toArray, List.set_cons_zero, List.set_cons_succ]
    refine wpAnyH_take (i := 23) (oi := { dst := some 74, op := Go.Op.pick (Go.Operand.tmp 68) (Go.Operand.tmp 73) (Go.Operand.const (Go.Value.bool false)), type := 4, pos := "law.go:246", after := #[{ on := 17, ground := Go.Ground.data }, { on := 22, ground := Go.Ground.data }, { on := 6, ground := Go.Ground.guard }], guard := some (6, false) }) (v := undef) rfl (by kernel_rfl) (by kernel_rfl) (by kernel_rfl) (fun _ _ _ h => h) (Or.inr ⟨by rfl, rfl⟩) hHeld ?_
    try simp only [Act.put, List.setIfInBounds_toArray, List.set_cons_zero, List.set_cons_succ]
    refine wpAnyH_take (i := 24) (oi := { dst := some 75, op := Go.Op.pick (Go.Operand.tmp 57) (Go.Operand.const (Go.Value.bool true)) (Go.Operand.tmp 74), type := 4, pos := "law.go:246", after := #[{ on := 6, ground := Go.Ground.data }, { on := 23, ground := Go.Ground.data }, { on := 3, ground := Go.Ground.guard }], guard := some (3, true) }) (v := ?_) rfl (by kernel_rfl) (by kernel_rfl) (by kernel_rfl) (fun _ _ _ h => h) (Or.inl ⟨by rfl, ?_⟩) hHeld ?_
    case refine_2 => (intro w hSw; (try dsimp only at hSw); go_simp <;> with_reducible rfl)
    try simp only [Act.put, List.setIfInBounds_toArray, List.set_cons_zero, List.set_cons_succ]
    refine wpAnyH_take (i := 25) (oi := { dst := some 76, op := Go.Op.pick (Go.Operand.tmp 54) (Go.Operand.tmp 75) (Go.Operand.const (Go.Value.bool false)), type := 4, pos := "law.go:246", after := #[{ on := 3, ground := Go.Ground.data }, { on := 24, ground := Go.Ground.data }], guard := none }) (v := ?_) rfl (by kernel_rfl) (by kernel_rfl) (by kernel_rfl) (fun _ _ _ h => h) (Or.inl ⟨by rfl, ?_⟩) hHeld ?_
    case refine_2 => (intro w hSw; (try dsimp only at hSw); go_simp <;> with_reducible rfl)
    try simp only [Act.put, List.setIfInBounds_toArray, List.set_cons_zero, List.set_cons_succ]
    refine wpAnyH_take (i := 26) (oi := { dst := some 4, op := Go.Op.assign (Go.Operand.tmp 76), type := 4, pos := "law.go:246", after := #[{ on := 25, ground := Go.Ground.data }, { on := 21, ground := Go.Ground.chain }, { on := 0, ground := Go.Ground.phase }, { on := 1, ground := Go.Ground.phase }, { on := 2, ground := Go.Ground.phase }, { on := 3, ground := Go.Ground.phase }, { on := 4, ground := Go.Ground.phase }, { on := 5, ground := Go.Ground.phase }, { on := 6, ground := Go.Ground.phase }, { on := 7, ground := Go.Ground.phase }, { on := 8, ground := Go.Ground.phase }, { on := 9, ground := Go.Ground.phase }, { on := 10, ground := Go.Ground.phase }, { on := 11, ground := Go.Ground.phase }, { on := 12, ground := Go.Ground.phase }, { on := 13, ground := Go.Ground.phase }, { on := 14, ground := Go.Ground.phase }, { on := 15, ground := Go.Ground.phase }, { on := 16, ground := Go.Ground.phase }, { on := 17, ground := Go.Ground.phase }, { on := 18, ground := Go.Ground.phase }, { on := 19, ground := Go.Ground.phase }, { on := 20, ground := Go.Ground.phase }, { on := 21, ground := Go.Ground.phase }, { on := 22, ground := Go.Ground.phase }, { on := 23, ground := Go.Ground.phase }, { on := 24, ground := Go.Ground.phase }, { on := 25, ground := Go.Ground.phase }], guard := none }) (v := ?_) rfl (by kernel_rfl) (by kernel_rfl) (by kernel_rfl) (fun _ _ _ h => h) (Or.inl ⟨by rfl, ?_⟩) hHeld ?_
    case refine_2 => (intro w hSw; (try dsimp only at hSw); go_simp <;> with_reducible rfl)
    try simp only [Act.put, List.setIfInBounds_toArray, List.set_cons_zero, List.set_cons_succ]
    refine wpAnyH_done (by kernel_rfl) ?_ _
    clear hHeld
    go_wp2
    go_ret
    exact ⟨by first | rfl | (congr 2; simp [hde]), below_two BD.out E30.out⟩
  | true =>
    have hne := HR.out.ne
    have SXU : Hid (∀ w', Below D.heap.size D w' → Calls Try.prog 7 #[.agg X, .agg U] w' fun e w'' => e = .returned (.bool false) ∧ Below w'.heap.size w' w'') := Lib.hid (fun w' hb => by
      rw [HXE.out, HUE.out]
      have hx := SX.out w' hb
      have hu := SU.out w' hb
      refine (same_as _ _ _ _ _ _ _ _ _ _ _ _ _ _ _ _ _ _ _ _ _ _ _ _ _ _ _ _ _ hx.sh hu.sh hx.lo hu.lo hx.ms hu.ms hx.cu hu.cu hx.un hu.un hx.mu hu.mu).mono ?_
      rintro y w7 ⟨⟨z, rfl, hz⟩, hb7⟩
      have : z = false := by rw [Bool.eq_false_iff]; intro e; exact hne (hz.1 e)
      subst this
      exact ⟨rfl, hb7⟩)
    have SUX : Hid (∀ w', Below D.heap.size D w' → Calls Try.prog 7 #[.agg U, .agg X] w' fun e w'' => e = .returned (.bool false) ∧ Below w'.heap.size w' w'') := Lib.hid (fun w' hb => by
      rw [HXE.out, HUE.out]
      have hx := SX.out w' hb
      have hu := SU.out w' hb
      refine (same_as _ _ _ _ _ _ _ _ _ _ _ _ _ _ _ _ _ _ _ _ _ _ _ _ _ _ _ _ _ hu.sh hx.sh hu.lo hx.lo hu.ms hx.ms hu.cu hx.cu hu.un hx.un hu.mu hx.mu).mono ?_
      rintro y w7 ⟨⟨z, rfl, hz⟩, hb7⟩
      have : z = false := by
        rw [Bool.eq_false_iff]; intro e
        obtain ⟨e1, e2, e3, e4, e5, e6, e7, e8⟩ := hz.1 e
        exact hne ⟨fun k hk => (e1 k hk).symm, e2.symm, e3.symm, e4.symm, e5.symm, e6.symm, e7.symm, e8.symm⟩
      subst this
      exact ⟨rfl, hb7⟩)
    obtain ⟨ex, hex⟩ : ∃ ex, ex = encT (tmOf f mg sh lo ms cu un mu) := ⟨_, rfl⟩
    obtain ⟨eu, heu⟩ : ∃ eu, eu = encT (tmOf f' mg' sh' lo' ms' cu' un' mu') := ⟨_, rfl⟩
    have hde : ex ≠ eu := by
      intro e
      rw [hex, heu] at e
      exact hne (tmOf_eq (encT_inj HOK.out.tell HOU.out.tell e))
    rw [← hex] at EX
    rw [← heu] at EU
    clear hex heu hne HR
    refine wp_region_held_drew (S := fun w' => Below D.heap.size D w') (by kernel_rfl) HD0.out (fun hHeld => ?_)
    refine wpAnyH_take (i := 0) (oi := { dst := some 51, op := Go.Op.load 31 (Go.Operand.tmp 2), type := 31, pos := "law.go:246", after := #[], guard := none }) (v := .agg X) rfl (by kernel_rfl) (by kernel_rfl) (by kernel_rfl) (fun _ _ _ h => h) (yieldsIf_load_box (by rfl) TTb (.tmp 2) (by rfl) q (by rfl) X TTb _ (fun _ h => BX.out.below h) Try.underlying31 (by rfl) HIX.out) hHeld ?_
    try simp only [Act.put, List.setIfInBounds_toArray, List.set_cons_zero, List.set_cons_succ]
    refine wpAnyH_take (i := 1) (oi := { dst := some 52, op := Go.Op.load 31 (Go.Operand.tmp 2), type := 31, pos := "law.go:246", after := #[], guard := none }) (v := .agg X) rfl (by kernel_rfl) (by kernel_rfl) (by kernel_rfl) (fun _ _ _ h => h) (yieldsIf_load_box (by rfl) TTb (.tmp 2) (by rfl) q (by rfl) X TTb _ (fun _ h => BX.out.below h) Try.underlying31 (by rfl) HIX.out) hHeld ?_
    try simp only [Act.put, List.setIfInBounds_toArray, List.set_cons_zero, List.set_cons_succ]
    refine wpAnyH_ready (rs := [2]) (by kernel_rfl) (by simp) ?_
    refine AllReadyH.cons (o := { dst := some 53, op := Go.Op.call { callee := Go.Callee.value (Go.Operand.func 7), args := #[Go.Operand.tmp 51, Go.Operand.tmp 52], argTypes := #[31, 31] }, type := 4, pos := "law.go:246", after := #[{ on := 0, ground := Go.Ground.data }, { on := 1, ground := Go.Ground.data }], guard := none }) rfl (fun KK hK => ?_) AllReadyH.nil
    go_simp
    with_reducible refine (SXX.out _ HD1.out).mono ?_
    rintro y w30 ⟨rfl, hb30⟩
    have E30 := Lib.hid (HD1.out.trans (hb30.mono HD1.out.size))
    clear hb30
    go_wp2_with fail
    refine hK.out _ _ E30.out (fun hHeld2 => ?_)
    clear hK hHeld
    have hHeld := hHeld2
    clear hHeld2
    try simp only [Act.put, List.setIfInBounds_toArray, List.set_cons_zero, List.set_cons_succ]
    refine wpAnyH_take (i := 3) (oi := { dst := some 54, op := Go.Op.move (Go.Operand.tmp 53), type := 4, pos := "law.go:246", after := #[{ on := 2, ground := Go.Ground.data }, { on := 2, ground := Go.Ground.chain }], guard := none }) (v := ?_) rfl (by kernel_rfl) (by kernel_rfl) (by kernel_rfl) (fun _ _ _ h => h) (Or.inl ⟨by rfl, ?_⟩) hHeld ?_
    case refine_2 => (intro w hSw; (try dsimp only at hSw); go_simp <;> with_reducible rfl)
    try simp only [Act.put, List.setIfInBounds_toArray, List.set_cons_zero, List.set_cons_succ]
    refine wpAnyH_take (i := 4) (oi := { dst := some 55, op := Go.Op.move (Go.Operand.tmp 6), type := 4, pos := "law.go:246", after := #[{ on := 3, ground := Go.Ground.guard }], guard := some (3, true) }) (v := ?_) rfl (by kernel_rfl) (by kernel_rfl) (by kernel_rfl) (fun _ _ _ h => h) (Or.inl ⟨by rfl, ?_⟩) hHeld ?_
    case refine_2 => (intro w hSw; (try dsimp only at hSw); go_simp <;> with_reducible rfl)
    try simp only [Act.put, List.setIfInBounds_toArray, List.set_cons_zero, List.set_cons_succ]
    refine wpAnyH_take (i := 5) (oi := { dst := some 56, op := Go.Op.unOp Go.UnOp.not 4 (Go.Operand.tmp 55), type := 4, pos := "law.go:246", after := #[{ on := 4, ground := Go.Ground.data }, { on := 3, ground := Go.Ground.guard }], guard := some (3, true) }) (v := ?_) rfl (by kernel_rfl) (by kernel_rfl) (by kernel_rfl) (fun _ _ _ h => h) (Or.inl ⟨by rfl, ?_⟩) hHeld ?_
    case refine_2 => (intro w hSw; (try dsimp only at hSw); go_simp <;> with_reducible rfl)
    try simp only [Act.put, List.setIfInBounds_toArray, List.set_cons_zero, List.set_cons_succ]
    refine wpAnyH_take (i := 6) (oi := { dst := some 57, op := Go.Op.move (Go.Operand.tmp 56), type := 4, pos := "law.go:246", after := #[{ on := 5, ground := Go.Ground.data }, { on := 3, ground := Go.Ground.chain }, { on := 3, ground := Go.Ground.guard }], guard := some (3, true) }) (v := ?_) rfl (by kernel_rfl) (by kernel_rfl) (by kernel_rfl) (fun _ _ _ h => h) (Or.inl ⟨by rfl, ?_⟩) hHeld ?_
    case refine_2 => (intro w hSw; (try dsimp only at hSw); go_simp <;> with_reducible rfl)
    try simp only [Act.put, List.setIfInBounds_toArray, List.set_cons_zero, List.set_cons_succ]
    refine wpAnyH_take (i := 7) (oi := { dst := some 58, op := Go.Op.load 31 (Go.Operand.tmp 2), type := 31, pos := "law.go:246", after := #[{ on := 6, ground := Go.Ground.guard }], guard := some (6, false) }) (v := .agg X) rfl (by kernel_rfl) (by kernel_rfl) (by kernel_rfl) (fun _ _ _ h => h) (yieldsIf_load_box (by rfl) TTb (.tmp 2) (by rfl) q (by rfl) X TTb _ (fun _ h => BX.out.below h) Try.underlying31 (by rfl) HIX.out) hHeld ?_
    try simp only [Act.put, List.setIfInBounds_toArray, List.set_cons_zero, List.set_cons_succ]
    refine wpAnyH_take (i := 8) (oi := { dst := some 59, op := Go.Op.load 31 (Go.Operand.tmp 5), type := 31, pos := "law.go:246", after := #[{ on := 6, ground := Go.Ground.guard }], guard := some (6, false) }) (v := .agg U) rfl (by kernel_rfl) (by kernel_rfl) (by kernel_rfl) (fun _ _ _ h => h) (yieldsIf_load_box (by rfl) TTb (.tmp 5) (by rfl) r (by rfl) U TTb _ (fun _ h => BU.out.below h) Try.underlying31 (by rfl) HIU.out) hHeld ?_
    try simp only [Act.put, List.setIfInBounds_toArray, List.set_cons_zero, List.set_cons_succ]
    refine wpAnyH_ready (rs := [9]) (by kernel_rfl) (by simp) ?_
    refine AllReadyH.cons (o := { dst := some 60, op := Go.Op.call { callee := Go.Callee.value (Go.Operand.func 7), args := #[Go.Operand.tmp 58, Go.Operand.tmp 59], argTypes := #[31, 31] }, type := 4, pos := "law.go:246", after := #[{ on := 7, ground := Go.Ground.data }, { on := 8, ground := Go.Ground.data }, { on := 6, ground := Go.Ground.chain }, { on := 6, ground := Go.Ground.guard }], guard := some (6, false) }) rfl (fun KK hK => ?_) AllReadyH.nil
    go_simp
    with_reducible refine (SXU.out _ E30.out).mono ?_
    rintro y w31 ⟨rfl, hb31⟩
    have E31 := Lib.hid (E30.out.trans (hb31.mono E30.out.size))
    clear hb31
    go_wp2_with fail
    refine hK.out _ _ E31.out (fun hHeld2 => ?_)
    clear hK hHeld
    have hHeld := hHeld2
    clear hHeld2
    try simp only [Act.put, List.setIfInBounds_toArray, List.set_cons_zero, List.set_cons_succ]
    refine wpAnyH_take (i := 10) (oi := { dst := some 61, op := Go.Op.unOp Go.UnOp.not 4 (Go.Operand.tmp 60), type := 4, pos := "law.go:246", after := #[{ on := 9, ground := Go.Ground.data }, { on := 6, ground := Go.Ground.guard }], guard := some (6, false) }) (v := ?_) rfl (by kernel_rfl) (by kernel_rfl) (by kernel_rfl) (fun _ _ _ h => h) (Or.inl ⟨by rfl, ?_⟩) hHeld ?_
    case refine_2 => (intro w hSw; (try dsimp only at hSw); go_simp <;> with_reducible rfl)
    try simp only [Act.put, List.setIfInBounds_toArray, List.set_cons_zero, List.set_cons_succ]
    refine wpAnyH_take (i := 11) (oi := { dst := some 62, op := Go.Op.move (Go.Operand.tmp 61), type := 4, pos := "law.go:246", after := #[{ on := 10, ground := Go.Ground.data }, { on := 9, ground := Go.Ground.chain }, { on := 6, ground := Go.Ground.guard }], guard := some (6, false) }) (v := ?_) rfl (by kernel_rfl) (by kernel_rfl) (by kernel_rfl) (fun _ _ _ h => h) (Or.inl ⟨by rfl, ?_⟩) hHeld ?_
    case refine_2 => (intro w hSw; (try dsimp only at hSw); go_simp <;> with_reducible rfl)
    try simp only [Act.put, List.setIfInBounds_toArray, List.set_cons_zero, List.set_cons_succ]
    refine wpAnyH_take (i := 12) (oi := { dst := some 63, op := Go.Op.load 31 (Go.Operand.tmp 5), type := 31, pos := "law.go:246", after := #[{ on := 11, ground := Go.Ground.guard }], guard := some (11, true) }) (v := .agg U) rfl (by kernel_rfl) (by kernel_rfl) (by kernel_rfl) (fun _ _ _ h => h) (yieldsIf_load_box (by rfl) TTb (.tmp 5) (by rfl) r (by rfl) U TTb _ (fun _ h => BU.out.below h) Try.underlying31 (by rfl) HIU.out) hHeld ?_
    try simp only [Act.put, List.setIfInBounds_toArray, List.set_cons_zero, List.set_cons_succ]
    refine wpAnyH_take (i := 13) (oi := { dst := some 64, op := Go.Op.load 31 (Go.Operand.tmp 2), type := 31, pos := "law.go:246", after := #[{ on := 11, ground := Go.Ground.guard }], guard := some (11, true) }) (v := .agg X) rfl (by kernel_rfl) (by kernel_rfl) (by kernel_rfl) (fun _ _ _ h => h) (yieldsIf_load_box (by rfl) TTb (.tmp 2) (by rfl) q (by rfl) X TTb _ (fun _ h => BX.out.below h) Try.underlying31 (by rfl) HIX.out) hHeld ?_
    try simp only [Act.put, List.setIfInBounds_toArray, List.set_cons_zero, List.set_cons_succ]
    refine wpAnyH_ready (rs := [14]) (by kernel_rfl) (by simp) ?_
    refine AllReadyH.cons (o := { dst := some 65, op := Go.Op.call { callee := Go.Callee.value (Go.Operand.func 7), args := #[Go.Operand.tmp 63, Go.Operand.tmp 64], argTypes := #[31, 31] }, type := 4, pos := "law.go:246", after := #[{ on := 12, ground := Go.Ground.data }, { on := 13, ground := Go.Ground.data }, { on := 11, ground := Go.Ground.chain }, { on := 11, ground := Go.Ground.guard }], guard := some (11, true) }) rfl (fun KK hK => ?_) AllReadyH.nil
    go_simp
    with_reducible refine (SUX.out _ E31.out).mono ?_
    rintro y w32 ⟨rfl, hb32⟩
    have E32 := Lib.hid (E31.out.trans (hb32.mono E31.out.size))
    clear hb32
    go_wp2_with fail
    refine hK.out _ _ E32.out (fun hHeld2 => ?_)
    clear hK hHeld
    have hHeld := hHeld2
    clear hHeld2
    try simp only [Act.put, List.setIfInBounds_toArray, List.set_cons_zero, List.set_cons_succ]
    refine wpAnyH_take (i := 15) (oi := { dst := some 66, op := Go.Op.unOp Go.UnOp.not 4 (Go.Operand.tmp 65), type := 4, pos := "law.go:246", after := #[{ on := 14, ground := Go.Ground.data }, { on := 11, ground := Go.Ground.guard }], guard := some (11, true) }) (v := ?_) rfl (by kernel_rfl) (by kernel_rfl) (by kernel_rfl) (fun _ _ _ h => h) (Or.inl ⟨by rfl, ?_⟩) hHeld ?_
    case refine_2 => (intro w hSw; (try dsimp only at hSw); go_simp <;> with_reducible rfl)
    try simp only [Act.put, List.setIfInBounds_toArray, List.set_cons_zero, List.set_cons_succ]
    refine wpAnyH_take (i := 16) (oi := { dst := some 67, op := Go.Op.pick (Go.Operand.tmp 62) (Go.Operand.tmp 66) (Go.Operand.const (Go.Value.bool false)), type := 4, pos := "law.go:246", after := #[{ on := 11, ground := Go.Ground.data }, { on := 15, ground := Go.Ground.data }, { on := 6, ground := Go.Ground.guard }], guard := some (6, false) }) (v := ?_) rfl (by kernel_rfl) (by kernel_rfl) (by kernel_rfl) (fun _ _ _ h => h) (Or.inl ⟨by rfl, ?_⟩) hHeld ?_
    case refine_2 => (intro w hSw; (try dsimp only at hSw); go_simp <;> with_reducible rfl)
    try simp only [Act.put, List.setIfInBounds_toArray, List.set_cons_zero, List.set_cons_succ]
    refine wpAnyH_take (i := 17) (oi := { dst := some 68, op := Go.Op.move (Go.Operand.tmp 67), type := 4, pos := "law.go:246", after := #[{ on := 16, ground := Go.Ground.data }, { on := 14, ground := Go.Ground.chain }, { on := 6, ground := Go.Ground.guard }], guard := some (6, false) }) (v := ?_) rfl (by kernel_rfl) (by kernel_rfl) (by kernel_rfl) (fun _ _ _ h => h) (Or.inl ⟨by rfl, ?_⟩) hHeld ?_
    case refine_2 => (intro w hSw; (try dsimp only at hSw); go_simp <;> with_reducible rfl)
    try simp only [Act.put, List.setIfInBounds_toArray, List.set_cons_zero, List.set_cons_succ]
    refine wpAnyH_take (i := 18) (oi := { dst := some 69, op := Go.Op.load 31 (Go.Operand.tmp 2), type := 31, pos := "law.go:246", after := #[{ on := 17, ground := Go.Ground.guard }], guard := some (17, true) }) (v := .agg X) rfl (by kernel_rfl) (by kernel_rfl) (by kernel_rfl) (fun _ _ _ h => h) (yieldsIf_load_box (by rfl) TTb (.tmp 2) (by rfl) q (by rfl) X TTb _ (fun _ h => BX.out.below h) Try.underlying31 (by rfl) HIX.out) hHeld ?_
    try simp only [Act.put, List.setIfInBounds_toArray, List.set_cons_zero, List.set_cons_succ]
    refine wpAnyH_take (i := 20) (oi := { dst := some 71, op := Go.Op.load 31 (Go.Operand.tmp 5), type := 31, pos := "law.go:246", after := #[{ on := 17, ground := Go.Ground.guard }], guard := some (17, true) }) (v := .agg U) rfl (by kernel_rfl) (by kernel_rfl) (by kernel_rfl) (fun _ _ _ h => h) (yieldsIf_load_box (by rfl) TTb (.tmp 5) (by rfl) r (by rfl) U TTb _ (fun _ h => BU.out.below h) Try.underlying31 (by rfl) HIU.out) hHeld ?_
    try simp only [Act.put, List.setIfInBounds_toArray, List.set_cons_zero, List.set_cons_succ]
    refine wpAnyH_ready (rs := [19]) (by kernel_rfl) (by simp) ?_
    refine AllReadyH.cons (o := { dst := some 70, op := Go.Op.call { callee := Go.Callee.value (Go.Operand.func 8), args := #[Go.Operand.tmp 69], argTypes := #[31] }, type := 9, pos := "law.go:246", after := #[{ on := 18, ground := Go.Ground.data }, { on := 17, ground := Go.Ground.chain }, { on := 17, ground := Go.Ground.guard }], guard := some (17, true) }) rfl (fun KK hK => ?_) AllReadyH.nil
    go_simp
    with_reducible refine (EX.out _ E32.out).mono ?_
    rintro y w33 ⟨rfl, hb33⟩
    have E33 := Lib.hid (E32.out.trans (hb33.mono E32.out.size))
    clear hb33
    go_wp2_with fail
    refine hK.out _ _ E33.out (fun hHeld2 => ?_)
    clear hK hHeld
    have hHeld := hHeld2
    clear hHeld2
    try simp only [Act.put, List.setIfInBounds_toArray, List.set_cons_zero, List.set_cons_succ]
    refine wpAnyH_ready (rs := [21]) (by kernel_rfl) (by simp) ?_
    refine AllReadyH.cons (o := { dst := some 72, op := Go.Op.call { callee := Go.Callee.value (Go.Operand.func 8), args := #[Go.Operand.tmp 71], argTypes := #[31] }, type := 9, pos := "law.go:246", after := #[{ on := 20, ground := Go.Ground.data }, { on := 19, ground := Go.Ground.chain }, { on := 17, ground := Go.Ground.guard }], guard := some (17, true) }) rfl (fun KK hK => ?_) AllReadyH.nil
    go_simp
    with_reducible refine (EU.out _ E33.out).mono ?_
    rintro y w34 ⟨rfl, hb34⟩
    have E34 := Lib.hid (E33.out.trans (hb34.mono E33.out.size))
    clear hb34
    go_wp2_with fail
    refine hK.out _ _ E34.out (fun hHeld2 => ?_)
    clear hK hHeld
    have hHeld := hHeld2
    clear hHeld2
    try simp only [Act.put, List.setIfInBounds_toArray, List.set_cons_zero, List.set_cons_succ]
    refine wpAnyH_take (i := 22) (oi := { dst := some 73, op := Go.Op.binOp Go.BinOp.neq 9 (Go.Operand.tmp 70) (Go.Operand.tmp 72) 9, type := 4, pos := "law.go:246", after := #[{ on := 19, ground := Go.Ground.data }, { on := 21, ground := Go.Ground.data }, { on := 17, ground := Go.Ground.guard }], guard := some (17, true) }) (v := ?_) rfl (by kernel_rfl) (by kernel_rfl) (by kernel_rfl) (fun _ _ _ h => h) (Or.inl ⟨by rfl, ?_⟩) hHeld ?_
    case refine_2 => (intro w hSw; (try dsimp only at hSw); go_simp <;> with_reducible rfl)
    try simp only [Act.put, List.setIfInBounds_toArray, List.set_cons_zero, List.set_cons_succ]
    refine wpAnyH_take (i := 23) (oi := { dst := some 74, op := Go.Op.pick (Go.Operand.tmp 68) (Go.Operand.tmp 73) (Go.Operand.const (Go.Value.bool false)), type := 4, pos := "law.go:246", after := #[{ on := 17, ground := Go.Ground.data }, { on := 22, ground := Go.Ground.data }, { on := 6, ground := Go.Ground.guard }], guard := some (6, false) }) (v := ?_) rfl (by kernel_rfl) (by kernel_rfl) (by kernel_rfl) (fun _ _ _ h => h) (Or.inl ⟨by rfl, ?_⟩) hHeld ?_
    case refine_2 => (intro w hSw; (try dsimp only at hSw); go_simp <;> with_reducible rfl)
    try simp only [Act.put, List.setIfInBounds_toArray, List.set_cons_zero, List.set_cons_succ]
    refine wpAnyH_take (i := 24) (oi := { dst := some 75, op := Go.Op.pick (Go.Operand.tmp 57) (Go.Operand.const (Go.Value.bool true)) (Go.Operand.tmp 74), type := 4, pos := "law.go:246", after := #[{ on := 6, ground := Go.Ground.data }, { on := 23, ground := Go.Ground.data }, { on := 3, ground := Go.Ground.guard }], guard := some (3, true) }) (v := ?_) rfl (by kernel_rfl) (by kernel_rfl) (by kernel_rfl) (fun _ _ _ h => h) (Or.inl ⟨by rfl, ?_⟩) hHeld ?_
    case refine_2 => (intro w hSw; (try dsimp only at hSw); go_simp <;> with_reducible rfl)
    try simp only [Act.put, List.setIfInBounds_toArray, List.set_cons_zero, List.set_cons_succ]
    refine wpAnyH_take (i := 25) (oi := { dst := some 76, op := Go.Op.pick (Go.Operand.tmp 54) (Go.Operand.tmp 75) (Go.Operand.const (Go.Value.bool false)), type := 4, pos := "law.go:246", after := #[{ on := 3, ground := Go.Ground.data }, { on := 24, ground := Go.Ground.data }], guard := none }) (v := ?_) rfl (by kernel_rfl) (by kernel_rfl) (by kernel_rfl) (fun _ _ _ h => h) (Or.inl ⟨by rfl, ?_⟩) hHeld ?_
    case refine_2 => (intro w hSw; (try dsimp only at hSw); go_simp <;> with_reducible rfl)
    try simp only [Act.put, List.setIfInBounds_toArray, List.set_cons_zero, List.set_cons_succ]
    refine wpAnyH_take (i := 26) (oi := { dst := some 4, op := Go.Op.assign (Go.Operand.tmp 76), type := 4, pos := "law.go:246", after := #[{ on := 25, ground := Go.Ground.data }, { on := 21, ground := Go.Ground.chain }, { on := 0, ground := Go.Ground.phase }, { on := 1, ground := Go.Ground.phase }, { on := 2, ground := Go.Ground.phase }, { on := 3, ground := Go.Ground.phase }, { on := 4, ground := Go.Ground.phase }, { on := 5, ground := Go.Ground.phase }, { on := 6, ground := Go.Ground.phase }, { on := 7, ground := Go.Ground.phase }, { on := 8, ground := Go.Ground.phase }, { on := 9, ground := Go.Ground.phase }, { on := 10, ground := Go.Ground.phase }, { on := 11, ground := Go.Ground.phase }, { on := 12, ground := Go.Ground.phase }, { on := 13, ground := Go.Ground.phase }, { on := 14, ground := Go.Ground.phase }, { on := 15, ground := Go.Ground.phase }, { on := 16, ground := Go.Ground.phase }, { on := 17, ground := Go.Ground.phase }, { on := 18, ground := Go.Ground.phase }, { on := 19, ground := Go.Ground.phase }, { on := 20, ground := Go.Ground.phase }, { on := 21, ground := Go.Ground.phase }, { on := 22, ground := Go.Ground.phase }, { on := 23, ground := Go.Ground.phase }, { on := 24, ground := Go.Ground.phase }, { on := 25, ground := Go.Ground.phase }], guard := none }) (v := ?_) rfl (by kernel_rfl) (by kernel_rfl) (by kernel_rfl) (fun _ _ _ h => h) (Or.inl ⟨by rfl, ?_⟩) hHeld ?_
    case refine_2 => (intro w hSw; (try dsimp only at hSw); go_simp <;> with_reducible rfl)
    try simp only [Act.put, List.setIfInBounds_toArray, List.set_cons_zero, List.set_cons_succ]
    refine wpAnyH_done (by kernel_rfl) ?_ _
    clear hHeld
    go_wp2
    go_ret
    exact ⟨by first | rfl | (congr 2; simp [hde]), below_two BD.out E34.out⟩
end Go.Proofs.Ytkbigfkpgjhojaa
