/- Tables compared: Same. -/
import Derived.Test.YtkbigfkpgjhojaaTdD
namespace Go.Proofs.Ytkbigfkpgjhojaa
open Go.RowKit Florin
set_option linter.unusedVariables false
set_option linter.unusedSimpArgs false
attribute [local go_sem ↓] Go.wp_at_zero Go.wp_at_succ
theorem below_two {w w0 w' : World} (h : Below w.heap.size w w0) (k : Below w0.heap.size w0 w') : Below w.heap.size w w' := h.trans (k.mono h.size)
set_option maxRecDepth 100000 in
set_option maxHeartbeats 25600000 in
theorem same_as (f f' : Nat → List UInt8) (mg mg' : Int) (vsh vlo vms vcu vun vmu wsh wlo wms wcu wun wmu : Value) (sh sh' : List RowM) (lo lo' : List RowM) (ms ms' : List RowM) (cu cu' : List CurM) (un un' : List UntM) (mu mu' : List TxM) (w : World) (hsh : RowL w w.heap.size vsh sh) (ksh : RowL w w.heap.size wsh sh') (hlo : RowL w w.heap.size vlo lo) (klo : RowL w w.heap.size wlo lo') (hms : RowL w w.heap.size vms ms) (kms : RowL w w.heap.size wms ms') (hcu : CurL w w.heap.size vcu cu) (kcu : CurL w w.heap.size wcu cu') (hun : UntL w w.heap.size vun un) (kun : UntL w w.heap.size wun un') (hmu : TxL w w.heap.size vmu mu) (kmu : TxL w w.heap.size wmu mu') :
    Calls Try.prog 7 #[.agg (tbA f mg vsh vlo vms vcu vun vmu), .agg (tbA f' mg' wsh wlo wms wcu wun wmu)] w fun e w' => (∃ z : Bool, e = .returned (.bool z) ∧ (z = true ↔ (∀ k, k < 27 → f k = f' k) ∧ mg = mg' ∧ sh = sh' ∧ lo = lo' ∧ ms = ms' ∧ cu = cu' ∧ un = un' ∧ mu = mu')) ∧ Below w.heap.size w w' := by
  obtain ⟨ash, csh, rfl, hxsh⟩ : ∃ a c, vsh = .slice a sh.length c ∧ True := by obtain ⟨a, c, e, _⟩ := hsh; exact ⟨a, c, e, trivial⟩
  obtain ⟨bsh, dsh, rfl, hysh⟩ : ∃ a c, wsh = .slice a sh'.length c ∧ True := by obtain ⟨a, c, e, _⟩ := ksh; exact ⟨a, c, e, trivial⟩
  obtain ⟨alo, clo, rfl, hxlo⟩ : ∃ a c, vlo = .slice a lo.length c ∧ True := by obtain ⟨a, c, e, _⟩ := hlo; exact ⟨a, c, e, trivial⟩
  obtain ⟨blo, dlo, rfl, hylo⟩ : ∃ a c, wlo = .slice a lo'.length c ∧ True := by obtain ⟨a, c, e, _⟩ := klo; exact ⟨a, c, e, trivial⟩
  obtain ⟨ams, cms, rfl, hxms⟩ : ∃ a c, vms = .slice a ms.length c ∧ True := by obtain ⟨a, c, e, _⟩ := hms; exact ⟨a, c, e, trivial⟩
  obtain ⟨bms, dms, rfl, hyms⟩ : ∃ a c, wms = .slice a ms'.length c ∧ True := by obtain ⟨a, c, e, _⟩ := kms; exact ⟨a, c, e, trivial⟩
  obtain ⟨acu, ccu, rfl, hxcu⟩ : ∃ a c, vcu = .slice a cu.length c ∧ True := by obtain ⟨a, c, e, _⟩ := hcu; exact ⟨a, c, e, trivial⟩
  obtain ⟨bcu, dcu, rfl, hycu⟩ : ∃ a c, wcu = .slice a cu'.length c ∧ True := by obtain ⟨a, c, e, _⟩ := kcu; exact ⟨a, c, e, trivial⟩
  obtain ⟨aun, cun, rfl, hxun⟩ : ∃ a c, vun = .slice a un.length c ∧ True := by obtain ⟨a, c, e, _⟩ := hun; exact ⟨a, c, e, trivial⟩
  obtain ⟨bun, dun, rfl, hyun⟩ : ∃ a c, wun = .slice a un'.length c ∧ True := by obtain ⟨a, c, e, _⟩ := kun; exact ⟨a, c, e, trivial⟩
  obtain ⟨amu, cmu, rfl, hxmu⟩ : ∃ a c, vmu = .slice a mu.length c ∧ True := by obtain ⟨a, c, e, _⟩ := hmu; exact ⟨a, c, e, trivial⟩
  obtain ⟨bmu, dmu, rfl, hymu⟩ : ∃ a c, wmu = .slice a mu'.length c ∧ True := by obtain ⟨a, c, e, _⟩ := kmu; exact ⟨a, c, e, trivial⟩
  clear hxsh hysh hxlo hylo hxms hyms hxcu hycu hxun hyun hxmu hymu
  have HFX := Lib.hid (tb_get f mg (.slice ash sh.length csh) (.slice alo lo.length clo) (.slice ams ms.length cms) (.slice acu cu.length ccu) (.slice aun un.length cun) (.slice amu mu.length cmu))
  have HFY := Lib.hid (tb_get f' mg' (.slice bsh sh'.length dsh) (.slice blo lo'.length dlo) (.slice bms ms'.length dms) (.slice bcu cu'.length dcu) (.slice bun un'.length dun) (.slice bmu mu'.length dmu))
  have CXmg : Hid ((tbA f mg (.slice ash sh.length csh) (.slice alo lo.length clo) (.slice ams ms.length cms) (.slice acu cu.length ccu) (.slice aun un.length cun) (.slice amu mu.length cmu))[16]? = some (.int .i64 mg)) := Lib.hid rfl
  have CXsh : Hid ((tbA f mg (.slice ash sh.length csh) (.slice alo lo.length clo) (.slice ams ms.length cms) (.slice acu cu.length ccu) (.slice aun un.length cun) (.slice amu mu.length cmu))[22]? = some (.slice ash sh.length csh)) := Lib.hid rfl
  have CXlo : Hid ((tbA f mg (.slice ash sh.length csh) (.slice alo lo.length clo) (.slice ams ms.length cms) (.slice acu cu.length ccu) (.slice aun un.length cun) (.slice amu mu.length cmu))[23]? = some (.slice alo lo.length clo)) := Lib.hid rfl
  have CXms : Hid ((tbA f mg (.slice ash sh.length csh) (.slice alo lo.length clo) (.slice ams ms.length cms) (.slice acu cu.length ccu) (.slice aun un.length cun) (.slice amu mu.length cmu))[24]? = some (.slice ams ms.length cms)) := Lib.hid rfl
  have CXcu : Hid ((tbA f mg (.slice ash sh.length csh) (.slice alo lo.length clo) (.slice ams ms.length cms) (.slice acu cu.length ccu) (.slice aun un.length cun) (.slice amu mu.length cmu))[25]? = some (.slice acu cu.length ccu)) := Lib.hid rfl
  have CXun : Hid ((tbA f mg (.slice ash sh.length csh) (.slice alo lo.length clo) (.slice ams ms.length cms) (.slice acu cu.length ccu) (.slice aun un.length cun) (.slice amu mu.length cmu))[26]? = some (.slice aun un.length cun)) := Lib.hid rfl
  have CXmu : Hid ((tbA f mg (.slice ash sh.length csh) (.slice alo lo.length clo) (.slice ams ms.length cms) (.slice acu cu.length ccu) (.slice aun un.length cun) (.slice amu mu.length cmu))[27]? = some (.slice amu mu.length cmu)) := Lib.hid rfl
  have CYmg : Hid ((tbA f' mg' (.slice bsh sh'.length dsh) (.slice blo lo'.length dlo) (.slice bms ms'.length dms) (.slice bcu cu'.length dcu) (.slice bun un'.length dun) (.slice bmu mu'.length dmu))[16]? = some (.int .i64 mg')) := Lib.hid rfl
  have CYsh : Hid ((tbA f' mg' (.slice bsh sh'.length dsh) (.slice blo lo'.length dlo) (.slice bms ms'.length dms) (.slice bcu cu'.length dcu) (.slice bun un'.length dun) (.slice bmu mu'.length dmu))[22]? = some (.slice bsh sh'.length dsh)) := Lib.hid rfl
  have CYlo : Hid ((tbA f' mg' (.slice bsh sh'.length dsh) (.slice blo lo'.length dlo) (.slice bms ms'.length dms) (.slice bcu cu'.length dcu) (.slice bun un'.length dun) (.slice bmu mu'.length dmu))[23]? = some (.slice blo lo'.length dlo)) := Lib.hid rfl
  have CYms : Hid ((tbA f' mg' (.slice bsh sh'.length dsh) (.slice blo lo'.length dlo) (.slice bms ms'.length dms) (.slice bcu cu'.length dcu) (.slice bun un'.length dun) (.slice bmu mu'.length dmu))[24]? = some (.slice bms ms'.length dms)) := Lib.hid rfl
  have CYcu : Hid ((tbA f' mg' (.slice bsh sh'.length dsh) (.slice blo lo'.length dlo) (.slice bms ms'.length dms) (.slice bcu cu'.length dcu) (.slice bun un'.length dun) (.slice bmu mu'.length dmu))[25]? = some (.slice bcu cu'.length dcu)) := Lib.hid rfl
  have CYun : Hid ((tbA f' mg' (.slice bsh sh'.length dsh) (.slice blo lo'.length dlo) (.slice bms ms'.length dms) (.slice bcu cu'.length dcu) (.slice bun un'.length dun) (.slice bmu mu'.length dmu))[26]? = some (.slice bun un'.length dun)) := Lib.hid rfl
  have CYmu : Hid ((tbA f' mg' (.slice bsh sh'.length dsh) (.slice blo lo'.length dlo) (.slice bms ms'.length dms) (.slice bcu cu'.length dcu) (.slice bun un'.length dun) (.slice bmu mu'.length dmu))[27]? = some (.slice bmu mu'.length dmu)) := Lib.hid rfl
  have HIX := Lib.hid (tb_info f mg (.slice ash sh.length csh) (.slice alo lo.length clo) (.slice ams ms.length cms) (.slice acu cu.length ccu) (.slice aun un.length cun) (.slice amu mu.length cmu))
  obtain ⟨X, hX⟩ : ∃ X, X = (tbA f mg (.slice ash sh.length csh) (.slice alo lo.length clo) (.slice ams ms.length cms) (.slice acu cu.length ccu) (.slice aun un.length cun) (.slice amu mu.length cmu)) := ⟨_, rfl⟩
  rw [← hX] at HFX HIX CXmg CXsh CXlo CXms CXcu CXun CXmu ⊢
  clear hX
  have HIY := Lib.hid (tb_info f' mg' (.slice bsh sh'.length dsh) (.slice blo lo'.length dlo) (.slice bms ms'.length dms) (.slice bcu cu'.length dcu) (.slice bun un'.length dun) (.slice bmu mu'.length dmu))
  obtain ⟨Y, hY⟩ : ∃ Y, Y = (tbA f' mg' (.slice bsh sh'.length dsh) (.slice blo lo'.length dlo) (.slice bms ms'.length dms) (.slice bcu cu'.length dcu) (.slice bun un'.length dun) (.slice bmu mu'.length dmu)) := ⟨_, rfl⟩
  rw [← hY] at HFY HIY CYmg CYsh CYlo CYms CYcu CYun CYmu ⊢
  clear hY
  have HB0 := Lib.hid (((Below.refl w.heap.size w).alloc (Nat.le_refl _) (.cells X TTb)).alloc (by simp) (.cells Y TTb))
  have HX := Lib.hid ((BoxT.new w X TTb).alloc (.cells Y TTb))
  have HY := Lib.hid (BoxT.new (w.alloc (.cells X TTb)) Y TTb)
  rw [show (w.alloc (.cells X TTb)).heap.size = w.heap.size + 1 by simp] at HY
  have Hsh := Lib.hid hsh
  have Ksh := Lib.hid ksh
  clear hsh ksh
  have Hlo := Lib.hid hlo
  have Klo := Lib.hid klo
  clear hlo klo
  have Hms := Lib.hid hms
  have Kms := Lib.hid kms
  clear hms kms
  have Hcu := Lib.hid hcu
  have Kcu := Lib.hid kcu
  clear hcu kcu
  have Hun := Lib.hid hun
  have Kun := Lib.hid kun
  clear hun kun
  have Hmu := Lib.hid hmu
  have Kmu := Lib.hid kmu
  clear hmu kmu
  go_enter Try.func7, Try.ntmps7
  go_wp2_with fail
  generalize (w.alloc (.cells X TTb)).alloc (.cells Y TTb) = w0 at *
  with_reducible refine (texts_as w.heap.size w0).mono ?_
  rintro e w1 ⟨t1, rfl, how1, hb1⟩
  have HP1 := Lib.hid (PtL.of how1)
  have HE1 := Lib.hid hb1
  clear how1 hb1
  go_wp2_with fail
  with_reducible refine (texts_as (w.heap.size + 1) w1).mono ?_
  rintro e w2 ⟨t2, rfl, how2, hb2⟩
  have HP2 := Lib.hid (PtL.of how2)
  have HP3 := Lib.hid (HP1.out.below hb2)
  have HE2 := Lib.hid (HE1.out.trans (hb2.mono HE1.out.size))
  clear how2 hb2 HE1
  go_wp2_with fail
  have hcall := eqPt_as w.heap.size (w.heap.size + 1) f f' X Y t1 t2 w2 HP3.out HP2.out (HX.out.below HE2.out) (HY.out.below HE2.out) HFX.out HFY.out
  have HCALL := Lib.hid hcall
  clear hcall
  with_reducible refine (HCALL.out).mono ?_
  rintro e w3 ⟨⟨z, rfl, hz⟩, hb3⟩
  have HZ := Lib.hid hz
  have HE3 := Lib.hid (HE2.out.trans (hb3.mono HE2.out.size))
  clear hz hb3 HCALL HP1 HP2 HP3
  cases z with
  | false =>
    go_wp2
    go_ret
    exact ⟨⟨false, rfl, ⟨fun h => (by cases h), fun h => absurd (HZ.out.2 h.1) (by decide)⟩⟩, below_two HB0.out HE3.out⟩
  | true =>
    have qx : w3.cell? ⟨w.heap.size, 16, none⟩ = some _ := ((HX.out.below HE3.out).cell 16).trans CXmg.out
    have qy : w3.cell? ⟨w.heap.size + 1, 16, none⟩ = some _ := ((HY.out.below HE3.out).cell 16).trans CYmg.out
    by_cases hmg : mg = mg'
    · have HMG := Lib.hid hmg
      have hbe : (mg == mg') = true := by simp [hmg]
      clear hmg
      have pxsh : w3.cell? ⟨w.heap.size, 22, none⟩ = some _ := ((HX.out.below HE3.out).cell 22).trans CXsh.out
      have pysh : w3.cell? ⟨w.heap.size + 1, 22, none⟩ = some _ := ((HY.out.below HE3.out).cell 22).trans CYsh.out
      go_wp2_with fail
      have HFsh := Lib.hid (below_two HB0.out HE3.out)
      with_reducible refine (eqRow_as sh sh' _ _ w3 (RowL.move Hsh.out HFsh.out.size HFsh.out) (RowL.move Ksh.out HFsh.out.size HFsh.out)).mono ?_
      rintro e w4 ⟨rfl, hb⟩
      have HE4 := Lib.hid (HE3.out.trans (hb.mono HE3.out.size))
      clear hb pxsh pysh qx qy hbe
      by_cases esh : sh = sh'
      · have hd : decide (sh = sh') = true := by simp [esh]
        rw [hd]
        have Esh := Lib.hid esh
        clear hd esh
        have pxlo : w4.cell? ⟨w.heap.size, 23, none⟩ = some _ := ((HX.out.below HE4.out).cell 23).trans CXlo.out
        have pylo : w4.cell? ⟨w.heap.size + 1, 23, none⟩ = some _ := ((HY.out.below HE4.out).cell 23).trans CYlo.out
        go_wp2_with fail
        have HFlo := Lib.hid (below_two HB0.out HE4.out)
        with_reducible refine (eqRow_as lo lo' _ _ w4 (RowL.move Hlo.out HFlo.out.size HFlo.out) (RowL.move Klo.out HFlo.out.size HFlo.out)).mono ?_
        rintro e w5 ⟨rfl, hb⟩
        have HE5 := Lib.hid (HE4.out.trans (hb.mono HE4.out.size))
        clear hb pxlo pylo
        by_cases elo : lo = lo'
        · have hd : decide (lo = lo') = true := by simp [elo]
          rw [hd]
          have Elo := Lib.hid elo
          clear hd elo
          have pxms : w5.cell? ⟨w.heap.size, 24, none⟩ = some _ := ((HX.out.below HE5.out).cell 24).trans CXms.out
          have pyms : w5.cell? ⟨w.heap.size + 1, 24, none⟩ = some _ := ((HY.out.below HE5.out).cell 24).trans CYms.out
          go_wp2_with fail
          have HFms := Lib.hid (below_two HB0.out HE5.out)
          with_reducible refine (eqRow_as ms ms' _ _ w5 (RowL.move Hms.out HFms.out.size HFms.out) (RowL.move Kms.out HFms.out.size HFms.out)).mono ?_
          rintro e w6 ⟨rfl, hb⟩
          have HE6 := Lib.hid (HE5.out.trans (hb.mono HE5.out.size))
          clear hb pxms pyms
          by_cases ems : ms = ms'
          · have hd : decide (ms = ms') = true := by simp [ems]
            rw [hd]
            have Ems := Lib.hid ems
            clear hd ems
            have pxcu : w6.cell? ⟨w.heap.size, 25, none⟩ = some _ := ((HX.out.below HE6.out).cell 25).trans CXcu.out
            have pycu : w6.cell? ⟨w.heap.size + 1, 25, none⟩ = some _ := ((HY.out.below HE6.out).cell 25).trans CYcu.out
            go_wp2_with fail
            have HFcu := Lib.hid (below_two HB0.out HE6.out)
            with_reducible refine (eqCur_as cu cu' _ _ w6 (CurL.move Hcu.out HFcu.out.size HFcu.out) (CurL.move Kcu.out HFcu.out.size HFcu.out)).mono ?_
            rintro e w7 ⟨rfl, hb⟩
            have HE7 := Lib.hid (HE6.out.trans (hb.mono HE6.out.size))
            clear hb pxcu pycu
            by_cases ecu : cu = cu'
            · have hd : decide (cu = cu') = true := by simp [ecu]
              rw [hd]
              have Ecu := Lib.hid ecu
              clear hd ecu
              have pxun : w7.cell? ⟨w.heap.size, 26, none⟩ = some _ := ((HX.out.below HE7.out).cell 26).trans CXun.out
              have pyun : w7.cell? ⟨w.heap.size + 1, 26, none⟩ = some _ := ((HY.out.below HE7.out).cell 26).trans CYun.out
              go_wp2_with fail
              have HFun := Lib.hid (below_two HB0.out HE7.out)
              with_reducible refine (eqUnt_as un un' _ _ w7 (UntL.move Hun.out HFun.out.size HFun.out) (UntL.move Kun.out HFun.out.size HFun.out)).mono ?_
              rintro e w8 ⟨rfl, hb⟩
              have HE8 := Lib.hid (HE7.out.trans (hb.mono HE7.out.size))
              clear hb pxun pyun
              by_cases eun : un = un'
              · have hd : decide (un = un') = true := by simp [eun]
                rw [hd]
                have Eun := Lib.hid eun
                clear hd eun
                have pxmu : w8.cell? ⟨w.heap.size, 27, none⟩ = some _ := ((HX.out.below HE8.out).cell 27).trans CXmu.out
                have pymu : w8.cell? ⟨w.heap.size + 1, 27, none⟩ = some _ := ((HY.out.below HE8.out).cell 27).trans CYmu.out
                go_wp2_with fail
                have HFmu := Lib.hid (below_two HB0.out HE8.out)
                with_reducible refine (eqTx_as mu mu' _ _ w8 (TxL.move Hmu.out HFmu.out.size HFmu.out) (TxL.move Kmu.out HFmu.out.size HFmu.out)).mono ?_
                rintro e w9 ⟨rfl, hb⟩
                have HE9 := Lib.hid (HE8.out.trans (hb.mono HE8.out.size))
                clear hb pxmu pymu
                by_cases emu : mu = mu'
                · have hd : decide (mu = mu') = true := by simp [emu]
                  rw [hd]
                  have Emu := Lib.hid emu
                  clear hd emu
                  go_wp2
                  go_ret
                  exact ⟨⟨true, rfl, ⟨fun _ => ⟨HZ.out.1 (by trivial), HMG.out, Esh.out, Elo.out, Ems.out, Ecu.out, Eun.out, Emu.out⟩, fun _ => rfl⟩⟩, below_two HB0.out HE9.out⟩
                · have hd : decide (mu = mu') = false := by simp [emu]
                  rw [hd]
                  go_wp2
                  go_ret
                  exact ⟨⟨false, rfl, ⟨fun h => (by cases h), fun h => absurd h.2.2.2.2.2.2.2 emu⟩⟩, below_two HB0.out HE9.out⟩
              · have hd : decide (un = un') = false := by simp [eun]
                rw [hd]
                go_wp2
                go_ret
                exact ⟨⟨false, rfl, ⟨fun h => (by cases h), fun h => absurd h.2.2.2.2.2.2.1 eun⟩⟩, below_two HB0.out HE8.out⟩
            · have hd : decide (cu = cu') = false := by simp [ecu]
              rw [hd]
              go_wp2
              go_ret
              exact ⟨⟨false, rfl, ⟨fun h => (by cases h), fun h => absurd h.2.2.2.2.2.1 ecu⟩⟩, below_two HB0.out HE7.out⟩
          · have hd : decide (ms = ms') = false := by simp [ems]
            rw [hd]
            go_wp2
            go_ret
            exact ⟨⟨false, rfl, ⟨fun h => (by cases h), fun h => absurd h.2.2.2.2.1 ems⟩⟩, below_two HB0.out HE6.out⟩
        · have hd : decide (lo = lo') = false := by simp [elo]
          rw [hd]
          go_wp2
          go_ret
          exact ⟨⟨false, rfl, ⟨fun h => (by cases h), fun h => absurd h.2.2.2.1 elo⟩⟩, below_two HB0.out HE5.out⟩
      · have hd : decide (sh = sh') = false := by simp [esh]
        rw [hd]
        go_wp2
        go_ret
        exact ⟨⟨false, rfl, ⟨fun h => (by cases h), fun h => absurd h.2.2.1 esh⟩⟩, below_two HB0.out HE4.out⟩
    · have hbe : (mg == mg') = false := by simp [hmg]
      go_wp2
      go_ret
      exact ⟨⟨false, rfl, ⟨fun h => (by cases h), fun h => absurd h.2.1 hmg⟩⟩, below_two HB0.out HE3.out⟩
end Go.Proofs.Ytkbigfkpgjhojaa
