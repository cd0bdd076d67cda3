/- What the law lays of a whole table by the page: Bytes. -/
import Derived.Test.YtoddggemedhnnaaBkD0
namespace Go.Proofs.Ytoddggemedhnnaa
open Go.RowKit Florin
set_option linter.unusedVariables false
set_option linter.unusedSimpArgs false
attribute [local go_sem ↓] Go.wp_at_zero Go.wp_at_succ
set_option maxRecDepth 100000 in
set_option maxHeartbeats 25600000 in
theorem bytes_as (f : Nat → List UInt8) (mg : Int) (vsh vlo vms vcu vun vmu : Value) (sh lo ms : List RowM) (cu : List CurM) (un : List UntM) (mu : List TxM) (w : World) (hsh : RowL w w.heap.size vsh sh) (hlo : RowL w w.heap.size vlo lo) (hms : RowL w w.heap.size vms ms) (hcu : CurL w w.heap.size vcu cu) (hun : UntL w w.heap.size vun un) (hmu : TxL w w.heap.size vmu mu)
    (hmg : mg ≤ 9223372036854775807) (nsh : ∀ r ∈ sh, nRow r) (nlo : ∀ r ∈ lo, nRow r) (nms : ∀ r ∈ ms, nRow r) (ncu : ∀ c ∈ cu, nCur c) (nun : ∀ u ∈ un, nUnt u) (nmu : ∀ x ∈ mu, nTx x)
    (hl : (EK f 27).length + (eN mg).length + (eRows sh).length + (eRows lo).length + (eRows ms).length + (eCurs cu).length + (eUnts un).length + (eTxs mu).length ≤ 900000000) :
    Calls Try.prog 9 #[.agg (tbA f mg vsh vlo vms vcu vun vmu)] w fun e w' => e = .returned (S (EK f 27 ++ eN mg ++ eRows sh ++ eRows lo ++ eRows ms ++ eCurs cu ++ eUnts un ++ eTxs mu)) ∧ Below w.heap.size w w' := by
  obtain ⟨ash, csh, rfl, hxsh⟩ : ∃ a c, vsh = .slice a sh.length c ∧ sh.length ≤ 9223372036854775807 := by obtain ⟨a, c, e, g1, g2, _⟩ := hsh; exact ⟨a, c, e, by unfold maxLen at g2; omega⟩
  obtain ⟨alo, clo, rfl, hxlo⟩ : ∃ a c, vlo = .slice a lo.length c ∧ lo.length ≤ 9223372036854775807 := by obtain ⟨a, c, e, g1, g2, _⟩ := hlo; exact ⟨a, c, e, by unfold maxLen at g2; omega⟩
  obtain ⟨ams, cms, rfl, hxms⟩ : ∃ a c, vms = .slice a ms.length c ∧ ms.length ≤ 9223372036854775807 := by obtain ⟨a, c, e, g1, g2, _⟩ := hms; exact ⟨a, c, e, by unfold maxLen at g2; omega⟩
  obtain ⟨acu, ccu, rfl, hxcu⟩ : ∃ a c, vcu = .slice a cu.length c ∧ cu.length ≤ 9223372036854775807 := by obtain ⟨a, c, e, g1, g2, _⟩ := hcu; exact ⟨a, c, e, by unfold maxLen at g2; omega⟩
  obtain ⟨aun, cun, rfl, hxun⟩ : ∃ a c, vun = .slice a un.length c ∧ un.length ≤ 9223372036854775807 := by obtain ⟨a, c, e, g1, g2, _⟩ := hun; exact ⟨a, c, e, by unfold maxLen at g2; omega⟩
  obtain ⟨amu, cmu, rfl, hxmu⟩ : ∃ a c, vmu = .slice a mu.length c ∧ mu.length ≤ 9223372036854775807 := by obtain ⟨a, c, e, g1, g2, _⟩ := hmu; exact ⟨a, c, e, by unfold maxLen at g2; omega⟩
  clear hxsh hxlo hxms hxmu
  have HFX := Lib.hid (tb_get f mg (.slice ash sh.length csh) (.slice alo lo.length clo) (.slice ams ms.length cms) (.slice acu cu.length ccu) (.slice aun un.length cun) (.slice amu mu.length cmu))
  have CXmg : Hid ((tbA f mg (.slice ash sh.length csh) (.slice alo lo.length clo) (.slice ams ms.length cms) (.slice acu cu.length ccu) (.slice aun un.length cun) (.slice amu mu.length cmu))[16]? = some (.int .i64 mg)) := Lib.hid rfl
  have CXsh : Hid ((tbA f mg (.slice ash sh.length csh) (.slice alo lo.length clo) (.slice ams ms.length cms) (.slice acu cu.length ccu) (.slice aun un.length cun) (.slice amu mu.length cmu))[22]? = some (.slice ash sh.length csh)) := Lib.hid rfl
  have CXlo : Hid ((tbA f mg (.slice ash sh.length csh) (.slice alo lo.length clo) (.slice ams ms.length cms) (.slice acu cu.length ccu) (.slice aun un.length cun) (.slice amu mu.length cmu))[23]? = some (.slice alo lo.length clo)) := Lib.hid rfl
  have CXms : Hid ((tbA f mg (.slice ash sh.length csh) (.slice alo lo.length clo) (.slice ams ms.length cms) (.slice acu cu.length ccu) (.slice aun un.length cun) (.slice amu mu.length cmu))[24]? = some (.slice ams ms.length cms)) := Lib.hid rfl
  have CXcu : Hid ((tbA f mg (.slice ash sh.length csh) (.slice alo lo.length clo) (.slice ams ms.length cms) (.slice acu cu.length ccu) (.slice aun un.length cun) (.slice amu mu.length cmu))[25]? = some (.slice acu cu.length ccu)) := Lib.hid rfl
  have CXun : Hid ((tbA f mg (.slice ash sh.length csh) (.slice alo lo.length clo) (.slice ams ms.length cms) (.slice acu cu.length ccu) (.slice aun un.length cun) (.slice amu mu.length cmu))[26]? = some (.slice aun un.length cun)) := Lib.hid rfl
  have CXmu : Hid ((tbA f mg (.slice ash sh.length csh) (.slice alo lo.length clo) (.slice ams ms.length cms) (.slice acu cu.length ccu) (.slice aun un.length cun) (.slice amu mu.length cmu))[27]? = some (.slice amu mu.length cmu)) := Lib.hid rfl
  obtain ⟨X, hX⟩ : ∃ X, X = (tbA f mg (.slice ash sh.length csh) (.slice alo lo.length clo) (.slice ams ms.length cms) (.slice acu cu.length ccu) (.slice aun un.length cun) (.slice amu mu.length cmu)) := ⟨_, rfl⟩
  rw [← hX] at HFX CXmg CXsh CXlo CXms CXcu CXun CXmu ⊢
  clear hX
  have HB0 := Lib.hid ((Below.refl w.heap.size w).alloc (Nat.le_refl _) (.cells X TTb))
  have HX := Lib.hid (BoxT.new w X TTb)
  have Hsh := Lib.hid hsh
  have Hlo := Lib.hid hlo
  have Hms := Lib.hid hms
  have Hcu := Lib.hid hcu
  have Hun := Lib.hid hun
  have Hmu := Lib.hid hmu
  have Nsh := Lib.hid nsh
  have Nlo := Lib.hid nlo
  have Nms := Lib.hid nms
  have Ncu := Lib.hid ncu
  have Nun := Lib.hid nun
  have Nmu := Lib.hid nmu
  have HL := Lib.hid hl
  clear hsh hlo hms hcu hun hmu nsh nlo nms ncu nun nmu hl
  have hsz1 : (w.alloc (.cells X TTb)).heap.size = w.heap.size + 1 := by simp
  have HSZ := Lib.hid hsz1
  clear hsz1
  go_enter Try.func9, Try.ntmps9
  go_upto_region 1 with fail
  generalize w.alloc (.cells X TTb) = w0 at *
  have x0 := (HX.out.cell 0).trans (HFX.out 0 (by decide))
  have x1 := (HX.out.cell 1).trans (HFX.out 1 (by decide))
  have x2 := (HX.out.cell 2).trans (HFX.out 2 (by decide))
  have x3 := (HX.out.cell 3).trans (HFX.out 3 (by decide))
  have x4 := (HX.out.cell 4).trans (HFX.out 4 (by decide))
  have x5 := (HX.out.cell 5).trans (HFX.out 5 (by decide))
  have x6 := (HX.out.cell 6).trans (HFX.out 6 (by decide))
  have x7 := (HX.out.cell 7).trans (HFX.out 7 (by decide))
  have x8 := (HX.out.cell 8).trans (HFX.out 8 (by decide))
  have x9 := (HX.out.cell 9).trans (HFX.out 9 (by decide))
  go_wp2_with fail
  obtain ⟨D, hD⟩ : ∃ D : Array Value, D = #[S (f 0), S (f 1), S (f 2), S (f 3), S (f 4), S (f 5), S (f 6), S (f 7), S (f 8), S (f 9)] := ⟨_, rfl⟩
  rw [← hD]
  have HDK : Hid (∀ k : Nat, k < 10 → ∀ w, (Instr.index 23 (.agg D) (.int .i64 (k : Int))).run Try.prog w = .ok (S (f k)) w) := Lib.hid (by rw [hD]; exact run_idx f)
  clear hD x0 x1 x2 x3 x4 x5 x6 x7 x8 x9
  go_loopw [3, 16] (fun s i wr => ∃ k : Nat, k ≤ 10 ∧ i = .int .i64 (k : Int) ∧ s = S (EK f k) ∧ Below w.heap.size w wr ∧ BoxT wr w.heap.size X TTb) (fun _ i _ => 10 - (intOf i).toNat)
  case atStart => exact ⟨0, Nat.zero_le _, rfl, rfl, HB0.out, HX.out⟩
  case round =>
    obtain ⟨k, hk, rfl, rfl, hb, hx⟩ := hrel
    have HB := Lib.hid hb
    have HXX := Lib.hid hx
    clear hb hx
    by_cases hlt : k < 10
    · have hki : (k : Int) < 10 := by omega
      have hdk := HDK.out k hlt
      have hle := EK_le f (show k + 1 ≤ 27 by omega)
      have hl2 := HL.out
      rw [EK_succ, List.length_append] at hle
      have hz : ¬ 9223372036854775807 < (EK f k).length + (eT (f k)).length := by omega
      have he1 : (eT (f k)).length ≤ 900000000 := by omega
      clear hle hl2
      go_wp2_with fail
      with_reducible refine (llay_as (f k) _ he1).mono ?_
      rintro e w6 ⟨rfl, hb⟩
      have B6 := Lib.hid (HB.out.trans (hb.mono HB.out.size))
      have X6 := Lib.hid (HXX.out.below hb)
      clear hb hdk
      go_wp2
      go_roundw
      case rel => exact ⟨k + 1, by omega, by go_num, by rw [EK_succ, arr_append], B6.out, X6.out⟩
      case measure => simp [intOf]; omega
    · obtain rfl : k = 10 := by omega
      have hki : ¬ ((10 : Nat) : Int) < 10 := by omega
      clear HDK HX HB0
      have hsz := HB.out.size
      have y10 : wr.cell? ⟨w.heap.size, 10, none⟩ = some (S (f 10)) := (HXX.out.cell 10).trans (HFX.out 10 (by decide))
      have y11 : wr.cell? ⟨w.heap.size, 11, none⟩ = some (S (f 11)) := (HXX.out.cell 11).trans (HFX.out 11 (by decide))
      have y12 : wr.cell? ⟨w.heap.size, 12, none⟩ = some (S (f 12)) := (HXX.out.cell 12).trans (HFX.out 12 (by decide))
      have y13 : wr.cell? ⟨w.heap.size, 13, none⟩ = some (S (f 13)) := (HXX.out.cell 13).trans (HFX.out 13 (by decide))
      have y14 : wr.cell? ⟨w.heap.size, 14, none⟩ = some (S (f 14)) := (HXX.out.cell 14).trans (HFX.out 14 (by decide))
      have y15 : wr.cell? ⟨w.heap.size, 15, none⟩ = some (S (f 15)) := (HXX.out.cell 15).trans (HFX.out 15 (by decide))
      have y16 : wr.cell? ⟨w.heap.size, 17, none⟩ = some (S (f 16)) := (HXX.out.cell 17).trans (HFX.out 16 (by decide))
      have y17 : wr.cell? ⟨w.heap.size, 18, none⟩ = some (S (f 17)) := (HXX.out.cell 18).trans (HFX.out 17 (by decide))
      have y18 : wr.cell? ⟨w.heap.size, 19, none⟩ = some (S (f 18)) := (HXX.out.cell 19).trans (HFX.out 18 (by decide))
      have y19 : wr.cell? ⟨w.heap.size, 20, none⟩ = some (S (f 19)) := (HXX.out.cell 20).trans (HFX.out 19 (by decide))
      have y20 : wr.cell? ⟨w.heap.size, 21, none⟩ = some (S (f 20)) := (HXX.out.cell 21).trans (HFX.out 20 (by decide))
      have y21 : wr.cell? ⟨w.heap.size, 28, none⟩ = some (S (f 21)) := (HXX.out.cell 28).trans (HFX.out 21 (by decide))
      have y22 : wr.cell? ⟨w.heap.size, 29, none⟩ = some (S (f 22)) := (HXX.out.cell 29).trans (HFX.out 22 (by decide))
      have y23 : wr.cell? ⟨w.heap.size, 30, none⟩ = some (S (f 23)) := (HXX.out.cell 30).trans (HFX.out 23 (by decide))
      have y24 : wr.cell? ⟨w.heap.size, 31, none⟩ = some (S (f 24)) := (HXX.out.cell 31).trans (HFX.out 24 (by decide))
      have y25 : wr.cell? ⟨w.heap.size, 32, none⟩ = some (S (f 25)) := (HXX.out.cell 32).trans (HFX.out 25 (by decide))
      have y26 : wr.cell? ⟨w.heap.size, 33, none⟩ = some (S (f 26)) := (HXX.out.cell 33).trans (HFX.out 26 (by decide))
      go_wp2_with fail
      obtain ⟨w1, hw1⟩ : ∃ w1, w1 = wr.alloc (.cells #[S (f 10), S (f 11), S (f 12), S (f 13), S (f 14), S (f 15), S (f 16), S (f 17), S (f 18), S (f 19), S (f 20), S (f 21), S (f 22), S (f 23), S (f 24), S (f 25), S (f 26)] 9) := ⟨_, rfl⟩
      have HLL : Hid (∀ k, k < 17 → w1.cell? ⟨wr.heap.size, k, none⟩ = some (S (f (10 + k)))) := Lib.hid (fun k hk => by
        rw [hw1]; exact ((BoxT.new wr #[S (f 10), S (f 11), S (f 12), S (f 13), S (f 14), S (f 15), S (f 16), S (f 17), S (f 18), S (f 19), S (f 20), S (f 21), S (f 22), S (f 23), S (f 24), S (f 25), S (f 26)] 9).cell k).trans (lits17 f k hk))
      have B1 := Lib.hid (HB.out.alloc hsz (.cells #[S (f 10), S (f 11), S (f 12), S (f 13), S (f 14), S (f 15), S (f 16), S (f 17), S (f 18), S (f 19), S (f 20), S (f 21), S (f 22), S (f 23), S (f 24), S (f 25), S (f 26)] 9))
      have X1 := Lib.hid (HXX.out.alloc (.cells #[S (f 10), S (f 11), S (f 12), S (f 13), S (f 14), S (f 15), S (f 16), S (f 17), S (f 18), S (f 19), S (f 20), S (f 21), S (f 22), S (f 23), S (f 24), S (f 25), S (f 26)] 9))
      have Y1 := Lib.hid (BoxT.new wr #[S (f 10), S (f 11), S (f 12), S (f 13), S (f 14), S (f 15), S (f 16), S (f 17), S (f 18), S (f 19), S (f 20), S (f 21), S (f 22), S (f 23), S (f 24), S (f 25), S (f 26)] 9)
      rw [← hw1] at B1 X1 Y1 ⊢
      clear hw1 y10 y11 y12 y13 y14 y15 y16 y17 y18 y19 y20 y21 y22 y23 y24 y25 y26
      clear HXX HB
      generalize wr.heap.size = q1 at *
      go_loopw [3, 66] (fun s i wx => ∃ k : Nat, k ≤ 17 ∧ i = .int .i64 (k : Int) ∧ s = S (EK f (10 + k)) ∧ Below w.heap.size w wx ∧ Below w1.heap.size w1 wx) (fun _ i _ => 17 - (intOf i).toNat)
      case atStart => exact ⟨0, Nat.zero_le _, rfl, rfl, B1.out, Below.refl _ _⟩
      case round =>
        obtain ⟨k, hk, rfl, rfl, hb, hb1⟩ := hrel
        have HB := Lib.hid hb
        have HB1 := Lib.hid hb1
        have hws := hb.size
        clear hb hb1
        by_cases hlt : k < 17
        · have hki : (k : Int) < 17 := by omega
          have hdk := (HB1.out.cell (p := ⟨q1, k, none⟩) Y1.out.lt).trans (HLL.out k hlt)
          have hle := EK_le f (show 10 + k + 1 ≤ 27 by omega)
          have hl2 := HL.out
          rw [EK_succ, List.length_append] at hle
          have HEK := Lib.hid (EK_succ f (10 + k))
          obtain ⟨g, hg⟩ : ∃ g, g = f (10 + k) := ⟨_, rfl⟩
          obtain ⟨t, ht⟩ : ∃ t, t = EK f (10 + k) := ⟨_, rfl⟩
          rw [← hg] at hdk hle HEK
          rw [← ht] at hle HEK ⊢
          clear hg ht
          have hz : ¬ 9223372036854775807 < t.length + (eT g).length := by omega
          have he1 : (eT g).length ≤ 900000000 := by omega
          clear hle hl2
          go_wp2_with fail
          with_reducible refine (llay_as g _ he1).mono ?_
          rintro e w6 ⟨rfl, hb⟩
          have B6 := Lib.hid (HB.out.trans (hb.mono HB.out.size))
          have C6 := Lib.hid (HB1.out.trans (hb.mono HB1.out.size))
          clear hb hdk
          go_wp2
          go_roundw
          case rel => exact ⟨k + 1, by omega, by go_num, by rw [← Nat.add_assoc, HEK.out, arr_append], B6.out, C6.out⟩
          case measure => simp [intOf]; omega
        · obtain rfl : k = 17 := by omega
          have hki : ¬ ((17 : Nat) : Int) < 17 := by omega
          have XR := Lib.hid (X1.out.below HB1.out)
          clear HLL B1 X1 Y1 HB1
          obtain ⟨t, ht⟩ : ∃ t, t = EK f (10 + 17) := ⟨_, rfl⟩
          have HLT : Hid (t.length + (eN mg).length + (eRows sh).length + (eRows lo).length + (eRows ms).length + (eCurs cu).length + (eUnts un).length + (eTxs mu).length ≤ 900000000) := Lib.hid (by rw [ht]; exact HL.out)
          rw [show EK f 27 = t from ht.symm]
          have HTE := Lib.hid ht
          clear ht
          have HNC : Hid ((vnum cu.length).length ≤ (eCurs cu).length) := Lib.hid (by unfold eCurs; rw [eL_len]; omega)
          have hgt := HLT.out
          have hgc := HNC.out
          rw [show (eN mg).length = (vnum mg.toNat).length from rfl] at hgt
          have hs1 : ¬ 9223372036854775807 < t.length + (vnum mg.toNat).length := by omega
          have hs2 : ¬ 9223372036854775807 < t.length + (vnum mg.toNat).length + (eRows sh).length := by omega
          have hs3 : ¬ 9223372036854775807 < t.length + (vnum mg.toNat).length + (eRows sh).length + (eRows lo).length := by omega
          have hs4 : ¬ 9223372036854775807 < t.length + (vnum mg.toNat).length + (eRows sh).length + (eRows lo).length + (eRows ms).length := by omega
          have hs5 : ¬ 9223372036854775807 < t.length + (vnum mg.toNat).length + (eRows sh).length + (eRows lo).length + (eRows ms).length + (vnum cu.length).length := by omega
          have k1 : (eRows sh).length ≤ 900000000 := by omega
          have k2 : (eRows lo).length ≤ 900000000 := by omega
          have k3 : (eRows ms).length ≤ 900000000 := by omega
          have KS : Hid (∀ w', Below wr.heap.size wr w' → w'.cell? ⟨w.heap.size, 16, none⟩ = some (.int .i64 mg) ∧ w'.cell? ⟨w.heap.size, 22, none⟩ = some (.slice ash sh.length csh) ∧ w'.cell? ⟨w.heap.size, 23, none⟩ = some (.slice alo lo.length clo) ∧ w'.cell? ⟨w.heap.size, 24, none⟩ = some (.slice ams ms.length cms) ∧ w'.cell? ⟨w.heap.size, 25, none⟩ = some (.slice acu cu.length ccu) ∧ Below w.heap.size w w' ∧ Below wr.heap.size wr w') := Lib.hid (fun w' hb => ⟨((XR.out.below hb).cell 16).trans CXmg.out, ((XR.out.below hb).cell 22).trans CXsh.out, ((XR.out.below hb).cell 23).trans CXlo.out, ((XR.out.below hb).cell 24).trans CXms.out, ((XR.out.below hb).cell 25).trans CXcu.out, HB.out.trans (hb.mono HB.out.size), hb⟩)
          have KEEP : Hid (∀ w' w'', (w'.cell? ⟨w.heap.size, 16, none⟩ = some (.int .i64 mg) ∧ w'.cell? ⟨w.heap.size, 22, none⟩ = some (.slice ash sh.length csh) ∧ w'.cell? ⟨w.heap.size, 23, none⟩ = some (.slice alo lo.length clo) ∧ w'.cell? ⟨w.heap.size, 24, none⟩ = some (.slice ams ms.length cms) ∧ w'.cell? ⟨w.heap.size, 25, none⟩ = some (.slice acu cu.length ccu) ∧ Below w.heap.size w w' ∧ Below wr.heap.size wr w') → Below w'.heap.size w' w'' → (w''.cell? ⟨w.heap.size, 16, none⟩ = some (.int .i64 mg) ∧ w''.cell? ⟨w.heap.size, 22, none⟩ = some (.slice ash sh.length csh) ∧ w''.cell? ⟨w.heap.size, 23, none⟩ = some (.slice alo lo.length clo) ∧ w''.cell? ⟨w.heap.size, 24, none⟩ = some (.slice ams ms.length cms) ∧ w''.cell? ⟨w.heap.size, 25, none⟩ = some (.slice acu cu.length ccu) ∧ Below w.heap.size w w'' ∧ Below wr.heap.size wr w'')) := Lib.hid (fun w' w'' h hb => KS.out _ (h.2.2.2.2.2.2.trans (hb.mono h.2.2.2.2.2.2.size)))
          have M1 : Hid (∀ w', (w'.cell? ⟨w.heap.size, 16, none⟩ = some (.int .i64 mg) ∧ w'.cell? ⟨w.heap.size, 22, none⟩ = some (.slice ash sh.length csh) ∧ w'.cell? ⟨w.heap.size, 23, none⟩ = some (.slice alo lo.length clo) ∧ w'.cell? ⟨w.heap.size, 24, none⟩ = some (.slice ams ms.length cms) ∧ w'.cell? ⟨w.heap.size, 25, none⟩ = some (.slice acu cu.length ccu) ∧ Below w.heap.size w w' ∧ Below wr.heap.size wr w') → RowL w' w.heap.size (.slice ash sh.length csh) sh ∧ w.heap.size ≤ w'.heap.size) := Lib.hid (fun w' h => ⟨RowL.move Hsh.out (Nat.le_refl _) h.2.2.2.2.2.1, h.2.2.2.2.2.1.size⟩)
          have M2 : Hid (∀ w', (w'.cell? ⟨w.heap.size, 16, none⟩ = some (.int .i64 mg) ∧ w'.cell? ⟨w.heap.size, 22, none⟩ = some (.slice ash sh.length csh) ∧ w'.cell? ⟨w.heap.size, 23, none⟩ = some (.slice alo lo.length clo) ∧ w'.cell? ⟨w.heap.size, 24, none⟩ = some (.slice ams ms.length cms) ∧ w'.cell? ⟨w.heap.size, 25, none⟩ = some (.slice acu cu.length ccu) ∧ Below w.heap.size w w' ∧ Below wr.heap.size wr w') → RowL w' w.heap.size (.slice alo lo.length clo) lo ∧ w.heap.size ≤ w'.heap.size) := Lib.hid (fun w' h => ⟨RowL.move Hlo.out (Nat.le_refl _) h.2.2.2.2.2.1, h.2.2.2.2.2.1.size⟩)
          have M3 : Hid (∀ w', (w'.cell? ⟨w.heap.size, 16, none⟩ = some (.int .i64 mg) ∧ w'.cell? ⟨w.heap.size, 22, none⟩ = some (.slice ash sh.length csh) ∧ w'.cell? ⟨w.heap.size, 23, none⟩ = some (.slice alo lo.length clo) ∧ w'.cell? ⟨w.heap.size, 24, none⟩ = some (.slice ams ms.length cms) ∧ w'.cell? ⟨w.heap.size, 25, none⟩ = some (.slice acu cu.length ccu) ∧ Below w.heap.size w w' ∧ Below wr.heap.size wr w') → RowL w' w.heap.size (.slice ams ms.length cms) ms ∧ w.heap.size ≤ w'.heap.size) := Lib.hid (fun w' h => ⟨RowL.move Hms.out (Nat.le_refl _) h.2.2.2.2.2.1, h.2.2.2.2.2.1.size⟩)
          clear hgt hgc HL
          go_upto_region 12 with fail
          go_region_held3 (fun w' => w'.cell? ⟨w.heap.size, 16, none⟩ = some (.int .i64 mg) ∧ w'.cell? ⟨w.heap.size, 22, none⟩ = some (.slice ash sh.length csh) ∧ w'.cell? ⟨w.heap.size, 23, none⟩ = some (.slice alo lo.length clo) ∧ w'.cell? ⟨w.heap.size, 24, none⟩ = some (.slice ams ms.length cms) ∧ w'.cell? ⟨w.heap.size, 25, none⟩ = some (.slice acu cu.length ccu) ∧ Below w.heap.size w w' ∧ Below wr.heap.size wr w')
            (first | exact KS.out _ (Below.refl _ wr).drew | exact KEEP.out _ _ (by assumption) hb | assumption)
            (first | (go_at_call 19; (with_reducible refine (tnum_any _ _ (by omega)).mono ?_); (try rw [Int.toNat_natCast]); rintro y w6 ⟨rfl, hb⟩) | (go_at_call 20; (first | (with_reducible refine (lrows_as w.heap.size sh _ _ (M1.out _ (by assumption)).1 (M1.out _ (by assumption)).2 Nsh.out k1).mono ?_) | (with_reducible refine (lrows_as w.heap.size lo _ _ (M2.out _ (by assumption)).1 (M2.out _ (by assumption)).2 Nlo.out k2).mono ?_) | (with_reducible refine (lrows_as w.heap.size ms _ _ (M3.out _ (by assumption)).1 (M3.out _ (by assumption)).2 Nms.out k3).mono ?_)); rintro y w6 ⟨rfl, hb⟩))
          have HS6 : (fun w' => w'.cell? ⟨w.heap.size, 16, none⟩ = some (.int .i64 mg) ∧ w'.cell? ⟨w.heap.size, 22, none⟩ = some (.slice ash sh.length csh) ∧ w'.cell? ⟨w.heap.size, 23, none⟩ = some (.slice alo lo.length clo) ∧ w'.cell? ⟨w.heap.size, 24, none⟩ = some (.slice ams ms.length cms) ∧ w'.cell? ⟨w.heap.size, 25, none⟩ = some (.slice acu cu.length ccu) ∧ Below w.heap.size w w' ∧ Below wr.heap.size wr w') w6 := by assumption
          have B3 := Lib.hid HS6.2.2.2.2.2.1
          have X3 := Lib.hid (XR.out.below HS6.2.2.2.2.2.2)
          clear HS6 KS KEEP M1 M2 M3 XR HB hs1 hs2 hs3 hs4 hs5 k1 k2 k3
          simp only [arr_append, List.append_assoc]
          obtain ⟨p, hp⟩ : ∃ p, p = t ++ (vnum mg.toNat ++ (eRows sh ++ (eRows lo ++ (eRows ms ++ vnum cu.length)))) := ⟨_, rfl⟩
          have HPL : Hid (p.length + (cu.flatMap eCur).length + (eUnts un).length + (eTxs mu).length ≤ 900000000) := Lib.hid (by
            have h := HLT.out
            unfold eCurs eN at h
            rw [eL_len] at h
            rw [hp]
            simp only [List.length_append]
            omega)
          have HLU : Hid ((eUnts un).length = (vnum un.length).length + (un.flatMap eUnt).length) := Lib.hid (by unfold eUnts; rw [eL_len])
          rw [← hp]
          have HPP := Lib.hid hp
          clear hp HLT HNC
          have c25 := (X3.out.cell 25).trans CXcu.out
          go_wp2_with fail
          clear c25
          go_loopw [3, 100] (fun s i wx => ∃ k : Nat, k ≤ cu.length ∧ i = .int .i64 (k : Int) ∧ s = S (p ++ (cu.take k).flatMap eCur) ∧ Below w.heap.size w wx ∧ BoxT wx w.heap.size X TTb) (fun _ i _ => cu.length - (intOf i).toNat)
          case atStart => exact ⟨0, Nat.zero_le _, rfl, by rw [List.take_zero]; simp, B3.out, X3.out⟩
          case round =>
            obtain ⟨k, hk, rfl, rfl, hb, hx⟩ := hrel
            have HB := Lib.hid hb
            have HXX := Lib.hid hx
            have hws := hb.size
            clear hb hx
            by_cases hlt : k < cu.length
            · obtain ⟨a', cap', e, _, _, hcell⟩ := Hcu.out
              injection e with e1 e2 e3
              subst e1 e3
              clear e2
              obtain ⟨bb, off, rfl, hbl, hbl2, hc⟩ := hcell (by omega)
              obtain ⟨c, hA, hcl, hcc⟩ := hc k hlt
              have HT := Lib.hid (flat_take eCur cu k hlt)
              have hnx := Ncu.out cu[k] (List.getElem_mem hlt)
              have hfl := flat_le eCur cu (k + 1)
              rw [HT.out, List.length_append, eCur_len] at hfl
              obtain ⟨x, hx⟩ : ∃ x, x = cu[k] := ⟨_, rfl⟩
              rw [← hx] at hA hnx HT hfl
              clear hx
              obtain ⟨u, rfl, hu⟩ := hA
              obtain ⟨ua, uc, rfl⟩ : ∃ ua uc, u = .slice ua x.names.length uc := by
                obtain ⟨ua, uc, e, _⟩ := hu
                exact ⟨ua, uc, e⟩
              have HU := Lib.hid hu
              clear hu
              have hcc2 : ∀ j, j < 8 → wr.cell? ⟨bb, off + k * 8 + j, none⟩ = _ := fun j hj => (HB.out.cell (p := ⟨bb, off + k * 8 + j, none⟩) hbl).trans (hcc j hj)
              have q0 : wr.cell? ⟨bb, off + k * 8, none⟩ = _ := hcc2 0 (by decide)
              have q1 : wr.cell? ⟨bb, off + k * 8 + 1, none⟩ = _ := hcc2 1 (by decide)
              have q2 : wr.cell? ⟨bb, off + k * 8 + 2, none⟩ = _ := hcc2 2 (by decide)
              have q3 : wr.cell? ⟨bb, off + k * 8 + 3, none⟩ = _ := hcc2 3 (by decide)
              have q4 : wr.cell? ⟨bb, off + k * 8 + 4, none⟩ = _ := hcc2 4 (by decide)
              have q5 : wr.cell? ⟨bb, off + k * 8 + 5, none⟩ = _ := hcc2 5 (by decide)
              have q6 : wr.cell? ⟨bb, off + k * 8 + 6, none⟩ = _ := hcc2 6 (by decide)
              have q7 : wr.cell? ⟨bb, off + k * 8 + 7, none⟩ = _ := hcc2 7 (by decide)
              simp only [List.getElem?_cons_zero, List.getElem?_cons_succ] at q0 q1 q2 q3 q4 q5 q6 q7
              clear hcc hcc2 hc hcl
              have hki : (k : Int) < (cu.length : Int) := by omega
              obtain ⟨t1, ht1⟩ : ∃ t1, t1 = p ++ (cu.take k).flatMap eCur := ⟨_, rfl⟩
              have htl : t1.length + (eT x.code).length + (eT x.sym).length + (eT x.nar).length + (eTxs x.names).length + (N4 x 4).length ≤ 900000000 := by have := HPL.out; rw [ht1, List.length_append]; omega
              rw [← ht1]
              have HTT := Lib.hid ht1
              clear ht1
              go_wp2_with fail
              have B2 := Lib.hid (HB.out.alloc hws (.cells #[S x.code, S x.sym, S x.nar, .slice ua x.names.length uc, .int .i64 x.d, .int .i64 x.i, .int .i64 x.cd, .int .i64 x.ci] 42))
              have X2 := Lib.hid (HXX.out.alloc (.cells #[S x.code, S x.sym, S x.nar, .slice ua x.names.length uc, .int .i64 x.d, .int .i64 x.i, .int .i64 x.cd, .int .i64 x.ci] 42))
              have Y2 := Lib.hid (BoxT.new wr #[S x.code, S x.sym, S x.nar, .slice ua x.names.length uc, .int .i64 x.d, .int .i64 x.i, .int .i64 x.cd, .int .i64 x.ci] 42)
              clear q0 q1 q2 q3 q4 q5 q6 q7 HB HXX
              generalize wr.alloc (.cells #[S x.code, S x.sym, S x.nar, .slice ua x.names.length uc, .int .i64 x.d, .int .i64 x.i, .int .i64 x.cd, .int .i64 x.ci] 42) = w2 at *
              generalize wr.heap.size = xb at *
              have KS : Hid (∀ w', Below w2.heap.size w2 w' → w'.cell? ⟨xb, 0, none⟩ = some (S x.code) ∧ w'.cell? ⟨xb, 1, none⟩ = some (S x.sym) ∧ w'.cell? ⟨xb, 2, none⟩ = some (S x.nar) ∧ w'.cell? ⟨xb, 3, none⟩ = some (.slice ua x.names.length uc) ∧ Below w.heap.size w w' ∧ Below w2.heap.size w2 w') := Lib.hid (fun w' hb => ⟨(Y2.out.below hb).cell 0, (Y2.out.below hb).cell 1, (Y2.out.below hb).cell 2, (Y2.out.below hb).cell 3, B2.out.trans (hb.mono B2.out.size), hb⟩)
              have KEEP : Hid (∀ w' w'', (w'.cell? ⟨xb, 0, none⟩ = some (S x.code) ∧ w'.cell? ⟨xb, 1, none⟩ = some (S x.sym) ∧ w'.cell? ⟨xb, 2, none⟩ = some (S x.nar) ∧ w'.cell? ⟨xb, 3, none⟩ = some (.slice ua x.names.length uc) ∧ Below w.heap.size w w' ∧ Below w2.heap.size w2 w') → Below w'.heap.size w' w'' → (w''.cell? ⟨xb, 0, none⟩ = some (S x.code) ∧ w''.cell? ⟨xb, 1, none⟩ = some (S x.sym) ∧ w''.cell? ⟨xb, 2, none⟩ = some (S x.nar) ∧ w''.cell? ⟨xb, 3, none⟩ = some (.slice ua x.names.length uc) ∧ Below w.heap.size w w'' ∧ Below w2.heap.size w2 w'')) := Lib.hid (fun w' w'' h hb => KS.out _ (h.2.2.2.2.2.trans (hb.mono h.2.2.2.2.2.size)))
              have M1 : Hid (∀ w', (w'.cell? ⟨xb, 0, none⟩ = some (S x.code) ∧ w'.cell? ⟨xb, 1, none⟩ = some (S x.sym) ∧ w'.cell? ⟨xb, 2, none⟩ = some (S x.nar) ∧ w'.cell? ⟨xb, 3, none⟩ = some (.slice ua x.names.length uc) ∧ Below w.heap.size w w' ∧ Below w2.heap.size w2 w') → TxL w' w.heap.size (.slice ua x.names.length uc) x.names ∧ w.heap.size ≤ w'.heap.size) := Lib.hid (fun w' h => ⟨TxL.move HU.out (Nat.le_refl _) h.2.2.2.2.1, h.2.2.2.2.1.size⟩)
              have HNT : Hid (∀ y ∈ x.names, nTx y) := Lib.hid hnx.2.2.2.2
              have HM4 : Hid (∀ j, j < 4 → D4 x j ≤ 9223372036854775807) := Lib.hid (fun j hj => by
                match j, hj with
                | 0, _ => exact hnx.1
                | 1, _ => exact hnx.2.1
                | 2, _ => exact hnx.2.2.1
                | 3, _ => exact hnx.2.2.2.1
                | j + 4, h => exact absurd h (by omega))
              have hs1 : ¬ 9223372036854775807 < t1.length + (eT x.code).length := by omega
              have hs2 : ¬ 9223372036854775807 < t1.length + (eT x.code).length + (eT x.sym).length := by omega
              have hs3 : ¬ 9223372036854775807 < t1.length + (eT x.code).length + (eT x.sym).length + (eT x.nar).length := by omega
              have hs4 : ¬ 9223372036854775807 < t1.length + (eT x.code).length + (eT x.sym).length + (eT x.nar).length + (eTxs x.names).length := by omega
              have k1 : (eT x.code).length ≤ 900000000 := by omega
              have k2 : (eT x.sym).length ≤ 900000000 := by omega
              have k3 : (eT x.nar).length ≤ 900000000 := by omega
              have k4 : (eTxs x.names).length ≤ 900000000 := by omega
              have HTL := Lib.hid htl
              clear hfl htl hnx
              go_upto_region 16 with fail
              go_region_held3 (fun w' => w'.cell? ⟨xb, 0, none⟩ = some (S x.code) ∧ w'.cell? ⟨xb, 1, none⟩ = some (S x.sym) ∧ w'.cell? ⟨xb, 2, none⟩ = some (S x.nar) ∧ w'.cell? ⟨xb, 3, none⟩ = some (.slice ua x.names.length uc) ∧ Below w.heap.size w w' ∧ Below w2.heap.size w2 w')
                (first | exact KS.out _ (Below.refl _ w2).drew | exact KEEP.out _ _ (by assumption) hb | assumption)
                (first | (go_at_call 18; (with_reducible refine (llay_as _ _ (by omega)).mono ?_); rintro y w6 ⟨rfl, hb⟩) | (go_at_call 21; (with_reducible refine (ltexts_as w.heap.size x.names _ _ (M1.out _ (by assumption)).1 (M1.out _ (by assumption)).2 HNT.out k4).mono ?_); rintro y w6 ⟨rfl, hb⟩))
              have HS6 : (fun w' => w'.cell? ⟨xb, 0, none⟩ = some (S x.code) ∧ w'.cell? ⟨xb, 1, none⟩ = some (S x.sym) ∧ w'.cell? ⟨xb, 2, none⟩ = some (S x.nar) ∧ w'.cell? ⟨xb, 3, none⟩ = some (.slice ua x.names.length uc) ∧ Below w.heap.size w w' ∧ Below w2.heap.size w2 w') w6 := by assumption
              have B6 := Lib.hid HS6.2.2.2.2.1
              have X6 := Lib.hid (X2.out.below HS6.2.2.2.2.2)
              have Y6 := Lib.hid (Y2.out.below HS6.2.2.2.2.2)
              have hs6 := B6.out.size
              clear HS6 KS KEEP M1 X2 B2 Y2
              simp only [arr_append, List.append_assoc]
              obtain ⟨U, hU⟩ : ∃ U, U = t1 ++ (eT x.code ++ (eT x.sym ++ (eT x.nar ++ eTxs x.names))) := ⟨_, rfl⟩
              have HUL : Hid (U.length + (N4 x 4).length ≤ 900000000) := Lib.hid (by have := HTL.out; rw [hU]; simp only [List.length_append]; omega)
              rw [← hU]
              have HUU := Lib.hid hU
              clear hU HTL hs1 hs2 hs3 hs4
              have d4 := Y6.out.cell 4
              have d5 := Y6.out.cell 5
              have d6 := Y6.out.cell 6
              have d7 := Y6.out.cell 7
              simp at d4 d5 d6 d7
              go_wp2_with fail
              have B7 := Lib.hid (B6.out.alloc hs6 (.cells #[.int .i64 x.d, .int .i64 x.i, .int .i64 x.cd, .int .i64 x.ci] 3))
              have X7 := Lib.hid (X6.out.alloc (.cells #[.int .i64 x.d, .int .i64 x.i, .int .i64 x.cd, .int .i64 x.ci] 3))
              have Y7 := Lib.hid (BoxT.new w6 #[.int .i64 x.d, .int .i64 x.i, .int .i64 x.cd, .int .i64 x.ci] 3)
              clear d4 d5 d6 d7 B6 X6 Y6
              generalize w6.alloc (.cells #[.int .i64 x.d, .int .i64 x.i, .int .i64 x.cd, .int .i64 x.ci] 3) = w7 at *
              generalize w6.heap.size = zb at *
              go_loopw [3, 131] (fun s i wx => ∃ j : Nat, j ≤ 4 ∧ i = .int .i64 (j : Int) ∧ s = S (U ++ N4 x j) ∧ Below w.heap.size w wx ∧ Below w7.heap.size w7 wx) (fun _ i _ => 4 - (intOf i).toNat)
              case atStart => exact ⟨0, Nat.zero_le _, rfl, by rw [N4_zero]; simp, B7.out, Below.refl _ _⟩
              case round =>
                obtain ⟨j, hj, rfl, rfl, hb, hb1⟩ := hrel
                have HB := Lib.hid hb
                have HB1 := Lib.hid hb1
                clear hb hb1
                by_cases hlj : j < 4
                · have hji : (j : Int) < 4 := by omega
                  have hdk := (HB1.out.cell (p := ⟨zb, j, none⟩) Y7.out.lt).trans ((Y7.out.cell j).trans (lits4 x j hlj))
                  have hN := N4_succ x j hlj
                  have hM := HM4.out j hlj
                  have hle := N4_le x hlj
                  have hgu := HUL.out
                  obtain ⟨n, hn⟩ : ∃ n, n = D4 x j := ⟨_, rfl⟩
                  obtain ⟨V, hV⟩ : ∃ V, V = U ++ N4 x j := ⟨_, rfl⟩
                  rw [← hn] at hdk hN hM
                  rw [← hV]
                  have hz : ¬ 9223372036854775807 < V.length + (vnum n.toNat).length := by rw [hN, List.length_append] at hle; rw [hV, List.length_append]; omega
                  have HVV := Lib.hid hV
                  have HN := Lib.hid hN
                  clear hn hV hle hgu hN
                  go_wp2_with fail
                  with_reducible refine (tnum_any _ _ hM).mono ?_
                  rintro e w8 ⟨rfl, hb⟩
                  have B8 := Lib.hid (HB.out.trans (hb.mono HB.out.size))
                  have C8 := Lib.hid (HB1.out.trans (hb.mono HB1.out.size))
                  clear hb hdk
                  go_wp2
                  go_roundw
                  case rel => exact ⟨j + 1, by omega, by go_num, by rw [arr_append, HVV.out, HN.out, List.append_assoc], B8.out, C8.out⟩
                  case measure => simp [intOf]; omega
                · obtain rfl : j = 4 := by omega
                  have hji : ¬ ((4 : Nat) : Int) < 4 := by omega
                  have XE := Lib.hid (X7.out.below HB1.out)
                  clear HB1 X7 Y7 B7
                  go_wp2
                  go_roundw
                  case rel => exact ⟨k + 1, by omega, by go_num, by rw [HT.out, HUU.out, HTT.out, N4_all]; unfold eCur; simp only [List.append_assoc], HB.out, XE.out⟩
                  case measure => simp [intOf]; omega
            · have hke : cu.take k = cu := List.take_of_length_le (by omega)
              have hki : ¬ (k : Int) < (cu.length : Int) := by omega
              rw [hke]
              clear hke
              have c26 := (HXX.out.cell 26).trans CXun.out
              obtain ⟨t1, ht1⟩ : ∃ t1, t1 = p ++ cu.flatMap eCur := ⟨_, rfl⟩
              have htl : t1.length + (vnum un.length).length + (un.flatMap eUnt).length + (eTxs mu).length ≤ 900000000 := by have := HPL.out; have h2 := HLU.out; rw [ht1, List.length_append]; omega
              rw [← ht1]
              have HTT := Lib.hid ht1
              clear ht1
              have hs1 : ¬ 9223372036854775807 < t1.length + (vnum un.length).length := by omega
              go_wp2_with fail
              with_reducible refine (tnum_any (un.length : Int) _ (by omega)).mono ?_
              rw [Int.toNat_natCast]
              rintro e w7 ⟨rfl, hb⟩
              have B8 := Lib.hid (HB.out.trans (hb.mono HB.out.size))
              have X8 := Lib.hid (HXX.out.below hb)
              clear hb c26
              have c26 := (X8.out.cell 26).trans CXun.out
              clear HB HXX
              go_wp2_with fail
              simp only [arr_append]
              obtain ⟨p2, hp2⟩ : ∃ p2, p2 = t1 ++ vnum un.length := ⟨_, rfl⟩
              have HP2 : Hid (p2.length + (un.flatMap eUnt).length + (eTxs mu).length ≤ 900000000) := Lib.hid (by rw [hp2, List.length_append]; omega)
              rw [← hp2]
              have HPP2 : Hid (p2 = p ++ cu.flatMap eCur ++ vnum un.length) := Lib.hid (by rw [hp2, HTT.out])
              clear hp2 HTT hs1 htl c26 hki hk hws
              go_loopw [3, 150] (fun s i wx => ∃ k : Nat, k ≤ un.length ∧ i = .int .i64 (k : Int) ∧ s = S (p2 ++ (un.take k).flatMap eUnt) ∧ Below w.heap.size w wx ∧ BoxT wx w.heap.size X TTb) (fun _ i _ => un.length - (intOf i).toNat)
              case atStart => exact ⟨0, Nat.zero_le _, rfl, by rw [List.take_zero]; simp, B8.out, X8.out⟩
              case round =>
                obtain ⟨k, hk, rfl, rfl, hb, hx⟩ := hrel
                have HB := Lib.hid hb
                have HXX := Lib.hid hx
                have hws := hb.size
                clear hb hx
                by_cases hlt : k < un.length
                · obtain ⟨a', cap', e, _, _, hcell⟩ := Hun.out
                  injection e with e1 e2 e3
                  subst e1 e3
                  clear e2
                  obtain ⟨bb, off, rfl, hbl, hbl2, hc⟩ := hcell (by omega)
                  obtain ⟨c, hA, hcl, hcc⟩ := hc k hlt
                  have HT := Lib.hid (flat_take eUnt un k hlt)
                  have hnx := Nun.out un[k] (List.getElem_mem hlt)
                  have hfl := flat_le eUnt un (k + 1)
                  rw [HT.out, List.length_append, eUnt_len] at hfl
                  obtain ⟨x, hx⟩ : ∃ x, x = un[k] := ⟨_, rfl⟩
                  rw [← hx] at hA hnx HT hfl
                  clear hx
                  obtain ⟨u, rfl, hu⟩ := hA
                  obtain ⟨ua, uc, rfl⟩ : ∃ ua uc, u = .slice ua x.2.length uc := by
                    obtain ⟨ua, uc, e, _⟩ := hu
                    exact ⟨ua, uc, e⟩
                  have HU := Lib.hid hu
                  clear hu
                  have hcc2 : ∀ j, j < 2 → wr.cell? ⟨bb, off + k * 2 + j, none⟩ = _ := fun j hj => (HB.out.cell (p := ⟨bb, off + k * 2 + j, none⟩) hbl).trans (hcc j hj)
                  have q0 : wr.cell? ⟨bb, off + k * 2, none⟩ = _ := hcc2 0 (by decide)
                  have q1 : wr.cell? ⟨bb, off + k * 2 + 1, none⟩ = _ := hcc2 1 (by decide)
                  simp only [List.getElem?_cons_zero, List.getElem?_cons_succ] at q0 q1
                  clear hcc hcc2 hc hcl
                  have hki : (k : Int) < (un.length : Int) := by omega
                  obtain ⟨t2, ht2⟩ : ∃ t2, t2 = p2 ++ (un.take k).flatMap eUnt := ⟨_, rfl⟩
                  have htl : t2.length + (eT x.1).length + (eTxs x.2).length ≤ 900000000 := by have := HP2.out; rw [ht2, List.length_append]; omega
                  rw [← ht2]
                  have HTT := Lib.hid ht2
                  clear ht2
                  go_wp2_with fail
                  have B2 := Lib.hid (HB.out.alloc hws (.cells #[S x.1, .slice ua x.2.length uc] 52))
                  have X2 := Lib.hid (HXX.out.alloc (.cells #[S x.1, .slice ua x.2.length uc] 52))
                  have Y2 := Lib.hid (BoxT.new wr #[S x.1, .slice ua x.2.length uc] 52)
                  clear q0 q1 HB HXX
                  generalize wr.alloc (.cells #[S x.1, .slice ua x.2.length uc] 52) = w2 at *
                  generalize wr.heap.size = xb at *
                  have KS : Hid (∀ w', Below w2.heap.size w2 w' → w'.cell? ⟨xb, 0, none⟩ = some (S x.1) ∧ w'.cell? ⟨xb, 1, none⟩ = some (.slice ua x.2.length uc) ∧ Below w.heap.size w w' ∧ Below w2.heap.size w2 w') := Lib.hid (fun w' hb => ⟨(Y2.out.below hb).cell 0, (Y2.out.below hb).cell 1, B2.out.trans (hb.mono B2.out.size), hb⟩)
                  have KEEP : Hid (∀ w' w'', (w'.cell? ⟨xb, 0, none⟩ = some (S x.1) ∧ w'.cell? ⟨xb, 1, none⟩ = some (.slice ua x.2.length uc) ∧ Below w.heap.size w w' ∧ Below w2.heap.size w2 w') → Below w'.heap.size w' w'' → (w''.cell? ⟨xb, 0, none⟩ = some (S x.1) ∧ w''.cell? ⟨xb, 1, none⟩ = some (.slice ua x.2.length uc) ∧ Below w.heap.size w w'' ∧ Below w2.heap.size w2 w'')) := Lib.hid (fun w' w'' h hb => KS.out _ (h.2.2.2.trans (hb.mono h.2.2.2.size)))
                  have M1 : Hid (∀ w', (w'.cell? ⟨xb, 0, none⟩ = some (S x.1) ∧ w'.cell? ⟨xb, 1, none⟩ = some (.slice ua x.2.length uc) ∧ Below w.heap.size w w' ∧ Below w2.heap.size w2 w') → TxL w' w.heap.size (.slice ua x.2.length uc) x.2 ∧ w.heap.size ≤ w'.heap.size) := Lib.hid (fun w' h => ⟨TxL.move HU.out (Nat.le_refl _) h.2.2.1, h.2.2.1.size⟩)
                  have HNT : Hid (∀ y ∈ x.2, nTx y) := Lib.hid hnx
                  have hs1 : ¬ 9223372036854775807 < t2.length + (eT x.1).length := by omega
                  have hs2 : ¬ 9223372036854775807 < t2.length + (eT x.1).length + (eTxs x.2).length := by omega
                  have k1 : (eT x.1).length ≤ 900000000 := by omega
                  have k4 : (eTxs x.2).length ≤ 900000000 := by omega
                  clear hfl htl hnx
                  go_region_held3 (fun w' => w'.cell? ⟨xb, 0, none⟩ = some (S x.1) ∧ w'.cell? ⟨xb, 1, none⟩ = some (.slice ua x.2.length uc) ∧ Below w.heap.size w w' ∧ Below w2.heap.size w2 w')
                    (first | exact KS.out _ (Below.refl _ w2).drew | exact KEEP.out _ _ (by assumption) hb | assumption)
                    (first | (go_at_call 18; (with_reducible refine (llay_as _ _ (by omega)).mono ?_); rintro y w6 ⟨rfl, hb⟩) | (go_at_call 21; (with_reducible refine (ltexts_as w.heap.size x.2 _ _ (M1.out _ (by assumption)).1 (M1.out _ (by assumption)).2 HNT.out k4).mono ?_); rintro y w6 ⟨rfl, hb⟩))
                  have HS6 : (fun w' => w'.cell? ⟨xb, 0, none⟩ = some (S x.1) ∧ w'.cell? ⟨xb, 1, none⟩ = some (.slice ua x.2.length uc) ∧ Below w.heap.size w w' ∧ Below w2.heap.size w2 w') w6 := by assumption
                  have B6 := Lib.hid HS6.2.2.1
                  have X6 := Lib.hid (X2.out.below HS6.2.2.2)
                  clear HS6 KS KEEP M1 X2 B2 Y2
                  go_wp2
                  go_roundw
                  case rel => exact ⟨k + 1, by omega, by go_num, by simp only [arr_append]; rw [HT.out, HTT.out]; unfold eUnt; simp only [List.append_assoc], B6.out, X6.out⟩
                  case measure => simp [intOf]; omega
                · have hke : un.take k = un := List.take_of_length_le (by omega)
                  have hki : ¬ (k : Int) < (un.length : Int) := by omega
                  rw [hke]
                  clear hke
                  have c27 := (HXX.out.cell 27).trans CXmu.out
                  obtain ⟨t3, ht3⟩ : ∃ t3, t3 = p2 ++ un.flatMap eUnt := ⟨_, rfl⟩
                  have htl : t3.length + (eTxs mu).length ≤ 900000000 := by have := HP2.out; rw [ht3, List.length_append]; omega
                  rw [← ht3]
                  have HTT := Lib.hid ht3
                  clear ht3
                  have hs1 : ¬ 9223372036854775807 < t3.length + (eTxs mu).length := by omega
                  go_wp2_with fail
                  with_reducible refine (ltexts_as w.heap.size mu _ _ (TxL.move Hmu.out (Nat.le_refl _) HB.out) HB.out.size Nmu.out (by omega)).mono ?_
                  rintro e w9 ⟨rfl, hb⟩
                  have B9 := Lib.hid (HB.out.trans (hb.mono HB.out.size))
                  clear hb
                  go_wp2
                  go_ret
                  exact ⟨by simp only [arr_append]; rw [HTT.out, HPP2.out, HPP.out, HTE.out]; unfold eUnts eCurs eL eN; simp only [List.append_assoc]; rfl, B9.out⟩
end Go.Proofs.Ytoddggemedhnnaa
