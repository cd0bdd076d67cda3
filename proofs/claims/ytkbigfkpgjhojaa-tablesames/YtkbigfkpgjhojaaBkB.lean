/- Plain: has a table few things? -/
import Derived.Test.YtkbigfkpgjhojaaBkA
namespace Go.Proofs.Ytkbigfkpgjhojaa
open Go.RowKit Florin
set_option linter.unusedVariables false
set_option linter.unusedSimpArgs false
attribute [local go_sem ↓] Go.wp_at_zero Go.wp_at_succ
def ckCur (c : CurM) : Prop := c.code.length + c.sym.length + c.nar.length ≤ 200 ∧ ckTxs c.names ∧ 0 ≤ c.d ∧ 0 ≤ c.i ∧ 0 ≤ c.cd ∧ 0 ≤ c.ci
def ckUnt (u : UntM) : Prop := u.1.length ≤ 200 ∧ ckTxs u.2
structure ckTb (f : Nat → List UInt8) (mg : Int) (sh lo ms : List RowM) (cu : List CurM) (un : List UntM) (mu : List TxM) : Prop where
  kfs : ∀ k, k < 27 → (f k).length ≤ 5000
  kmg : 0 ≤ mg
  ksh : ckRows sh
  klo : ckRows lo
  kms : ckRows ms
  kmu : ckTxs mu
  kcu : ∀ c ∈ cu, ckCur c
  kcn : cu.length ≤ 50
  kun : ∀ u ∈ un, ckUnt u
  knn : un.length ≤ 50
def LS16 : List Nat := [10, 11, 12, 13, 14, 15, 16, 17, 18, 19, 21, 22, 23, 24, 25, 26]
theorem lits_at (f : Nat → List UInt8) (k : Nat) (hk : k < 16) : (#[S (f 10), S (f 11), S (f 12), S (f 13), S (f 14), S (f 15), S (f 16), S (f 17), S (f 18), S (f 19), S (f 21), S (f 22), S (f 23), S (f 24), S (f 25), S (f 26)] : Array Value)[k]? = some (S (f (LS16.getD k 0))) := by
  match k, hk with
  | 0, _ => rfl
  | 1, _ => rfl
  | 2, _ => rfl
  | 3, _ => rfl
  | 4, _ => rfl
  | 5, _ => rfl
  | 6, _ => rfl
  | 7, _ => rfl
  | 8, _ => rfl
  | 9, _ => rfl
  | 10, _ => rfl
  | 11, _ => rfl
  | 12, _ => rfl
  | 13, _ => rfl
  | 14, _ => rfl
  | 15, _ => rfl
  | k + 16, h => exact absurd h (by omega)
theorem fs_all {f : Nat → List UInt8} (h1 : ∀ j, j < 10 → (f j).length ≤ 5000) (h2 : ∀ j, j < 16 → (f (LS16.getD j 0)).length ≤ 5000) (h3 : (f 20).length ≤ 5000) : ∀ k, k < 27 → (f k).length ≤ 5000 := fun k hk => by
  match k, hk with
  | 0, _ => exact h1 0 (by decide)
  | 1, _ => exact h1 1 (by decide)
  | 2, _ => exact h1 2 (by decide)
  | 3, _ => exact h1 3 (by decide)
  | 4, _ => exact h1 4 (by decide)
  | 5, _ => exact h1 5 (by decide)
  | 6, _ => exact h1 6 (by decide)
  | 7, _ => exact h1 7 (by decide)
  | 8, _ => exact h1 8 (by decide)
  | 9, _ => exact h1 9 (by decide)
  | 10, _ => exact h2 0 (by decide)
  | 11, _ => exact h2 1 (by decide)
  | 12, _ => exact h2 2 (by decide)
  | 13, _ => exact h2 3 (by decide)
  | 14, _ => exact h2 4 (by decide)
  | 15, _ => exact h2 5 (by decide)
  | 16, _ => exact h2 6 (by decide)
  | 17, _ => exact h2 7 (by decide)
  | 18, _ => exact h2 8 (by decide)
  | 19, _ => exact h2 9 (by decide)
  | 20, _ => exact h3
  | 21, _ => exact h2 10 (by decide)
  | 22, _ => exact h2 11 (by decide)
  | 23, _ => exact h2 12 (by decide)
  | 24, _ => exact h2 13 (by decide)
  | 25, _ => exact h2 14 (by decide)
  | 26, _ => exact h2 15 (by decide)
  | k + 27, h => exact absurd h (by omega)
set_option maxRecDepth 100000 in
theorem run_idx (f : Nat → List UInt8) : ∀ k : Nat, k < 10 → ∀ w : World, (Instr.index 23 (.agg #[S (f 0), S (f 1), S (f 2), S (f 3), S (f 4), S (f 5), S (f 6), S (f 7), S (f 8), S (f 9)]) (.int .i64 (k : Int))).run Try.prog w = .ok (S (f k)) w := fun k hk w => by
  have i0 : (Instr.index 23 (.agg #[S (f 0), S (f 1), S (f 2), S (f 3), S (f 4), S (f 5), S (f 6), S (f 7), S (f 8), S (f 9)]) (.int .i64 0)).run Try.prog w = .ok (S (f 0)) w := by kernel_rfl
  have i1 : (Instr.index 23 (.agg #[S (f 0), S (f 1), S (f 2), S (f 3), S (f 4), S (f 5), S (f 6), S (f 7), S (f 8), S (f 9)]) (.int .i64 1)).run Try.prog w = .ok (S (f 1)) w := by kernel_rfl
  have i2 : (Instr.index 23 (.agg #[S (f 0), S (f 1), S (f 2), S (f 3), S (f 4), S (f 5), S (f 6), S (f 7), S (f 8), S (f 9)]) (.int .i64 2)).run Try.prog w = .ok (S (f 2)) w := by kernel_rfl
  have i3 : (Instr.index 23 (.agg #[S (f 0), S (f 1), S (f 2), S (f 3), S (f 4), S (f 5), S (f 6), S (f 7), S (f 8), S (f 9)]) (.int .i64 3)).run Try.prog w = .ok (S (f 3)) w := by kernel_rfl
  have i4 : (Instr.index 23 (.agg #[S (f 0), S (f 1), S (f 2), S (f 3), S (f 4), S (f 5), S (f 6), S (f 7), S (f 8), S (f 9)]) (.int .i64 4)).run Try.prog w = .ok (S (f 4)) w := by kernel_rfl
  have i5 : (Instr.index 23 (.agg #[S (f 0), S (f 1), S (f 2), S (f 3), S (f 4), S (f 5), S (f 6), S (f 7), S (f 8), S (f 9)]) (.int .i64 5)).run Try.prog w = .ok (S (f 5)) w := by kernel_rfl
  have i6 : (Instr.index 23 (.agg #[S (f 0), S (f 1), S (f 2), S (f 3), S (f 4), S (f 5), S (f 6), S (f 7), S (f 8), S (f 9)]) (.int .i64 6)).run Try.prog w = .ok (S (f 6)) w := by kernel_rfl
  have i7 : (Instr.index 23 (.agg #[S (f 0), S (f 1), S (f 2), S (f 3), S (f 4), S (f 5), S (f 6), S (f 7), S (f 8), S (f 9)]) (.int .i64 7)).run Try.prog w = .ok (S (f 7)) w := by kernel_rfl
  have i8 : (Instr.index 23 (.agg #[S (f 0), S (f 1), S (f 2), S (f 3), S (f 4), S (f 5), S (f 6), S (f 7), S (f 8), S (f 9)]) (.int .i64 8)).run Try.prog w = .ok (S (f 8)) w := by kernel_rfl
  have i9 : (Instr.index 23 (.agg #[S (f 0), S (f 1), S (f 2), S (f 3), S (f 4), S (f 5), S (f 6), S (f 7), S (f 8), S (f 9)]) (.int .i64 9)).run Try.prog w = .ok (S (f 9)) w := by kernel_rfl
  match k, hk with
  | 0, _ => exact i0
  | 1, _ => exact i1
  | 2, _ => exact i2
  | 3, _ => exact i3
  | 4, _ => exact i4
  | 5, _ => exact i5
  | 6, _ => exact i6
  | 7, _ => exact i7
  | 8, _ => exact i8
  | 9, _ => exact i9
  | k + 10, h => exact absurd h (by omega)
set_option maxRecDepth 100000 in
set_option maxHeartbeats 12800000 in
theorem plain_as (f : Nat → List UInt8) (mg : Int) (vsh vlo vms vcu vun vmu : Value) (sh lo ms : List RowM) (cu : List CurM) (un : List UntM) (mu : List TxM) (w : World) (hsh : RowL w w.heap.size vsh sh) (hlo : RowL w w.heap.size vlo lo) (hms : RowL w w.heap.size vms ms) (hcu : CurL w w.heap.size vcu cu) (hun : UntL w w.heap.size vun un) (hmu : TxL w w.heap.size vmu mu) (hfl : ∀ k, k < 27 → (f k).length ≤ maxLen) (hgc : ∀ c ∈ cu, c.code.length ≤ 1048576 ∧ c.sym.length ≤ 1048576 ∧ c.nar.length ≤ 1048576) :
    Calls Try.prog 5 #[.agg (tbA f mg vsh vlo vms vcu vun vmu)] w fun e w' => CkR e (ckTb f mg sh lo ms cu un mu) ∧ Below w.heap.size w w' := by
  obtain ⟨ash, csh, rfl, hxsh⟩ : ∃ a c, vsh = .slice a sh.length c ∧ True := by obtain ⟨a, c, e, _⟩ := hsh; exact ⟨a, c, e, trivial⟩
  obtain ⟨alo, clo, rfl, hxlo⟩ : ∃ a c, vlo = .slice a lo.length c ∧ True := by obtain ⟨a, c, e, _⟩ := hlo; exact ⟨a, c, e, trivial⟩
  obtain ⟨ams, cms, rfl, hxms⟩ : ∃ a c, vms = .slice a ms.length c ∧ True := by obtain ⟨a, c, e, _⟩ := hms; exact ⟨a, c, e, trivial⟩
  obtain ⟨acu, ccu, rfl, hxcu⟩ : ∃ a c, vcu = .slice a cu.length c ∧ True := by obtain ⟨a, c, e, _⟩ := hcu; exact ⟨a, c, e, trivial⟩
  obtain ⟨aun, cun, rfl, hxun⟩ : ∃ a c, vun = .slice a un.length c ∧ True := by obtain ⟨a, c, e, _⟩ := hun; exact ⟨a, c, e, trivial⟩
  obtain ⟨amu, cmu, rfl, hxmu⟩ : ∃ a c, vmu = .slice a mu.length c ∧ True := by obtain ⟨a, c, e, _⟩ := hmu; exact ⟨a, c, e, trivial⟩
  clear hxsh hxlo hxms hxcu hxun hxmu
  have HFX := Lib.hid (tb_get f mg (.slice ash sh.length csh) (.slice alo lo.length clo) (.slice ams ms.length cms) (.slice acu cu.length ccu) (.slice aun un.length cun) (.slice amu mu.length cmu))
  have CXmg : Hid ((tbA f mg (.slice ash sh.length csh) (.slice alo lo.length clo) (.slice ams ms.length cms) (.slice acu cu.length ccu) (.slice aun un.length cun) (.slice amu mu.length cmu))[16]? = some (.int .i64 mg)) := Lib.hid rfl
  have CXsh : Hid ((tbA f mg (.slice ash sh.length csh) (.slice alo lo.length clo) (.slice ams ms.length cms) (.slice acu cu.length ccu) (.slice aun un.length cun) (.slice amu mu.length cmu))[22]? = some (.slice ash sh.length csh)) := Lib.hid rfl
  have CXlo : Hid ((tbA f mg (.slice ash sh.length csh) (.slice alo lo.length clo) (.slice ams ms.length cms) (.slice acu cu.length ccu) (.slice aun un.length cun) (.slice amu mu.length cmu))[23]? = some (.slice alo lo.length clo)) := Lib.hid rfl
  have CXms : Hid ((tbA f mg (.slice ash sh.length csh) (.slice alo lo.length clo) (.slice ams ms.length cms) (.slice acu cu.length ccu) (.slice aun un.length cun) (.slice amu mu.length cmu))[24]? = some (.slice ams ms.length cms)) := Lib.hid rfl
  have CXcu : Hid ((tbA f mg (.slice ash sh.length csh) (.slice alo lo.length clo) (.slice ams ms.length cms) (.slice acu cu.length ccu) (.slice aun un.length cun) (.slice amu mu.length cmu))[25]? = some (.slice acu cu.length ccu)) := Lib.hid rfl
  have CXun : Hid ((tbA f mg (.slice ash sh.length csh) (.slice alo lo.length clo) (.slice ams ms.length cms) (.slice acu cu.length ccu) (.slice aun un.length cun) (.slice amu mu.length cmu))[26]? = some (.slice aun un.length cun)) := Lib.hid rfl
  have CXmu : Hid ((tbA f mg (.slice ash sh.length csh) (.slice alo lo.length clo) (.slice ams ms.length cms) (.slice acu cu.length ccu) (.slice aun un.length cun) (.slice amu mu.length cmu))[27]? = some (.slice amu mu.length cmu)) := Lib.hid rfl
  obtain ⟨X, hX⟩ : ∃ X, X = (tbA f mg (.slice ash sh.length csh) (.slice alo lo.length clo) (.slice ams ms.length cms) (.slice acu cu.length ccu) (.slice aun un.length cun) (.slice amu mu.length cmu)) := ⟨_, rfl⟩
  rw [← hX] at HFX CXmg CXsh CXlo CXms CXcu CXun CXmu ⊢
  clear hX
  have HB0 := Lib.hid ((Below.refl w.heap.size w).alloc (Nat.le_refl _) (.cells X TTb))
  have HX := Lib.hid (BoxT.new w X TTb)
  have Hsh := Lib.hid hsh
  have Hlo := Lib.hid hlo
  have Hms := Lib.hid hms
  have Hcu := Lib.hid hcu
  have Hun := Lib.hid hun
  have Hmu := Lib.hid hmu
  have HFL := Lib.hid hfl
  have HGC := Lib.hid hgc
  clear hsh hlo hms hcu hun hmu hfl hgc
  have hsz1 : (w.alloc (.cells X TTb)).heap.size = w.heap.size + 1 := by simp
  have HSZ := Lib.hid hsz1
  clear hsz1
  go_enter Try.func5, Try.ntmps5
  go_upto_region 1 with fail
  generalize w.alloc (.cells X TTb) = w0 at *
  have x0 := (HX.out.cell 0).trans (HFX.out 0 (by decide))
  have x1 := (HX.out.cell 1).trans (HFX.out 1 (by decide))
  have x2 := (HX.out.cell 2).trans (HFX.out 2 (by decide))
  have x3 := (HX.out.cell 3).trans (HFX.out 3 (by decide))
  have x4 := (HX.out.cell 4).trans (HFX.out 4 (by decide))
  have x5 := (HX.out.cell 5).trans (HFX.out 5 (by decide))
  have x6 := (HX.out.cell 6).trans (HFX.out 6 (by decide))
  have x7 := (HX.out.cell 7).trans (HFX.out 7 (by decide))
  have x8 := (HX.out.cell 8).trans (HFX.out 8 (by decide))
  have x9 := (HX.out.cell 9).trans (HFX.out 9 (by decide))
  go_wp2_with fail
  obtain ⟨D, hD⟩ : ∃ D : Array Value, D = #[S (f 0), S (f 1), S (f 2), S (f 3), S (f 4), S (f 5), S (f 6), S (f 7), S (f 8), S (f 9)] := ⟨_, rfl⟩
  rw [← hD]
  have HDK : Hid (∀ k : Nat, k < 10 → ∀ w, (Instr.index 23 (.agg D) (.int .i64 (k : Int))).run Try.prog w = .ok (S (f k)) w) := Lib.hid (by rw [hD]; exact run_idx f)
  clear hD
  go_loopw [13] (fun i wr => ∃ k : Nat, k ≤ 10 ∧ i = .int .i64 (k : Int) ∧ (∀ j, j < k → (f j).length ≤ 5000) ∧ wr = w0) (fun i _ => 10 - (intOf i).toNat)
  case atStart => exact ⟨0, Nat.zero_le _, rfl, (fun j hj => absurd hj (by omega)), rfl⟩
  case round =>
    obtain ⟨k, hk, rfl, hall, rfl⟩ := hrel
    have HA := Lib.hid hall
    clear hall
    by_cases hlt : k < 10
    · have hki : (k : Int) < 10 := by omega
      have hdk := HDK.out k hlt
      by_cases h200 : 200 < (f k).length
      · have h200i : 200 < ((f k).length : Int) := by omega
        go_wp2
        go_ret
        exact ⟨CkR.no _, HB0.out⟩
      · have h200i : ¬ 200 < ((f k).length : Int) := by omega
        go_wp2
        go_roundw
        case rel => exact ⟨k + 1, by omega, by go_num, (fun j hj => by by_cases e : j = k; (subst e; omega); exact HA.out j (by omega)), trivial⟩
        case measure => simp [intOf]; omega
    · obtain rfl : k = 10 := by omega
      have hki : ¬ ((10 : Nat) : Int) < 10 := by omega
      clear HDK hki
      have y10 : wr.cell? ⟨w.heap.size, 10, none⟩ = some (S (f 10)) := (HX.out.cell 10).trans (HFX.out 10 (by decide))
      have y11 : wr.cell? ⟨w.heap.size, 11, none⟩ = some (S (f 11)) := (HX.out.cell 11).trans (HFX.out 11 (by decide))
      have y12 : wr.cell? ⟨w.heap.size, 12, none⟩ = some (S (f 12)) := (HX.out.cell 12).trans (HFX.out 12 (by decide))
      have y13 : wr.cell? ⟨w.heap.size, 13, none⟩ = some (S (f 13)) := (HX.out.cell 13).trans (HFX.out 13 (by decide))
      have y14 : wr.cell? ⟨w.heap.size, 14, none⟩ = some (S (f 14)) := (HX.out.cell 14).trans (HFX.out 14 (by decide))
      have y15 : wr.cell? ⟨w.heap.size, 15, none⟩ = some (S (f 15)) := (HX.out.cell 15).trans (HFX.out 15 (by decide))
      have y16 : wr.cell? ⟨w.heap.size, 17, none⟩ = some (S (f 16)) := (HX.out.cell 17).trans (HFX.out 16 (by decide))
      have y17 : wr.cell? ⟨w.heap.size, 18, none⟩ = some (S (f 17)) := (HX.out.cell 18).trans (HFX.out 17 (by decide))
      have y18 : wr.cell? ⟨w.heap.size, 19, none⟩ = some (S (f 18)) := (HX.out.cell 19).trans (HFX.out 18 (by decide))
      have y19 : wr.cell? ⟨w.heap.size, 20, none⟩ = some (S (f 19)) := (HX.out.cell 20).trans (HFX.out 19 (by decide))
      have y21 : wr.cell? ⟨w.heap.size, 28, none⟩ = some (S (f 21)) := (HX.out.cell 28).trans (HFX.out 21 (by decide))
      have y22 : wr.cell? ⟨w.heap.size, 29, none⟩ = some (S (f 22)) := (HX.out.cell 29).trans (HFX.out 22 (by decide))
      have y23 : wr.cell? ⟨w.heap.size, 30, none⟩ = some (S (f 23)) := (HX.out.cell 30).trans (HFX.out 23 (by decide))
      have y24 : wr.cell? ⟨w.heap.size, 31, none⟩ = some (S (f 24)) := (HX.out.cell 31).trans (HFX.out 24 (by decide))
      have y25 : wr.cell? ⟨w.heap.size, 32, none⟩ = some (S (f 25)) := (HX.out.cell 32).trans (HFX.out 25 (by decide))
      have y26 : wr.cell? ⟨w.heap.size, 33, none⟩ = some (S (f 26)) := (HX.out.cell 33).trans (HFX.out 26 (by decide))
      go_wp2_with fail
      obtain ⟨w1, hw1⟩ : ∃ w1, w1 = wr.alloc (.cells #[S (f 10), S (f 11), S (f 12), S (f 13), S (f 14), S (f 15), S (f 16), S (f 17), S (f 18), S (f 19), S (f 21), S (f 22), S (f 23), S (f 24), S (f 25), S (f 26)] 9) := ⟨_, rfl⟩
      have HL : Hid (∀ k, k < 16 → w1.cell? ⟨wr.heap.size, k, none⟩ = some (S (f (LS16.getD k 0)))) := Lib.hid (fun k hk => by
        rw [hw1]; exact ((BoxT.new wr #[S (f 10), S (f 11), S (f 12), S (f 13), S (f 14), S (f 15), S (f 16), S (f 17), S (f 18), S (f 19), S (f 21), S (f 22), S (f 23), S (f 24), S (f 25), S (f 26)] 9).cell k).trans (lits_at f k hk))
      have B1 := Lib.hid (HB0.out.alloc (by have := HSZ.out; omega) (.cells #[S (f 10), S (f 11), S (f 12), S (f 13), S (f 14), S (f 15), S (f 16), S (f 17), S (f 18), S (f 19), S (f 21), S (f 22), S (f 23), S (f 24), S (f 25), S (f 26)] 9))
      have X1 := Lib.hid (HX.out.alloc (.cells #[S (f 10), S (f 11), S (f 12), S (f 13), S (f 14), S (f 15), S (f 16), S (f 17), S (f 18), S (f 19), S (f 21), S (f 22), S (f 23), S (f 24), S (f 25), S (f 26)] 9))
      rw [← hw1] at B1 X1 ⊢
      clear hw1 y10 y11 y12 y13 y14 y15 y16 y17 y18 y19 y21 y22 y23 y24 y25 y26
      clear HX HB0
      generalize wr.heap.size = q1 at *
      go_loopw [60] (fun i wx => ∃ k : Nat, k ≤ 16 ∧ i = .int .i64 (k : Int) ∧ (∀ j, j < k → (f (LS16.getD j 0)).length ≤ 5000) ∧ wx = w1) (fun i _ => 16 - (intOf i).toNat)
      case atStart => exact ⟨0, Nat.zero_le _, rfl, (fun j hj => absurd hj (by omega)), rfl⟩
      case round =>
        obtain ⟨k, hk, rfl, hall, rfl⟩ := hrel
        have HA2 := Lib.hid hall
        clear hall
        by_cases hlt : k < 16
        · have hki : (k : Int) < 16 := by omega
          have hdk := HL.out k hlt
          obtain ⟨g, hg⟩ : ∃ g, g = f (LS16.getD k 0) := ⟨_, rfl⟩
          rw [← hg] at hdk
          have HGG := Lib.hid hg
          clear hg
          by_cases h200 : 200 < g.length
          · have h200i : 200 < (g.length : Int) := by omega
            go_wp2
            go_ret
            exact ⟨CkR.no _, B1.out⟩
          · have h200i : ¬ 200 < (g.length : Int) := by omega
            go_wp2
            go_roundw
            case rel => exact ⟨k + 1, by omega, by go_num, (fun j hj => by by_cases e : j = k; (subst e; rw [← HGG.out]; omega); exact HA2.out j (by omega)), trivial⟩
            case measure => simp [intOf]; omega
        · obtain rfl : k = 16 := by omega
          have hki : ¬ ((16 : Nat) : Int) < 16 := by omega
          have HA3 := Lib.hid (fun h => fs_all HA.out HA2.out h)
          clear HA HA2 HL
          have c16 := (X1.out.cell 16).trans CXmg.out
          have c21 : wr.cell? ⟨w.heap.size, 21, none⟩ = some (S (f 20)) := (X1.out.cell 21).trans (HFX.out 20 (by decide))
          have c22 := (X1.out.cell 22).trans CXsh.out
          have c23 := (X1.out.cell 23).trans CXlo.out
          have c24 := (X1.out.cell 24).trans CXms.out
          have c25 := (X1.out.cell 25).trans CXcu.out
          have c26 := (X1.out.cell 26).trans CXun.out
          have c27 := (X1.out.cell 27).trans CXmu.out
          by_cases h0 : mg < 0
          · go_wp2
            go_ret
            exact ⟨CkR.no _, B1.out⟩
          by_cases h5 : 5000 < (f 20).length
          · have h5i : 5000 < ((f 20).length : Int) := by omega
            go_wp2
            go_ret
            exact ⟨CkR.no _, B1.out⟩
          have h5i : ¬ 5000 < ((f 20).length : Int) := by omega
          have HF := Lib.hid (HA3.out (by omega))
          clear HA3

          go_wp2_with fail
          with_reducible refine (rows_ck w.heap.size sh _ _ (RowL.move Hsh.out (Nat.le_refl _) B1.out) (by have := B1.out.size; omega)).mono ?_
          rintro e w2 ⟨⟨b, rfl, hck⟩, hb⟩
          have B2 := Lib.hid (B1.out.trans (hb.mono B1.out.size))
          have X2 := Lib.hid (X1.out.below hb)
          clear hb X1 B1 c16 c21 c22 c23 c24 c25 c26 c27
          have c22 := (X2.out.cell 22).trans CXsh.out
          have c23 := (X2.out.cell 23).trans CXlo.out
          have c24 := (X2.out.cell 24).trans CXms.out
          have c25 := (X2.out.cell 25).trans CXcu.out
          have c26 := (X2.out.cell 26).trans CXun.out
          have c27 := (X2.out.cell 27).trans CXmu.out
          cases b with
          | false =>
            clear hck
            go_wp2
            go_ret
            exact ⟨CkR.no _, B2.out⟩
          | true =>
          have Ksh := Lib.hid (hck rfl)
          clear hck
          go_wp2_with fail
          with_reducible refine (rows_ck w.heap.size lo _ _ (RowL.move Hlo.out (Nat.le_refl _) B2.out) (by have := B2.out.size; omega)).mono ?_
          rintro e w3 ⟨⟨b, rfl, hck⟩, hb⟩
          have B3 := Lib.hid (B2.out.trans (hb.mono B2.out.size))
          have X3 := Lib.hid (X2.out.below hb)
          clear hb X2 B2 c22 c23 c24 c25 c26 c27
          have c22 := (X3.out.cell 22).trans CXsh.out
          have c23 := (X3.out.cell 23).trans CXlo.out
          have c24 := (X3.out.cell 24).trans CXms.out
          have c25 := (X3.out.cell 25).trans CXcu.out
          have c26 := (X3.out.cell 26).trans CXun.out
          have c27 := (X3.out.cell 27).trans CXmu.out
          cases b with
          | false =>
            clear hck
            go_wp2
            go_ret
            exact ⟨CkR.no _, B3.out⟩
          | true =>
          have Klo := Lib.hid (hck rfl)
          clear hck
          go_wp2_with fail
          with_reducible refine (rows_ck w.heap.size ms _ _ (RowL.move Hms.out (Nat.le_refl _) B3.out) (by have := B3.out.size; omega)).mono ?_
          rintro e w4 ⟨⟨b, rfl, hck⟩, hb⟩
          have B4 := Lib.hid (B3.out.trans (hb.mono B3.out.size))
          have X4 := Lib.hid (X3.out.below hb)
          clear hb X3 B3 c22 c23 c24 c25 c26 c27
          have c22 := (X4.out.cell 22).trans CXsh.out
          have c23 := (X4.out.cell 23).trans CXlo.out
          have c24 := (X4.out.cell 24).trans CXms.out
          have c25 := (X4.out.cell 25).trans CXcu.out
          have c26 := (X4.out.cell 26).trans CXun.out
          have c27 := (X4.out.cell 27).trans CXmu.out
          cases b with
          | false =>
            clear hck
            go_wp2
            go_ret
            exact ⟨CkR.no _, B4.out⟩
          | true =>
          have Kms := Lib.hid (hck rfl)
          clear hck
          go_wp2_with fail
          with_reducible refine (texts_ck w.heap.size mu _ _ (TxL.move Hmu.out (Nat.le_refl _) B4.out) (by have := B4.out.size; omega)).mono ?_
          rintro e w5 ⟨⟨b, rfl, hck⟩, hb⟩
          have B5 := Lib.hid (B4.out.trans (hb.mono B4.out.size))
          have X5 := Lib.hid (X4.out.below hb)
          clear hb X4 B4 c22 c23 c24 c25 c26 c27
          have c22 := (X5.out.cell 22).trans CXsh.out
          have c23 := (X5.out.cell 23).trans CXlo.out
          have c24 := (X5.out.cell 24).trans CXms.out
          have c25 := (X5.out.cell 25).trans CXcu.out
          have c26 := (X5.out.cell 26).trans CXun.out
          have c27 := (X5.out.cell 27).trans CXmu.out
          cases b with
          | false =>
            clear hck
            go_wp2
            go_ret
            exact ⟨CkR.no _, B5.out⟩
          | true =>
          have Kmu := Lib.hid (hck rfl)
          clear hck
          by_cases hc50 : 50 < cu.length
          · have hc50i : 50 < (cu.length : Int) := by omega
            go_wp2
            go_ret
            exact ⟨CkR.no _, B5.out⟩
          have hc50i : ¬ 50 < (cu.length : Int) := by omega
          by_cases hu50 : 50 < un.length
          · have hu50i : 50 < (un.length : Int) := by omega
            go_wp2
            go_ret
            exact ⟨CkR.no _, B5.out⟩
          have hu50i : ¬ 50 < (un.length : Int) := by omega
          clear c22 c23 c24 c27
          go_wp2_with fail
          clear c25 c26 hc50i hu50i
          go_loopw [116] (fun i wx => ∃ k : Nat, k ≤ cu.length ∧ i = .int .i64 (k : Int) ∧ (∀ x ∈ cu.take k, ckCur x) ∧ Below w.heap.size w wx ∧ BoxT wx w.heap.size X TTb) (fun i _ => cu.length - (intOf i).toNat)
          case atStart => exact ⟨0, Nat.zero_le _, rfl, (fun x hx => by rw [List.take_zero] at hx; cases hx), B5.out, X5.out⟩
          case round =>
            obtain ⟨k, hk, rfl, hall, hb, hx⟩ := hrel
            have HB := Lib.hid hb
            have HA := Lib.hid hall
            have HX := Lib.hid hx
            have hws := hb.size
            clear hb hall hx
            by_cases hlt : k < cu.length
            · obtain ⟨a', cap', e, _, _, hcell⟩ := Hcu.out
              injection e with e1 e2 e3
              subst e1 e3
              clear e2
              obtain ⟨bb, off, rfl, hbl, hbl2, hc⟩ := hcell (by omega)
              obtain ⟨c, hA, hcl, hcc⟩ := hc k hlt
              have HT := Lib.hid (fun h => take_all (P := ckCur) hlt HA.out h)
              obtain ⟨g1, g2, g3⟩ := HGC.out cu[k] (List.getElem_mem hlt)
              obtain ⟨x, hx⟩ : ∃ x, x = cu[k] := ⟨_, rfl⟩
              rw [← hx] at hA HT g1 g2 g3
              clear hx
              obtain ⟨u, rfl, hu⟩ := hA
              obtain ⟨ua, uc, rfl⟩ : ∃ ua uc, u = .slice ua x.names.length uc := by
                obtain ⟨ua, uc, e, _⟩ := hu
                exact ⟨ua, uc, e⟩
              have HU := Lib.hid hu
              clear hu
              have hcc2 : ∀ j, j < 8 → wr.cell? ⟨bb, off + k * 8 + j, none⟩ = _ := fun j hj => (HB.out.cell (p := ⟨bb, off + k * 8 + j, none⟩) hbl).trans (hcc j hj)
              have q0 : wr.cell? ⟨bb, off + k * 8, none⟩ = _ := hcc2 0 (by decide)
              have q1 : wr.cell? ⟨bb, off + k * 8 + 1, none⟩ = _ := hcc2 1 (by decide)
              have q2 : wr.cell? ⟨bb, off + k * 8 + 2, none⟩ = _ := hcc2 2 (by decide)
              have q3 : wr.cell? ⟨bb, off + k * 8 + 3, none⟩ = _ := hcc2 3 (by decide)
              have q4 : wr.cell? ⟨bb, off + k * 8 + 4, none⟩ = _ := hcc2 4 (by decide)
              have q5 : wr.cell? ⟨bb, off + k * 8 + 5, none⟩ = _ := hcc2 5 (by decide)
              have q6 : wr.cell? ⟨bb, off + k * 8 + 6, none⟩ = _ := hcc2 6 (by decide)
              have q7 : wr.cell? ⟨bb, off + k * 8 + 7, none⟩ = _ := hcc2 7 (by decide)
              simp only [List.getElem?_cons_zero, List.getElem?_cons_succ] at q0 q1 q2 q3 q4 q5 q6 q7
              clear hcc hcc2 hc hcl
              have hki : (k : Int) < (cu.length : Int) := by omega
              have BA := Lib.hid (HB.out.alloc (by omega) (.cells #[S x.code, S x.sym, S x.nar, .slice ua x.names.length uc, .int .i64 x.d, .int .i64 x.i, .int .i64 x.cd, .int .i64 x.ci] 35))
              have XA := Lib.hid (HX.out.alloc (.cells #[S x.code, S x.sym, S x.nar, .slice ua x.names.length uc, .int .i64 x.d, .int .i64 x.i, .int .i64 x.cd, .int .i64 x.ci] 35))
              have YA := Lib.hid (BoxT.new wr #[S x.code, S x.sym, S x.nar, .slice ua x.names.length uc, .int .i64 x.d, .int .i64 x.i, .int .i64 x.cd, .int .i64 x.ci] 35)
              by_cases hs : 200 < x.code.length + x.sym.length + x.nar.length
              · have hsi : 200 < (x.code.length : Int) + (x.sym.length : Int) + (x.nar.length : Int) := by omega
                go_wp2
                go_ret
                exact ⟨CkR.no _, BA.out⟩
              have hsi : ¬ 200 < (x.code.length : Int) + (x.sym.length : Int) + (x.nar.length : Int) := by omega
              go_wp2_with fail
              generalize wr.alloc (.cells #[S x.code, S x.sym, S x.nar, .slice ua x.names.length uc, .int .i64 x.d, .int .i64 x.i, .int .i64 x.cd, .int .i64 x.ci] 35) = w6 at *
              clear q0 q1 q2 q3 q4 q5 q6 q7
              with_reducible refine (texts_ck w.heap.size x.names _ _ (TxL.move HU.out (Nat.le_refl _) BA.out) (by have := BA.out.size; omega)).mono ?_
              rintro e w7 ⟨⟨b, rfl, hck⟩, hb⟩
              have B7 := Lib.hid (BA.out.trans (hb.mono BA.out.size))
              have X7 := Lib.hid (XA.out.below hb)
              have Y7 := Lib.hid (YA.out.below hb)
              clear hb XA YA BA
              cases b with
              | false =>
                clear hck
                go_wp2
                go_ret
                exact ⟨CkR.no _, B7.out⟩
              | true =>
              have KT := Lib.hid (hck rfl)
              clear hck
              have d4 : w7.cell? ⟨wr.heap.size, 4, none⟩ = some (.int .i64 x.d) := Y7.out.cell 4
              have d5 : w7.cell? ⟨wr.heap.size, 5, none⟩ = some (.int .i64 x.i) := Y7.out.cell 5
              have d6 : w7.cell? ⟨wr.heap.size, 6, none⟩ = some (.int .i64 x.cd) := Y7.out.cell 6
              have d7 : w7.cell? ⟨wr.heap.size, 7, none⟩ = some (.int .i64 x.ci) := Y7.out.cell 7
              by_cases nd : x.d < 0
              · go_wp2
                go_ret
                exact ⟨CkR.no _, B7.out⟩
              by_cases ni : x.i < 0
              · go_wp2
                go_ret
                exact ⟨CkR.no _, B7.out⟩
              by_cases ncd : x.cd < 0
              · go_wp2
                go_ret
                exact ⟨CkR.no _, B7.out⟩
              by_cases nci : x.ci < 0
              · go_wp2
                go_ret
                exact ⟨CkR.no _, B7.out⟩
              go_wp2
              go_roundw
              case rel => exact ⟨k + 1, by omega, by go_num, HT.out ⟨by omega, KT.out, by omega, by omega, by omega, by omega⟩, B7.out, X7.out⟩
              case measure => simp [intOf]; omega
            · have hke : k = cu.length := by omega
              have hki : ¬ (k : Int) < (cu.length : Int) := by omega
              have KC := Lib.hid (by have h := HA.out; rwa [List.take_of_length_le (by omega)] at h : ∀ x ∈ cu, ckCur x)
              clear HA
              have c26 := (HX.out.cell 26).trans CXun.out
              clear hki
              go_wp2_with fail
              clear c26 hke hk hws
              go_loopw [162] (fun i wx => ∃ k : Nat, k ≤ un.length ∧ i = .int .i64 (k : Int) ∧ (∀ x ∈ un.take k, ckUnt x) ∧ Below w.heap.size w wx ∧ BoxT wx w.heap.size X TTb) (fun i _ => un.length - (intOf i).toNat)
              case atStart => exact ⟨0, Nat.zero_le _, rfl, (fun x hx => by rw [List.take_zero] at hx; cases hx), HB.out, HX.out⟩
              case round =>
                obtain ⟨k, hk, rfl, hall, hb, hx⟩ := hrel
                have HB := Lib.hid hb
                have HA := Lib.hid hall
                have HX := Lib.hid hx
                have hws := hb.size
                clear hb hall hx
                by_cases hlt : k < un.length
                · obtain ⟨a', cap', e, _, _, hcell⟩ := Hun.out
                  injection e with e1 e2 e3
                  subst e1 e3
                  clear e2
                  obtain ⟨bb, off, rfl, hbl, hbl2, hc⟩ := hcell (by omega)
                  obtain ⟨c, hA, hcl, hcc⟩ := hc k hlt
                  have HT := Lib.hid (fun h => take_all (P := ckUnt) hlt HA.out h)
                  obtain ⟨x, hx⟩ : ∃ x, x = un[k] := ⟨_, rfl⟩
                  rw [← hx] at hA HT
                  clear hx
                  obtain ⟨u, rfl, hu⟩ := hA
                  obtain ⟨ua, uc, rfl⟩ : ∃ ua uc, u = .slice ua x.2.length uc := by
                    obtain ⟨ua, uc, e, _⟩ := hu
                    exact ⟨ua, uc, e⟩
                  have HU := Lib.hid hu
                  clear hu
                  have hcc2 : ∀ j, j < 2 → wr.cell? ⟨bb, off + k * 2 + j, none⟩ = _ := fun j hj => (HB.out.cell (p := ⟨bb, off + k * 2 + j, none⟩) hbl).trans (hcc j hj)
                  have q0 : wr.cell? ⟨bb, off + k * 2, none⟩ = _ := hcc2 0 (by decide)
                  have q1 : wr.cell? ⟨bb, off + k * 2 + 1, none⟩ = _ := hcc2 1 (by decide)
                  simp only [List.getElem?_cons_zero, List.getElem?_cons_succ] at q0 q1
                  clear hcc hcc2 hc hcl
                  have hki : (k : Int) < (un.length : Int) := by omega
                  have BA := Lib.hid (HB.out.alloc (by omega) (.cells #[S x.1, .slice ua x.2.length uc] 50))
                  have XA := Lib.hid (HX.out.alloc (.cells #[S x.1, .slice ua x.2.length uc] 50))
                  have YA := Lib.hid (BoxT.new wr #[S x.1, .slice ua x.2.length uc] 50)
                  by_cases hs : 200 < x.1.length
                  · have hsi : 200 < (x.1.length : Int) := by omega
                    go_wp2
                    go_ret
                    exact ⟨CkR.no _, BA.out⟩
                  have hsi : ¬ 200 < (x.1.length : Int) := by omega
                  go_wp2_with fail
                  generalize wr.alloc (.cells #[S x.1, .slice ua x.2.length uc] 50) = w6 at *
                  clear q0 q1
                  with_reducible refine (texts_ck w.heap.size x.2 _ _ (TxL.move HU.out (Nat.le_refl _) BA.out) (by have := BA.out.size; omega)).mono ?_
                  rintro e w7 ⟨⟨b, rfl, hck⟩, hb⟩
                  have B7 := Lib.hid (BA.out.trans (hb.mono BA.out.size))
                  have X7 := Lib.hid (XA.out.below hb)
                  have Y7 := Lib.hid (YA.out.below hb)
                  clear hb XA YA BA
                  cases b with
                  | false =>
                    clear hck
                    go_wp2
                    go_ret
                    exact ⟨CkR.no _, B7.out⟩
                  | true =>
                  have KT := Lib.hid (hck rfl)
                  clear hck
                  go_wp2
                  go_roundw
                  case rel => exact ⟨k + 1, by omega, by go_num, HT.out ⟨by omega, KT.out⟩, B7.out, X7.out⟩
                  case measure => simp [intOf]; omega
                · have hke : k = un.length := by omega
                  have hki : ¬ (k : Int) < (un.length : Int) := by omega
                  have KU := Lib.hid (by have h := HA.out; rwa [List.take_of_length_le (by omega)] at h : ∀ x ∈ un, ckUnt x)
                  go_wp2
                  go_ret
                  exact ⟨CkR.yes ⟨HF.out, by omega, Ksh.out, Klo.out, Kms.out, Kmu.out, KC.out, by omega, KU.out, by omega⟩, HB.out⟩
end Go.Proofs.Ytkbigfkpgjhojaa
