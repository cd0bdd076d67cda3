/- Tables as bytes: Encode. -/
import Derived.Test.YtkbigfkpgjhojaaTbE
import Derived.Deep.MidRow
namespace Go.Proofs.Ytkbigfkpgjhojaa
open Go.RowKit Florin
set_option linter.unusedVariables false
set_option linter.unusedSimpArgs false
attribute [local go_sem ↓] Go.wp_at_zero Go.wp_at_succ
set_option maxRecDepth 100000 in
set_option maxHeartbeats 12800000 in
theorem encode_as (lim : Nat) (d0 d1 d2 d3 d4 d5 d6 d7 d8 d9 d10 d11 d12 d13 d14 d15 d16 d17 d18 d19 d20 d21 d22 d23 d24 d25 d26 : List UInt8) (mg : Int) (vsh vlo vms vcu vun vmu : Value) (sh lo ms : List RowM) (cu : List CurM) (un : List UntM) (mu : List TxM) (w : World) (hsh : RowL w lim vsh sh) (hlo : RowL w lim vlo lo) (hms : RowL w lim vms ms) (hcu : CurL w lim vcu cu) (hun : UntL w lim vun un) (hmu : TxL w lim vmu mu) (hlim : lim ≤ w.heap.size) (hmg : mg ≤ 9223372036854775807) (nsh : ∀ r ∈ sh, nRow r) (nlo : ∀ r ∈ lo, nRow r) (nms : ∀ r ∈ ms, nRow r) (ncu : ∀ c ∈ cu, nCur c) (nun : ∀ u ∈ un, nUnt u) (nmu : ∀ x ∈ mu, nTx x) (hl : (encT (⟨[d0, d1, d2, d3, d4, d5, d6, d7, d8, d9, d10, d11, d12, d13, d14, d15, d16, d17, d18, d19, d20, d21, d22, d23, d24, d25, d26], mg, sh, lo, ms, cu, un, mu⟩ : TblM)).length ≤ 900000000) :
    Calls Try.prog 8 #[.agg #[S d0, S d1, S d2, S d3, S d4, S d5, S d6, S d7, S d8, S d9, S d10, S d11, S d12, S d13, S d14, S d15, .int .i64 mg, S d16, S d17, S d18, S d19, S d20, vsh, vlo, vms, vcu, vun, vmu, S d21, S d22, S d23, S d24, S d25, S d26]] w fun e w' => e = .returned (S (encT (⟨[d0, d1, d2, d3, d4, d5, d6, d7, d8, d9, d10, d11, d12, d13, d14, d15, d16, d17, d18, d19, d20, d21, d22, d23, d24, d25, d26], mg, sh, lo, ms, cu, un, mu⟩ : TblM))) ∧ Below w.heap.size w w' := by

  obtain ⟨ash, csh, rfl, hxsh⟩ : ∃ a c, vsh = .slice a sh.length c ∧ True := by obtain ⟨a, c, e, _⟩ := hsh; exact ⟨a, c, e, trivial⟩
  obtain ⟨alo, clo, rfl, hxlo⟩ : ∃ a c, vlo = .slice a lo.length c ∧ True := by obtain ⟨a, c, e, _⟩ := hlo; exact ⟨a, c, e, trivial⟩
  obtain ⟨ams, cms, rfl, hxms⟩ : ∃ a c, vms = .slice a ms.length c ∧ True := by obtain ⟨a, c, e, _⟩ := hms; exact ⟨a, c, e, trivial⟩
  obtain ⟨acu, ccu, rfl, hxcu⟩ : ∃ a c, vcu = .slice a cu.length c ∧ True := by obtain ⟨a, c, e, _⟩ := hcu; exact ⟨a, c, e, trivial⟩
  obtain ⟨aun, cun, rfl, hxun⟩ : ∃ a c, vun = .slice a un.length c ∧ True := by obtain ⟨a, c, e, _⟩ := hun; exact ⟨a, c, e, trivial⟩
  obtain ⟨amu, cmu, rfl, hxmu⟩ : ∃ a c, vmu = .slice a mu.length c ∧ True := by obtain ⟨a, c, e, _⟩ := hmu; exact ⟨a, c, e, trivial⟩
  clear hxsh hxlo hxms hxcu hxun hxmu
  obtain ⟨X, hX⟩ : ∃ X : Array Value, X = #[S d0, S d1, S d2, S d3, S d4, S d5, S d6, S d7, S d8, S d9, S d10, S d11, S d12, S d13, S d14, S d15, .int .i64 mg, S d16, S d17, S d18, S d19, S d20, .slice ash sh.length csh, .slice alo lo.length clo, .slice ams ms.length cms, .slice acu cu.length ccu, .slice aun un.length cun, .slice amu mu.length cmu, S d21, S d22, S d23, S d24, S d25, S d26] := ⟨_, rfl⟩
  have hXs : X.toList.length = 34 := by rw [hX]; rfl
  rw [← hX]
  have HXE := Lib.hid hX
  clear hX
  have HS : Hid ((Try.prog.info? TTb).map (·.size) = some X.toList.length) := Lib.hid (by rw [hXs]; kernel_rfl)
  clear hXs
  have HB0 : Hid (Below w.heap.size w ((w.alloc (.cells X TTb)).alloc (.cells #[.pointer none, .int .i64 0] TWr))) := Lib.hid (((Below.refl _ w).alloc (Nat.le_refl _) _).alloc (by simp) _)
  have HR : Hid (World.rangeAt ((w.alloc (.cells X TTb)).alloc (.cells #[.pointer none, .int .i64 0] TWr)) w.heap.size 0 X.toList) := Lib.hid (fun j v hv => by rw [Nat.zero_add, ((BoxT.new w X TTb).alloc _).cell j]; simpa using hv)
  have HW0 := Lib.hid (WrS.new (w.alloc (.cells X TTb)) (w.heap.size + 1) (by simp))
  rw [show (w.alloc (.cells X TTb)).heap.size = w.heap.size + 1 by simp] at HW0
  have Ish := Lib.hid (RowL.move hsh (Nat.le_refl _) (HB0.out.mono hlim))
  have Nsh := Lib.hid nsh
  have Ilo := Lib.hid (RowL.move hlo (Nat.le_refl _) (HB0.out.mono hlim))
  have Nlo := Lib.hid nlo
  have Ims := Lib.hid (RowL.move hms (Nat.le_refl _) (HB0.out.mono hlim))
  have Nms := Lib.hid nms
  have Icu := Lib.hid (CurL.move hcu (Nat.le_refl _) (HB0.out.mono hlim))
  have Ncu := Lib.hid ncu
  have Iun := Lib.hid (UntL.move hun (Nat.le_refl _) (HB0.out.mono hlim))
  have Nun := Lib.hid nun
  have Imu := Lib.hid (TxL.move hmu (Nat.le_refl _) (HB0.out.mono hlim))
  have Nmu := Lib.hid nmu
  clear hsh hlo hms hcu hun hmu nsh nlo nms ncu nun nmu
  have HL := Lib.hid hl
  clear hl
  go_enter Try.func8, Try.ntmps8
  go_wp2_with (refine wpList_load_mid (by rfl) TTb (.tmp 1) (by rfl) w.heap.size 0 (by rfl) X.toList _ HR.out Try.underlying31 (by rfl) HS.out ?_)
  have hx := HXE.out
  subst hx
  with_reducible refine (layTable_as (w.heap.size + 1) (w.heap.size + 1) lim [] d0 d1 d2 d3 d4 d5 d6 d7 d8 d9 d10 d11 d12 d13 d14 d15 d16 d17 d18 d19 d20 d21 d22 d23 d24 d25 d26 mg _ _ _ _ _ _ sh lo ms cu un mu _ HW0.out Ish.out Ilo.out Ims.out Icu.out Iun.out Imu.out (by omega) hmg Nsh.out Nlo.out Nms.out Ncu.out Nun.out Nmu.out (by have := HL.out; simpa using this)).mono ?_
  rintro y w1 ⟨rfl, hw1, hg1⟩
  rw [List.nil_append] at hw1
  have HW1 := Lib.hid hw1
  have HB1 := Lib.hid (below_grown HB0.out HB0.out.size (by omega) hg1)
  clear hw1 hg1
  go_wp2_with fail
  with_reducible refine (sstr_as (w.heap.size + 1) (w.heap.size + 1) _ _ HW1.out HL.out).mono ?_
  rintro y w2 ⟨rfl, hb2⟩
  have HB2 := Lib.hid (HB1.out.trans (hb2.mono HB1.out.size))
  clear hb2
  go_wp2
  go_ret
  exact ⟨rfl, HB2.out⟩
end Go.Proofs.Ytkbigfkpgjhojaa
