/- The walk of the law DecPlaces, whatever came in. -/
import Derived.Test.YtlppofjmkepceaaDoorDawK
import Derived.Test.YtlppofjmkepceaaDoorDawL
import Derived.Test.YtlppofjmkepceaaDoorDawM
import Derived.Test.YtlppofjmkepceaaDoorDawN
namespace Go.Proofs.YtlppofjmkepceaaDoor
open Go.RowKit Florin
set_option linter.unusedVariables false

set_option maxRecDepth 100000 in
set_option maxHeartbeats 1600000 in
theorem places_no (n0 : Bool) (a0 : Option Addr) (len0 cap0 : Nat) (e0 : Int) (w : World) (hc0 : len0 ≤ cap0) (hm0 : cap0 ≤ maxLen) (htab : Tab w) (h : ¬ ((len0 : Int) ≤ 80 ∧ -80 ≤ e0 ∧ e0 ≤ 80)) :
    Calls Tryd.prog 6 #[RV n0 a0 len0 cap0 e0] w fun x w' => x = .returned (.bool true) ∧ Below w.heap.size w w' := by
  have HT := Lib.hid htab
  have H := Lib.hid h
  clear htab h
  go_enter Tryd.func6, Tryd.ntmps6
  go_wp2_with fail
  with_reducible refine (headD _ (HT.out.below ((Below.refl w.heap.size w).alloc (by simp <;> omega) _))).mono ?_
  rintro x w1 ⟨rfl, hb⟩
  have Cr0 := Lib.hid (((Box.new w #[.bool n0, .slice a0 len0 cap0, .int .i64 e0] 24).at (b' := w.heap.size) (by simp)).below hb (by simp <;> omega))
  have b1 := Lib.hid (((Below.refl w.heap.size w).alloc (by simp <;> omega) _).trans (hb.mono (B' := w.heap.size) (by simp <;> omega)))
  clear hb
  have Br0 : Hid (Box w1 (w.heap.size) #[.bool n0, .slice a0 len0 cap0, .int .i64 e0]) := Cr0
  clear Cr0
  obtain ⟨r00, r01, r02, r03, r04, r05, r06⟩ := Br0.out.three
  go_wp2_with fail
  with_reducible refine (few_no n0 a0 len0 cap0 e0 80 _ hc0 hm0 (by decide) (by decide) H.out).mono ?_
  rintro x w2 ⟨rfl, hb⟩
  have Cr0 := Lib.hid (Br0.out.below hb (by have := Br0.out.lt; simp <;> omega))
  have b2 := Lib.hid (b1.out.trans (hb.mono (B' := w.heap.size) (by have := b1.out.size; simp <;> omega)))
  clear r00 r01 r02 r03 r04 r05 r06
  clear hb Br0
  have Br0 : Hid (Box w2 (w.heap.size) #[.bool n0, .slice a0 len0 cap0, .int .i64 e0]) := Cr0
  clear Cr0
  go_wp2
  go_ret
  exact ⟨rfl, b2.out⟩

theorem decPlaces_walk (n0 : Bool) (a0 : Option Addr) (len0 cap0 : Nat) (e0 : Int) (L0 : List UInt8) (w : World) (hin0 : InB w a0 len0 cap0 L0) (htab : Tab w) :
    Calls Tryd.prog 6 #[RV n0 a0 len0 cap0 e0] w fun x w' => x = .returned (.bool true) ∧ Below w.heap.size w w' := by
  by_cases hf0 : (len0 : Int) ≤ 80 ∧ -80 ≤ e0 ∧ e0 ≤ 80
  · obtain ⟨g0, lo0, hi0⟩ := hf0
    have LL : (dgs L0).length ≤ 80 := by rw [dgs_length, hin0.1]; omega
    have hb := made_e_le n0 (dgs L0) e0 (by omega) (by omega) (by omega)
    have hl := made_length n0 (dgs L0) e0
    rcases made_nrm n0 (dgs L0) e0 with hz | hn
    · exact places_z n0 a0 len0 cap0 L0 e0 w hin0 htab (by omega) lo0 hi0 hz
    · obtain ⟨d, hd⟩ : ∃ d, made n0 (dgs L0) e0 = d := ⟨_, rfl⟩
      rw [hd] at hb hl hn
      obtain ⟨dn, dl, de⟩ := d
      have hll : dl.length ≤ 80 := by simp only at hl; omega
      simp only at hb
      by_cases h0 : 0 ≤ de
      · cases dn with
        | false => exact places_uf n0 a0 len0 cap0 L0 e0 w hin0 htab (by omega) lo0 hi0 dl de hd hn hll (by omega) (by omega) h0
        | true => exact places_ut n0 a0 len0 cap0 L0 e0 w hin0 htab (by omega) lo0 hi0 dl de hd hn hll (by omega) (by omega) h0
      · by_cases h1 : (dl.length : Int) + de ≤ 0
        · obtain ⟨k, hk⟩ : ∃ k : Nat, (dl.length : Int) + de = -(k : Int) := ⟨(-((dl.length : Int) + de)).toNat, by omega⟩
          cases dn with
          | false => exact places_df n0 a0 len0 cap0 L0 e0 w hin0 htab (by omega) lo0 hi0 dl de hd hn hll (by omega) (by omega) (by omega) k hk
          | true => exact places_dt n0 a0 len0 cap0 L0 e0 w hin0 htab (by omega) lo0 hi0 dl de hd hn hll (by omega) (by omega) (by omega) k hk
        · obtain ⟨p, hp⟩ : ∃ p : Nat, (dl.length : Int) + de = p := ⟨((dl.length : Int) + de).toNat, by omega⟩
          cases dn with
          | false => exact places_mf n0 a0 len0 cap0 L0 e0 w hin0 htab (by omega) lo0 hi0 dl de hd hn hll (by omega) (by omega) (by omega) p hp (by omega)
          | true => exact places_mt n0 a0 len0 cap0 L0 e0 w hin0 htab (by omega) lo0 hi0 dl de hd hn hll (by omega) (by omega) (by omega) p hp (by omega)
  · exact places_no n0 a0 len0 cap0 e0 w hin0.2.1 hin0.2.2.1 htab hf0
end Go.Proofs.YtlppofjmkepceaaDoor
