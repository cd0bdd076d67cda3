/- The contracts of num and of the laws' helpers once more, over texts given as lists of bytes and over the digits of numbers. -/
import Derived.Test.YtcobokfccfeonaaGreatDoorNumI
import Derived.Laws.BitsAllLaws
namespace Go.Proofs.YtcobokfccfeonaaGreatDoor
open Go.RowKit Florin

theorem and_mask (n : Int) (M : Nat) (hM : M ≤ 9223372036854775807) : ∃ k : Nat, k ≤ M ∧ bits .and .i64 n (M : Int) = (k : Int) := by
  have hx : (BitVec.ofInt 64 n &&& BitVec.ofInt 64 (M : Int)).toNat ≤ M := by
    rw [BitVec.toNat_and, ofInt_u64 M (by omega)]
    exact Nat.and_le_right
  refine ⟨(BitVec.ofInt 64 n &&& BitVec.ofInt 64 (M : Int)).toNat, hx, ?_⟩
  show IntKind.i64.wrap ((BitVec.ofInt 64 n &&& BitVec.ofInt 64 (M : Int)).toNat : Int) = _
  rw [IntKind.wrap_i64]
  omega

theorem dig_len {n k : Nat} (h : n < 10 ^ k) (hk : k ≤ 1000000) : (dig n).length ≤ 1000000 := Nat.le_trans ((dig_length_le n k).2 h) hk
theorem val_dgs_lt (L : List UInt8) {k : Nat} (h : L.length ≤ k) : val (dgs L) < 10 ^ k := by
  have := val_lt _ (isDig_dgs L)
  rw [dgs_length] at this
  exact Nat.lt_of_lt_of_le this (Nat.pow_le_pow_right (by decide) h)
theorem inB_nil (w : World) : InB w none 0 0 [] := ⟨rfl, Nat.le_refl _, Nat.zero_le _, fun h => absurd h (by omega)⟩
theorem inB_of (w : World) {x : Addr} {len cap : Nat} {zs : List Int} (hl : len ≤ cap) (hm : cap ≤ maxLen) (hz : zs.length = cap)
    (hcell : ∀ i, i < zs.length → w.cell? (x.add i) = some (.int .u8 (zs.getD i 0))) (hwz : ∀ n ∈ zs, (Lit.int .u8 n).wf = true) : ∃ L, InB w (some x) len cap L := by
  refine ⟨(zs.take len).map fun z => UInt8.ofNat z.toNat, by simp; omega, hl, hm, fun h => ?_⟩
  obtain ⟨b, off, spot⟩ := x
  have h0 := hcell 0 (by omega)
  have hs : spot = none := by simpa [Addr.add] using World.cell?_spot h0
  subst hs
  have hb : b < w.heap.size := World.block_lt_of_cell? w _ (by simpa [Addr.add] using h0)
  refine ⟨b, off, rfl, hb, fun i hi => ?_⟩
  have hi' : i < zs.length := by simp at hi; omega
  have h1 := hcell i hi'
  have e : (⟨b, off, none⟩ : Addr).add i = ⟨b, off + i, none⟩ := by unfold Addr.add; split <;> simp_all
  rw [e] at h1
  rw [h1]
  simp only [List.getElem_map, List.getElem_take]
  have hz2 := hwz zs[i] (List.getElem_mem _)
  have hz3 : 0 ≤ zs[i] ∧ zs[i] ≤ 255 := by
    simp [Lit.wf, IntKind.min, IntKind.max, IntKind.signed, IntKind.bits] at hz2
    omega
  rw [List.getD, List.getElem?_eq_getElem hi']
  congr 2
  simp [UInt8.toNat_ofNat']
  omega
end Go.Proofs.YtcobokfccfeonaaGreatDoor
