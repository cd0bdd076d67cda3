/- What Digits of the laws returns: the digits of any bytes. -/
import Derived.Test.YtcobokfccfeonaaGreatDoorNumH
namespace Go.Proofs.YtcobokfccfeonaaGreatDoor
open Go.RowKit Florin

/-- The slice of bytes that came in holds the bytes L. -/
def InB (w : World) (a : Option Addr) (len cap : Nat) (L : List UInt8) : Prop :=
  L.length = len ∧ len ≤ cap ∧ cap ≤ maxLen ∧ (0 < len → ∃ b off, a = some ⟨b, off, none⟩ ∧ b < w.heap.size ∧ ∀ i (h : i < L.length), w.cell? ⟨b, off + i, none⟩ = some (bv L[i]))
theorem InB.below {w w' : World} {a : Option Addr} {len cap : Nat} {L : List UInt8} (h : InB w a len cap L) (hb : Below w.heap.size w w') : InB w' a len cap L := by
  obtain ⟨h1, h2, h3, h4⟩ := h
  refine ⟨h1, h2, h3, fun hl => ?_⟩
  obtain ⟨b, off, e, hlt, hc⟩ := h4 hl
  exact ⟨b, off, e, Nat.lt_of_lt_of_le hlt hb.size, fun i hi => (hb.cell (p := ⟨b, off + i, none⟩) hlt).trans (hc i hi)⟩
/-- The digits of bytes. -/
def dgs (L : List UInt8) : List UInt8 := L.map fun c => db c.toNat
theorem isDig_dgs (L : List UInt8) : isDig (dgs L) = true := by
  unfold isDig dgs
  rw [List.all_map, List.all_eq_true]
  intro c _
  exact isD_db _
theorem dgs_length (L : List UInt8) : (dgs L).length = L.length := by simp [dgs]
theorem dgs_snoc (L : List UInt8) (k : Nat) (h : k < L.length) : dgs (L.take (k + 1)) = dgs (L.take k) ++ [db L[k].toNat] := by
  unfold dgs
  rw [List.take_succ_eq_append_getElem h, List.map_append]; rfl

theorem conv_one (W : World) (c : UInt8) (z : Int) (hz : z = c.toNat) : (convert 41 9 (.slice (some ⟨W.heap.size, 0, none⟩) 1 1)).run Tryz.prog (W.alloc (.cells #[.int .u8 z] 5)) = .ok (S [c]) (W.alloc (.cells #[.int .u8 z] 5)) := by
  subst hz
  refine run_convert_bytes_back (W.alloc (.cells #[bv c] 5)) 41 9 5 ⟨W.heap.size, 0, none⟩ 1 [c] Tryz.underlying41 Tryz.underlying5 Tryz.underlying9 ?_
  intro j hj
  obtain rfl : j = 0 := by simpa using hj
  simp [Addr.add]

theorem dig142 : dig 142 = [49, 52, 50] := dig_val (l := [49, 52, 50]) rfl
theorem dig100 : dig 100 = [49, 48, 48] := dig_val (l := [49, 48, 48]) rfl

end Go.Proofs.YtcobokfccfeonaaGreatDoor
