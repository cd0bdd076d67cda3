/- What Digits of the laws returns: the digits of any bytes. -/
import Derived.Test.YtkjhdehpcanciaaGreatDoorNumH
namespace Go.Proofs.YtkjhdehpcanciaaGreatDoor
open Go.RowKit Florin

/-- The slice of bytes that came in holds the bytes L. -/
def InB (w : World) (a : Option Addr) (len cap : Nat) (L : List UInt8) : Prop :=
  L.length = len ∧ len ≤ cap ∧ cap ≤ maxLen ∧ (0 < len → ∃ b off, a = some ⟨b, off, none⟩ ∧ b < w.heap.size ∧ ∀ i (h : i < L.length), w.cell? ⟨b, off + i, none⟩ = some (bv L[i]))
theorem InB.below {w w' : World} {a : Option Addr} {len cap : Nat} {L : List UInt8} (h : InB w a len cap L) (hb : Below w.heap.size w w') : InB w' a len cap L := by
  obtain ⟨h1, h2, h3, h4⟩ := h
  refine ⟨h1, h2, h3, fun hl => ?_⟩
  obtain ⟨b, off, e, hlt, hc⟩ := h4 hl
  exact ⟨b, off, e, Nat.lt_of_lt_of_le hlt hb.size, fun i hi => (hb.cell (p := ⟨b, off + i, none⟩) hlt).trans (hc i hi)⟩
/-- The digits of bytes. -/
def dgs (L : List UInt8) : List UInt8 := L.map fun c => db c.toNat
theorem isDig_dgs (L : List UInt8) : isDig (dgs L) = true := by
  unfold isDig dgs
  rw [List.all_map, List.all_eq_true]
  intro c _
  exact isD_db _
theorem dgs_length (L : List UInt8) : (dgs L).length = L.length := by simp [dgs]
theorem dgs_snoc (L : List UInt8) (k : Nat) (h : k < L.length) : dgs (L.take (k + 1)) = dgs (L.take k) ++ [db L[k].toNat] := by
  unfold dgs
  rw [List.take_succ_eq_append_getElem h, List.map_append]; rfl

theorem conv_one (W : World) (c : UInt8) (z : Int) (hz : z = c.toNat) : (convert 40 9 (.slice (some ⟨W.heap.size, 0, none⟩) 1 1)).run Tryz.prog (W.alloc (.cells #[.int .u8 z] 5)) = .ok (S [c]) (W.alloc (.cells #[.int .u8 z] 5)) := by
  subst hz
  refine run_convert_bytes_back (W.alloc (.cells #[bv c] 5)) 40 9 5 ⟨W.heap.size, 0, none⟩ 1 [c] Tryz.underlying40 Tryz.underlying5 Tryz.underlying9 ?_
  intro j hj
  obtain rfl : j = 0 := by simpa using hj
  simp [Addr.add]

set_option maxRecDepth 100000 in
set_option maxHeartbeats 800000 in
theorem digits_any (a : Option Addr) (len cap : Nat) (L : List UInt8) (w : World) (hin : InB w a len cap L) (hl : len ≤ 1000000) :
    Calls Tryz.prog 42 #[.slice a len cap] w fun e w' => e = .returned (S (dgs L)) ∧ Below w.heap.size w w' := by
  obtain ⟨h1, h2, h3, h4⟩ := hin
  by_cases h0 : len = 0
  · subst h0
    obtain rfl : L = [] := List.eq_nil_of_length_eq_zero h1
    go_enter Tryz.func42, Tryz.ntmps42
    go_wp2
    refine wp_loop_rounds 1 ?_
    rw [rounds_succ]
    go_wp2
    go_ret
    exact ⟨rfl, Below.refl _ _⟩
  · obtain ⟨b, off, rfl, hblt, hc⟩ := h4 (by omega)
    subst h1
    have HC := Lib.hid hc
    clear hc h4 h0
    go_enter Tryz.func42, Tryz.ntmps42
    go_wp2
    go_loopw [3, 8] (fun v i wr => ∃ k : Nat, k ≤ L.length ∧ i = .int .i64 k ∧ v = S (dgs (L.take k)) ∧ Below w.heap.size w wr) (fun _ i _ => L.length - (intOf i).toNat)
    case atStart => exact ⟨0, Nat.zero_le _, rfl, rfl, Below.refl _ _⟩
    case round =>
      obtain ⟨k, hk, rfl, rfl, hb⟩ := hrel
      by_cases hlt : k < L.length
      · have hcx : wr.cell? ⟨b, off + k, none⟩ = some (bv L[k]) := (hb.cell (p := ⟨b, off + k, none⟩) hblt).trans (HC.out k hlt)
        have hcv := conv_one wr (db L[k].toNat) (48 + (L[k].toNat : Int) % 10) (by rw [db_nat]; omega)
        have hln : (dgs (L.take k)).length ≤ 1000000 := by rw [dgs_length]; have := List.length_take_le k L; omega
        have HD := Lib.hid (dgs_snoc L k hlt)
        go_wp2
        go_roundw
        case rel => exact ⟨k + 1, by omega, by go_num, by rw [HD.out, arr_append], hb.alloc hb.size _⟩
        case measure => simp [intOf]; omega
      · have HT : Hid (L.take k = L) := Lib.hid (List.take_of_length_le (by omega))
        go_wp2
        go_ret
        exact ⟨ret_S (by rw [HT.out]), hb⟩

theorem dig142 : dig 142 = [49, 52, 50] := dig_val (l := [49, 52, 50]) rfl
theorem dig100 : dig 100 = [49, 48, 48] := dig_val (l := [49, 48, 48]) rfl

end Go.Proofs.YtkjhdehpcanciaaGreatDoor
