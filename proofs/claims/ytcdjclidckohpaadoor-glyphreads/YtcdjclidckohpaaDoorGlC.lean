/- Digits of bytes; builders; sets of signs. -/
import Derived.Test.YtcdjclidckohpaaDoorGlB
import Derived.Test.YtcdjclidckohpaaDoorPlain
import Derived.Lib.Builder
import Derived.Lib.AppendStr
import Derived.Shelf.Strings.Builder1
namespace Go.Proofs.YtcdjclidckohpaaDoor
open Go.RowKit Florin
set_option linter.unusedVariables false
set_option linter.unusedSimpArgs false
def InB (w : World) (a : Option Addr) (len cap : Nat) (L : List UInt8) : Prop :=
  L.length = len ∧ len ≤ cap ∧ cap ≤ maxLen ∧ (0 < len → ∃ b off, a = some ⟨b, off, none⟩ ∧ b < w.heap.size ∧ ∀ i (h : i < L.length), w.cell? ⟨b, off + i, none⟩ = some (bv L[i]))
theorem InB.below {w w' : World} {a : Option Addr} {len cap : Nat} {L : List UInt8} (h : InB w a len cap L) (hb : Below w.heap.size w w') : InB w' a len cap L := by
  obtain ⟨h1, h2, h3, h4⟩ := h
  refine ⟨h1, h2, h3, fun hl => ?_⟩
  obtain ⟨b, off, e, hlt, hc⟩ := h4 hl
  exact ⟨b, off, e, Nat.lt_of_lt_of_le hlt hb.size, fun i hi => (hb.cell (p := ⟨b, off + i, none⟩) hlt).trans (hc i hi)⟩
/-- The digits of bytes. -/
def dgs (L : List UInt8) : List UInt8 := L.map fun c => db c.toNat
theorem dgs_length (L : List UInt8) : (dgs L).length = L.length := by simp [dgs]
theorem dgs_snoc (L : List UInt8) (k : Nat) (h : k < L.length) : dgs (L.take (k + 1)) = dgs (L.take k) ++ [db L[k].toNat] := by
  unfold dgs
  rw [List.take_succ_eq_append_getElem h, List.map_append]; rfl
set_option maxRecDepth 100000 in
set_option maxHeartbeats 800000 in
theorem digits_any (a : Option Addr) (len cap : Nat) (L : List UInt8) (w : World) (hin : InB w a len cap L) (hl : len ≤ 1000000) :
    Calls Tryd.prog 17 #[.slice a len cap] w fun e w' => e = .returned (S (dgs L)) ∧ Below w.heap.size w w' := by
  obtain ⟨h1, h2, h3, h4⟩ := hin
  by_cases h0 : len = 0
  · subst h0
    obtain rfl : L = [] := List.eq_nil_of_length_eq_zero h1
    go_enter Tryd.func17, Tryd.ntmps17
    go_wp2
    refine wp_loop_rounds 1 ?_
    rw [rounds_succ]
    go_wp2
    go_ret
    exact ⟨rfl, Below.refl _ _⟩
  · obtain ⟨b, off, rfl, hblt, hc⟩ := h4 (by omega)
    subst h1
    have HC := Lib.hid hc
    clear hc h4 h0
    go_enter Tryd.func17, Tryd.ntmps17
    go_wp2
    go_loopw [3, 8] (fun v i wr => ∃ k : Nat, k ≤ L.length ∧ i = .int .i64 k ∧ v = S (dgs (L.take k)) ∧ Below w.heap.size w wr) (fun _ i _ => L.length - (intOf i).toNat)
    case atStart => exact ⟨0, Nat.zero_le _, rfl, rfl, Below.refl _ _⟩
    case round =>
      obtain ⟨k, hk, rfl, rfl, hb⟩ := hrel
      by_cases hlt : k < L.length
      · have hcx : wr.cell? ⟨b, off + k, none⟩ = some (bv L[k]) := (hb.cell (p := ⟨b, off + k, none⟩) hblt).trans (HC.out k hlt)
        have hcv := conv1 wr (db L[k].toNat) (48 + (L[k].toNat : Int) % 10) (by rw [db_nat]; omega)
        have hln : (dgs (L.take k)).length ≤ 1000000 := by rw [dgs_length]; have := List.length_take_le k L; omega
        have HD := Lib.hid (dgs_snoc L k hlt)
        go_wp2
        go_roundw
        case rel => exact ⟨k + 1, by omega, by go_num, by rw [HD.out, arr_append], hb.alloc hb.size _⟩
        case measure => simp [intOf]; omega
      · have HT : Hid (L.take k = L) := Lib.hid (List.take_of_length_le (by omega))
        go_wp2
        go_ret
        exact ⟨ret_S (by rw [HT.out]), hb⟩
abbrev TB : TypeId := 51
theorem sizeB : (Tryd.prog.info? TB).map (·.size) = some 2 := by kernel_rfl
theorem liesB : liesAt Tryd.prog Tryd.prog.depth TB (2 / Tryd.prog.cellsOf TB) 0 TB 1 = true := by kernel_rfl
theorem infoB : (Tryd.prog.info? 5).map (fun i => (i.zero, i.size, i.bytes)) = some (some (.int .u8 0), 1, 1) := by kernel_rfl
set_option maxHeartbeats 1000000 in
set_option maxRecDepth 100000 in
theorem check_used (b : Nat) (w : World) (h0 : w.cell? ⟨b, 0, none⟩ = some (.pointer (some ⟨b, 0, none⟩))) :
    Calls Tryd.prog 36 #[.pointer (some ⟨b, 0, none⟩)] w fun e w' => e = .returned (.tuple #[]) ∧ w' = w := by
  obtain ⟨j, hj, _⟩ := Option.map_eq_some_iff.1 sizeB
  go_enter Tryd.func36, Tryd.ntmps36
  go_wp2
  rw [Lib.run_neq_ptr_same w _ Tryd.underlying49 hj]
  go_wp2
  go_end0
  exact ⟨rfl, rfl⟩
end Go.Proofs.YtcdjclidckohpaaDoor
