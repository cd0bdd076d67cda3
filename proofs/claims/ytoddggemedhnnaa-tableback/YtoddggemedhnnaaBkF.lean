/- Decode of a table's bytes: whole, cut, with a byte behind. -/
import Derived.Test.YtoddggemedhnnaaBkE
namespace Go.Proofs.Ytoddggemedhnnaa
open Go.RowKit Florin
theorem short_rd {t : TblM} {E : List UInt8} (hE : E = encT t) (hin : inTbl t) (h27 : t.tx.length = 27) (hs : E.length ≤ 65536) (rest : List UInt8) : rdTbl (E ++ rest, false) = (t, (rest, false)) := by
  subst hE
  exact rdTbl_back t rest hin h27 hs
theorem dec_yes {t : TblM} {E : List UInt8} (hE : E = encT t) (hin : inTbl t) (h27 : t.tx.length = 27) (hs : E.length ≤ 65536) (w : World) :
    Calls Try.prog 10 #[S E] w fun e w' => ∃ vsh vlo vms vcu vun vmu, e = .returned (.tuple #[.agg (tbA (fun j => t.tx.getD j []) t.mg vsh vlo vms vcu vun vmu), .int .i64 0]) ∧ TbL w' vsh vlo vms vcu vun vmu t.sh t.lo t.ms t.cu t.un t.mu ∧ Below w.heap.size w w' := by
  obtain ⟨T, hT⟩ : ∃ T, T = (t, (([] : List UInt8), false)) := ⟨_, rfl⟩
  have h := short_rd hE hin h27 hs []
  rw [List.append_nil, ← hT] at h
  have hd : (!T.2.2 && T.2.1.isEmpty) = true := by rw [hT]; rfl
  have h1 := decode_yes E T w h hs hd
  rw [hT] at h1
  exact h1
theorem dec_cut {t : TblM} {E : List UInt8} (hE : E = encT t) (hin : inTbl t) (h27 : t.tx.length = 27) (hs : E.length ≤ 65536) (m : Nat) (hm : m < E.length) (w : World) :
    Calls Try.prog 10 #[S (E.take m)] w fun e w' => e = .returned (.tuple #[.agg Z34, .int .i64 1]) ∧ Below w.heap.size w w' := by
  have hd := rdTbl_cut t (E.take m) (E.drop m) hin h27 (by rw [← hE]; exact hs) (by rw [← hE, List.take_append_drop]) (by rw [List.length_drop]; omega)
  obtain ⟨T, hT⟩ : ∃ T, T = rdTbl (E.take m, false) := ⟨_, rfl⟩
  rw [← hT] at hd
  exact decode_no (E.take m) T w hT.symm (by rw [List.length_take]; omega) hd
theorem dec_more {t : TblM} {E : List UInt8} (hE : E = encT t) (hin : inTbl t) (h27 : t.tx.length = 27) (hs : E.length ≤ 65536) : ∃ z : Int, (z = 1 ∨ z = 4) ∧ ∀ w : World, Calls Try.prog 10 #[S (E ++ [0])] w fun e w' => e = .returned (.tuple #[.agg Z34, .int .i64 z]) ∧ Below w.heap.size w w' := by
  by_cases h1 : E.length + 1 ≤ 65536
  · refine ⟨1, .inl rfl, fun w => ?_⟩
    obtain ⟨T, hT⟩ : ∃ T, T = (t, (([0] : List UInt8), false)) := ⟨_, rfl⟩
    have h := short_rd hE hin h27 hs [0]
    rw [← hT] at h
    exact decode_no (E ++ [0]) T w h (by rw [List.length_append, List.length_singleton]; exact h1) (by rw [hT]; rfl)
  · refine ⟨4, .inr rfl, fun w => ?_⟩
    have hsz : 65536 < (⟨(E ++ [0]).toArray⟩ : ByteArray).size := by
      rw [arr_size, List.length_append, List.length_singleton]
      omega
    exact decode_many _ w hsz
theorem cutE (l : List UInt8) (b : Nat) : (⟨l.toArray⟩ : ByteArray).extract 0 b = ⟨(l.take b).toArray⟩ := by
  apply ByteArray.ext
  apply Array.ext'
  simp
theorem zcat (l : List UInt8) : (⟨l.toArray⟩ : ByteArray) ++ ⟨#[0]⟩ = ⟨(l ++ [0]).toArray⟩ := by
  apply ByteArray.ext
  apply Array.ext'
  simp
theorem rem_as (a b : Nat) : (a : Int).tmod (b : Int) = ((a % b : Nat) : Int) := by
  rw [Int.tmod_eq_emod_of_nonneg (by omega)]
  exact (Int.natCast_emod a b).symm
end Go.Proofs.Ytoddggemedhnnaa
