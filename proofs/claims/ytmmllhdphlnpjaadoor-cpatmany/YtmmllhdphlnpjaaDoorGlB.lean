/- First and last signs; code points and their bytes; the law's own way to a sign. -/
import Derived.Test.YtmmllhdphlnpjaaDoorGlT
import Derived.Test.YtmmllhdphlnpjaaDoorShelf
import Derived.Laws.BitsAllLaws
namespace Go.Proofs.YtmmllhdphlnpjaaDoor
open Go.RowKit Florin
set_option linter.unusedVariables false
set_option linter.unusedSimpArgs false
abbrev S (l : List UInt8) : Value := .string ⟨l.toArray⟩
abbrev bv (c : UInt8) : Value := .int .u8 (c.toNat : Int)
theorem arr_list (l : List UInt8) : (⟨l.toArray⟩ : ByteArray).data.toList = l := by simp
theorem arr_size (l : List UInt8) : (⟨l.toArray⟩ : ByteArray).size = l.length := by rw [← size_list, arr_list]
theorem arr_append (x y : List UInt8) : ((⟨x.toArray⟩ : ByteArray) ++ (⟨y.toArray⟩ : ByteArray)) = ⟨(x ++ y).toArray⟩ := by
  apply ByteArray.ext
  simp [ByteArray.data_append]
theorem ret_S {a b : List UInt8} (h : a = b) : Ending.returned (S a) = .returned (S b) := by rw [h]
theorem and_mask (n : Int) (M : Nat) (hM : M ≤ 9223372036854775807) : ∃ k : Nat, k ≤ M ∧ bits .and .i64 n (M : Int) = (k : Int) := by
  have hx : (BitVec.ofInt 64 n &&& BitVec.ofInt 64 (M : Int)).toNat ≤ M := by
    rw [BitVec.toNat_and, ofInt_u64 M (by omega)]
    exact Nat.and_le_right
  refine ⟨(BitVec.ofInt 64 n &&& BitVec.ofInt 64 (M : Int)).toNat, hx, ?_⟩
  show IntKind.i64.wrap ((BitVec.ofInt 64 n &&& BitVec.ofInt 64 (M : Int)).toNat : Int) = _
  rw [IntKind.wrap_i64]
  omega
def fstL (l : List UInt8) : Nat × Bool := if lead l = 0 then (0, false) else (code l, true)
def lstL (l : List UInt8) : Nat × Bool := if (Lib.decodeLastL l).1 = 65533 ∧ (Lib.decodeLastL l).2 ≤ 1 then (0, false) else ((Lib.decodeLastL l).1, true)
theorem conv1 (W : World) (c0 : UInt8) (z0 : Int) (h0 : z0 = c0.toNat) : (convert 69 9 (.slice (some ⟨W.heap.size, 0, none⟩) 1 1)).run Tryd.prog (W.alloc (.cells #[.int .u8 z0] 5)) = .ok (S [c0]) (W.alloc (.cells #[.int .u8 z0] 5)) := by
  subst h0
  refine run_convert_bytes_back (W.alloc (.cells #[bv c0] 5)) 69 9 5 ⟨W.heap.size, 0, none⟩ 1 [c0] Tryd.underlying69 Tryd.underlying5 Tryd.underlying9 ?_
  intro j hj
  match j, hj with
  | 0, _ => simp [Addr.add]
theorem conv2 (W : World) (c0 c1 : UInt8) (z0 z1 : Int) (h0 : z0 = c0.toNat) (h1 : z1 = c1.toNat) : (convert 69 9 (.slice (some ⟨W.heap.size, 0, none⟩) 2 2)).run Tryd.prog (W.alloc (.cells #[.int .u8 z0, .int .u8 z1] 5)) = .ok (S [c0, c1]) (W.alloc (.cells #[.int .u8 z0, .int .u8 z1] 5)) := by
  subst h0 h1
  refine run_convert_bytes_back (W.alloc (.cells #[bv c0, bv c1] 5)) 69 9 5 ⟨W.heap.size, 0, none⟩ 2 [c0, c1] Tryd.underlying69 Tryd.underlying5 Tryd.underlying9 ?_
  intro j hj
  match j, hj with
  | 0, _ => simp [Addr.add]
  | 1, _ => simp [Addr.add]
theorem conv3 (W : World) (c0 c1 c2 : UInt8) (z0 z1 z2 : Int) (h0 : z0 = c0.toNat) (h1 : z1 = c1.toNat) (h2 : z2 = c2.toNat) : (convert 69 9 (.slice (some ⟨W.heap.size, 0, none⟩) 3 3)).run Tryd.prog (W.alloc (.cells #[.int .u8 z0, .int .u8 z1, .int .u8 z2] 5)) = .ok (S [c0, c1, c2]) (W.alloc (.cells #[.int .u8 z0, .int .u8 z1, .int .u8 z2] 5)) := by
  subst h0 h1 h2
  refine run_convert_bytes_back (W.alloc (.cells #[bv c0, bv c1, bv c2] 5)) 69 9 5 ⟨W.heap.size, 0, none⟩ 3 [c0, c1, c2] Tryd.underlying69 Tryd.underlying5 Tryd.underlying9 ?_
  intro j hj
  match j, hj with
  | 0, _ => simp [Addr.add]
  | 1, _ => simp [Addr.add]
  | 2, _ => simp [Addr.add]
theorem conv4 (W : World) (c0 c1 c2 c3 : UInt8) (z0 z1 z2 z3 : Int) (h0 : z0 = c0.toNat) (h1 : z1 = c1.toNat) (h2 : z2 = c2.toNat) (h3 : z3 = c3.toNat) : (convert 69 9 (.slice (some ⟨W.heap.size, 0, none⟩) 4 4)).run Tryd.prog (W.alloc (.cells #[.int .u8 z0, .int .u8 z1, .int .u8 z2, .int .u8 z3] 5)) = .ok (S [c0, c1, c2, c3]) (W.alloc (.cells #[.int .u8 z0, .int .u8 z1, .int .u8 z2, .int .u8 z3] 5)) := by
  subst h0 h1 h2 h3
  refine run_convert_bytes_back (W.alloc (.cells #[bv c0, bv c1, bv c2, bv c3] 5)) 69 9 5 ⟨W.heap.size, 0, none⟩ 4 [c0, c1, c2, c3] Tryd.underlying69 Tryd.underlying5 Tryd.underlying9 ?_
  intro j hj
  match j, hj with
  | 0, _ => simp [Addr.add]
  | 1, _ => simp [Addr.add]
  | 2, _ => simp [Addr.add]
  | 3, _ => simp [Addr.add]
theorem and63 (m : Nat) (h : m < 9223372036854775808) : bits .and .i64 (m : Int) 63 = (m : Int) % 64 := by
  have e : (BitVec.ofInt 64 (m : Int) &&& BitVec.ofInt 64 (63 : Int)).toNat = m % 64 := by
    rw [BitVec.toNat_and, ofInt_u64 m (by omega), show BitVec.ofInt 64 (63 : Int) = BitVec.ofInt 64 ((63 : Nat) : Int) from rfl, ofInt_u64 63 (by omega)]
    exact nat_mask6 m
  show IntKind.i64.wrap ((BitVec.ofInt 64 (m : Int) &&& BitVec.ofInt 64 (63 : Int)).toNat : Int) = _
  rw [e, IntKind.wrap_i64]
  omega
theorem u8z (n : Nat) (z : Int) (h : n < 256) (hz : z = (n : Int)) : z = ((u8 n).toNat : Int) := by rw [u8_toNat h, hz]
end Go.Proofs.YtmmllhdphlnpjaaDoor
