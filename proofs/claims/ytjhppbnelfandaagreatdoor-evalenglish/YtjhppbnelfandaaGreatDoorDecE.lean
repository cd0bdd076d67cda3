/- What Parts and Plain of dec return, at any world. -/
import Derived.Test.YtjhppbnelfandaaGreatDoorDecD
import Derived.Deep.QuietTactic
import Derived.BigQuiet
namespace Go.Proofs.YtjhppbnelfandaaGreatDoor
open Go.RowKit Florin

theorem zeros_as (n : Int) (w : World) (h : n ≤ 60000) :
    Calls Tryz.prog 11 #[.int .i64 n] w fun x w' => x = .returned (S (zs n.toNat)) ∧ Below w.heap.size w w' :=
  (zeros_any n w).mono fun x w' ⟨hx, hb⟩ => ⟨by rw [hx, show min n.toNat 60000 = n.toNat by omega]; rfl, hb⟩
theorem ret_cat2 {a b : List UInt8} {v : Value} : Ending.returned (.tuple #[.string ((⟨a.toArray⟩ : ByteArray) ++ (⟨b.toArray⟩ : ByteArray)), v]) = .returned (.tuple #[S (a ++ b), v]) := by rw [arr_append]
theorem ret_cat2' {a b : List UInt8} {v : Value} : Ending.returned (.tuple #[v, .string ((⟨a.toArray⟩ : ByteArray) ++ (⟨b.toArray⟩ : ByteArray))]) = .returned (.tuple #[v, S (a ++ b)]) := by rw [arr_append]
theorem cut_arr (l : List UInt8) (a b : Nat) : (⟨l.toArray⟩ : ByteArray).extract a b = ⟨((l.drop a).take (b - a)).toArray⟩ := by
  have h := Lib.extract_data (⟨l.toArray⟩ : ByteArray) a b
  have e : ∀ x : ByteArray, x = ⟨x.data.toList.toArray⟩ := fun x => (back_data x).symm
  rw [e ((⟨l.toArray⟩ : ByteArray).extract a b), h]

theorem ret_parts (l : List UInt8) (q : Int) (p : Nat) (h : q.toNat = p) : Ending.returned (.tuple #[.string ((⟨l.toArray⟩ : ByteArray).extract 0 q.toNat), .string ((⟨l.toArray⟩ : ByteArray).extract q.toNat l.length)]) = .returned (.tuple #[S (l.take p), S (l.drop p)]) := by
  rw [h, cut_arr, cut_arr, List.drop_zero, Nat.sub_zero, List.take_of_length_le (l := l.drop p) (by simp)]

/-- The digits ahead of the point, and those behind it. -/
def partsT (d : Tri) : List UInt8 × List UInt8 :=
  if 0 ≤ d.e then (d.l ++ zs d.e.toNat, []) else if (d.l.length : Int) + d.e ≤ 0 then ([], zs (-((d.l.length : Int) + d.e)).toNat ++ d.l) else (d.l.take ((d.l.length : Int) + d.e).toNat, d.l.drop ((d.l.length : Int) + d.e).toNat)
def plainT (d : Tri) : List UInt8 := signL d.neg ++ (if (partsT d).1 = [] then [48] else (partsT d).1) ++ (if (partsT d).2 = [] then [] else 46 :: (partsT d).2)
theorem partsT_len (d : Tri) (h1 : d.l.length ≤ 1000000) (h2 : -30000 ≤ d.e) (h3 : d.e ≤ 30000) : (partsT d).1.length ≤ 1030000 ∧ (partsT d).2.length ≤ 1030000 := by
  unfold partsT
  split
  · simp [zs_length]; omega
  · split
    · simp [zs_length]; omega
    · simp; omega
theorem ret_cat3' (a b c : List UInt8) : Ending.returned (.string ((⟨a.toArray⟩ : ByteArray) ++ (⟨b.toArray⟩ : ByteArray) ++ ((⟨#[46]⟩ : ByteArray) ++ (⟨c.toArray⟩ : ByteArray)))) = .returned (S (a ++ b ++ 46 :: c)) := by
  rw [arr_append, show (⟨#[46]⟩ : ByteArray) = ⟨[46].toArray⟩ from rfl, arr_append, arr_append]; rfl
theorem ret_cat48 (a c : List UInt8) : Ending.returned (.string ((⟨a.toArray⟩ : ByteArray) ++ (⟨#[48]⟩ : ByteArray) ++ ((⟨#[46]⟩ : ByteArray) ++ (⟨c.toArray⟩ : ByteArray)))) = .returned (S (a ++ [48] ++ 46 :: c)) := ret_cat3' a [48] c
theorem ret_3 (a b c : List UInt8) : Ending.returned (.string ((⟨a.toArray⟩ : ByteArray) ++ (⟨b.toArray⟩ : ByteArray) ++ (⟨c.toArray⟩ : ByteArray))) = .returned (S (a ++ b ++ c)) := by
  rw [arr_append, arr_append]

end Go.Proofs.YtjhppbnelfandaaGreatDoor
