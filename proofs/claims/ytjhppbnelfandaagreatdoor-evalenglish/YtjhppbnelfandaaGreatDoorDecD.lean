/- What String of dec returns, at any world in which the library's table of powers of ten stands. -/
import Derived.Test.YtjhppbnelfandaaGreatDoorDecC
import Derived.Test.YtjhppbnelfandaaGreatDoorDText
import Derived.Deep.RegionHeld3
namespace Go.Proofs.YtjhppbnelfandaaGreatDoor
open Go.RowKit Florin

def signL (n : Bool) : List UInt8 := if n then [45] else []
theorem ret_cat (a b : List UInt8) : Ending.returned (.string ((⟨a.toArray⟩ : ByteArray) ++ (⟨b.toArray⟩ : ByteArray))) = .returned (S (a ++ b)) := by rw [arr_append]
theorem ret_cat3 (a b c : List UInt8) : Ending.returned (.string ((⟨a.toArray⟩ : ByteArray) ++ (⟨b.toArray⟩ : ByteArray) ++ ((⟨#[101]⟩ : ByteArray) ++ (⟨c.toArray⟩ : ByteArray)))) = .returned (S (a ++ b ++ 101 :: c)) := by
  rw [arr_append, show (⟨#[101]⟩ : ByteArray) = ⟨[101].toArray⟩ from rfl, arr_append, arr_append]; rfl
theorem below_drew' {B : Nat} {w w' : World} (h : Below B w.drew w') : Below B w w' := ⟨h.os, h.tape, h.output, h.size, h.block⟩
/-- The decimal digits of an int that isn't 0, with its sign. -/
def numT (n : Int) : List UInt8 := signL (decide (n < 0)) ++ dig n.natAbs
theorem itoa_numT (n : Int) (h : n ≠ 0) : Lib.itoa n = numT n := by
  unfold numT signL
  by_cases hn : n < 0
  · unfold Lib.itoa
    rw [if_pos hn, decDigits_dig _ (by omega)]; simp [hn]
  · rw [itoa_dig n (by omega)]
    simp [hn]
    congr 1; omega
theorem itoa_as (n : Int) (w : World) (h : n ≠ 0) (h0 : -30000 ≤ n) (h1 : n ≤ 30000) (ht : Tab w) :
    Calls Tryz.prog 104 #[.int .i64 n] w fun x w' => x = .returned (S (numT n)) ∧ Below w.heap.size w w' := by
  refine (Tryz.strconv_Itoa n (by omega) (by omega) w ht).mono ?_
  rintro e w' ⟨rfl, k, os, rfl⟩
  exact ⟨by rw [itoa_numT n h], below_grow' _ _ _⟩
theorem numT_len (n : Int) (h0 : -30000 ≤ n) (h1 : n ≤ 30000) : (numT n).length ≤ 6 := by
  unfold numT signL
  have : (dig n.natAbs).length ≤ 5 := (dig_length_le _ _).2 (by have : (10 : Nat) ^ 5 = 100000 := by decide
                                                                omega)
  rw [List.length_append]
  split <;> simp <;> omega

/-- The text of a decimal. -/
def textT (d : Tri) : List UInt8 := if d.l = [] then [48] else signL d.neg ++ d.l ++ (if d.e = 0 then [] else 101 :: numT d.e)
end Go.Proofs.YtjhppbnelfandaaGreatDoor
