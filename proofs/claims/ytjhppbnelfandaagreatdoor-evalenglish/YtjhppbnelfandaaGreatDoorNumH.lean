/- What num.Of, num.Zeros and num.Times return, at any world in which the library's table of powers of ten stands. -/
import Derived.Lib.Repeat
import Derived.Test.YtjhppbnelfandaaGreatDoorNumG
import Derived.WalkSmall
import Derived.Lib.LaidTab
namespace Go.Proofs.YtjhppbnelfandaaGreatDoor
open Go.RowKit Florin
open Go.Sort (grow)

/-- The library's table of powers of ten stands in its variable. -/
def Tab (w : World) : Prop := Lib.TabIs Tryz.prog w "internal/strconv.uint64pow10" .u64 Lib.pow10Tab
theorem Tryz.pow10 : Tryz.prog.globalNamed "internal/strconv.uint64pow10" = some 6 := by kernel_rfl
theorem Tab.lt {w : World} (h : Tab w) : 6 < w.heap.size := by
  unfold Tab Lib.TabIs World.var? at h
  rw [Tryz.pow10] at h
  rcases Nat.lt_or_ge 6 w.heap.size with h1 | h1
  · exact h1
  · simp [Array.getElem?_eq_none h1] at h
theorem Tab.below {w w' : World} (h : Tab w) (hb : Below w.heap.size w w') : Tab w' := var?_below hb Tryz.pow10 h.lt h

theorem below_grow' (w : World) (k : Nat) (os : Array Obj) : Below w.heap.size w (grow (w.drewN k) os) :=
  ⟨rfl, rfl, rfl, by show w.heap.size ≤ (w.heap ++ os).size; rw [Array.size_append]; omega, fun j hj => by show (w.heap ++ os)[j]? = _; rw [Array.getElem?_append_left hj]⟩
theorem decDigits_dig (n : Nat) (h : 0 < n) : Lib.decDigits n = dig n := by
  induction n using Nat.strongRecOn with
  | ind n ih =>
    rw [Lib.decDigits, dig_pos (by omega)]
    by_cases h10 : n < 10
    · rw [dif_pos h10, show n / 10 = 0 by omega, dig_zero]
      unfold db
      rw [Nat.mod_eq_of_lt h10]; rfl
    · rw [dif_neg h10, ih (n / 10) (by omega) (by omega)]; rfl
theorem itoa_dig (n : Int) (h : 0 < n) : Lib.itoa n = dig n.toNat := by
  unfold Lib.itoa
  rw [if_neg (by omega), decDigits_dig _ (by omega)]
theorem repeatL_zero (c : Nat) : Lib.repeatL [48] c = List.replicate c 48 := by
  induction c with
  | zero => rfl
  | succ c ih => rw [Lib.repeatL, ih]; rfl

set_option maxHeartbeats 400000 in
theorem of_pos (n : Int) (w : World) (h0 : 0 < n) (h1 : n ≤ 9223372036854775807) (ht : Tab w) :
    Calls Tryz.prog 93 #[.int .i64 n] w fun e w' => e = .returned (S (dig n.toNat)) ∧ Below w.heap.size w w' := by
  have HD := Lib.hid (itoa_dig n h0)
  have HT := Lib.hid ht
  have H1 := Lib.hid h1
  clear ht h1
  go_enter Tryz.func93, Tryz.ntmps93
  go_wp2_with fail
  refine (Tryz.strconv_Itoa n (by omega) H1.out _ HT.out).mono ?_
  rintro e w' ⟨rfl, k, os, rfl⟩
  go_wp2
  go_ret
  exact ⟨ret_S HD.out, below_grow' _ _ _⟩
theorem of_neg (n : Int) (w : World) (h0 : n ≤ 0) :
    Calls Tryz.prog 93 #[.int .i64 n] w fun e w' => e = .returned (S []) ∧ w = w' := by
  go_enter Tryz.func93, Tryz.ntmps93
  go_wp2
  go_ret
  exact ⟨rfl, rfl⟩
theorem of_any (n : Int) (w : World) (h1 : n ≤ 9223372036854775807) (ht : Tab w) :
    Calls Tryz.prog 93 #[.int .i64 n] w fun e w' => e = .returned (S (dig n.toNat)) ∧ Below w.heap.size w w' := by
  by_cases h0 : 0 < n
  · exact of_pos n w h0 h1 ht
  · refine (of_neg n w (by omega)).mono ?_
    rintro e w' ⟨rfl, rfl⟩
    exact ⟨ret_S (by rw [show n.toNat = 0 by omega, dig_zero]), Below.refl _ _⟩

set_option maxHeartbeats 400000 in
theorem zeros_any (n : Int) (w : World) :
    Calls Tryz.prog 11 #[.int .i64 n] w fun e w' => e = .returned (S (List.replicate (min n.toNat 60000) 48)) ∧ Below w.heap.size w w' := by
  go_enter Tryz.func11, Tryz.ntmps11
  go_wp2_with fail
  rw [show min (max n 0) 60000 = ((min n.toNat 60000 : Nat) : Int) by omega]
  refine (Tryz.strings_Repeat _ _ _ (by omega) (by simp [ByteArray.size]; omega)).mono ?_
  rintro e w' ⟨rfl, hb⟩
  go_wp2
  go_ret
  refine ⟨ret_S ?_, hb⟩
  rw [← repeatL_zero]

theorem arr_append (x y : List UInt8) : ((⟨x.toArray⟩ : ByteArray) ++ (⟨y.toArray⟩ : ByteArray)) = ⟨(x ++ y).toArray⟩ := by
  apply ByteArray.ext
  simp [ByteArray.data_append]

theorem mul_lt_pow {l : List UInt8} (h : isDig l = true) (m : Nat) : mulC (val l) m l.length * 10 ^ l.length + val l * m % 10 ^ l.length = val l * m := mulC_end _ _ _ (val_lt l h)

end Go.Proofs.YtjhppbnelfandaaGreatDoor
