/- The walk of the law NumDivs. -/
import Derived.Test.YtnhaogjkbladaaaDoorNumS
namespace Go.Proofs.YtnhaogjkbladaaaDoor
open Go.RowKit Florin

set_option maxRecDepth 100000 in
set_option maxHeartbeats 1000000 in
theorem numDivs_walk (a : Option Addr) (len cap : Nat) (L : List UInt8) (m : Int) (w : World) (hin : InB w a len cap L) (_hm : (Lit.int .i64 m).wf = true) (ht : Tab w) :
    Calls Tryd.prog 9 #[.slice a len cap, .int .i64 m] w fun e w' => e = .returned (.bool true) ∧ Below w.heap.size w w' := by
  have HIN := Lib.hid hin
  have HT := Lib.hid ht
  obtain ⟨k, k1, k2, hand⟩ : ∃ k : Nat, 1 ≤ k ∧ k ≤ 536870912 ∧ wrap64 (1 + bits .and .i64 m 536870911) = (k : Int) := by
    obtain ⟨k, hk, he⟩ := and_mask m 536870911 (by decide)
    refine ⟨k + 1, by omega, by omega, ?_⟩
    have he' : bits .and .i64 m 536870911 = (k : Int) := he
    rw [he']
    unfold wrap64
    omega
  have hlen := hin.1
  have hcap := hin.2.1
  have hmax := hin.2.2.1
  unfold maxLen at hmax
  clear hin ht
  by_cases h : len ≤ 200
  · have hL : L.length ≤ 200 := by omega
    have hV := val_dgs_lt L hL
    have hdl : (dgs L).length ≤ 1000000 := by rw [dgs_length]; omega
    have HID := Lib.hid (isDig_dgs L)
    have HLEN := Lib.hid hlen
    clear hlen
    have e1 : (dig (val (dgs L) / k)).length ≤ 1000000 := dig_len (k := 200) (Nat.lt_of_le_of_lt (Nat.div_le_self _ _) hV) (by decide)
    have e2 : (dig (val (dgs L) % k)).length ≤ 1000000 := dig_len (k := 200) (Nat.lt_of_le_of_lt (Nat.mod_le _ _) hV) (by decide)
    have e3 : (dig (val (dgs L) / k * k)).length ≤ 1000000 := dig_len (k := 200) (Nat.lt_of_le_of_lt (Nat.div_mul_le_self _ _) hV) (by decide)
    have e4 : val (dgs L) / k * k + val (dgs L) % k = val (dgs L) := by rw [Nat.mul_comm]; exact Nat.div_add_mod _ _
    have e5 : val (dgs L) % k < k := Nat.mod_lt _ k1
    have E4 := Lib.hid e4
    clear e4 hV
    go_enter Tryd.func9, Tryd.ntmps9
    go_wp2_with fail
    refine (head_any _).mono ?_
    rintro e w1 ⟨rfl, hb1⟩
    go_wp2_with fail
    refine (digits_any a len cap L _ (HIN.out.below hb1) (by omega)).mono ?_
    rintro e w2 ⟨rfl, hb2⟩
    go_wp2_with fail
    refine (divS (dgs L) k _ hdl HID.out k1 (by omega)).mono ?_
    rintro e w3 ⟨rfl, hb3⟩
    go_wp2_with fail
    refine (divS_out (dgs L) 0 _ hdl HID.out (by omega)).mono ?_
    rintro e w4 ⟨rfl, rfl⟩
    go_wp2_with fail
    refine (divS_out (dgs L) 1000000001 _ hdl HID.out (by omega)).mono ?_
    rintro e w4 ⟨rfl, rfl⟩
    go_wp2_with fail
    refine (bareN _ _ e1).mono ?_
    rintro e w4 ⟨rfl, rfl⟩
    go_wp2_with fail
    refine (timesN _ k _ e1 (by omega) (((HT.out.below hb1).below hb2).below hb3)).mono ?_
    rintro e w4 ⟨rfl, hb4⟩
    go_wp2_with fail
    rw [show ((val (dgs L) : Int) % (k : Int)) = ((val (dgs L) % k : Nat) : Int) by simp]
    refine (ofN _ _ (by omega) ((((HT.out.below hb1).below hb2).below hb3).below hb4)).mono ?_
    rintro e w5 ⟨rfl, hb5⟩
    go_wp2_with fail
    refine (addN _ _ _ e3 e2).mono ?_
    rintro e w6 ⟨rfl, hb6⟩
    rw [E4.out]
    go_wp2_with fail
    refine (bareS (dgs L) _ hdl HID.out).mono ?_
    rintro e w7 ⟨rfl, rfl⟩
    go_wp2
    go_ret
    have s1 := hb1.size
    have s2 := hb2.size
    have s3 := hb3.size
    have s4 := hb4.size
    have s5 := hb5.size
    exact ⟨rfl, hb1.trans ((hb2.mono (by omega)).trans ((hb3.mono (by omega)).trans ((hb4.mono (by omega)).trans ((hb5.mono (by omega)).trans (hb6.mono (by omega))))))⟩
  · go_enter Tryd.func9, Tryd.ntmps9
    go_wp2_with fail
    refine (head_any _).mono ?_
    rintro e w1 ⟨rfl, hb1⟩
    go_wp2
    go_ret
    exact ⟨rfl, hb1⟩
end Go.Proofs.YtnhaogjkbladaaaDoor
