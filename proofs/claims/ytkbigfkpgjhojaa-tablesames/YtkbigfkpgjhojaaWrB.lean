/- The writer of numbers and texts: what Num and Text return. -/
import Derived.Test.YtkbigfkpgjhojaaWrA
import Derived.Deep.DrawnRows
namespace Go.Proofs.Ytkbigfkpgjhojaa
open Go.RowKit Florin
set_option linter.unusedVariables false
set_option linter.unusedSimpArgs false
attribute [local go_sem ↓] Go.wp_at_zero Go.wp_at_succ
theorem bv_byte {n : Nat} (h : n < 256) : Value.int .u8 (n : Int) = bv (UInt8.ofNat n) := by rw [bv, byte_nat h]
set_option maxRecDepth 100000 in
set_option maxHeartbeats 3200000 in
theorem wnum_as (B b : Nat) (L : List (List UInt8)) (n : Int) (w : World) (h : WrT w B b L) (hn : n ≤ 9223372036854775807) (ht : tot L ≤ 999999000) :
    Calls Try.prog 32 #[ptr b, .int .i64 n] w fun e w' => e = .returned (ptr b) ∧ WrT w' B b (vnum n.toNat :: L) ∧ w.grownBy w' (some b) := by
  obtain ⟨i0, hi, hz0, hz1, hz2⟩ := info_parts infoB
  have HW := Lib.hid h
  have hBs : b < w.heap.size := h.lt
  clear h
  obtain ⟨N, hN⟩ : ∃ N : Nat, N = n.toNat := ⟨_, rfl⟩
  have hN2 : max n 0 = (N : Int) := by omega
  have hN3 : N ≤ 9223372036854775807 := by omega
  have HN2 := Lib.hid hN2
  have HV : Hid (vnum n.toNat = vnum N) := Lib.hid (by rw [hN])
  have H9 := Lib.hid (vnum_nine (n := N) (by omega))
  clear hN hN2
  rcases (show n < 0 ∨ 0 ≤ n by omega) with hneg | hnn
  all_goals
   go_enter Try.func32, Try.ntmps32
   go_wp2_with fail
   go_loopw [5, 6] (fun x v wr => ∃ (m : Nat) (g : List UInt8), x = .int .i64 (m : Int) ∧ m ≤ 9223372036854775807 ∧ OwnB wr w.heap.size v g ∧ g ++ vnum m = vnum N ∧ g.length ≤ 9 ∧ Below w.heap.size w wr) (fun x _ _ => (intOf x).toNat)
   case atStart => exact ⟨N, [], congrArg (Value.int .i64) (by have := HN2.out; omega), hN3, OwnB.nil _ _, rfl, Nat.zero_le _, Below.refl _ _⟩
   case round =>
     obtain ⟨m, g, rfl, hm, hown, hg, hgl, hb⟩ := hrel
     have HO := Lib.hid hown
     have HG := Lib.hid hg
     have HB := Lib.hid hb
     have hws := hb.size
     clear hown hg hb
     by_cases hlt : 128 ≤ m
     · have hge : (128 : Int) ≤ (m : Int) := by omega
       have h256 : m % 128 + 128 < 256 := by omega
       have HV2 := Lib.hid (vnum_ge (n := m) hlt)
       go_wp2_with (at_builtin; refine wpList_append_own _ rfl _ _ 81 rfl w.heap.size 5 i0 (.int .u8 0) 1 1 Try.underlying81 hi hz0 hz1 hz2 rfl (by decide) _ _ _ rfl (OwnB.below HO.out ((Below.refl _ _).alloc (Nat.le_refl _) _)) ⟨wr.heap.size, 0, none⟩ 1 1 [.int .u8 ((m : Int) % 128 + 128)] rfl rfl (news_one _ _) (one_u8 _) (len_max (by omega)) (by omega) (alloc_ge hws _) ?_)
       intro v6 w6 hown6 hgr6 _
       have BEL : Hid (Below w.heap.size w w6) := Lib.hid ((HB.out.alloc hws _).grown hgr6 (by simp; omega) (fun j hj => (World.ownsRow.lt HO.out j hj).1))
       have OW6 : Hid (OwnB w6 w.heap.size v6 (g ++ [UInt8.ofNat (m % 128 + 128)])) := Lib.hid (by
         show w6.ownsRow _ _ _ _ _ _
         rw [List.length_append, List.map_append, List.map_singleton, ← bv_byte h256]
         exact hown6)
       clear hown6 hgr6
       go_wp2
       go_roundw
       case rel =>
         have e : (g ++ [UInt8.ofNat (m % 128 + 128)]) ++ vnum (m / 128) = vnum N := by rw [← HG.out, HV2.out]; simp
         refine ⟨m / 128, g ++ [UInt8.ofNat (m % 128 + 128)], by go_num, by omega, OW6.out, e, ?_, BEL.out⟩
         have h1 := congrArg List.length e
         have h2 := H9.out
         have h3 := vnum_pos (m / 128)
         rw [List.length_append] at h1
         omega
       case measure => simp [intOf]; omega
     · have hge : ¬ (128 : Int) ≤ (m : Int) := by omega
       have h256 : m < 256 := by omega
       have HV2 := Lib.hid (vnum_lt (n := m) (by omega))
       go_wp2_with (at_builtin; refine wpList_append_own _ rfl _ _ 81 rfl w.heap.size 5 i0 (.int .u8 0) 1 1 Try.underlying81 hi hz0 hz1 hz2 rfl (by decide) _ _ _ rfl (OwnB.below HO.out ((Below.refl _ _).alloc (Nat.le_refl _) _)) ⟨wr.heap.size, 0, none⟩ 1 1 [.int .u8 (m : Int)] rfl rfl (news_one _ _) (one_u8 _) (len_max (by omega)) (by omega) (alloc_ge hws _) ?_)
       intro v6 w6 hown6 hgr6 _
       have BEL : Hid (Below w.heap.size w w6) := Lib.hid ((HB.out.alloc hws _).grown hgr6 (by simp; omega) (fun j hj => (World.ownsRow.lt HO.out j hj).1))
       have e : g ++ [UInt8.ofNat m] = vnum N := by rw [← HG.out, HV2.out]
       have OW6 : OwnB w6 w.heap.size v6 (g ++ [UInt8.ofNat m]) := by
         show w6.ownsRow _ _ _ _ _ _
         rw [List.length_append, List.map_append, List.map_singleton, ← bv_byte h256]
         exact hown6
       rw [e] at OW6
       have hcv := conv_own OW6
       have h9 := H9.out
       clear hown6 hgr6 e OW6
       generalize vnum N = V at *
       go_wp2_with fail
       with_reducible refine (lay_as B b L V _ (HW.out.below BEL.out) (by omega)).mono ?_
       rintro e w7 ⟨rfl, hW7, hg7⟩
       have HW7 := Lib.hid hW7
       have HG7 := Lib.hid hg7
       clear hW7 hg7
       go_wp2
       go_ret
       exact ⟨rfl, by rw [HV.out]; exact HW7.out, grown_trans (grown_of_below BEL.out _) HG7.out⟩
set_option maxRecDepth 100000 in
set_option maxHeartbeats 1600000 in
theorem wtext_as (B b : Nat) (L : List (List UInt8)) (t : List UInt8) (w : World) (h : WrT w B b L) (ht : tot L + t.length ≤ 999999000) :
    Calls Try.prog 31 #[ptr b, S t] w fun e w' => e = .returned (ptr b) ∧ WrT w' B b (t :: vnum t.length :: L) ∧ w.grownBy w' (some b) := by
  have HW := Lib.hid h
  clear h
  have hsz : (⟨t.toArray⟩ : ByteArray).size = t.length := arr_size t
  go_enter Try.func31, Try.ntmps31
  go_wp2_with fail
  with_reducible refine (wnum_as B b L _ _ HW.out (by omega) (by omega)).mono ?_
  rintro e w1 ⟨rfl, h1, g1⟩
  have H1 := Lib.hid h1
  have G1 := Lib.hid g1
  have h9 : (vnum t.length).length ≤ 9 := vnum_nine (by omega)
  clear h1 g1
  go_wp2_with fail
  with_reducible refine (lay_as B b _ t _ H1.out ?_).mono ?_
  · show tot L + (vnum (Int.toNat _)).length + t.length ≤ _
    rw [Int.toNat_natCast]; omega
  rintro e w2 ⟨rfl, h2, g2⟩
  have H2 := Lib.hid h2
  have G2 := Lib.hid g2
  clear h2 g2
  go_wp2
  go_ret
  refine ⟨rfl, ?_, grown_trans G1.out G2.out⟩
  have h := H2.out
  rw [Int.toNat_natCast] at h
  exact h
end Go.Proofs.Ytkbigfkpgjhojaa
