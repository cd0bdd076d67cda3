/- GlyphWrites: digits by their signs, and back, with something behind them. -/
import Derived.Test.YtcdjclidckohpaaDoorLawG3p
namespace Go.Proofs.YtcdjclidckohpaaDoor
open Go.RowKit Florin
set_option linter.unusedVariables false
set_option linter.unusedSimpArgs false
theorem app_arr (l : List UInt8) (b : ByteArray) : ((⟨l.toArray⟩ : ByteArray) ++ b) = ⟨(l ++ b.data.toList).toArray⟩ := by
  apply ByteArray.ext
  rw [ByteArray.data_append]
  apply Array.ext'
  simp
theorem rd_all {g : Nat → ByteArray} (hs : ∀ k, k < 10 → isSg (g k)) (hv : validG g = true) (d : List UInt8) (hd : isDig d = true) : rdG g (wrL g d) = (d, (wrL g d).length) := by
  have := rd_write hs hv (one_nil g) d hd
  rw [List.append_nil] at this
  exact this
set_option maxHeartbeats 6400000 in
set_option maxRecDepth 100000 in
theorem glyphWrites_walk (n : Nat → Int) (a : Option Addr) (len cap : Nat) (L : List UInt8) (m : Int) (W : World) (w0 : ∀ k, k < 10 → (Lit.int .i64 (n k)).wf = true) (hin : InB W a len cap L) (w2 : (Lit.int .i64 m).wf = true) (hT : Tabs W) :
    Calls Tryd.prog 5 #[IV n, .slice a len cap, .int .i64 m] W fun e w' => e = .returned (.bool true) ∧ Below W.heap.size W w' := by
  have HT := Lib.hid hT
  have HIN := Lib.hid hin
  have hll : L.length = len := hin.1
  clear hT w0 w2 hin
  have B0 : Hid (Below W.heap.size W (W.alloc (.cells #[.int .i64 (n 0), .int .i64 (n 1), .int .i64 (n 2), .int .i64 (n 3), .int .i64 (n 4), .int .i64 (n 5), .int .i64 (n 6), .int .i64 (n 7), .int .i64 (n 8), .int .i64 (n 9)] 30))) := Lib.hid ((Below.refl _ _).alloc (Nat.le_refl _) _)
  have N0 := Lib.hid (Nm.new W n 30)
  by_cases h60 : (60 : Int) < (len : Int)
  · go_enter Tryd.func5, Tryd.ntmps5
    go_wp2_with fail
    with_reducible refine (head9 _ (HT.out.below B0.out)).mono ?_
    rintro e w1 ⟨rfl, b1⟩
    have B1 := Lib.hid (B0.out.trans (b1.mono B0.out.size))
    clear b1
    go_wp2
    go_ret
    exact ⟨rfl, B1.out⟩
  · go_enter Tryd.func5, Tryd.ntmps5
    go_wp2_with fail
    with_reducible refine (head9 _ (HT.out.below B0.out)).mono ?_
    rintro e w1 ⟨rfl, b1⟩
    have B1 := Lib.hid (B0.out.trans (b1.mono B0.out.size))
    obtain ⟨q0, q1, q2, q3, q4, q5, q6, q7, q8, q9⟩ := nm_all (N0.out.below (B := World.heap _ |>.size) (by simp) b1)
    clear b1 B0 N0
    go_wp2_with fail
    with_reducible refine (set_as2 n _).mono ?_
    rintro e w2 ⟨g, hs, hg, rfl, b2⟩
    clear q0 q1 q2 q3 q4 q5 q6 q7 q8 q9
    have HS := Lib.hid hs
    have HG := Lib.hid hg
    have HG3 : Hid (∀ k, (g k).size ≤ 1000) := Lib.hid (fun k => by have := hg k; omega)
    have b3 := B1.out.trans (b2.mono B1.out.size)
    have B2 := Lib.hid (b3.alloc b3.size (.cells (SC g) 33))
    have G0 := Lib.hid (Gs.new w2 g 33)
    clear hs hg b2 b3 B1
    have hdl := dgs_length L
    obtain ⟨q0, q1, q2, q3, q4, q5, q6, q7, q8, q9⟩ := G0.out.all
    go_wp2_with fail
    with_reducible refine (digits_any a len cap L _ (HIN.out.below B2.out) (by omega)).mono ?_
    rintro e w3 ⟨rfl, b3⟩
    clear q0 q1 q2 q3 q4 q5 q6 q7 q8 q9
    have B3 := Lib.hid (B2.out.trans (b3.mono B2.out.size))
    have G1 := Lib.hid (G0.out.below (B := World.heap _ |>.size) G0.out.1 b3 b3.size)
    clear G0
    clear b3 B2
    obtain ⟨q0, q1, q2, q3, q4, q5, q6, q7, q8, q9⟩ := G1.out.all
    go_wp2_with fail
    with_reducible refine (writeL g (dgs L) _ (by omega) HG3.out (dgs_dig L)).mono ?_
    rintro e w4 ⟨rfl, b4⟩
    clear q0 q1 q2 q3 q4 q5 q6 q7 q8 q9
    have B4 := Lib.hid (B3.out.trans (b4.mono B3.out.size))
    have G2 := Lib.hid (G1.out.below (B := World.heap _ |>.size) G1.out.1 b4 b4.size)
    clear G1
    clear b4 B3
    have hwl := wrL_len g 4 HG.out (dgs L)
    have G4l := G2.out.1
    go_wp2_with fail
    go_loopw [10, 11] (fun v i wr => ∃ k : Nat, k ≤ (dgs L).length ∧ i = .int .i64 k ∧ v = S (wrL g ((dgs L).take k)) ∧ wr = w4) (fun _ i _ => (dgs L).length - (intOf i).toNat)
    case atStart => exact ⟨0, Nat.zero_le _, rfl, by simp [wrL], rfl⟩
    case round =>
      obtain ⟨k, hk, rfl, rfl, rfl⟩ := hrel
      have hsz := arr_size (dgs L)
      by_cases hlt : k < (dgs L).length
      · have hki : (k : Int) < ((dgs L).length : Int) := by omega
        have hdk : 48 ≤ ((dgs L)[k]).toNat ∧ ((dgs L)[k]).toNat ≤ 57 := by
          have := dgs_dig L
          unfold isDig at this
          have := (isD_iff _).1 (List.all_eq_true.1 this (dgs L)[k] (List.getElem_mem _))
          omega
        have hge : ∀ (h : k < (⟨(dgs L).toArray⟩ : ByteArray).size), (⟨(dgs L).toArray⟩ : ByteArray)[k]'h = (dgs L)[k] := fun h => rfl
        have HTK := Lib.hid (List.take_succ_eq_append_getElem hlt)
        have hcell := G2.out.2 ((dgs L)[k].toNat - 48) (by omega)
        have hw1 := wrL_len g 4 HG.out ((dgs L).take k)
        have hw2 := List.length_take_le k (dgs L)
        have hgk := HG.out ((dgs L)[k].toNat - 48)
        go_wp2
        go_roundw
        case rel => exact ⟨k + 1, by omega, by go_num, by rw [HTK.out, wrL_snoc, app_arr], trivial⟩
        case measure => simp [intOf]; omega
      · have HTK : Hid ((dgs L).take k = dgs L) := Lib.hid (List.take_of_length_le (by omega))
        have zw := arr_size (wrL g (dgs L))
        have zd := arr_size (dgs L)
        rw [HTK.out]
        obtain ⟨q0, q1, q2, q3, q4, q5, q6, q7, q8, q9⟩ := G2.out.all
        go_wp2_with fail
        with_reducible refine (write_one g _).mono ?_
        rintro e w5 ⟨rfl, b5⟩
        clear q0 q1 q2 q3 q4 q5 q6 q7 q8 q9
        have B5 := Lib.hid (B4.out.trans (b5.mono B4.out.size))
        have G3 := Lib.hid (G2.out.below (B := World.heap _ |>.size) G2.out.1 b5 b5.size)
        clear G2
        clear b5 B4
        obtain ⟨q0, q1, q2, q3, q4, q5, q6, q7, q8, q9⟩ := G3.out.all
        go_wp2_with fail
        with_reducible refine (write_nil g _ HG3.out).mono ?_
        rintro e w6 ⟨rfl, b6⟩
        clear q0 q1 q2 q3 q4 q5 q6 q7 q8 q9
        have B6 := Lib.hid (B5.out.trans (b6.mono B5.out.size))
        have G4 := Lib.hid (G3.out.below (B := World.heap _ |>.size) G3.out.1 b6 b6.size)
        clear G3
        clear b6 B5
        cases hv : validG g with
        | false =>
          have HV := Lib.hid hv
          clear hv
          obtain ⟨q0, q1, q2, q3, q4, q5, q6, q7, q8, q9⟩ := G4.out.all
          go_wp2_with fail
          with_reducible refine (gvalid_as g _ (HT.out.below B6.out) HG3.out false HV.out).mono ?_
          rintro e w7 ⟨rfl, b7⟩
          clear q0 q1 q2 q3 q4 q5 q6 q7 q8 q9
          have B7 := Lib.hid (B6.out.trans (b7.mono B6.out.size))
          have G5 := Lib.hid (G4.out.below (B := World.heap _ |>.size) G4.out.1 b7 b7.size)
          clear G4
          clear b7 B6
          go_wp2
          go_ret
          exact ⟨rfl, B7.out⟩
        | true =>
          have HV := Lib.hid hv
          clear hv
          obtain ⟨q0, q1, q2, q3, q4, q5, q6, q7, q8, q9⟩ := G4.out.all
          go_wp2_with fail
          with_reducible refine (gvalid_as g _ (HT.out.below B6.out) HG3.out true HV.out).mono ?_
          rintro e w7 ⟨rfl, b7⟩
          clear q0 q1 q2 q3 q4 q5 q6 q7 q8 q9
          have B7 := Lib.hid (B6.out.trans (b7.mono B6.out.size))
          have G5 := Lib.hid (G4.out.below (B := World.heap _ |>.size) G4.out.1 b7 b7.size)
          clear G4
          clear b7 B6
          obtain ⟨q0, q1, q2, q3, q4, q5, q6, q7, q8, q9⟩ := G5.out.all
          go_wp2_with fail
          with_reducible refine (point_as _ _).mono ?_
          rintro e w_ ⟨q, hq, rfl, rfl⟩
          have HQ := Lib.hid hq
          have lq := sign_len q
          have zq := arr_size (signL q)
          have pl := pt_le hq
          clear hq
          clear q0 q1 q2 q3 q4 q5 q6 q7 q8 q9
          obtain ⟨q0, q1, q2, q3, q4, q5, q6, q7, q8, q9⟩ := G5.out.all
          go_wp2_with fail
          with_reducible refine (sign_as q HQ.out _).mono ?_
          rintro e w8 ⟨rfl, b8⟩
          clear q0 q1 q2 q3 q4 q5 q6 q7 q8 q9
          have B8 := Lib.hid (B7.out.trans (b8.mono B7.out.size))
          have G6 := Lib.hid (G5.out.below (B := World.heap _ |>.size) G5.out.1 b8 b8.size)
          clear G5
          clear b8 B7
          cases ho : oneG g (signL q) with
          | some d =>
            have HO := Lib.hid ho
            have hd10 := (oneG_hit ho).1
            have hgd : g d = ⟨(signL q).toArray⟩ := bytes_inj.1 (by rw [one_tail HS.out HQ.out ho, arr_list])
            have hdi : (0 : Int) ≤ (d : Int) := by omega
            clear ho
            obtain ⟨q0, q1, q2, q3, q4, q5, q6, q7, q8, q9⟩ := G6.out.all
            go_wp2_with fail
            with_reducible refine (gone_as g _ _ HG3.out (.tuple #[.int .i64 (d : Int), .int .i64 ((g d).size : Int)]) (by rw [arr_list]; exact oneV_at HO.out)).mono ?_
            rintro e w9 ⟨rfl, b9⟩
            clear q0 q1 q2 q3 q4 q5 q6 q7 q8 q9
            have B9 := Lib.hid (B8.out.trans (b9.mono B8.out.size))
            have G7 := Lib.hid (G6.out.below (B := World.heap _ |>.size) G6.out.1 b9 b9.size)
            clear G6
            clear b9 B8
            have hcd := G7.out.2 d hd10
            rw [hgd] at hcd
            rw [hgd]
            go_wp2
            go_ret
            exact ⟨rfl, B9.out⟩
          | none =>
            have HO := Lib.hid ho
            clear ho
            obtain ⟨q0, q1, q2, q3, q4, q5, q6, q7, q8, q9⟩ := G6.out.all
            go_wp2_with fail
            with_reducible refine (gone_as g _ _ HG3.out (.tuple #[.int .i64 (-1), .int .i64 0]) (by rw [arr_list]; exact oneV_no HO.out)).mono ?_
            rintro e w9 ⟨rfl, b9⟩
            clear q0 q1 q2 q3 q4 q5 q6 q7 q8 q9
            have B9 := Lib.hid (B8.out.trans (b9.mono B8.out.size))
            have G7 := Lib.hid (G6.out.below (B := World.heap _ |>.size) G6.out.1 b9 b9.size)
            clear G6
            clear b9 B8
            obtain ⟨q0, q1, q2, q3, q4, q5, q6, q7, q8, q9⟩ := G7.out.all
            go_wp2_with fail
            with_reducible refine (read_as g _ _ HG3.out (by rw [app_size]; omega) (dgs L) (wrL g (dgs L)).length (by rw [app_list, arr_list, arr_list]; exact rd_write HS.out HV.out HO.out _ (dgs_dig L))).mono ?_
            rintro e w10 ⟨rfl, b10⟩
            clear q0 q1 q2 q3 q4 q5 q6 q7 q8 q9
            have B10 := Lib.hid (B9.out.trans (b10.mono B9.out.size))
            have G8 := Lib.hid (G7.out.below (B := World.heap _ |>.size) G7.out.1 b10 b10.size)
            clear G7
            clear b10 B9
            obtain ⟨q0, q1, q2, q3, q4, q5, q6, q7, q8, q9⟩ := G8.out.all
            go_wp2_with fail
            with_reducible refine (read_as g _ _ HG3.out (by omega) (dgs L) (wrL g (dgs L)).length (by rw [arr_list]; exact rd_all HS.out HV.out _ (dgs_dig L))).mono ?_
            rintro e w11 ⟨rfl, b11⟩
            clear q0 q1 q2 q3 q4 q5 q6 q7 q8 q9
            have B11 := Lib.hid (B10.out.trans (b11.mono B10.out.size))
            have G9 := Lib.hid (G8.out.below (B := World.heap _ |>.size) G8.out.1 b11 b11.size)
            clear G8
            clear b11 B10
            go_wp2
            go_ret
            exact ⟨rfl, B11.out⟩
end Go.Proofs.YtcdjclidckohpaaDoor
