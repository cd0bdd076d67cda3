/- GlyphRight: whatever bytes: right, and how many signs. -/
import Derived.Test.YtcdjclidckohpaaDoorLawG1
import Derived.Test.YtcdjclidckohpaaDoorGlL
namespace Go.Proofs.YtcdjclidckohpaaDoor
open Go.RowKit Florin
set_option linter.unusedVariables false
set_option linter.unusedSimpArgs false
theorem fst_some (l : List UInt8) : ∃ q, fstL l = (q, decide (lead l ≠ 0)) := by
  unfold fstL
  by_cases h : lead l = 0
  · exact ⟨0, by rw [if_pos h]; simp [h]⟩
  · exact ⟨code l, by rw [if_neg h]; simp [h]⟩
theorem lst_some {l : List UInt8} (h : rightL l = true) : ∃ q, lstL (97 :: l) = (q, true) := by
  by_cases hn : l = []
  · subst hn
    exact ⟨_, lst_end (q := [97]) (by decide) (by decide) []⟩
  · obtain ⟨p, q, rfl, hq, hl⟩ := right_last l.length l (Nat.le_refl _) hn h
    exact ⟨code q, lst_end hl hq (97 :: p)⟩
theorem sig_end {l : List UInt8} {k c : Nat} (h : sigs l = (sigs (l.drop k)).map (· + c)) (hk : l.length ≤ k) : rightL l = true ∧ oneL l = (c == 1) := by
  rw [List.drop_eq_nil_iff.2 hk, sigs_nil] at h
  unfold rightL oneL
  rw [h]
  simp
theorem sig_bad {l : List UInt8} {k c : Nat} (h : sigs l = (sigs (l.drop k)).map (· + c)) (hk : k < l.length) (h0 : lead (l.drop k) = 0) : rightL l = false ∧ oneL l = false := by
  have hne : l.drop k ≠ [] := by intro h2; have := List.drop_eq_nil_iff.1 h2; omega
  rw [sigs_bad hne h0] at h
  unfold rightL oneL
  rw [h]
  exact ⟨rfl, rfl⟩
theorem sig_go {l : List UInt8} {k c n : Nat} (h : sigs l = (sigs (l.drop k)).map (· + c)) (hk : k < l.length) (hn : lead (l.drop k) = n) (h0 : n ≠ 0) : sigs l = (sigs (l.drop (k + n))).map (· + (c + 1)) ∧ k + n ≤ l.length := by
  have hne : l.drop k ≠ [] := by intro h2; have := List.drop_eq_nil_iff.1 h2; omega
  have hle := lead_le (l.drop k)
  rw [List.length_drop] at hle
  rw [sigs_step hne (by omega), hn, List.drop_drop] at h
  refine ⟨?_, by omega⟩
  rw [h, Option.map_map]
  congr 1
  funext x
  show x + 1 + c = x + (c + 1)
  omega
theorem a_list (s : ByteArray) : ((⟨#[97]⟩ : ByteArray) ++ s).data.toList = 97 :: s.data.toList := by rw [app_list]; rfl
theorem le_a {s : ByteArray} (h : s.size ≤ 100) : (⟨#[97]⟩ : ByteArray).size + s.size ≤ 1000000 := by
  have : (⟨#[97]⟩ : ByteArray).size = 1 := by decide
  omega
set_option maxHeartbeats 6400000 in
set_option maxRecDepth 100000 in
theorem glyphRight_walk (s : ByteArray) (W : World) (w0 : s.size ≤ maxLen) (hT : Tabs W) :
    Calls Tryd.prog 3 #[.string s] W fun e w' => e = .returned (.bool true) ∧ Below W.heap.size W w' := by
  have HT := Lib.hid hT
  clear hT
  unfold maxLen at w0
  by_cases h100 : (100 : Int) < (s.size : Int)
  · go_enter Tryd.func3, Tryd.ntmps3
    go_wp2_with fail
    with_reducible refine (head9 _ HT.out).mono ?_
    rintro e w1 ⟨rfl, b1⟩
    have B1 := Lib.hid b1
    clear b1
    go_wp2
    go_ret
    exact ⟨rfl, B1.out⟩
  · have HSZ : Hid (s.size ≤ 100) := Lib.hid (by omega)
    obtain ⟨f0, HF⟩ := fst_some s.data.toList
    have HF := Lib.hid HF
    go_enter Tryd.func3, Tryd.ntmps3
    go_wp2_with fail
    with_reducible refine (head9 _ HT.out).mono ?_
    rintro e w1 ⟨rfl, b1⟩
    have B1 := Lib.hid b1
    clear b1
    go_wp2_with fail
    go_loopw [3, 4] (fun u v wr => ∃ c k : Nat, c ≤ k ∧ k ≤ s.size ∧ u = .int .i64 c ∧ v = .int .i64 k ∧ sigs s.data.toList = (sigs (s.data.toList.drop k)).map (· + c) ∧ Below W.heap.size W wr) (fun _ v _ => s.size - (intOf v).toNat)
    case atStart => exact ⟨0, 0, Nat.le_refl _, Nat.zero_le _, rfl, rfl, by simp, B1.out⟩
    case round =>
      obtain ⟨c, k, hck, hk, rfl, rfl, hs, hb⟩ := hrel
      have HS := Lib.hid hs
      have BR := Lib.hid hb
      clear hs hb B1
      by_cases hlt : (k : Int) < (s.size : Int)
      · have hki : (k : Int) ≤ (s.size : Int) := by omega
        obtain ⟨n, hn⟩ : ∃ n, lead (s.data.toList.drop k) = n := ⟨_, rfl⟩
        have hle := lead_le (s.data.toList.drop k)
        rw [hn, List.length_drop, size_list] at hle
        have HN := Lib.hid hn
        clear hn
        by_cases h0 : n = 0
        · subst h0
          have HBAD := Lib.hid (sig_bad HS.out (by rw [size_list]; omega) HN.out)
          obtain ⟨⟨q2, b2⟩, HL⟩ : ∃ x, lstL (97 :: s.data.toList) = x := ⟨_, rfl⟩
          have HL := Lib.hid HL
          have hne : ((k : Int) == (s.size : Int)) = false := by simp; omega
          by_cases hz : lead s.data.toList = 0
          · have LZ := Lib.hid hz
            have HF2 : Hid (fstL s.data.toList = (f0, false)) := Lib.hid (by rw [HF.out]; simp [hz])
            clear hz
            go_wp2_with fail
            with_reducible refine (lead_as _ _ (by rw [ext_size]; omega) 0 (by rw [ext_list]; exact HN.out)).mono ?_
            rintro e w_ ⟨rfl, rfl⟩
            go_wp2_with fail
            with_reducible refine (first_as s _ (HT.out.below BR.out) _ _ HF2.out).mono ?_
            rintro e w1 ⟨rfl, b1⟩
            have B1 := Lib.hid (BR.out.trans (b1.mono BR.out.size))
            clear b1
            go_wp2_with fail
            with_reducible refine (last_as _ _ (HT.out.below B1.out) (by rw [app_size]; exact le_a HSZ.out) q2 b2 (by rw [a_list]; exact HL.out)).mono ?_
            rintro e w2 ⟨rfl, b2⟩
            have B2 := Lib.hid (B1.out.trans (b2.mono B1.out.size))
            clear b2
            go_wp2_with fail
            with_reducible refine (right_as s _ (HT.out.below B2.out) (by omega) false HBAD.out.1).mono ?_
            rintro e w3 ⟨rfl, b3⟩
            have B3 := Lib.hid (B2.out.trans (b3.mono B2.out.size))
            clear b3
            go_wp2_with fail
            with_reducible refine (one_as s _ (HT.out.below B3.out) (by omega) false HBAD.out.2).mono ?_
            rintro e w4 ⟨rfl, b4⟩
            have B4 := Lib.hid (B3.out.trans (b4.mono B3.out.size))
            clear b4
            go_wp2_with fail
            with_reducible refine (lead_as s _ (by omega) 0 LZ.out).mono ?_
            rintro e w_ ⟨rfl, rfl⟩
            go_wp2
            go_ret
            exact ⟨rfl, B4.out⟩
          · have hzp : 0 < lead s.data.toList := by omega
            have HF2 : Hid (fstL s.data.toList = (f0, true)) := Lib.hid (by rw [HF.out]; simp [hz])
            obtain ⟨m, hm⟩ : ∃ m, lead s.data.toList = m := ⟨_, rfl⟩
            rw [hm] at hzp
            have hzi : (0 : Int) < (m : Int) := by omega
            have LZ := Lib.hid hm
            clear hm hz
            go_wp2_with fail
            with_reducible refine (lead_as _ _ (by rw [ext_size]; omega) 0 (by rw [ext_list]; exact HN.out)).mono ?_
            rintro e w_ ⟨rfl, rfl⟩
            go_wp2_with fail
            with_reducible refine (first_as s _ (HT.out.below BR.out) _ _ HF2.out).mono ?_
            rintro e w1 ⟨rfl, b1⟩
            have B1 := Lib.hid (BR.out.trans (b1.mono BR.out.size))
            clear b1
            go_wp2_with fail
            with_reducible refine (last_as _ _ (HT.out.below B1.out) (by rw [app_size]; exact le_a HSZ.out) q2 b2 (by rw [a_list]; exact HL.out)).mono ?_
            rintro e w2 ⟨rfl, b2⟩
            have B2 := Lib.hid (B1.out.trans (b2.mono B1.out.size))
            clear b2
            go_wp2_with fail
            with_reducible refine (right_as s _ (HT.out.below B2.out) (by omega) false HBAD.out.1).mono ?_
            rintro e w3 ⟨rfl, b3⟩
            have B3 := Lib.hid (B2.out.trans (b3.mono B2.out.size))
            clear b3
            go_wp2_with fail
            with_reducible refine (one_as s _ (HT.out.below B3.out) (by omega) false HBAD.out.2).mono ?_
            rintro e w4 ⟨rfl, b4⟩
            have B4 := Lib.hid (B3.out.trans (b4.mono B3.out.size))
            clear b4
            go_wp2_with fail
            with_reducible refine (lead_as s _ (by omega) m LZ.out).mono ?_
            rintro e w_ ⟨rfl, rfl⟩
            go_wp2
            go_ret
            exact ⟨rfl, B4.out⟩
        · have hnz : ((n : Int) == 0) = false := by simp; omega
          have hnz2 : ¬ (n : Int) = 0 := by omega
          have HGO := Lib.hid (sig_go HS.out (by rw [size_list]; omega) HN.out h0)
          go_wp2_with fail
          with_reducible refine (lead_as _ _ (by rw [ext_size]; omega) n (by rw [ext_list]; exact HN.out)).mono ?_
          rintro e w_ ⟨rfl, rfl⟩
          go_wp2
          go_roundw
          case rel =>
            have := HGO.out.2
            rw [size_list] at this
            exact ⟨c + 1, k + n, by omega, by omega, by go_num, by go_num, HGO.out.1, BR.out⟩
          case measure => simp [intOf]; omega
      · have HEND := Lib.hid (sig_end HS.out (by rw [size_list]; omega))
        obtain ⟨q2, HL⟩ := lst_some HEND.out.1
        have HL := Lib.hid HL
        have heq : ((k : Int) == (s.size : Int)) = true := by simp; omega
        have heq2 : (k : Int) = (s.size : Int) := by omega
        by_cases hc1 : c = 1
        · subst hc1
          by_cases hz : lead s.data.toList = 0
          · have LZ := Lib.hid hz
            have HF2 : Hid (fstL s.data.toList = (f0, false)) := Lib.hid (by rw [HF.out]; simp [hz])
            clear hz
            go_wp2_with fail
            with_reducible refine (first_as s _ (HT.out.below BR.out) _ _ HF2.out).mono ?_
            rintro e w1 ⟨rfl, b1⟩
            have B1 := Lib.hid (BR.out.trans (b1.mono BR.out.size))
            clear b1
            go_wp2_with fail
            with_reducible refine (last_as _ _ (HT.out.below B1.out) (by rw [app_size]; exact le_a HSZ.out) q2 true (by rw [a_list]; exact HL.out)).mono ?_
            rintro e w2 ⟨rfl, b2⟩
            have B2 := Lib.hid (B1.out.trans (b2.mono B1.out.size))
            clear b2
            go_wp2_with fail
            with_reducible refine (right_as s _ (HT.out.below B2.out) (by omega) true HEND.out.1).mono ?_
            rintro e w3 ⟨rfl, b3⟩
            have B3 := Lib.hid (B2.out.trans (b3.mono B2.out.size))
            clear b3
            go_wp2_with fail
            with_reducible refine (one_as s _ (HT.out.below B3.out) (by omega) true (HEND.out.2.trans (by decide))).mono ?_
            rintro e w4 ⟨rfl, b4⟩
            have B4 := Lib.hid (B3.out.trans (b4.mono B3.out.size))
            clear b4
            go_wp2_with fail
            with_reducible refine (lead_as s _ (by omega) 0 LZ.out).mono ?_
            rintro e w_ ⟨rfl, rfl⟩
            go_wp2
            go_ret
            exact ⟨rfl, B4.out⟩
          · have hzp : 0 < lead s.data.toList := by omega
            have HF2 : Hid (fstL s.data.toList = (f0, true)) := Lib.hid (by rw [HF.out]; simp [hz])
            obtain ⟨m, hm⟩ : ∃ m, lead s.data.toList = m := ⟨_, rfl⟩
            rw [hm] at hzp
            have hzi : (0 : Int) < (m : Int) := by omega
            have LZ := Lib.hid hm
            clear hm hz
            go_wp2_with fail
            with_reducible refine (first_as s _ (HT.out.below BR.out) _ _ HF2.out).mono ?_
            rintro e w1 ⟨rfl, b1⟩
            have B1 := Lib.hid (BR.out.trans (b1.mono BR.out.size))
            clear b1
            go_wp2_with fail
            with_reducible refine (last_as _ _ (HT.out.below B1.out) (by rw [app_size]; exact le_a HSZ.out) q2 true (by rw [a_list]; exact HL.out)).mono ?_
            rintro e w2 ⟨rfl, b2⟩
            have B2 := Lib.hid (B1.out.trans (b2.mono B1.out.size))
            clear b2
            go_wp2_with fail
            with_reducible refine (right_as s _ (HT.out.below B2.out) (by omega) true HEND.out.1).mono ?_
            rintro e w3 ⟨rfl, b3⟩
            have B3 := Lib.hid (B2.out.trans (b3.mono B2.out.size))
            clear b3
            go_wp2_with fail
            with_reducible refine (one_as s _ (HT.out.below B3.out) (by omega) true (HEND.out.2.trans (by decide))).mono ?_
            rintro e w4 ⟨rfl, b4⟩
            have B4 := Lib.hid (B3.out.trans (b4.mono B3.out.size))
            clear b4
            go_wp2_with fail
            with_reducible refine (lead_as s _ (by omega) m LZ.out).mono ?_
            rintro e w_ ⟨rfl, rfl⟩
            go_wp2
            go_ret
            exact ⟨rfl, B4.out⟩
        · have hc2 : ((c : Int) == 1) = false := by simp; omega
          have hc3 : (c == 1) = false := by simpa using hc1
          by_cases hz : lead s.data.toList = 0
          · have LZ := Lib.hid hz
            have HF2 : Hid (fstL s.data.toList = (f0, false)) := Lib.hid (by rw [HF.out]; simp [hz])
            clear hz
            go_wp2_with fail
            with_reducible refine (first_as s _ (HT.out.below BR.out) _ _ HF2.out).mono ?_
            rintro e w1 ⟨rfl, b1⟩
            have B1 := Lib.hid (BR.out.trans (b1.mono BR.out.size))
            clear b1
            go_wp2_with fail
            with_reducible refine (last_as _ _ (HT.out.below B1.out) (by rw [app_size]; exact le_a HSZ.out) q2 true (by rw [a_list]; exact HL.out)).mono ?_
            rintro e w2 ⟨rfl, b2⟩
            have B2 := Lib.hid (B1.out.trans (b2.mono B1.out.size))
            clear b2
            go_wp2_with fail
            with_reducible refine (right_as s _ (HT.out.below B2.out) (by omega) true HEND.out.1).mono ?_
            rintro e w3 ⟨rfl, b3⟩
            have B3 := Lib.hid (B2.out.trans (b3.mono B2.out.size))
            clear b3
            go_wp2_with fail
            with_reducible refine (one_as s _ (HT.out.below B3.out) (by omega) false (HEND.out.2.trans hc3)).mono ?_
            rintro e w4 ⟨rfl, b4⟩
            have B4 := Lib.hid (B3.out.trans (b4.mono B3.out.size))
            clear b4
            go_wp2_with fail
            with_reducible refine (lead_as s _ (by omega) 0 LZ.out).mono ?_
            rintro e w_ ⟨rfl, rfl⟩
            go_wp2
            go_ret
            exact ⟨rfl, B4.out⟩
          · have hzp : 0 < lead s.data.toList := by omega
            have HF2 : Hid (fstL s.data.toList = (f0, true)) := Lib.hid (by rw [HF.out]; simp [hz])
            obtain ⟨m, hm⟩ : ∃ m, lead s.data.toList = m := ⟨_, rfl⟩
            rw [hm] at hzp
            have hzi : (0 : Int) < (m : Int) := by omega
            have LZ := Lib.hid hm
            clear hm hz
            go_wp2_with fail
            with_reducible refine (first_as s _ (HT.out.below BR.out) _ _ HF2.out).mono ?_
            rintro e w1 ⟨rfl, b1⟩
            have B1 := Lib.hid (BR.out.trans (b1.mono BR.out.size))
            clear b1
            go_wp2_with fail
            with_reducible refine (last_as _ _ (HT.out.below B1.out) (by rw [app_size]; exact le_a HSZ.out) q2 true (by rw [a_list]; exact HL.out)).mono ?_
            rintro e w2 ⟨rfl, b2⟩
            have B2 := Lib.hid (B1.out.trans (b2.mono B1.out.size))
            clear b2
            go_wp2_with fail
            with_reducible refine (right_as s _ (HT.out.below B2.out) (by omega) true HEND.out.1).mono ?_
            rintro e w3 ⟨rfl, b3⟩
            have B3 := Lib.hid (B2.out.trans (b3.mono B2.out.size))
            clear b3
            go_wp2_with fail
            with_reducible refine (one_as s _ (HT.out.below B3.out) (by omega) false (HEND.out.2.trans hc3)).mono ?_
            rintro e w4 ⟨rfl, b4⟩
            have B4 := Lib.hid (B3.out.trans (b4.mono B3.out.size))
            clear b4
            go_wp2_with fail
            with_reducible refine (lead_as s _ (by omega) m LZ.out).mono ?_
            rintro e w_ ⟨rfl, rfl⟩
            go_wp2
            go_ret
            exact ⟨rfl, B4.out⟩
end Go.Proofs.YtcdjclidckohpaaDoor
