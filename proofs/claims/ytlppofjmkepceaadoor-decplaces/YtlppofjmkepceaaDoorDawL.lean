/- The walk of the law DecPlaces. -/
import Derived.Test.YtlppofjmkepceaaDoorDawK0
namespace Go.Proofs.YtlppofjmkepceaaDoor
open Go.RowKit Florin
set_option linter.unusedVariables false
set_option linter.unusedSimpArgs false

set_option maxRecDepth 100000 in
set_option maxHeartbeats 6400000 in
theorem places_df (n0 : Bool) (a0 : Option Addr) (len0 cap0 : Nat) (L0 : List UInt8) (e0 : Int) (w : World) (hin0 : InB w a0 len0 cap0 L0) (htab : Tab w) (g0 : len0 ≤ 80) (lo0 : -80 ≤ e0) (hi0 : e0 ≤ 80) (dl : List UInt8) (de : Int) (hd : made n0 (dgs L0) e0 = ⟨false, dl, de⟩) (nr : Nrm ⟨false, dl, de⟩) (l1 : dl.length ≤ 80) (d1 : -80 ≤ de) (d2 : de ≤ 200) (hk : de < 0) (k : Nat) (hk2 : (dl.length : Int) + de = -(k : Int)) :
    Calls Tryd.prog 6 #[RV n0 a0 len0 cap0 e0] w fun x w' => x = .returned (.bool true) ∧ Below w.heap.size w w' := by
  have l0 : (dgs L0).length ≤ 80 := by rw [dgs_length, hin0.1]; exact g0
  have HD := Lib.hid hd
  have HI := Lib.hid (idem_of hd)
  obtain ⟨uw, huw⟩ := bytes_of ([])
  obtain ⟨up, hup⟩ := bytes_of (zs k ++ dl : List UInt8)
  have sw : uw.size = ([] : List UInt8).length := by rw [← size_list, huw]
  have sp : up.size = (zs k ++ dl : List UInt8).length := by rw [← size_list, hup]
  have lp := List.length_pos_iff.2 nr.ne
  simp only at lp
  have HP : Hid (partsT ⟨false, dl, de⟩ = (uw.data.toList, up.data.toList)) := Lib.hid (by rw [huw, hup]; unfold partsT; rw [if_neg (by simp only; omega), if_pos (by simp only; omega)]; simp only; rw [show (-((dl.length : Int) + de)).toNat = k by omega])
  have HB : Hid (uw.data.toList = bare uw.data.toList) := Lib.hid (by rw [huw]; rfl)
  have su : up.size = k + dl.length := by rw [sp, List.length_append, zs_length]
  have sw0 : uw.size = 0 := by simpa using sw
  have i0 : 0 < up.size := by omega
  have HM : Hid (made false (uw ++ up).data.toList (-(up.size : Int)) = ⟨false, dl, de⟩) := Lib.hid (by rw [app_data, huw, hup, su]; have h := made_nrm_of nr 0 k (by omega) (by omega); rw [show de - ((0 : Nat) : Int) = -((k + dl.length : Nat) : Int) by omega] at h; simpa [zs] using h)
  have hlst : (((up[up.size - 1]'(Nat.sub_lt i0 (by decide))).toNat : Int) == 48) = false := last_ne i0 (fun t c h => by rw [hup] at h; rcases List.eq_nil_or_concat dl with h2 | ⟨a, b, h2⟩; exact absurd h2 nr.ne; rw [List.concat_eq_append] at h2; rw [h2, ← List.append_assoc] at h; have := List.append_inj' h rfl; simp at this; rw [← this.2]; exact nr.lst a b h2)
  have EW : uw.toList.isEmpty = true := by rw [Lib.toList_data, huw]; rfl
  have EP : up.toList.isEmpty = false := by rw [Lib.toList_data, hup]; rw [← hup]; exact ne_empty (ne_of_size (by omega))
  have HTX : Hid (((⟨#[48]⟩ : ByteArray) ++ (⟨#[46]⟩ : ByteArray) ++ up).data.toList = plainT ⟨false, dl, de⟩) := Lib.hid (by have h := HP.out; unfold plainT; rw [h]; simp only [app_data, huw, hup]; rw [if_pos True.intro, if_neg (by rw [← hup]; exact ne_of_size (by omega))]; simp [signL])
  have zu : up.size ≤ 300 := by rw [su]; omega
  have zw1 : uw.size ≤ 400 := by omega
  have hw1 : IntKind.i64.wrap (-(up.size : Int)) = -(up.size : Int) := by rw [IntKind.wrap_i64]; omega
  have hw2 : IntKind.i64.wrap ((up.size : Int) - 1) = (up.size : Int) - 1 := by rw [IntKind.wrap_i64]; omega
  have i1 : (0 : Int) ≤ (up.size : Int) - 1 := by omega
  have i2 : (up.size : Int) - 1 < (up.size : Int) := by omega
  have i3 : (0 : Int) < (up.size : Int) := by omega
  have hcat : ¬ 9223372036854775807 < uw.size + up.size := by omega
  have HU : Hid (up.data.toList = zs k ++ dl) := Lib.hid hup
  have HH : Hid (∀ c t, dl = c :: t → c ≠ 48) := Lib.hid nr.hd
  have HK2 := Lib.hid hk2
  have HNE : Hid (dl ≠ []) := Lib.hid nr.ne
  have HSU := Lib.hid su
  have HT := Lib.hid htab
  have HIN0 := Lib.hid hin0
  have hc0 := hin0.2.1
  have hm0 := hin0.2.2.1
  clear htab hin0 hd huw hup sw sp nr hk2 su sw0
  go_enter Tryd.func6, Tryd.ntmps6
  go_wp2_with fail
  with_reducible refine (headD _ (HT.out.below ((Below.refl w.heap.size w).alloc (by simp <;> omega) _))).mono ?_
  rintro x w1 ⟨rfl, hb⟩
  have Cr := Lib.hid (((Box.new w #[.bool n0, .slice a0 len0 cap0, .int .i64 e0] 24).at (b' := w.heap.size) (by simp)).below hb (by simp <;> omega))
  have b1 := Lib.hid (((Below.refl w.heap.size w).alloc (by simp <;> omega) _).trans (hb.mono (B' := w.heap.size) (by simp <;> omega)))
  clear hb
  have Br : Hid (Box w1 (w.heap.size) #[.bool n0, .slice a0 len0 cap0, .int .i64 e0]) := Cr
  clear Cr
  obtain ⟨r0, r1, r2, r3, r4, r5, r6⟩ := Br.out.three
  go_wp2_with fail
  with_reducible refine (few_yes n0 a0 len0 cap0 e0 80 _ hc0 hm0 (by decide) (by decide) (by omega) lo0 hi0).mono ?_
  rintro x w2 ⟨rfl, hb⟩
  have Cr := Lib.hid (Br.out.below hb (by have := Br.out.lt; simp <;> omega))
  have b2 := Lib.hid (b1.out.trans (hb.mono (B' := w.heap.size) (by have := b1.out.size; simp <;> omega)))
  clear r0 r1 r2 r3 r4 r5 r6
  clear hb Br
  have Br : Hid (Box w2 (w.heap.size) #[.bool n0, .slice a0 len0 cap0, .int .i64 e0]) := Cr
  clear Cr
  obtain ⟨r0, r1, r2, r3, r4, r5, r6⟩ := Br.out.three
  go_wp2_with fail
  with_reducible refine (make_as n0 a0 len0 cap0 L0 e0 _ (HIN0.out.below b2.out) (by omega)).mono ?_
  rintro x w3 ⟨rfl, hb⟩
  have Cr := Lib.hid (Br.out.below hb (by have := Br.out.lt; simp <;> omega))
  have b3 := Lib.hid (b2.out.trans (hb.mono (B' := w.heap.size) (by have := b2.out.size; simp <;> omega)))
  clear r0 r1 r2 r3 r4 r5 r6
  clear hb Br
  have Br : Hid (Box w3 (w.heap.size) #[.bool n0, .slice a0 len0 cap0, .int .i64 e0]) := Cr
  clear Cr
  obtain ⟨r0, r1, r2, r3, r4, r5, r6⟩ := Br.out.three
  go_wp2_with fail
  with_reducible refine (norm_as n0 ⟨(dgs L0).toArray⟩ e0 _ (by rw [arr_size]; omega) ⟨false, dl, de⟩ (by rw [arr_list]; exact HD.out)).mono ?_
  rintro x w4 ⟨rfl, hb⟩
  have Cr := Lib.hid (Br.out.below hb (by have := Br.out.lt; simp <;> omega))
  have b4 := Lib.hid (b3.out.trans (hb.mono (B' := w.heap.size) (by have := b3.out.size; simp <;> omega)))
  clear r0 r1 r2 r3 r4 r5 r6
  clear hb Br
  have Br : Hid (Box w4 (w.heap.size) #[.bool n0, .slice a0 len0 cap0, .int .i64 e0]) := Cr
  clear Cr
  obtain ⟨r0, r1, r2, r3, r4, r5, r6⟩ := Br.out.three
  go_wp2_with fail
  with_reducible refine (make_as n0 a0 len0 cap0 L0 e0 _ (HIN0.out.below (b4.out.alloc (by have := b4.out.size; simp <;> omega) _)) (by omega)).mono ?_
  rintro x w5 ⟨rfl, hb⟩
  have Cr := Lib.hid ((Br.out.alloc (.cells #[.bool false, S dl, .int .i64 de] 28)).below hb (by have := Br.out.lt; simp <;> omega))
  have Cm := Lib.hid (((Box.new w4 #[.bool false, S dl, .int .i64 de] 28).at (b' := w4.heap.size) (by simp)).below hb (by simp <;> omega))
  have b5 := Lib.hid ((b4.out.alloc (by have := b4.out.size; simp <;> omega) _).trans (hb.mono (B' := w.heap.size) (by have := b4.out.size; simp <;> omega)))
  clear r0 r1 r2 r3 r4 r5 r6
  clear hb Br
  have Br : Hid (Box w5 (w.heap.size) #[.bool n0, .slice a0 len0 cap0, .int .i64 e0]) := Cr
  have Bm : Hid (Box w5 (w4.heap.size) #[.bool false, S dl, .int .i64 de]) := Cm
  clear Cr Cm
  obtain ⟨r0, r1, r2, r3, r4, r5, r6⟩ := Br.out.three
  obtain ⟨m0, m1, m2, m3, m4, m5, m6⟩ := Bm.out.three
  go_wp2_with fail
  with_reducible refine (parts_u n0 ⟨(dgs L0).toArray⟩ e0 _ (by rw [arr_size]; omega) ⟨false, dl, de⟩ (by rw [arr_list]; exact HD.out) uw up HP.out).mono ?_
  rintro x w6 ⟨rfl, hb⟩
  have Cr := Lib.hid (Br.out.below hb (by have := Br.out.lt; simp <;> omega))
  have Cm := Lib.hid (Bm.out.below hb (by have := Bm.out.lt; simp <;> omega))
  have b6 := Lib.hid (b5.out.trans (hb.mono (B' := w.heap.size) (by have := b5.out.size; simp <;> omega)))
  clear r0 r1 r2 r3 r4 r5 r6 m0 m1 m2 m3 m4 m5 m6
  clear hb Br Bm
  have Br : Hid (Box w6 (w.heap.size) #[.bool n0, .slice a0 len0 cap0, .int .i64 e0]) := Cr
  have Bm : Hid (Box w6 (w4.heap.size) #[.bool false, S dl, .int .i64 de]) := Cm
  clear Cr Cm
  obtain ⟨r0, r1, r2, r3, r4, r5, r6⟩ := Br.out.three
  obtain ⟨m0, m1, m2, m3, m4, m5, m6⟩ := Bm.out.three
  go_wp2_with fail
  have Q0 : Hid (Held1 w (w4.heap.size) (.bool false) (S dl) (.int .i64 de) w6) := Lib.hid ⟨Bm.out, b6.out⟩
  first | (go_region_held3 (fun w' => w'.cell? ⟨w4.heap.size, 0, none⟩ = some (.bool false) ∧ w'.cell? ⟨w4.heap.size, 1, none⟩ = some (S dl) ∧ w'.cell? ⟨w4.heap.size, 2, none⟩ = some (.int .i64 de) ∧ Held1 w (w4.heap.size) (.bool false) (S dl) (.int .i64 de) w')
    (first | exact Held1.all (Held1.drew Q0.out) | exact Held1.keep (by assumption) hb | assumption)
    (first | (go_at_call 18; (with_reducible refine (trim_bare_some uw _ (by unfold maxLen; omega) uw HB.out).mono ?_); rintro v wA ⟨rfl, rfl⟩) | (go_at_call 16; (with_reducible refine (made_as false (uw ++ up) (-(up.size : Int)) _ (by rw [ByteArray.size_append]; omega) ⟨false, dl, de⟩ HM.out).mono ?_); rintro v wB ⟨rfl, hb⟩))) | fail
  have HH := (‹wB.cell? ⟨w4.heap.size, 0, none⟩ = some (.bool false) ∧ _›)
  obtain ⟨_, _, _, HH⟩ := HH
  clear r0 r1 r2 r3 r4 r5 r6 m0 m1 m2 m3 m4 m5 m6
  clear Q0 Br Bm
  have Bm : Hid (Box wB (w4.heap.size) #[.bool false, S dl, .int .i64 de]) := Lib.hid HH.1
  have b7 : Hid (Below w.heap.size w wB) := Lib.hid (HH.2)
  clear HH
  obtain ⟨m0, m1, m2, m3, m4, m5, m6⟩ := Bm.out.three
  go_wp2_with fail
  with_reducible refine (mag_some false ⟨dl.toArray⟩ de _ (by rw [arr_size]; omega) ⟨false, dl, de⟩ (by rw [arr_list]; exact HI.out) HNE.out HI.out).mono ?_
  rintro x w8 ⟨rfl, hb⟩
  have Cm := Lib.hid (Bm.out.below hb (by have := Bm.out.lt; simp <;> omega))
  have b8 := Lib.hid (b7.out.trans (hb.mono (B' := w.heap.size) (by have := b7.out.size; simp <;> omega)))
  clear m0 m1 m2 m3 m4 m5 m6
  clear hb Bm
  have Bm : Hid (Box w8 (w4.heap.size) #[.bool false, S dl, .int .i64 de]) := Cm
  clear Cm
  obtain ⟨m0, m1, m2, m3, m4, m5, m6⟩ := Bm.out.three
  go_wp2_with fail
  with_reducible refine (zero_as false ⟨dl.toArray⟩ de _ (by rw [arr_size]; omega) ⟨false, dl, de⟩ (by rw [arr_list]; exact HI.out) false (ne_empty HNE.out)).mono ?_
  rintro x w9 ⟨rfl, hb⟩
  have Cm := Lib.hid (Bm.out.below hb (by have := Bm.out.lt; simp <;> omega))
  have b9 := Lib.hid (b8.out.trans (hb.mono (B' := w.heap.size) (by have := b8.out.size; simp <;> omega)))
  clear m0 m1 m2 m3 m4 m5 m6
  clear hb Bm
  have Bm : Hid (Box w9 (w4.heap.size) #[.bool false, S dl, .int .i64 de]) := Cm
  clear Cm
  obtain ⟨m0, m1, m2, m3, m4, m5, m6⟩ := Bm.out.three
  go_wp2_with fail
  go_loop [9] (fun v => ∃ j : Nat, j ≤ k ∧ v = .int .i64 (-(j : Int))) (fun v => k + 1 - (-(intOf v)).toNat)
  case atStart => exact ⟨0, Nat.zero_le _, rfl⟩
  case round =>
    obtain ⟨j, hj, rfl⟩ := hrel
    have hju : j < up.size := by have := HSU.out; omega
    have hju2 : (j : Int) < (up.size : Int) := by omega
    by_cases hjk : j < k
    · have hat := at_zs HU.out j hjk hju
      go_wp2
      go_round
      case rel => exact ⟨j + 1, by omega, by go_num⟩
      case measure => simp [intOf]; omega
    · obtain rfl : j = k := by omega
      have hat := at_hd HU.out HH.out hju
      have hm9 : ((de + (dl.length : Int) - 1) == (-(j : Int) - 1)) = true := by have := HK2.out; simp; omega
      go_wp2_with fail
      with_reducible refine (plain_u false ⟨dl.toArray⟩ de _ (by rw [arr_size]; omega) ⟨false, dl, de⟩ (by rw [arr_list]; exact HI.out) HI.out ((⟨#[48]⟩ : ByteArray) ++ (⟨#[46]⟩ : ByteArray) ++ up) HTX.out).mono ?_
      rintro x w10 ⟨rfl, hb⟩
      have Cm := Lib.hid (Bm.out.below hb (by have := Bm.out.lt; simp <;> omega))
      have b10 := Lib.hid (b9.out.trans (hb.mono (B' := w.heap.size) (by have := b9.out.size; simp <;> omega)))
      clear m0 m1 m2 m3 m4 m5 m6
      clear hb Bm
      have Bm : Hid (Box w10 (w4.heap.size) #[.bool false, S dl, .int .i64 de]) := Cm
      clear Cm
      go_wp2
      go_ret
      exact ⟨rfl, b10.out⟩

set_option maxRecDepth 100000 in
set_option maxHeartbeats 6400000 in
theorem places_dt (n0 : Bool) (a0 : Option Addr) (len0 cap0 : Nat) (L0 : List UInt8) (e0 : Int) (w : World) (hin0 : InB w a0 len0 cap0 L0) (htab : Tab w) (g0 : len0 ≤ 80) (lo0 : -80 ≤ e0) (hi0 : e0 ≤ 80) (dl : List UInt8) (de : Int) (hd : made n0 (dgs L0) e0 = ⟨true, dl, de⟩) (nr : Nrm ⟨true, dl, de⟩) (l1 : dl.length ≤ 80) (d1 : -80 ≤ de) (d2 : de ≤ 200) (hk : de < 0) (k : Nat) (hk2 : (dl.length : Int) + de = -(k : Int)) :
    Calls Tryd.prog 6 #[RV n0 a0 len0 cap0 e0] w fun x w' => x = .returned (.bool true) ∧ Below w.heap.size w w' := by
  have l0 : (dgs L0).length ≤ 80 := by rw [dgs_length, hin0.1]; exact g0
  have HD := Lib.hid hd
  have HI := Lib.hid (idem_of hd)
  obtain ⟨uw, huw⟩ := bytes_of ([])
  obtain ⟨up, hup⟩ := bytes_of (zs k ++ dl : List UInt8)
  have sw : uw.size = ([] : List UInt8).length := by rw [← size_list, huw]
  have sp : up.size = (zs k ++ dl : List UInt8).length := by rw [← size_list, hup]
  have lp := List.length_pos_iff.2 nr.ne
  simp only at lp
  have HP : Hid (partsT ⟨true, dl, de⟩ = (uw.data.toList, up.data.toList)) := Lib.hid (by rw [huw, hup]; unfold partsT; rw [if_neg (by simp only; omega), if_pos (by simp only; omega)]; simp only; rw [show (-((dl.length : Int) + de)).toNat = k by omega])
  have HB : Hid (uw.data.toList = bare uw.data.toList) := Lib.hid (by rw [huw]; rfl)
  have su : up.size = k + dl.length := by rw [sp, List.length_append, zs_length]
  have sw0 : uw.size = 0 := by simpa using sw
  have i0 : 0 < up.size := by omega
  have HM : Hid (made true (uw ++ up).data.toList (-(up.size : Int)) = ⟨true, dl, de⟩) := Lib.hid (by rw [app_data, huw, hup, su]; have h := made_nrm_of nr 0 k (by omega) (by omega); rw [show de - ((0 : Nat) : Int) = -((k + dl.length : Nat) : Int) by omega] at h; simpa [zs] using h)
  have hlst : (((up[up.size - 1]'(Nat.sub_lt i0 (by decide))).toNat : Int) == 48) = false := last_ne i0 (fun t c h => by rw [hup] at h; rcases List.eq_nil_or_concat dl with h2 | ⟨a, b, h2⟩; exact absurd h2 nr.ne; rw [List.concat_eq_append] at h2; rw [h2, ← List.append_assoc] at h; have := List.append_inj' h rfl; simp at this; rw [← this.2]; exact nr.lst a b h2)
  have EW : uw.toList.isEmpty = true := by rw [Lib.toList_data, huw]; rfl
  have EP : up.toList.isEmpty = false := by rw [Lib.toList_data, hup]; rw [← hup]; exact ne_empty (ne_of_size (by omega))
  have HTX : Hid (((⟨#[45]⟩ : ByteArray) ++ ((⟨#[48]⟩ : ByteArray) ++ (⟨#[46]⟩ : ByteArray) ++ up)).data.toList = plainT ⟨true, dl, de⟩) := Lib.hid (by have h := HP.out; unfold plainT; rw [h]; simp only [app_data, huw, hup]; rw [if_pos True.intro, if_neg (by rw [← hup]; exact ne_of_size (by omega))]; simp [signL])
  have zu : up.size ≤ 300 := by rw [su]; omega
  have zw1 : uw.size ≤ 400 := by omega
  have hw1 : IntKind.i64.wrap (-(up.size : Int)) = -(up.size : Int) := by rw [IntKind.wrap_i64]; omega
  have hw2 : IntKind.i64.wrap ((up.size : Int) - 1) = (up.size : Int) - 1 := by rw [IntKind.wrap_i64]; omega
  have i1 : (0 : Int) ≤ (up.size : Int) - 1 := by omega
  have i2 : (up.size : Int) - 1 < (up.size : Int) := by omega
  have i3 : (0 : Int) < (up.size : Int) := by omega
  have hcat : ¬ 9223372036854775807 < uw.size + up.size := by omega
  have HU : Hid (up.data.toList = zs k ++ dl) := Lib.hid hup
  have HH : Hid (∀ c t, dl = c :: t → c ≠ 48) := Lib.hid nr.hd
  have HK2 := Lib.hid hk2
  have HNE : Hid (dl ≠ []) := Lib.hid nr.ne
  have HSU := Lib.hid su
  have HT := Lib.hid htab
  have HIN0 := Lib.hid hin0
  have hc0 := hin0.2.1
  have hm0 := hin0.2.2.1
  clear htab hin0 hd huw hup sw sp nr hk2 su sw0
  go_enter Tryd.func6, Tryd.ntmps6
  go_wp2_with fail
  with_reducible refine (headD _ (HT.out.below ((Below.refl w.heap.size w).alloc (by simp <;> omega) _))).mono ?_
  rintro x w1 ⟨rfl, hb⟩
  have Cr := Lib.hid (((Box.new w #[.bool n0, .slice a0 len0 cap0, .int .i64 e0] 24).at (b' := w.heap.size) (by simp)).below hb (by simp <;> omega))
  have b1 := Lib.hid (((Below.refl w.heap.size w).alloc (by simp <;> omega) _).trans (hb.mono (B' := w.heap.size) (by simp <;> omega)))
  clear hb
  have Br : Hid (Box w1 (w.heap.size) #[.bool n0, .slice a0 len0 cap0, .int .i64 e0]) := Cr
  clear Cr
  obtain ⟨r0, r1, r2, r3, r4, r5, r6⟩ := Br.out.three
  go_wp2_with fail
  with_reducible refine (few_yes n0 a0 len0 cap0 e0 80 _ hc0 hm0 (by decide) (by decide) (by omega) lo0 hi0).mono ?_
  rintro x w2 ⟨rfl, hb⟩
  have Cr := Lib.hid (Br.out.below hb (by have := Br.out.lt; simp <;> omega))
  have b2 := Lib.hid (b1.out.trans (hb.mono (B' := w.heap.size) (by have := b1.out.size; simp <;> omega)))
  clear r0 r1 r2 r3 r4 r5 r6
  clear hb Br
  have Br : Hid (Box w2 (w.heap.size) #[.bool n0, .slice a0 len0 cap0, .int .i64 e0]) := Cr
  clear Cr
  obtain ⟨r0, r1, r2, r3, r4, r5, r6⟩ := Br.out.three
  go_wp2_with fail
  with_reducible refine (make_as n0 a0 len0 cap0 L0 e0 _ (HIN0.out.below b2.out) (by omega)).mono ?_
  rintro x w3 ⟨rfl, hb⟩
  have Cr := Lib.hid (Br.out.below hb (by have := Br.out.lt; simp <;> omega))
  have b3 := Lib.hid (b2.out.trans (hb.mono (B' := w.heap.size) (by have := b2.out.size; simp <;> omega)))
  clear r0 r1 r2 r3 r4 r5 r6
  clear hb Br
  have Br : Hid (Box w3 (w.heap.size) #[.bool n0, .slice a0 len0 cap0, .int .i64 e0]) := Cr
  clear Cr
  obtain ⟨r0, r1, r2, r3, r4, r5, r6⟩ := Br.out.three
  go_wp2_with fail
  with_reducible refine (norm_as n0 ⟨(dgs L0).toArray⟩ e0 _ (by rw [arr_size]; omega) ⟨true, dl, de⟩ (by rw [arr_list]; exact HD.out)).mono ?_
  rintro x w4 ⟨rfl, hb⟩
  have Cr := Lib.hid (Br.out.below hb (by have := Br.out.lt; simp <;> omega))
  have b4 := Lib.hid (b3.out.trans (hb.mono (B' := w.heap.size) (by have := b3.out.size; simp <;> omega)))
  clear r0 r1 r2 r3 r4 r5 r6
  clear hb Br
  have Br : Hid (Box w4 (w.heap.size) #[.bool n0, .slice a0 len0 cap0, .int .i64 e0]) := Cr
  clear Cr
  obtain ⟨r0, r1, r2, r3, r4, r5, r6⟩ := Br.out.three
  go_wp2_with fail
  with_reducible refine (make_as n0 a0 len0 cap0 L0 e0 _ (HIN0.out.below (b4.out.alloc (by have := b4.out.size; simp <;> omega) _)) (by omega)).mono ?_
  rintro x w5 ⟨rfl, hb⟩
  have Cr := Lib.hid ((Br.out.alloc (.cells #[.bool true, S dl, .int .i64 de] 28)).below hb (by have := Br.out.lt; simp <;> omega))
  have Cm := Lib.hid (((Box.new w4 #[.bool true, S dl, .int .i64 de] 28).at (b' := w4.heap.size) (by simp)).below hb (by simp <;> omega))
  have b5 := Lib.hid ((b4.out.alloc (by have := b4.out.size; simp <;> omega) _).trans (hb.mono (B' := w.heap.size) (by have := b4.out.size; simp <;> omega)))
  clear r0 r1 r2 r3 r4 r5 r6
  clear hb Br
  have Br : Hid (Box w5 (w.heap.size) #[.bool n0, .slice a0 len0 cap0, .int .i64 e0]) := Cr
  have Bm : Hid (Box w5 (w4.heap.size) #[.bool true, S dl, .int .i64 de]) := Cm
  clear Cr Cm
  obtain ⟨r0, r1, r2, r3, r4, r5, r6⟩ := Br.out.three
  obtain ⟨m0, m1, m2, m3, m4, m5, m6⟩ := Bm.out.three
  go_wp2_with fail
  with_reducible refine (parts_u n0 ⟨(dgs L0).toArray⟩ e0 _ (by rw [arr_size]; omega) ⟨true, dl, de⟩ (by rw [arr_list]; exact HD.out) uw up HP.out).mono ?_
  rintro x w6 ⟨rfl, hb⟩
  have Cr := Lib.hid (Br.out.below hb (by have := Br.out.lt; simp <;> omega))
  have Cm := Lib.hid (Bm.out.below hb (by have := Bm.out.lt; simp <;> omega))
  have b6 := Lib.hid (b5.out.trans (hb.mono (B' := w.heap.size) (by have := b5.out.size; simp <;> omega)))
  clear r0 r1 r2 r3 r4 r5 r6 m0 m1 m2 m3 m4 m5 m6
  clear hb Br Bm
  have Br : Hid (Box w6 (w.heap.size) #[.bool n0, .slice a0 len0 cap0, .int .i64 e0]) := Cr
  have Bm : Hid (Box w6 (w4.heap.size) #[.bool true, S dl, .int .i64 de]) := Cm
  clear Cr Cm
  obtain ⟨r0, r1, r2, r3, r4, r5, r6⟩ := Br.out.three
  obtain ⟨m0, m1, m2, m3, m4, m5, m6⟩ := Bm.out.three
  go_wp2_with fail
  have Q0 : Hid (Held1 w (w4.heap.size) (.bool true) (S dl) (.int .i64 de) w6) := Lib.hid ⟨Bm.out, b6.out⟩
  first | (go_region_held3 (fun w' => w'.cell? ⟨w4.heap.size, 0, none⟩ = some (.bool true) ∧ w'.cell? ⟨w4.heap.size, 1, none⟩ = some (S dl) ∧ w'.cell? ⟨w4.heap.size, 2, none⟩ = some (.int .i64 de) ∧ Held1 w (w4.heap.size) (.bool true) (S dl) (.int .i64 de) w')
    (first | exact Held1.all (Held1.drew Q0.out) | exact Held1.keep (by assumption) hb | assumption)
    (first | (go_at_call 18; (with_reducible refine (trim_bare_some uw _ (by unfold maxLen; omega) uw HB.out).mono ?_); rintro v wA ⟨rfl, rfl⟩) | (go_at_call 16; (with_reducible refine (made_as true (uw ++ up) (-(up.size : Int)) _ (by rw [ByteArray.size_append]; omega) ⟨true, dl, de⟩ HM.out).mono ?_); rintro v wB ⟨rfl, hb⟩))) | fail
  have HH := (‹wB.cell? ⟨w4.heap.size, 0, none⟩ = some (.bool true) ∧ _›)
  obtain ⟨_, _, _, HH⟩ := HH
  clear r0 r1 r2 r3 r4 r5 r6 m0 m1 m2 m3 m4 m5 m6
  clear Q0 Br Bm
  have Bm : Hid (Box wB (w4.heap.size) #[.bool true, S dl, .int .i64 de]) := Lib.hid HH.1
  have b7 : Hid (Below w.heap.size w wB) := Lib.hid (HH.2)
  clear HH
  obtain ⟨m0, m1, m2, m3, m4, m5, m6⟩ := Bm.out.three
  go_wp2_with fail
  with_reducible refine (mag_some true ⟨dl.toArray⟩ de _ (by rw [arr_size]; omega) ⟨true, dl, de⟩ (by rw [arr_list]; exact HI.out) HNE.out HI.out).mono ?_
  rintro x w8 ⟨rfl, hb⟩
  have Cm := Lib.hid (Bm.out.below hb (by have := Bm.out.lt; simp <;> omega))
  have b8 := Lib.hid (b7.out.trans (hb.mono (B' := w.heap.size) (by have := b7.out.size; simp <;> omega)))
  clear m0 m1 m2 m3 m4 m5 m6
  clear hb Bm
  have Bm : Hid (Box w8 (w4.heap.size) #[.bool true, S dl, .int .i64 de]) := Cm
  clear Cm
  obtain ⟨m0, m1, m2, m3, m4, m5, m6⟩ := Bm.out.three
  go_wp2_with fail
  with_reducible refine (zero_as true ⟨dl.toArray⟩ de _ (by rw [arr_size]; omega) ⟨true, dl, de⟩ (by rw [arr_list]; exact HI.out) false (ne_empty HNE.out)).mono ?_
  rintro x w9 ⟨rfl, hb⟩
  have Cm := Lib.hid (Bm.out.below hb (by have := Bm.out.lt; simp <;> omega))
  have b9 := Lib.hid (b8.out.trans (hb.mono (B' := w.heap.size) (by have := b8.out.size; simp <;> omega)))
  clear m0 m1 m2 m3 m4 m5 m6
  clear hb Bm
  have Bm : Hid (Box w9 (w4.heap.size) #[.bool true, S dl, .int .i64 de]) := Cm
  clear Cm
  obtain ⟨m0, m1, m2, m3, m4, m5, m6⟩ := Bm.out.three
  go_wp2_with fail
  go_loop [9] (fun v => ∃ j : Nat, j ≤ k ∧ v = .int .i64 (-(j : Int))) (fun v => k + 1 - (-(intOf v)).toNat)
  case atStart => exact ⟨0, Nat.zero_le _, rfl⟩
  case round =>
    obtain ⟨j, hj, rfl⟩ := hrel
    have hju : j < up.size := by have := HSU.out; omega
    have hju2 : (j : Int) < (up.size : Int) := by omega
    by_cases hjk : j < k
    · have hat := at_zs HU.out j hjk hju
      go_wp2
      go_round
      case rel => exact ⟨j + 1, by omega, by go_num⟩
      case measure => simp [intOf]; omega
    · obtain rfl : j = k := by omega
      have hat := at_hd HU.out HH.out hju
      have hm9 : ((de + (dl.length : Int) - 1) == (-(j : Int) - 1)) = true := by have := HK2.out; simp; omega
      go_wp2_with fail
      with_reducible refine (plain_u true ⟨dl.toArray⟩ de _ (by rw [arr_size]; omega) ⟨true, dl, de⟩ (by rw [arr_list]; exact HI.out) HI.out ((⟨#[45]⟩ : ByteArray) ++ ((⟨#[48]⟩ : ByteArray) ++ (⟨#[46]⟩ : ByteArray) ++ up)) HTX.out).mono ?_
      rintro x w10 ⟨rfl, hb⟩
      have Cm := Lib.hid (Bm.out.below hb (by have := Bm.out.lt; simp <;> omega))
      have b10 := Lib.hid (b9.out.trans (hb.mono (B' := w.heap.size) (by have := b9.out.size; simp <;> omega)))
      clear m0 m1 m2 m3 m4 m5 m6
      clear hb Bm
      have Bm : Hid (Box w10 (w4.heap.size) #[.bool true, S dl, .int .i64 de]) := Cm
      clear Cm
      go_wp2
      go_ret
      exact ⟨rfl, b10.out⟩

end Go.Proofs.YtlppofjmkepceaaDoor
