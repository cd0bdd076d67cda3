/- Texts with places: String; the law's head. -/
import Derived.Test.YtmopcgmodaahkaaDoorBrD
namespace Go.Proofs.YtmopcgmodaahkaaDoor
open Go.RowKit Florin
set_option linter.unusedVariables false
set_option linter.unusedSimpArgs false
theorem sgs_succ (k : Nat) : sgs (k + 1) = sgs k ++ [sgB k] := by simp [sgs, List.range_succ]
theorem sgs_sz (m : Nat) : ∀ t ∈ sgs m, t.length ≤ 1000 := by
  intro t ht
  obtain ⟨d, _, rfl⟩ := List.mem_map.1 ht
  simp [sgB]
set_option maxRecDepth 100000 in
set_option maxHeartbeats 3200000 in
theorem bstr_as (vt vp : Value) (T : List (List UInt8)) (P : List Nat) (w : World) (hT : InT w vt T) (hP : InP w vp P) (h0 : 0 < T.length) (hTl : T.length ≤ 1000) (hPT : P.length ≤ T.length)
    (hTs : ∀ t ∈ T, t.length ≤ 1000) (hPs : ∀ d ∈ P, d < 10) (l : List UInt8) (hl : jnB T P = l) :
    Calls Tryd.prog 18 #[.agg #[vt, vp]] w fun e w' => e = .returned (S l) ∧ Below w.heap.size w w' := by
  obtain ⟨i0, hi, hz0, hz1, hz2⟩ := info_parts infoS
  obtain ⟨a1, cap1, hvt, _⟩ := id hT
  obtain ⟨a2, cap2, hvp, _⟩ := id hP
  subst hvt hvp
  have HT := Lib.hid hT
  have HP := Lib.hid hP
  have HTs := Lib.hid hTs
  have HL := Lib.hid ((flK_all 10 T P hPs hPT).trans hl)
  clear hT hP hTs hl
  go_enter Tryd.func18, Tryd.ntmps18
  go_wp2_with fail
  go_loopw [3, 7] (fun v i wr => ∃ k : Nat, k ≤ 10 ∧ i = .int .i64 k ∧ OwnT wr (w.heap.size + 1) v (sgs k) ∧ BoxT wr w.heap.size #[.slice a1 T.length cap1, .slice a2 P.length cap2] TBr ∧ Below w.heap.size w wr) (fun _ i _ => 10 - (intOf i).toNat)
  case atStart => exact ⟨0, Nat.zero_le _, rfl, World.ownsRow_nil _ _ _ _, BoxT.new w _ _, (Below.refl _ _).alloc (Nat.le_refl _) _⟩
  case round =>
    obtain ⟨k, hk, rfl, ho, hx, hb⟩ := hrel
    have HO := Lib.hid ho
    have HX := Lib.hid hx
    have HB := Lib.hid hb
    obtain ⟨ao, co, rfl⟩ := own_slice ho
    have xl := hx.lt
    clear ho hx hb
    by_cases hlt : (k : Int) < 10
    · have hln : (sgs k).length ≤ 10 := by rw [sgs_len]; omega
      have hwr : w.heap.size + 1 ≤ wr.heap.size := by omega
      go_wp2_with fail
      with_reducible refine (bsign_as k (by omega) _).mono ?_
      rintro e w1 ⟨rfl, rfl⟩
      go_wp2_with (at_builtin; refine wpList_append_lies _ rfl _ _ _ rfl (w.heap.size + 1) 9 i0 (.string ⟨#[]⟩) 1 16 Tryd.underlying39 hi hz0 hz1 hz2 rfl (by omega) (.slice ao (sgs k).length co) (sgs k).length ((sgs k).map S) rfl (HO.out.alloc _) ⟨wr.heap.size, 0, none⟩ 1 1 [S (sgB k)] rfl rfl (World.news_of_block (heap_alloc_new _ _)) (by simp [Value.oneCell']) (by omega) (by unfold maxLen; omega) (by omega) (by simp; omega) _ rfl ?_; intro g2 cap2 w7 hown hgr hat hlt3)
      have HX7 := Lib.hid ((HX.out.alloc (.cells #[S (sgB k)] 9)).grown hgr (own_not HO.out (Nat.lt_succ_self _)))
      have HO7 : Hid (OwnT w7 (w.heap.size + 1) (.slice (some ⟨g2, 0, none⟩) ((sgs k).length + 1) cap2) (sgs (k + 1))) := Lib.hid (by
        rw [sgs_succ]
        show World.ownsRow _ _ _ _ _ _ _
        rw [List.map_append, List.length_append]
        exact hown)
      have HB7 := Lib.hid ((HB.out.alloc HB.out.size (.cells #[S (sgB k)] 9)).grown hgr (by simp; omega) (fun j hj => by have := (HO.out.lt j hj).1; omega))
      clear hown hgr hat hlt3
      go_wp2
      go_roundw
      case rel => exact ⟨k + 1, by omega, by go_num, HO7.out, HX7.out, HB7.out⟩
      case measure => simp [intOf]; omega
    · obtain rfl : k = 10 := by omega
      have c0 := HX.out.cell 0
      have c1 := HX.out.cell 1
      simp at c0 c1
      go_wp2_with fail
      with_reducible refine (fill_as _ _ _ T P (sgs 10) _ (HT.out.below HB.out) (HP.out.below HB.out) HO.out.inT h0 hTl (by omega) (by rw [sgs_len]; omega) HTs.out (sgs_sz 10)).mono ?_
      rintro e w4 ⟨v4, rfl, _, hb4⟩
      rw [HL.out]
      go_wp2
      go_ret
      exact ⟨rfl, HB.out.trans (hb4.mono HB.out.size)⟩
/-- What Parse tells, in one form for all that may be read. -/
def eR : BR → Nat
  | .ok _ _ => 0
  | .bad c _ => c
def kR : BR → Nat
  | .ok _ _ => 0
  | .bad _ k => k
def nR : BR → Nat × Nat
  | .ok T P => (T.length, P.length)
  | .bad _ _ => (0, 0)
theorem btold_all {w w' : World} {R : BR} {e : Ending} (h : BTold w w' R e) : ∃ at_ ct_ ap_ cp_, e = .returned (.tuple #[.agg #[.slice at_ (nR R).1 ct_, .slice ap_ (nR R).2 cp_], .int .i64 (eR R : Int), .int .i64 (kR R : Int)]) ∧
    (∀ T P, R = .ok T P → OwnT w' w.heap.size (.slice at_ T.length ct_) T ∧ OwnP w' w.heap.size (.slice ap_ P.length cp_) P) := by
  cases R with
  | ok T P =>
    obtain ⟨vt, vp, rfl, ht, hp⟩ := h
    obtain ⟨a, c, rfl⟩ := own_slice ht
    obtain ⟨a2, c2, rfl⟩ := own_slice hp
    exact ⟨a, c, a2, c2, rfl, fun T2 P2 hh => by cases hh; exact ⟨ht, hp⟩⟩
  | bad c k =>
    exact ⟨none, 0, none, 0, h, fun T2 P2 hh => by cases hh⟩
theorem right_km : rightL [123, 48, 125, 32, 107, 109] = true := by kernel_rfl
set_option maxRecDepth 100000 in
set_option maxHeartbeats 3200000 in
theorem head13 (w : World) (hT : Tabs w) : Calls Tryd.prog 13 #[] w fun e w' => e = .returned (.bool true) ∧ Below w.heap.size w w' := by
  have HT := Lib.hid hT
  have HRk : Hid (brS 1 (⟨#[123, 48, 125, 32, 107, 109]⟩ : ByteArray).data.toList 0 0 [] [] [] = .ok [[], [32, 107, 109]] [0]) := Lib.hid (by kernel_rfl)
  have HRr : Hid (rightL (⟨#[123, 48, 125, 32, 107, 109]⟩ : ByteArray).data.toList = true) := Lib.hid right_km
  clear hT
  go_enter Tryd.func13, Tryd.ntmps13
  go_wp2_with fail
  with_reducible refine (bparse_as ⟨#[123, 48, 125, 32, 107, 109]⟩ 1 _ HT.out (by decide) HRr.out _ HRk.out).mono ?_
  rintro e w1 ⟨hbt, hb1⟩
  obtain ⟨vt, vp, rfl, hot, hop⟩ := hbt
  have OT := Lib.hid (OwnT.inT hot)
  have OP := Lib.hid (OwnP.inP hop)
  have HB1 := Lib.hid hb1
  have w1l := hb1.size
  obtain ⟨a1, cap1, hvt, _⟩ := id OT.out
  obtain ⟨a2, cap2, hvp, _⟩ := id OP.out
  subst hvt hvp
  clear hot hop hb1
  go_wp2_with fail
  have XB := Lib.hid ((BoxT.new w1 #[.slice a1 2 cap1, .slice a2 1 cap2] TBr).alloc (.cells #[.string ⟨#[53]⟩] 9))
  have hb2 : Below w1.heap.size w1 ((w1.alloc (.cells #[.slice a1 2 cap1, .slice a2 1 cap2] TBr)).alloc (.cells #[.string ⟨#[53]⟩] 9)) := ((Below.refl _ _).alloc (Nat.le_refl _) _).alloc (by simp) _
  have IL : InT ((w1.alloc (.cells #[.slice a1 2 cap1, .slice a2 1 cap2] TBr)).alloc (.cells #[.string ⟨#[53]⟩] 9)) (.slice (some ⟨w1.heap.size + 1, 0, none⟩) 1 1) [[53]] := by
    refine ⟨_, 1, rfl, Nat.le_refl _, by decide, fun _ => ⟨w1.heap.size + 1, 0, rfl, by simp, fun i hi => ?_⟩⟩
    obtain rfl : i = 0 := by simpa using hi
    simp
  have FC : Calls Tryd.prog 19 #[.agg #[.slice a1 2 cap1, .slice a2 1 cap2], .slice (some ⟨w1.heap.size + 1, 0, none⟩) 1 1] ((w1.alloc (.cells #[.slice a1 2 cap1, .slice a2 1 cap2] TBr)).alloc (.cells #[.string ⟨#[53]⟩] 9)) fun e w' => ∃ v, e = .returned (.tuple #[.string ⟨#[53, 32, 107, 109]⟩, v]) ∧ OwnS w' ((w1.alloc (.cells #[.slice a1 2 cap1, .slice a2 1 cap2] TBr)).alloc (.cells #[.string ⟨#[53]⟩] 9)).heap.size v 1 (upS (fun _ => 0) 0 0) ∧ Below ((w1.alloc (.cells #[.slice a1 2 cap1, .slice a2 1 cap2] TBr)).alloc (.cells #[.string ⟨#[53]⟩] 9)).heap.size ((w1.alloc (.cells #[.slice a1 2 cap1, .slice a2 1 cap2] TBr)).alloc (.cells #[.string ⟨#[53]⟩] 9)) w' :=
    fill_as (.slice a1 2 cap1) (.slice a2 1 cap2) (.slice (some ⟨w1.heap.size + 1, 0, none⟩) 1 1) [[], [32, 107, 109]] [0] [[53]] _ (OT.out.below hb2) (OP.out.below hb2) IL (by decide) (by decide) (by decide) (by decide) (by decide) (by decide)
  with_reducible refine FC.mono ?_
  rintro e w2 ⟨v2, rfl, hos, hb⟩
  clear FC
  have XB2 := Lib.hid (XB.out.below hb)
  have HB2 := Lib.hid (HB1.out.trans ((hb2.trans (hb.mono hb2.size)).mono HB1.out.size))
  have O1 := Lib.hid (OT.out.below (hb2.trans (hb.mono hb2.size)))
  have O2 := Lib.hid (OP.out.below (hb2.trans (hb.mono hb2.size)))
  obtain ⟨g, cg, rfl⟩ : ∃ g c, v2 = .slice (some ⟨g, 0, none⟩) 1 c := by
    rcases hos.2 with ⟨_, h0⟩ | ⟨g, cap, cur, rfl, _⟩
    · exact absurd h0 (by decide)
    · exact ⟨g, cap, rfl⟩
  have cs0 : w2.cell? ⟨g, 0, none⟩ = some (.int .i64 0) := by
    have := World.ownsRow.cellAt hos 0 (by decide)
    exact this
  have cb0 := XB2.out.cell 0
  have cb1 := XB2.out.cell 1
  have xl := XB2.out.lt
  simp at cb0 cb1
  clear hos hb hb2 IL
  go_wp2_with fail
  have FS : Calls Tryd.prog 18 #[.agg #[.slice a1 2 cap1, .slice a2 1 cap2]] w2 fun e w' => e = .returned (.string ⟨#[123, 48, 125, 32, 107, 109]⟩) ∧ Below w2.heap.size w2 w' :=
    bstr_as (.slice a1 2 cap1) (.slice a2 1 cap2) [[], [32, 107, 109]] [0] w2 O1.out O2.out (by decide) (by decide) (by decide) (by decide) (by decide) [123, 48, 125, 32, 107, 109] rfl
  with_reducible refine FS.mono ?_
  rintro e w3 ⟨rfl, hb⟩
  clear FS
  go_wp2
  go_ret
  exact ⟨rfl, HB2.out.trans (hb.mono HB2.out.size)⟩
end Go.Proofs.YtmopcgmodaahkaaDoor
