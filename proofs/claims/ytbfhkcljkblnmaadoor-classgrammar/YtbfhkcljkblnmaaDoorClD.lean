/- Both, either, one alone, neither: classes gone through together. -/
import Derived.Test.YtbfhkcljkblnmaaDoorClC
namespace Go.Proofs.YtbfhkcljkblnmaaDoor
open Go.RowKit Florin
set_option linter.unusedVariables false
set_option linter.unusedSimpArgs false
theorem settled_len {a : Int} : ∀ {c : List (Int × Int)}, settledFrom a c → (2 * c.length : Int) ≤ max 0 (cTop + 2 - a)
  | [], _ => by show (0 : Int) ≤ _; omega
  | x :: t, hc => by
    have h := settled_len hc.2.2.2
    have := hc.1; have := hc.2.1; have := hc.2.2.1
    rw [List.length_cons]
    push_cast
    omega
theorem settled_few {c : List (Int × Int)} (h : settledC c) : c.length ≤ 1000000 := by
  have := settled_len h
  unfold cTop at this
  omega
theorem settled_his {c : List (Int × Int)} (h : settledC c) : ∀ y ∈ c, -1 ≤ y.2 ∧ y.2 ≤ 1114111 := fun y hy => by
  have h1 := settled_ge (a := 0) h y.2 ⟨y, hy, settled_mem (a := 0) h y hy, Int.le_refl _⟩
  unfold cTop at h1
  omega
def opC (f : Bool → Bool → Bool) (c o : List (Int × Int)) : List (Int × Int) := withC f c o 1114112 0 []
theorem opC_ok {f : Bool → Bool → Bool} {c o : List (Int × Int)} (hc : settledC c) (ho : settledC o) : settledC (opC f c o) ∧ ∀ r, memC (opC f c o) r ↔ (0 ≤ r ∧ r ≤ cTop ∧ f (hasC c r) (hasC o r) = true) := by
  have h := with_ok (f := f) hc ho 1114112 0 [] (by omega) (by unfold cTop; omega) (by unfold cTop; omega) trivial (fun x hx => by cases hx)
  refine ⟨h.1, fun r => ?_⟩
  rw [show opC f c o = withC f c o 1114112 0 [] from rfl, h.2 r]
  constructor
  · rintro (h | h)
    · exact absurd h (memC_nil r)
    · exact h
  · exact .inr
theorem with_step {f : Bool → Bool → Bool} {c o : List (Int × Int)} {n : Nat} {lo : Int} {out : List (Int × Int)} {b1 b2 : Bool} {e1 e2 : Int} (hq1 : stretchC c lo = (b1, e1)) (hq2 : stretchC o lo = (b2, e2)) (hl : lo ≤ 1114111) (hn : 0 < n) :
    withC f c o n lo out = withC f c o (n - 1) (min e1 e2 + 1) (if f b1 b2 then joinC out (lo, min e1 e2) else out) := by
  obtain ⟨m, rfl⟩ : ∃ m, n = m + 1 := ⟨n - 1, by omega⟩
  rw [Nat.add_sub_cancel]
  conv => lhs; unfold withC
  rw [if_pos (by unfold cTop; exact hl), hq1, hq2]
theorem with_yes {f : Bool → Bool → Bool} {c o : List (Int × Int)} {n : Nat} {lo hi : Int} {out : List (Int × Int)} {b1 b2 : Bool} {e1 e2 : Int} (hq1 : stretchC c lo = (b1, e1)) (hq2 : stretchC o lo = (b2, e2)) (hl : lo ≤ 1114111) (hn : 0 < n) (hf : f b1 b2 = true) (hm : min e1 e2 = hi) :
    withC f c o n lo out = withC f c o (n - 1) (hi + 1) (joinC out (lo, hi)) := by rw [with_step hq1 hq2 hl hn, hf, hm]; rfl
theorem with_no {f : Bool → Bool → Bool} {c o : List (Int × Int)} {n : Nat} {lo hi : Int} {out : List (Int × Int)} {b1 b2 : Bool} {e1 e2 : Int} (hq1 : stretchC c lo = (b1, e1)) (hq2 : stretchC o lo = (b2, e2)) (hl : lo ≤ 1114111) (hn : 0 < n) (hf : f b1 b2 = false) (hm : min e1 e2 = hi) :
    withC f c o n lo out = withC f c o (n - 1) (hi + 1) out := by rw [with_step hq1 hq2 hl hn, hf, hm]; rfl
theorem join_step {out : List (Int × Int)} {lo hi : Int} (hs : settledC out) (hlt : ∀ y ∈ out, y.2 < lo) (h0 : 0 ≤ lo) (hlh : lo ≤ hi) (hht : hi ≤ 1114111) : settledC (joinC out (lo, hi)) ∧ ∀ y ∈ joinC out (lo, hi), y.2 < hi + 1 := by
  have hlast : ∀ y, out.getLast? = some y → y.1 ≤ lo := fun y hy => by
    have hm := List.mem_of_getLast? hy
    have h1 := hlt y hm
    have h2 := settled_mem (a := 0) hs y hm
    omega
  have hj := join_settled (x := (lo, hi)) hs h0 hlh (by unfold cTop; exact hht) hlast
  refine ⟨hj.1, fun x hx => ?_⟩
  have hx2 := settled_mem (a := 0) hj.1 x hx
  rcases (hj.2 x.2).1 ⟨x, hx, hx2, Int.le_refl _⟩ with ⟨y, hy, h1⟩ | h1
  · have := hlt y hy; omega
  · have : x.2 ≤ hi := h1.2
    omega
set_option maxHeartbeats 400000 in
theorem kor (a b : Bool) (w : World) : Calls Tryd.prog 33 #[.bool a, .bool b] w fun e w' => e = .returned (.bool ((fun a b => a || b) a b)) ∧ w' = w := by
  cases a <;> cases b <;> (go_enter Tryd.func33, Tryd.ntmps33; go_wp2; go_ret; exact ⟨rfl, rfl⟩)
theorem kor2 (a b : Bool) (w : World) (r : Bool) (h : (fun a b => a || b) a b = r) : Calls Tryd.prog 33 #[.bool a, .bool b] w fun e w' => e = .returned (.bool r) ∧ w' = w := by
  rw [← h]; exact kor a b w
set_option maxRecDepth 100000 in
set_option maxHeartbeats 3200000 in
theorem wor (w : World) (vc vo : Value) (c o : List (Int × Int)) (hc : InC w vc c) (ho : InC w vo o) (sc : settledC c) (so : settledC o) :
    Calls Tryd.prog 32 #[vc, vo, .func (Fn.func 33) #[] #[]] w fun e w' => ∃ v, e = .returned v ∧ OwnC w' w.heap.size v (opC (fun a b => a || b) c o) ∧ Below w.heap.size w w' := by
  have HC := Lib.hid hc
  have HO := Lib.hid ho
  have SC := Lib.hid sc
  have SO := Lib.hid so
  obtain ⟨ac, cc, rfl, _⟩ := hc
  obtain ⟨ao, co, rfl, _⟩ := ho
  clear sc so
  go_enter Tryd.func32, Tryd.ntmps32
  go_wp2_with fail
  go_loopw [7, 8] (fun u x wr => ∃ (n : Nat) (lo : Int) (out : List (Int × Int)), 0 ≤ lo ∧ lo ≤ 1114112 ∧ (1114112 - lo).toNat ≤ n ∧ x = .int .i32 lo ∧ opC (fun a b => a || b) c o = withC (fun a b => a || b) c o n lo out ∧ settledC out ∧ (∀ y ∈ out, y.2 < lo) ∧ OwnC wr w.heap.size u out ∧ Below w.heap.size w wr) (fun _ x _ => (1114112 - intOf x).toNat)
  case atStart => exact ⟨1114112, 0, [], by omega, by omega, by omega, rfl, rfl, trivial, (fun y hy => by cases hy), World.ownsRow_nil _ _ _ _, Below.refl _ _⟩
  case round =>
    obtain ⟨n, lo, out, h0, h1, hn, rfl, he, hs, hlt, hown, hb⟩ := hrel
    have HE := Lib.hid he
    have HS := Lib.hid hs
    have HLT := Lib.hid hlt
    have HOW := Lib.hid hown
    have HB := Lib.hid hb
    clear he hs hlt hown hb
    by_cases hl : lo ≤ 1114111
    · obtain ⟨⟨b1, e1⟩, hq1⟩ : ∃ z, stretchC c lo = z := ⟨_, rfl⟩
      obtain ⟨⟨b2, e2⟩, hq2⟩ : ∃ z, stretchC o lo = z := ⟨_, rfl⟩
      have s1 := stretch_ok (a := 0) SC.out lo (by unfold cTop; omega)
      have s2 := stretch_ok (a := 0) SO.out lo (by unfold cTop; omega)
      rw [hq1] at s1
      rw [hq2] at s2
      have g1 : lo ≤ e1 ∧ e1 ≤ 1114111 := ⟨s1.1, s1.2.1⟩
      have g2 : lo ≤ e2 ∧ e2 ≤ 1114111 := ⟨s2.1, s2.2.1⟩
      clear s1 s2
      have HN : Hid (∃ m, n = m + 1) := Lib.hid ⟨n - 1, by omega⟩
      have HQ1 := Lib.hid hq1
      have HQ2 := Lib.hid hq2
      clear hq1 hq2
      go_wp2_with fail
      with_reducible refine (stretch_as _ _ c lo (HC.out.below HB.out (Nat.le_refl _)) SC.out (settled_few SC.out) b1 e1 HQ1.out).mono ?_
      rintro z w1 ⟨rfl, hb1⟩
      have HB1 := Lib.hid (HB.out.trans (hb1.mono HB.out.size))
      have HOW1 := Lib.hid (HOW.out.below hb1)
      clear hb1
      go_wp2_with fail
      with_reducible refine (stretch_as _ _ o lo (HO.out.below HB1.out (Nat.le_refl _)) SO.out (settled_few SO.out) b2 e2 HQ2.out).mono ?_
      rintro z w2 ⟨rfl, hb2⟩
      have HB2 := Lib.hid (HB1.out.trans (hb2.mono HB1.out.size))
      have HOW2 := Lib.hid (HOW1.out.below hb2)
      clear hb2
      have hmin : min (min e1 e2) 1114111 = min e1 e2 := by omega
      go_wp2_with fail
      · rename_i hcmp
        have hmn : min e1 e2 = e2 := by omega
        have HMN := Lib.hid hmn
        have hge : lo ≤ e2 ∧ e2 ≤ 1114111 := by omega
        clear hmn hmin
        cases hf : (fun a b => a || b) b1 b2 with
        | true =>
          have HF := Lib.hid hf
          clear hf
          with_reducible refine (kor2 b1 b2 _ true HF.out).mono ?_
          rintro z w_ ⟨rfl, rfl⟩
          have HST : Hid (withC (fun a b => a || b) c o n lo out = withC (fun a b => a || b) c o (n - 1) (e2 + 1) (joinC out (lo, e2))) := Lib.hid (with_yes HQ1.out HQ2.out hl (by omega) HF.out HMN.out)
          have HJO := Lib.hid (join_step HS.out HLT.out h0 hge.1 hge.2)
          go_wp2_with fail
          with_reducible refine (joined_as _ w.heap.size u7 out (lo, e2) HOW2.out HB2.out.size (settled_few HS.out) (settled_his HS.out) ⟨by omega, by omega⟩).mono ?_
          rintro z w4 ⟨v4, rfl, ho4, hb4⟩
          have HO4 := Lib.hid ho4
          have HB4 := Lib.hid (HB2.out.trans hb4)
          clear ho4 hb4
          go_wp2
          go_roundw
          case rel => exact ⟨n - 1, e2 + 1, _, by omega, by omega, by omega, by go_num, HE.out.trans HST.out, HJO.out.1, HJO.out.2, HO4.out, HB4.out⟩
          case measure => simp [intOf]; omega
        | false =>
          have HF := Lib.hid hf
          clear hf
          with_reducible refine (kor2 b1 b2 _ false HF.out).mono ?_
          rintro z w_ ⟨rfl, rfl⟩
          have HST : Hid (withC (fun a b => a || b) c o n lo out = withC (fun a b => a || b) c o (n - 1) (e2 + 1) out) := Lib.hid (with_no HQ1.out HQ2.out hl (by omega) HF.out HMN.out)
          go_wp2
          go_roundw
          case rel => exact ⟨n - 1, e2 + 1, out, by omega, by omega, by omega, by go_num, HE.out.trans HST.out, HS.out, (fun y hy => by have := HLT.out y hy; omega), HOW2.out, HB2.out⟩
          case measure => simp [intOf]; omega
      · rename_i hcmp
        have hmn : min e1 e2 = e1 := by omega
        have HMN := Lib.hid hmn
        have hge : lo ≤ e1 ∧ e1 ≤ 1114111 := by omega
        clear hmn hmin
        cases hf : (fun a b => a || b) b1 b2 with
        | true =>
          have HF := Lib.hid hf
          clear hf
          with_reducible refine (kor2 b1 b2 _ true HF.out).mono ?_
          rintro z w_ ⟨rfl, rfl⟩
          have HST : Hid (withC (fun a b => a || b) c o n lo out = withC (fun a b => a || b) c o (n - 1) (e1 + 1) (joinC out (lo, e1))) := Lib.hid (with_yes HQ1.out HQ2.out hl (by omega) HF.out HMN.out)
          have HJO := Lib.hid (join_step HS.out HLT.out h0 hge.1 hge.2)
          go_wp2_with fail
          with_reducible refine (joined_as _ w.heap.size u7 out (lo, e1) HOW2.out HB2.out.size (settled_few HS.out) (settled_his HS.out) ⟨by omega, by omega⟩).mono ?_
          rintro z w4 ⟨v4, rfl, ho4, hb4⟩
          have HO4 := Lib.hid ho4
          have HB4 := Lib.hid (HB2.out.trans hb4)
          clear ho4 hb4
          go_wp2
          go_roundw
          case rel => exact ⟨n - 1, e1 + 1, _, by omega, by omega, by omega, by go_num, HE.out.trans HST.out, HJO.out.1, HJO.out.2, HO4.out, HB4.out⟩
          case measure => simp [intOf]; omega
        | false =>
          have HF := Lib.hid hf
          clear hf
          with_reducible refine (kor2 b1 b2 _ false HF.out).mono ?_
          rintro z w_ ⟨rfl, rfl⟩
          have HST : Hid (withC (fun a b => a || b) c o n lo out = withC (fun a b => a || b) c o (n - 1) (e1 + 1) out) := Lib.hid (with_no HQ1.out HQ2.out hl (by omega) HF.out HMN.out)
          go_wp2
          go_roundw
          case rel => exact ⟨n - 1, e1 + 1, out, by omega, by omega, by omega, by go_num, HE.out.trans HST.out, HS.out, (fun y hy => by have := HLT.out y hy; omega), HOW2.out, HB2.out⟩
          case measure => simp [intOf]; omega
    · go_wp2
      go_ret
      refine ⟨_, rfl, ?_, HB.out⟩
      have : withC (fun a b => a || b) c o n lo out = out := by
        cases n with
        | zero => rfl
        | succ n => unfold withC; rw [if_neg (by unfold cTop; omega)]
      rw [HE.out, this]
      exact HOW.out
set_option maxHeartbeats 400000 in
theorem kand (a b : Bool) (w : World) : Calls Tryd.prog 34 #[.bool a, .bool b] w fun e w' => e = .returned (.bool ((fun a b => a && b) a b)) ∧ w' = w := by
  cases a <;> cases b <;> (go_enter Tryd.func34, Tryd.ntmps34; go_wp2; go_ret; exact ⟨rfl, rfl⟩)
theorem kand2 (a b : Bool) (w : World) (r : Bool) (h : (fun a b => a && b) a b = r) : Calls Tryd.prog 34 #[.bool a, .bool b] w fun e w' => e = .returned (.bool r) ∧ w' = w := by
  rw [← h]; exact kand a b w
set_option maxRecDepth 100000 in
set_option maxHeartbeats 3200000 in
theorem wand (w : World) (vc vo : Value) (c o : List (Int × Int)) (hc : InC w vc c) (ho : InC w vo o) (sc : settledC c) (so : settledC o) :
    Calls Tryd.prog 32 #[vc, vo, .func (Fn.func 34) #[] #[]] w fun e w' => ∃ v, e = .returned v ∧ OwnC w' w.heap.size v (opC (fun a b => a && b) c o) ∧ Below w.heap.size w w' := by
  have HC := Lib.hid hc
  have HO := Lib.hid ho
  have SC := Lib.hid sc
  have SO := Lib.hid so
  obtain ⟨ac, cc, rfl, _⟩ := hc
  obtain ⟨ao, co, rfl, _⟩ := ho
  clear sc so
  go_enter Tryd.func32, Tryd.ntmps32
  go_wp2_with fail
  go_loopw [7, 8] (fun u x wr => ∃ (n : Nat) (lo : Int) (out : List (Int × Int)), 0 ≤ lo ∧ lo ≤ 1114112 ∧ (1114112 - lo).toNat ≤ n ∧ x = .int .i32 lo ∧ opC (fun a b => a && b) c o = withC (fun a b => a && b) c o n lo out ∧ settledC out ∧ (∀ y ∈ out, y.2 < lo) ∧ OwnC wr w.heap.size u out ∧ Below w.heap.size w wr) (fun _ x _ => (1114112 - intOf x).toNat)
  case atStart => exact ⟨1114112, 0, [], by omega, by omega, by omega, rfl, rfl, trivial, (fun y hy => by cases hy), World.ownsRow_nil _ _ _ _, Below.refl _ _⟩
  case round =>
    obtain ⟨n, lo, out, h0, h1, hn, rfl, he, hs, hlt, hown, hb⟩ := hrel
    have HE := Lib.hid he
    have HS := Lib.hid hs
    have HLT := Lib.hid hlt
    have HOW := Lib.hid hown
    have HB := Lib.hid hb
    clear he hs hlt hown hb
    by_cases hl : lo ≤ 1114111
    · obtain ⟨⟨b1, e1⟩, hq1⟩ : ∃ z, stretchC c lo = z := ⟨_, rfl⟩
      obtain ⟨⟨b2, e2⟩, hq2⟩ : ∃ z, stretchC o lo = z := ⟨_, rfl⟩
      have s1 := stretch_ok (a := 0) SC.out lo (by unfold cTop; omega)
      have s2 := stretch_ok (a := 0) SO.out lo (by unfold cTop; omega)
      rw [hq1] at s1
      rw [hq2] at s2
      have g1 : lo ≤ e1 ∧ e1 ≤ 1114111 := ⟨s1.1, s1.2.1⟩
      have g2 : lo ≤ e2 ∧ e2 ≤ 1114111 := ⟨s2.1, s2.2.1⟩
      clear s1 s2
      have HN : Hid (∃ m, n = m + 1) := Lib.hid ⟨n - 1, by omega⟩
      have HQ1 := Lib.hid hq1
      have HQ2 := Lib.hid hq2
      clear hq1 hq2
      go_wp2_with fail
      with_reducible refine (stretch_as _ _ c lo (HC.out.below HB.out (Nat.le_refl _)) SC.out (settled_few SC.out) b1 e1 HQ1.out).mono ?_
      rintro z w1 ⟨rfl, hb1⟩
      have HB1 := Lib.hid (HB.out.trans (hb1.mono HB.out.size))
      have HOW1 := Lib.hid (HOW.out.below hb1)
      clear hb1
      go_wp2_with fail
      with_reducible refine (stretch_as _ _ o lo (HO.out.below HB1.out (Nat.le_refl _)) SO.out (settled_few SO.out) b2 e2 HQ2.out).mono ?_
      rintro z w2 ⟨rfl, hb2⟩
      have HB2 := Lib.hid (HB1.out.trans (hb2.mono HB1.out.size))
      have HOW2 := Lib.hid (HOW1.out.below hb2)
      clear hb2
      have hmin : min (min e1 e2) 1114111 = min e1 e2 := by omega
      go_wp2_with fail
      · rename_i hcmp
        have hmn : min e1 e2 = e2 := by omega
        have HMN := Lib.hid hmn
        have hge : lo ≤ e2 ∧ e2 ≤ 1114111 := by omega
        clear hmn hmin
        cases hf : (fun a b => a && b) b1 b2 with
        | true =>
          have HF := Lib.hid hf
          clear hf
          with_reducible refine (kand2 b1 b2 _ true HF.out).mono ?_
          rintro z w_ ⟨rfl, rfl⟩
          have HST : Hid (withC (fun a b => a && b) c o n lo out = withC (fun a b => a && b) c o (n - 1) (e2 + 1) (joinC out (lo, e2))) := Lib.hid (with_yes HQ1.out HQ2.out hl (by omega) HF.out HMN.out)
          have HJO := Lib.hid (join_step HS.out HLT.out h0 hge.1 hge.2)
          go_wp2_with fail
          with_reducible refine (joined_as _ w.heap.size u7 out (lo, e2) HOW2.out HB2.out.size (settled_few HS.out) (settled_his HS.out) ⟨by omega, by omega⟩).mono ?_
          rintro z w4 ⟨v4, rfl, ho4, hb4⟩
          have HO4 := Lib.hid ho4
          have HB4 := Lib.hid (HB2.out.trans hb4)
          clear ho4 hb4
          go_wp2
          go_roundw
          case rel => exact ⟨n - 1, e2 + 1, _, by omega, by omega, by omega, by go_num, HE.out.trans HST.out, HJO.out.1, HJO.out.2, HO4.out, HB4.out⟩
          case measure => simp [intOf]; omega
        | false =>
          have HF := Lib.hid hf
          clear hf
          with_reducible refine (kand2 b1 b2 _ false HF.out).mono ?_
          rintro z w_ ⟨rfl, rfl⟩
          have HST : Hid (withC (fun a b => a && b) c o n lo out = withC (fun a b => a && b) c o (n - 1) (e2 + 1) out) := Lib.hid (with_no HQ1.out HQ2.out hl (by omega) HF.out HMN.out)
          go_wp2
          go_roundw
          case rel => exact ⟨n - 1, e2 + 1, out, by omega, by omega, by omega, by go_num, HE.out.trans HST.out, HS.out, (fun y hy => by have := HLT.out y hy; omega), HOW2.out, HB2.out⟩
          case measure => simp [intOf]; omega
      · rename_i hcmp
        have hmn : min e1 e2 = e1 := by omega
        have HMN := Lib.hid hmn
        have hge : lo ≤ e1 ∧ e1 ≤ 1114111 := by omega
        clear hmn hmin
        cases hf : (fun a b => a && b) b1 b2 with
        | true =>
          have HF := Lib.hid hf
          clear hf
          with_reducible refine (kand2 b1 b2 _ true HF.out).mono ?_
          rintro z w_ ⟨rfl, rfl⟩
          have HST : Hid (withC (fun a b => a && b) c o n lo out = withC (fun a b => a && b) c o (n - 1) (e1 + 1) (joinC out (lo, e1))) := Lib.hid (with_yes HQ1.out HQ2.out hl (by omega) HF.out HMN.out)
          have HJO := Lib.hid (join_step HS.out HLT.out h0 hge.1 hge.2)
          go_wp2_with fail
          with_reducible refine (joined_as _ w.heap.size u7 out (lo, e1) HOW2.out HB2.out.size (settled_few HS.out) (settled_his HS.out) ⟨by omega, by omega⟩).mono ?_
          rintro z w4 ⟨v4, rfl, ho4, hb4⟩
          have HO4 := Lib.hid ho4
          have HB4 := Lib.hid (HB2.out.trans hb4)
          clear ho4 hb4
          go_wp2
          go_roundw
          case rel => exact ⟨n - 1, e1 + 1, _, by omega, by omega, by omega, by go_num, HE.out.trans HST.out, HJO.out.1, HJO.out.2, HO4.out, HB4.out⟩
          case measure => simp [intOf]; omega
        | false =>
          have HF := Lib.hid hf
          clear hf
          with_reducible refine (kand2 b1 b2 _ false HF.out).mono ?_
          rintro z w_ ⟨rfl, rfl⟩
          have HST : Hid (withC (fun a b => a && b) c o n lo out = withC (fun a b => a && b) c o (n - 1) (e1 + 1) out) := Lib.hid (with_no HQ1.out HQ2.out hl (by omega) HF.out HMN.out)
          go_wp2
          go_roundw
          case rel => exact ⟨n - 1, e1 + 1, out, by omega, by omega, by omega, by go_num, HE.out.trans HST.out, HS.out, (fun y hy => by have := HLT.out y hy; omega), HOW2.out, HB2.out⟩
          case measure => simp [intOf]; omega
    · go_wp2
      go_ret
      refine ⟨_, rfl, ?_, HB.out⟩
      have : withC (fun a b => a && b) c o n lo out = out := by
        cases n with
        | zero => rfl
        | succ n => unfold withC; rw [if_neg (by unfold cTop; omega)]
      rw [HE.out, this]
      exact HOW.out
set_option maxHeartbeats 400000 in
theorem kminus (a b : Bool) (w : World) : Calls Tryd.prog 35 #[.bool a, .bool b] w fun e w' => e = .returned (.bool ((fun a b => a && !b) a b)) ∧ w' = w := by
  cases a <;> cases b <;> (go_enter Tryd.func35, Tryd.ntmps35; go_wp2; go_ret; exact ⟨rfl, rfl⟩)
theorem kminus2 (a b : Bool) (w : World) (r : Bool) (h : (fun a b => a && !b) a b = r) : Calls Tryd.prog 35 #[.bool a, .bool b] w fun e w' => e = .returned (.bool r) ∧ w' = w := by
  rw [← h]; exact kminus a b w
set_option maxRecDepth 100000 in
set_option maxHeartbeats 3200000 in
theorem wminus (w : World) (vc vo : Value) (c o : List (Int × Int)) (hc : InC w vc c) (ho : InC w vo o) (sc : settledC c) (so : settledC o) :
    Calls Tryd.prog 32 #[vc, vo, .func (Fn.func 35) #[] #[]] w fun e w' => ∃ v, e = .returned v ∧ OwnC w' w.heap.size v (opC (fun a b => a && !b) c o) ∧ Below w.heap.size w w' := by
  have HC := Lib.hid hc
  have HO := Lib.hid ho
  have SC := Lib.hid sc
  have SO := Lib.hid so
  obtain ⟨ac, cc, rfl, _⟩ := hc
  obtain ⟨ao, co, rfl, _⟩ := ho
  clear sc so
  go_enter Tryd.func32, Tryd.ntmps32
  go_wp2_with fail
  go_loopw [7, 8] (fun u x wr => ∃ (n : Nat) (lo : Int) (out : List (Int × Int)), 0 ≤ lo ∧ lo ≤ 1114112 ∧ (1114112 - lo).toNat ≤ n ∧ x = .int .i32 lo ∧ opC (fun a b => a && !b) c o = withC (fun a b => a && !b) c o n lo out ∧ settledC out ∧ (∀ y ∈ out, y.2 < lo) ∧ OwnC wr w.heap.size u out ∧ Below w.heap.size w wr) (fun _ x _ => (1114112 - intOf x).toNat)
  case atStart => exact ⟨1114112, 0, [], by omega, by omega, by omega, rfl, rfl, trivial, (fun y hy => by cases hy), World.ownsRow_nil _ _ _ _, Below.refl _ _⟩
  case round =>
    obtain ⟨n, lo, out, h0, h1, hn, rfl, he, hs, hlt, hown, hb⟩ := hrel
    have HE := Lib.hid he
    have HS := Lib.hid hs
    have HLT := Lib.hid hlt
    have HOW := Lib.hid hown
    have HB := Lib.hid hb
    clear he hs hlt hown hb
    by_cases hl : lo ≤ 1114111
    · obtain ⟨⟨b1, e1⟩, hq1⟩ : ∃ z, stretchC c lo = z := ⟨_, rfl⟩
      obtain ⟨⟨b2, e2⟩, hq2⟩ : ∃ z, stretchC o lo = z := ⟨_, rfl⟩
      have s1 := stretch_ok (a := 0) SC.out lo (by unfold cTop; omega)
      have s2 := stretch_ok (a := 0) SO.out lo (by unfold cTop; omega)
      rw [hq1] at s1
      rw [hq2] at s2
      have g1 : lo ≤ e1 ∧ e1 ≤ 1114111 := ⟨s1.1, s1.2.1⟩
      have g2 : lo ≤ e2 ∧ e2 ≤ 1114111 := ⟨s2.1, s2.2.1⟩
      clear s1 s2
      have HN : Hid (∃ m, n = m + 1) := Lib.hid ⟨n - 1, by omega⟩
      have HQ1 := Lib.hid hq1
      have HQ2 := Lib.hid hq2
      clear hq1 hq2
      go_wp2_with fail
      with_reducible refine (stretch_as _ _ c lo (HC.out.below HB.out (Nat.le_refl _)) SC.out (settled_few SC.out) b1 e1 HQ1.out).mono ?_
      rintro z w1 ⟨rfl, hb1⟩
      have HB1 := Lib.hid (HB.out.trans (hb1.mono HB.out.size))
      have HOW1 := Lib.hid (HOW.out.below hb1)
      clear hb1
      go_wp2_with fail
      with_reducible refine (stretch_as _ _ o lo (HO.out.below HB1.out (Nat.le_refl _)) SO.out (settled_few SO.out) b2 e2 HQ2.out).mono ?_
      rintro z w2 ⟨rfl, hb2⟩
      have HB2 := Lib.hid (HB1.out.trans (hb2.mono HB1.out.size))
      have HOW2 := Lib.hid (HOW1.out.below hb2)
      clear hb2
      have hmin : min (min e1 e2) 1114111 = min e1 e2 := by omega
      go_wp2_with fail
      · rename_i hcmp
        have hmn : min e1 e2 = e2 := by omega
        have HMN := Lib.hid hmn
        have hge : lo ≤ e2 ∧ e2 ≤ 1114111 := by omega
        clear hmn hmin
        cases hf : (fun a b => a && !b) b1 b2 with
        | true =>
          have HF := Lib.hid hf
          clear hf
          with_reducible refine (kminus2 b1 b2 _ true HF.out).mono ?_
          rintro z w_ ⟨rfl, rfl⟩
          have HST : Hid (withC (fun a b => a && !b) c o n lo out = withC (fun a b => a && !b) c o (n - 1) (e2 + 1) (joinC out (lo, e2))) := Lib.hid (with_yes HQ1.out HQ2.out hl (by omega) HF.out HMN.out)
          have HJO := Lib.hid (join_step HS.out HLT.out h0 hge.1 hge.2)
          go_wp2_with fail
          with_reducible refine (joined_as _ w.heap.size u7 out (lo, e2) HOW2.out HB2.out.size (settled_few HS.out) (settled_his HS.out) ⟨by omega, by omega⟩).mono ?_
          rintro z w4 ⟨v4, rfl, ho4, hb4⟩
          have HO4 := Lib.hid ho4
          have HB4 := Lib.hid (HB2.out.trans hb4)
          clear ho4 hb4
          go_wp2
          go_roundw
          case rel => exact ⟨n - 1, e2 + 1, _, by omega, by omega, by omega, by go_num, HE.out.trans HST.out, HJO.out.1, HJO.out.2, HO4.out, HB4.out⟩
          case measure => simp [intOf]; omega
        | false =>
          have HF := Lib.hid hf
          clear hf
          with_reducible refine (kminus2 b1 b2 _ false HF.out).mono ?_
          rintro z w_ ⟨rfl, rfl⟩
          have HST : Hid (withC (fun a b => a && !b) c o n lo out = withC (fun a b => a && !b) c o (n - 1) (e2 + 1) out) := Lib.hid (with_no HQ1.out HQ2.out hl (by omega) HF.out HMN.out)
          go_wp2
          go_roundw
          case rel => exact ⟨n - 1, e2 + 1, out, by omega, by omega, by omega, by go_num, HE.out.trans HST.out, HS.out, (fun y hy => by have := HLT.out y hy; omega), HOW2.out, HB2.out⟩
          case measure => simp [intOf]; omega
      · rename_i hcmp
        have hmn : min e1 e2 = e1 := by omega
        have HMN := Lib.hid hmn
        have hge : lo ≤ e1 ∧ e1 ≤ 1114111 := by omega
        clear hmn hmin
        cases hf : (fun a b => a && !b) b1 b2 with
        | true =>
          have HF := Lib.hid hf
          clear hf
          with_reducible refine (kminus2 b1 b2 _ true HF.out).mono ?_
          rintro z w_ ⟨rfl, rfl⟩
          have HST : Hid (withC (fun a b => a && !b) c o n lo out = withC (fun a b => a && !b) c o (n - 1) (e1 + 1) (joinC out (lo, e1))) := Lib.hid (with_yes HQ1.out HQ2.out hl (by omega) HF.out HMN.out)
          have HJO := Lib.hid (join_step HS.out HLT.out h0 hge.1 hge.2)
          go_wp2_with fail
          with_reducible refine (joined_as _ w.heap.size u7 out (lo, e1) HOW2.out HB2.out.size (settled_few HS.out) (settled_his HS.out) ⟨by omega, by omega⟩).mono ?_
          rintro z w4 ⟨v4, rfl, ho4, hb4⟩
          have HO4 := Lib.hid ho4
          have HB4 := Lib.hid (HB2.out.trans hb4)
          clear ho4 hb4
          go_wp2
          go_roundw
          case rel => exact ⟨n - 1, e1 + 1, _, by omega, by omega, by omega, by go_num, HE.out.trans HST.out, HJO.out.1, HJO.out.2, HO4.out, HB4.out⟩
          case measure => simp [intOf]; omega
        | false =>
          have HF := Lib.hid hf
          clear hf
          with_reducible refine (kminus2 b1 b2 _ false HF.out).mono ?_
          rintro z w_ ⟨rfl, rfl⟩
          have HST : Hid (withC (fun a b => a && !b) c o n lo out = withC (fun a b => a && !b) c o (n - 1) (e1 + 1) out) := Lib.hid (with_no HQ1.out HQ2.out hl (by omega) HF.out HMN.out)
          go_wp2
          go_roundw
          case rel => exact ⟨n - 1, e1 + 1, out, by omega, by omega, by omega, by go_num, HE.out.trans HST.out, HS.out, (fun y hy => by have := HLT.out y hy; omega), HOW2.out, HB2.out⟩
          case measure => simp [intOf]; omega
    · go_wp2
      go_ret
      refine ⟨_, rfl, ?_, HB.out⟩
      have : withC (fun a b => a && !b) c o n lo out = out := by
        cases n with
        | zero => rfl
        | succ n => unfold withC; rw [if_neg (by unfold cTop; omega)]
      rw [HE.out, this]
      exact HOW.out
set_option maxHeartbeats 400000 in
theorem knot (a b : Bool) (w : World) : Calls Tryd.prog 36 #[.bool a, .bool b] w fun e w' => e = .returned (.bool ((fun a b => !a) a b)) ∧ w' = w := by
  cases a <;> cases b <;> (go_enter Tryd.func36, Tryd.ntmps36; go_wp2; go_ret; exact ⟨rfl, rfl⟩)
theorem knot2 (a b : Bool) (w : World) (r : Bool) (h : (fun a b => !a) a b = r) : Calls Tryd.prog 36 #[.bool a, .bool b] w fun e w' => e = .returned (.bool r) ∧ w' = w := by
  rw [← h]; exact knot a b w
set_option maxRecDepth 100000 in
set_option maxHeartbeats 3200000 in
theorem wnot (w : World) (vc vo : Value) (c o : List (Int × Int)) (hc : InC w vc c) (ho : InC w vo o) (sc : settledC c) (so : settledC o) :
    Calls Tryd.prog 32 #[vc, vo, .func (Fn.func 36) #[] #[]] w fun e w' => ∃ v, e = .returned v ∧ OwnC w' w.heap.size v (opC (fun a b => !a) c o) ∧ Below w.heap.size w w' := by
  have HC := Lib.hid hc
  have HO := Lib.hid ho
  have SC := Lib.hid sc
  have SO := Lib.hid so
  obtain ⟨ac, cc, rfl, _⟩ := hc
  obtain ⟨ao, co, rfl, _⟩ := ho
  clear sc so
  go_enter Tryd.func32, Tryd.ntmps32
  go_wp2_with fail
  go_loopw [7, 8] (fun u x wr => ∃ (n : Nat) (lo : Int) (out : List (Int × Int)), 0 ≤ lo ∧ lo ≤ 1114112 ∧ (1114112 - lo).toNat ≤ n ∧ x = .int .i32 lo ∧ opC (fun a b => !a) c o = withC (fun a b => !a) c o n lo out ∧ settledC out ∧ (∀ y ∈ out, y.2 < lo) ∧ OwnC wr w.heap.size u out ∧ Below w.heap.size w wr) (fun _ x _ => (1114112 - intOf x).toNat)
  case atStart => exact ⟨1114112, 0, [], by omega, by omega, by omega, rfl, rfl, trivial, (fun y hy => by cases hy), World.ownsRow_nil _ _ _ _, Below.refl _ _⟩
  case round =>
    obtain ⟨n, lo, out, h0, h1, hn, rfl, he, hs, hlt, hown, hb⟩ := hrel
    have HE := Lib.hid he
    have HS := Lib.hid hs
    have HLT := Lib.hid hlt
    have HOW := Lib.hid hown
    have HB := Lib.hid hb
    clear he hs hlt hown hb
    by_cases hl : lo ≤ 1114111
    · obtain ⟨⟨b1, e1⟩, hq1⟩ : ∃ z, stretchC c lo = z := ⟨_, rfl⟩
      obtain ⟨⟨b2, e2⟩, hq2⟩ : ∃ z, stretchC o lo = z := ⟨_, rfl⟩
      have s1 := stretch_ok (a := 0) SC.out lo (by unfold cTop; omega)
      have s2 := stretch_ok (a := 0) SO.out lo (by unfold cTop; omega)
      rw [hq1] at s1
      rw [hq2] at s2
      have g1 : lo ≤ e1 ∧ e1 ≤ 1114111 := ⟨s1.1, s1.2.1⟩
      have g2 : lo ≤ e2 ∧ e2 ≤ 1114111 := ⟨s2.1, s2.2.1⟩
      clear s1 s2
      have HN : Hid (∃ m, n = m + 1) := Lib.hid ⟨n - 1, by omega⟩
      have HQ1 := Lib.hid hq1
      have HQ2 := Lib.hid hq2
      clear hq1 hq2
      go_wp2_with fail
      with_reducible refine (stretch_as _ _ c lo (HC.out.below HB.out (Nat.le_refl _)) SC.out (settled_few SC.out) b1 e1 HQ1.out).mono ?_
      rintro z w1 ⟨rfl, hb1⟩
      have HB1 := Lib.hid (HB.out.trans (hb1.mono HB.out.size))
      have HOW1 := Lib.hid (HOW.out.below hb1)
      clear hb1
      go_wp2_with fail
      with_reducible refine (stretch_as _ _ o lo (HO.out.below HB1.out (Nat.le_refl _)) SO.out (settled_few SO.out) b2 e2 HQ2.out).mono ?_
      rintro z w2 ⟨rfl, hb2⟩
      have HB2 := Lib.hid (HB1.out.trans (hb2.mono HB1.out.size))
      have HOW2 := Lib.hid (HOW1.out.below hb2)
      clear hb2
      have hmin : min (min e1 e2) 1114111 = min e1 e2 := by omega
      go_wp2_with fail
      · rename_i hcmp
        have hmn : min e1 e2 = e2 := by omega
        have HMN := Lib.hid hmn
        have hge : lo ≤ e2 ∧ e2 ≤ 1114111 := by omega
        clear hmn hmin
        cases hf : (fun a b => !a) b1 b2 with
        | true =>
          have HF := Lib.hid hf
          clear hf
          with_reducible refine (knot2 b1 b2 _ true HF.out).mono ?_
          rintro z w_ ⟨rfl, rfl⟩
          have HST : Hid (withC (fun a b => !a) c o n lo out = withC (fun a b => !a) c o (n - 1) (e2 + 1) (joinC out (lo, e2))) := Lib.hid (with_yes HQ1.out HQ2.out hl (by omega) HF.out HMN.out)
          have HJO := Lib.hid (join_step HS.out HLT.out h0 hge.1 hge.2)
          go_wp2_with fail
          with_reducible refine (joined_as _ w.heap.size u7 out (lo, e2) HOW2.out HB2.out.size (settled_few HS.out) (settled_his HS.out) ⟨by omega, by omega⟩).mono ?_
          rintro z w4 ⟨v4, rfl, ho4, hb4⟩
          have HO4 := Lib.hid ho4
          have HB4 := Lib.hid (HB2.out.trans hb4)
          clear ho4 hb4
          go_wp2
          go_roundw
          case rel => exact ⟨n - 1, e2 + 1, _, by omega, by omega, by omega, by go_num, HE.out.trans HST.out, HJO.out.1, HJO.out.2, HO4.out, HB4.out⟩
          case measure => simp [intOf]; omega
        | false =>
          have HF := Lib.hid hf
          clear hf
          with_reducible refine (knot2 b1 b2 _ false HF.out).mono ?_
          rintro z w_ ⟨rfl, rfl⟩
          have HST : Hid (withC (fun a b => !a) c o n lo out = withC (fun a b => !a) c o (n - 1) (e2 + 1) out) := Lib.hid (with_no HQ1.out HQ2.out hl (by omega) HF.out HMN.out)
          go_wp2
          go_roundw
          case rel => exact ⟨n - 1, e2 + 1, out, by omega, by omega, by omega, by go_num, HE.out.trans HST.out, HS.out, (fun y hy => by have := HLT.out y hy; omega), HOW2.out, HB2.out⟩
          case measure => simp [intOf]; omega
      · rename_i hcmp
        have hmn : min e1 e2 = e1 := by omega
        have HMN := Lib.hid hmn
        have hge : lo ≤ e1 ∧ e1 ≤ 1114111 := by omega
        clear hmn hmin
        cases hf : (fun a b => !a) b1 b2 with
        | true =>
          have HF := Lib.hid hf
          clear hf
          with_reducible refine (knot2 b1 b2 _ true HF.out).mono ?_
          rintro z w_ ⟨rfl, rfl⟩
          have HST : Hid (withC (fun a b => !a) c o n lo out = withC (fun a b => !a) c o (n - 1) (e1 + 1) (joinC out (lo, e1))) := Lib.hid (with_yes HQ1.out HQ2.out hl (by omega) HF.out HMN.out)
          have HJO := Lib.hid (join_step HS.out HLT.out h0 hge.1 hge.2)
          go_wp2_with fail
          with_reducible refine (joined_as _ w.heap.size u7 out (lo, e1) HOW2.out HB2.out.size (settled_few HS.out) (settled_his HS.out) ⟨by omega, by omega⟩).mono ?_
          rintro z w4 ⟨v4, rfl, ho4, hb4⟩
          have HO4 := Lib.hid ho4
          have HB4 := Lib.hid (HB2.out.trans hb4)
          clear ho4 hb4
          go_wp2
          go_roundw
          case rel => exact ⟨n - 1, e1 + 1, _, by omega, by omega, by omega, by go_num, HE.out.trans HST.out, HJO.out.1, HJO.out.2, HO4.out, HB4.out⟩
          case measure => simp [intOf]; omega
        | false =>
          have HF := Lib.hid hf
          clear hf
          with_reducible refine (knot2 b1 b2 _ false HF.out).mono ?_
          rintro z w_ ⟨rfl, rfl⟩
          have HST : Hid (withC (fun a b => !a) c o n lo out = withC (fun a b => !a) c o (n - 1) (e1 + 1) out) := Lib.hid (with_no HQ1.out HQ2.out hl (by omega) HF.out HMN.out)
          go_wp2
          go_roundw
          case rel => exact ⟨n - 1, e1 + 1, out, by omega, by omega, by omega, by go_num, HE.out.trans HST.out, HS.out, (fun y hy => by have := HLT.out y hy; omega), HOW2.out, HB2.out⟩
          case measure => simp [intOf]; omega
    · go_wp2
      go_ret
      refine ⟨_, rfl, ?_, HB.out⟩
      have : withC (fun a b => !a) c o n lo out = out := by
        cases n with
        | zero => rfl
        | succ n => unfold withC; rw [if_neg (by unfold cTop; omega)]
      rw [HE.out, this]
      exact HOW.out
end Go.Proofs.YtbfhkcljkblnmaaDoor
