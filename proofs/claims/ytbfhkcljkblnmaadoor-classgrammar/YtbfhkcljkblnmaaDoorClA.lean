/- Classes in memory; the closure that is searched with. -/
import Derived.Test.YtbfhkcljkblnmaaDoorProg
import Derived.Test.YtbfhkcljkblnmaaDoorCPlain
import Derived.WalkKit
import Derived.WalkSpells
import Derived.WalkLawsBesides
import Derived.Below
import Derived.Lib.Hide
import Derived.IntWalk
import Derived.Deep.RegionHeld3
import Derived.Laws.BitsAllLaws
namespace Go.Proofs.YtbfhkcljkblnmaaDoor
open Go.RowKit Florin
set_option linter.unusedVariables false
set_option linter.unusedSimpArgs false
/-- A class in memory. -/
def InC (w : World) (v : Value) (c : List (Int × Int)) : Prop :=
  ∃ a cap, v = .slice a c.length cap ∧ c.length ≤ cap ∧ cap ≤ maxLen ∧ (0 < c.length → ∃ b off, a = some ⟨b, off, none⟩ ∧ b < w.heap.size ∧ ∀ k (h : k < c.length), w.cell? ⟨b, off + k * 2, none⟩ = some (.int .i32 c[k].1) ∧ w.cell? ⟨b, off + k * 2 + 1, none⟩ = some (.int .i32 c[k].2))
theorem InC.below {w w' : World} {v : Value} {c : List (Int × Int)} {B : Nat} (h : InC w v c) (hb : Below B w w') (hs : w.heap.size ≤ B) : InC w' v c := by
  obtain ⟨a, cap, h1, h2, h3, h4⟩ := h
  refine ⟨a, cap, h1, h2, h3, fun hl => ?_⟩
  obtain ⟨b, off, e, hlt, hc⟩ := h4 hl
  refine ⟨b, off, e, Nat.lt_of_lt_of_le hlt hb.size, fun k hk => ⟨?_, ?_⟩⟩
  · exact (hb.cell (p := ⟨b, off + k * 2, none⟩) (Nat.lt_of_lt_of_le hlt hs)).trans (hc k hk).1
  · exact (hb.cell (p := ⟨b, off + k * 2 + 1, none⟩) (Nat.lt_of_lt_of_le hlt hs)).trans (hc k hk).2
set_option maxHeartbeats 800000 in
theorem test_as (w : World) (v : Value) (c : List (Int × Int)) (r : Int) (p q : Nat) (k : Nat) (hk : k < c.length) (hc : InC w v c) (h1 : w.cell? ⟨p, 0, none⟩ = some v) (h2 : w.cell? ⟨q, 0, none⟩ = some (.int .i32 r)) :
    Calls Tryd.prog 49 #[.int .i64 (k : Int), .pointer (some ⟨p, 0, none⟩), .pointer (some ⟨q, 0, none⟩)] w fun e w' => e = .returned (.bool (decide (r ≤ c[k].2))) ∧ w' = w.drew := by
  obtain ⟨a, cap, rfl, hcap, hm, hcc⟩ := hc
  obtain ⟨b, off, rfl, hlt, hcell⟩ := hcc (by omega)
  obtain ⟨c0, c1⟩ := hcell k hk
  have hki : (k : Int) < (c.length : Int) := by omega
  go_enter Tryd.func49, Tryd.ntmps49
  go_wp2_with fail
  go_region
  all_goals (try go_wp2)
  all_goals go_ret
  all_goals exact ⟨rfl, rfl⟩
set_option maxRecDepth 100000 in
set_option maxHeartbeats 1600000 in
theorem search_as (w : World) (v : Value) (c : List (Int × Int)) (r : Int) (p q : Nat) (hp : p < w.heap.size) (hq : q < w.heap.size) (hc : InC w v c) (h1 : w.cell? ⟨p, 0, none⟩ = some v) (h2 : w.cell? ⟨q, 0, none⟩ = some (.int .i32 r)) (hl : c.length ≤ 1000000)
    (hmono : ∀ i j (hi : i < c.length) (hj : j < c.length), i ≤ j → r ≤ c[i].2 → r ≤ c[j].2) :
    Calls Tryd.prog 48 #[.int .i64 (c.length : Int), .func (Fn.func 49) #[] #[.pointer (some ⟨p, 0, none⟩), .pointer (some ⟨q, 0, none⟩)]] w fun e w' =>
      ∃ i : Nat, e = .returned (.int .i64 (i : Int)) ∧ i ≤ c.length ∧ (∀ k (hk : k < c.length), k < i → c[k].2 < r) ∧ (∀ k (hk : k < c.length), i ≤ k → r ≤ c[k].2) ∧ Below w.heap.size w w' := by
  have HC := Lib.hid hc
  have H1 := Lib.hid h1
  have H2 := Lib.hid h2
  have HM := Lib.hid hmono
  clear hc h1 h2 hmono
  go_enter Tryd.func48, Tryd.ntmps48
  go_wp2_with fail
  go_loopw [5, 6] (fun u x wr => ∃ i j : Nat, i ≤ j ∧ j ≤ c.length ∧ u = .int .i64 i ∧ x = .int .i64 j ∧ (∀ k (hk : k < c.length), k < i → c[k].2 < r) ∧ (∀ k (hk : k < c.length), j ≤ k → r ≤ c[k].2) ∧ Below w.heap.size w wr) (fun u x _ => (intOf x).toNat - (intOf u).toNat)
  case atStart => exact ⟨0, c.length, Nat.zero_le _, Nat.le_refl _, rfl, rfl, fun k _ hk => absurd hk (by omega), fun k hk h => absurd h (by omega), Below.refl _ _⟩
  case round =>
    obtain ⟨i, j, hij, hj, rfl, rfl, hlo, hhi, hb⟩ := hrel
    have HLO := Lib.hid hlo
    have HHI := Lib.hid hhi
    have HB := Lib.hid hb
    clear hlo hhi hb
    by_cases hlt : (i : Int) < (j : Int)
    · have e0 : (0 : Int) ≤ (i : Int) + (j : Int) := by omega
      have eb : (i : Int) + (j : Int) < 2000001 := by omega
      obtain ⟨m, hm⟩ : ∃ m, (i + j) / 2 = m := ⟨_, rfl⟩
      have e1 : ((i : Int) + (j : Int)) / 2 = (m : Int) := by omega
      have h3 : i ≤ m ∧ m < j := by omega
      have hh : m < c.length := by omega
      have E1 := Lib.hid e1
      clear e1 hm
      go_wp2_with fail
      rw [E1.out]
      with_reducible refine (test_as wr v c r p q m hh (HC.out.below HB.out (Nat.le_refl _)) ((HB.out.cell (p := ⟨p, 0, none⟩) hp).trans H1.out) ((HB.out.cell (p := ⟨q, 0, none⟩) hq).trans H2.out)).mono ?_
      rintro e w1 ⟨rfl, rfl⟩
      have hml : (m : Int) < 2000001 := by omega
      clear e0 eb
      by_cases ht : r ≤ c[m].2
      · rw [decide_eq_true ht]
        have HT := Lib.hid ht
        clear ht
        go_wp2
        go_roundw
        case rel => exact ⟨i, m, by omega, by omega, rfl, rfl, HLO.out, fun k hk h => HM.out m k hh hk h HT.out, HB.out.drew⟩
        case measure => simp [intOf]; omega
      · rw [decide_eq_false ht]
        have HT := Lib.hid ht
        clear ht
        go_wp2
        go_roundw
        case rel => exact ⟨m + 1, j, by omega, by omega, by go_num, rfl, fun k hk h => by
          have h5 := HT.out
          rcases Int.lt_or_le (c[k].2) r with h4 | h4
          · exact h4
          · have := HM.out k m hk hh (by omega) h4; omega, HHI.out, HB.out.drew⟩
        case measure => simp [intOf]; omega
    · obtain rfl : i = j := by omega
      go_wp2
      go_ret
      exact ⟨i, rfl, hj, HLO.out, HHI.out, HB.out⟩
theorem find_at {c : List (Int × Int)} {r : Int} {i : Nat} (hi : i ≤ c.length) (hlo : ∀ k (hk : k < c.length), k < i → c[k].2 < r) (hhi : ∀ k (hk : k < c.length), i ≤ k → r ≤ c[k].2) :
    c.find? (fun x => decide (r ≤ x.2)) = c[i]? := by
  by_cases h : i < c.length
  · rw [List.getElem?_eq_getElem h, List.find?_eq_some_iff_getElem]
    refine ⟨by simpa using hhi i h (Nat.le_refl _), i, h, rfl, fun j hj => ?_⟩
    have := hlo j (by omega) hj
    simp
    exact this
  · rw [List.getElem?_eq_none (by omega), List.find?_eq_none]
    intro x hx
    obtain ⟨j, hj, rfl⟩ := List.mem_iff_getElem.1 hx
    have := hlo j hj (by omega)
    simp
    exact this
theorem settled_hi {a : Int} : ∀ {c : List (Int × Int)}, settledFrom a c → ∀ i j (hi : i < c.length) (hj : j < c.length), i ≤ j → c[i].2 ≤ c[j].2
  | x :: t, hc, 0, 0, _, _, _ => Int.le_refl _
  | x :: t, hc, 0, j + 1, _, hj, _ => by
    have h1 := settled_ge hc.2.2.2 (t[j]'(by simpa using hj)).2 ⟨_, List.getElem_mem _, settled_mem hc.2.2.2 _ (List.getElem_mem _), Int.le_refl _⟩
    show x.2 ≤ (t[j]'(by simpa using hj)).2
    omega
  | x :: t, hc, i + 1, j + 1, hi, hj, h => settled_hi hc.2.2.2 i j (by simpa using hi) (by simpa using hj) (by omega)
set_option maxRecDepth 100000 in
set_option maxHeartbeats 1600000 in
theorem stretch_as (w : World) (v : Value) (c : List (Int × Int)) (r : Int) (hc : InC w v c) (hs : settledC c) (hl : c.length ≤ 1000000) (b : Bool) (e : Int) (hq : stretchC c r = (b, e)) :
    Calls Tryd.prog 30 #[v, .int .i32 r] w fun x w' => x = .returned (.tuple #[.bool b, .int .i32 e]) ∧ Below w.heap.size w w' := by
  obtain ⟨a, cap, rfl, hcap, hm, hcc⟩ := hc
  have HC : Hid (InC w (.slice a c.length cap) c) := Lib.hid ⟨a, cap, rfl, hcap, hm, hcc⟩
  have HCC := Lib.hid hcc
  have HS := Lib.hid hs
  have HQ := Lib.hid hq
  clear hcc hs hq
  have B0 : Hid (Below w.heap.size w ((w.alloc (.cells #[.slice a c.length cap] 25)).alloc (.cells #[.int .i32 r] 21))) := Lib.hid (((Below.refl _ _).alloc (Nat.le_refl _) _).alloc (by simp) _)
  have HSE := Lib.hid (search_as ((w.alloc (.cells #[.slice a c.length cap] 25)).alloc (.cells #[.int .i32 r] 21)) (.slice a c.length cap) c r w.heap.size (w.heap.size + 1) (by simp; omega) (by simp) (HC.out.below B0.out (Nat.le_refl _)) (by simp) (by simp) hl (fun i j hi hj hij h => Int.le_trans h (settled_hi (a := 0) HS.out i j hi hj hij)))
  go_enter Tryd.func30, Tryd.ntmps30
  go_wp2_with fail
  with_reducible refine HSE.out.mono ?_
  rintro x w1 ⟨i, rfl, hi, hlo, hhi, b1⟩
  have HF := Lib.hid (find_at hi hlo hhi)
  have B1 := Lib.hid (B0.out.trans (b1.mono B0.out.size))
  have hc0 : w1.cell? ⟨w.heap.size, 0, none⟩ = some (.slice a c.length cap) := by rw [b1.cell (p := ⟨w.heap.size, 0, none⟩) (by simp; omega)]; simp
  have hc1 : w1.cell? ⟨w.heap.size + 1, 0, none⟩ = some (.int .i32 r) := by rw [b1.cell (p := ⟨w.heap.size + 1, 0, none⟩) (by simp)]; simp
  clear b1 hlo hhi B0
  by_cases hlt : i < c.length
  · have hii : (i : Int) < (c.length : Int) := by omega
    have hne : ((i : Int) == (c.length : Int)) = false := by simp; omega
    have hne2 : ¬ (i : Int) = (c.length : Int) := by omega
    obtain ⟨b0, off, rfl, hbl, hcell⟩ := HCC.out (by omega)
    have k0 : w1.cell? ⟨b0, off + i * 2, none⟩ = some (.int .i32 c[i].1) := (B1.out.cell (p := ⟨b0, off + i * 2, none⟩) hbl).trans (hcell i hlt).1
    have k1 : w1.cell? ⟨b0, off + i * 2 + 1, none⟩ = some (.int .i32 c[i].2) := (B1.out.cell (p := ⟨b0, off + i * 2 + 1, none⟩) hbl).trans (hcell i hlt).2
    have HQ2 : Hid ((if c[i].1 ≤ r then (true, c[i].2) else (false, c[i].1 - 1)) = (b, e)) := Lib.hid (by
      have := HQ.out
      unfold stretchC at this
      rw [HF.out, List.getElem?_eq_getElem hlt] at this
      exact this)
    have hbd := settled_ge (a := 0) HS.out c[i].1 ⟨_, List.getElem_mem _, Int.le_refl _, settled_mem (a := 0) HS.out _ (List.getElem_mem _)⟩
    clear hcell HCC
    by_cases hr : c[i].1 ≤ r
    · have h2 := HQ2.out
      rw [if_pos hr] at h2
      simp only [Prod.mk.injEq] at h2
      obtain ⟨rfl, rfl⟩ := h2
      go_wp2_with fail
      go_region
      all_goals (try go_wp2_with fail)
      all_goals (try go_region)
      all_goals (try go_wp2)
      all_goals go_ret2
      all_goals exact ⟨rfl, by first | exact B1.out.drew.drew | exact B1.out.drew | exact B1.out⟩
    · have h2 := HQ2.out
      rw [if_neg hr] at h2
      simp only [Prod.mk.injEq] at h2
      obtain ⟨rfl, rfl⟩ := h2
      unfold cTop at hbd
      go_wp2_with fail
      go_region
      all_goals (try go_wp2_with fail)
      all_goals (try go_region)
      all_goals (try go_wp2)
      all_goals go_ret2
      all_goals exact ⟨rfl, by first | exact B1.out.drew.drew | exact B1.out.drew | exact B1.out⟩
  · obtain rfl : i = c.length := by omega
    have h2 := HQ.out
    unfold stretchC at h2
    rw [HF.out, List.getElem?_eq_none (Nat.le_refl _)] at h2
    simp only [Prod.mk.injEq] at h2
    obtain ⟨rfl, rfl⟩ := h2
    go_wp2
    go_ret2
    exact ⟨rfl, B1.out⟩
end Go.Proofs.YtbfhkcljkblnmaaDoor
