/- What the law asks of ranges: is a number in one of some, is a class settled. -/
import Derived.Test.YtbfhkcljkblnmaaDoorClH
namespace Go.Proofs.YtbfhkcljkblnmaaDoor
open Go.RowKit Florin
set_option linter.unusedVariables false
set_option linter.unusedSimpArgs false
theorem from_at : ∀ {c : List (Int × Int)} {a : Int}, settledFrom a c → ∀ (k : Nat) (h : k < c.length), a ≤ c[k].1 ∧ c[k].1 ≤ c[k].2 ∧ c[k].2 ≤ cTop
  | [], _, _, k, h => absurd h (by simp)
  | x :: t, a, hs, 0, _ => ⟨hs.1, hs.2.1, hs.2.2.1⟩
  | x :: t, a, hs, k + 1, h => by
    have h1 := from_at hs.2.2.2 k (by simpa using h)
    have h2 := hs.1
    have h3 := hs.2.1
    simp only [List.getElem_cons_succ]
    omega
theorem from_next : ∀ {c : List (Int × Int)} {a : Int}, settledFrom a c → ∀ (k : Nat) (h : k + 1 < c.length), c[k].2 + 2 ≤ c[k + 1].1
  | [], _, _, k, h => absurd h (by simp)
  | x :: t, a, hs, 0, h => by
    have h1 := from_at hs.2.2.2 0 (by simpa using h)
    simpa using h1.1
  | x :: t, a, hs, k + 1, h => by
    have h1 := from_next hs.2.2.2 k (by simpa using h)
    simpa using h1
def inL (l : List (Int × Int)) (r : Int) : Bool := decide (0 ≤ r) && decide (r ≤ 1114111) && hasC l r
theorem inL_yes {l : List (Int × Int)} {r : Int} (k : Nat) (hk : k < l.length) (h1 : l[k].1 ≤ r) (h2 : r ≤ l[k].2) (h0 : 0 ≤ r) (ht : r ≤ 1114111) : inL l r = true := by
  unfold inL
  rw [(hasC_iff l r).2 ⟨l[k], List.getElem_mem hk, h1, h2⟩]
  simp [h0, ht]
theorem inL_no {l : List (Int × Int)} {r : Int} (h : ∀ j (hj : j < l.length), ¬ (l[j].1 ≤ r ∧ r ≤ l[j].2 ∧ 0 ≤ r ∧ r ≤ 1114111)) : inL l r = false := by
  cases hq : inL l r with
  | false => rfl
  | true =>
    unfold inL at hq
    simp only [Bool.and_eq_true, decide_eq_true_eq] at hq
    obtain ⟨x, hx, h1, h2⟩ := (hasC_iff l r).1 hq.2
    obtain ⟨j, hj, rfl⟩ := List.getElem_of_mem hx
    exact absurd ⟨h1, h2, hq.1.1, hq.1.2⟩ (h j hj)
set_option maxRecDepth 100000 in
set_option maxHeartbeats 1600000 in
theorem in_as (w : World) (v : Value) (l : List (Int × Int)) (r : Int) (hc : InC w v l) (hl : l.length ≤ 1000000) :
    Calls Tryd.prog 15 #[v, .int .i32 r] w fun e w' => e = .returned (.bool (inL l r)) ∧ Below w.heap.size w w' := by
  obtain ⟨a, cap, rfl, h1, h2, h3⟩ := hc
  have H3 := Lib.hid h3
  clear h3
  go_enter Tryd.func15, Tryd.ntmps15
  go_wp2_with fail
  go_loopw [9] (fun i wr => ∃ k : Nat, k ≤ l.length ∧ i = .int .i64 k ∧ (∀ j (hj : j < l.length), j < k → ¬ (l[j].1 ≤ r ∧ r ≤ l[j].2 ∧ 0 ≤ r ∧ r ≤ 1114111)) ∧ Below w.heap.size w wr) (fun i _ => l.length - (intOf i).toNat)
  case atStart => exact ⟨0, Nat.zero_le _, rfl, (fun j _ h => absurd h (by omega)), Below.refl _ _⟩
  case round =>
    obtain ⟨k, hk, rfl, hno, hb⟩ := hrel
    have HB := Lib.hid hb
    have HNO := Lib.hid hno
    clear hb hno
    by_cases hlt : k < l.length
    · have hki : (k : Int) < (l.length : Int) := by omega
      obtain ⟨b, off, rfl, hbl, hcell⟩ := H3.out (by omega)
      have c0 : wr.cell? ⟨b, off + k * 2, none⟩ = some (.int .i32 l[k].1) := (HB.out.cell (p := ⟨b, off + k * 2, none⟩) hbl).trans (hcell k hlt).1
      have c1 : wr.cell? ⟨b, off + k * 2 + 1, none⟩ = some (.int .i32 l[k].2) := (HB.out.cell (p := ⟨b, off + k * 2 + 1, none⟩) hbl).trans (hcell k hlt).2
      clear hcell
      have HYES := Lib.hid (fun h1 h2 h3 h4 => inL_yes (r := r) k hlt h1 h2 h3 h4)
      have HSTEP : Hid (¬ (l[k].1 ≤ r ∧ r ≤ l[k].2 ∧ 0 ≤ r ∧ r ≤ 1114111) → ∀ j (hj : j < l.length), j < k + 1 → ¬ (l[j].1 ≤ r ∧ r ≤ l[j].2 ∧ 0 ≤ r ∧ r ≤ 1114111)) := Lib.hid (fun hn j hj hjk => by
        rcases Nat.lt_or_ge j k with h | h
        · exact HNO.out j hj h
        · obtain rfl : j = k := by omega
          exact hn)
      have hz := HB.out.size
      generalize l[k].1 = x1 at *
      generalize l[k].2 = x2 at *
      by_cases q1 : x1 ≤ r
      · by_cases q2 : r ≤ x2
        · by_cases q3 : 0 ≤ r
          · by_cases q4 : r ≤ 1114111
            · go_wp2_with fail
              all_goals (try go_wp2)
              all_goals go_ret
              all_goals exact ⟨by rw [HYES.out q1 q2 q3 q4]; rfl, HB.out.alloc hz _⟩
            · go_wp2_with fail
              all_goals (try go_wp2)
              all_goals go_roundw
              case rel => exact ⟨k + 1, by omega, by go_num, HSTEP.out (fun h => q4 h.2.2.2), HB.out.alloc hz _⟩
              case measure => simp [intOf]; omega
          · go_wp2_with fail
            all_goals (try go_wp2)
            all_goals go_roundw
            case rel => exact ⟨k + 1, by omega, by go_num, HSTEP.out (fun h => q3 h.2.2.1), HB.out.alloc hz _⟩
            case measure => simp [intOf]; omega
        · go_wp2_with fail
          all_goals (try go_wp2)
          all_goals go_roundw
          case rel => exact ⟨k + 1, by omega, by go_num, HSTEP.out (fun h => q2 h.2.1), HB.out.alloc hz _⟩
          case measure => simp [intOf]; omega
      · go_wp2_with fail
        all_goals (try go_wp2)
        all_goals go_roundw
        case rel => exact ⟨k + 1, by omega, by go_num, HSTEP.out (fun h => q1 h.1), HB.out.alloc hz _⟩
        case measure => simp [intOf]; omega
    · have HNOT := Lib.hid (inL_no (l := l) (r := r) fun j hj => HNO.out j hj (by omega))
      go_wp2
      go_ret
      exact ⟨by rw [HNOT.out]; rfl, HB.out⟩
end Go.Proofs.YtbfhkcljkblnmaaDoor
