/- Few relations and ranges: florinlaw06.Few over rules as they are made. -/
import Derived.Test.YtkjhdehpcanciaaGreatDoorMdL0
namespace Go.Proofs.YtkjhdehpcanciaaGreatDoor
open Go.RowKit Florin
set_option linter.unusedVariables false
set_option linter.unusedSimpArgs false
attribute [local go_sem ↓] Go.wp_at_zero Go.wp_at_succ
def fewR (ms : List MadeM) : Prop := ms.length ≤ 8 ∧ ∀ m ∈ ms, m.any.length ≤ 4 ∧ ∀ a ∈ m.any, a.length ≤ 4 ∧ ∀ r ∈ a, r.rs.length ≤ 5
/-- What Few tells. -/
def FewE (x : Ending) (ms : List MadeM) : Prop := ∃ b, x = .returned (.bool b) ∧ (b = true → fewR ms)
theorem takeM_all {α : Type} {P : α → Prop} {l : List α} {k : Nat} {x : α} (h : ∀ y ∈ l.take k, P y) (hx : l[k]? = some x) (hp : P x) : ∀ y ∈ l.take (k + 1), P y := by
  obtain ⟨hj, hxj⟩ := List.getElem?_eq_some_iff.1 hx
  rw [List.take_succ_eq_append_getElem hj, hxj]
  intro y hy
  rcases List.mem_append.1 hy with h1 | h1
  · exact h y h1
  · rw [List.mem_singleton.1 h1]; exact hp
theorem all_cells {w wq : World} {xs : List (List RelM)} {cs : List Value} {b off k : Nat} {x : List RelM} (h : ListAt (fun x c => ∃ u, c = [u] ∧ AllmAt w x u) xs cs) (hc : ∀ j, j < xs.length * 1 → w.cell? ⟨b, off + j, none⟩ = cs[j]?) (hb : b < w.heap.size) (hq : Below w.heap.size w wq) (hx : xs[k]? = some x) :
    ∃ a n, AllmAt w x (.slice a x.length n) ∧ wq.cell? ⟨b, off + k, none⟩ = some (.slice a x.length n) := by
  obtain ⟨hj, hxj⟩ := List.getElem?_eq_some_iff.1 hx
  obtain ⟨cj, ⟨vj, hcj, hnj⟩, hgj⟩ := ListAt.get (sz := 1) (fun x c ⟨u, e, _⟩ => by rw [e]; rfl) h k hj
  rw [hxj] at hnj
  have h0 := hgj 0 (by decide)
  rw [hcj, Nat.mul_one, Nat.add_zero] at h0
  obtain ⟨_, ⟨a, n, e, _⟩, _⟩ := id hnj
  subst e
  exact ⟨a, n, hnj, (hq.cell (p := ⟨b, off + k, none⟩) hb).trans ((hc k (by omega)).trans h0)⟩
theorem rel_cells {w wq : World} {xs : List RelM} {cs : List Value} {b off k : Nat} {x : RelM} (h : ListAt (RelmAt w) xs cs) (hc : ∀ j, j < xs.length * 5 → w.cell? ⟨b, off + j, none⟩ = cs[j]?) (hb : b < w.heap.size) (hq : Below w.heap.size w wq) (hx : xs[k]? = some x) :
    ∃ a n, wq.cell? ⟨b, off + k * 5, none⟩ = some (.int .i64 x.op) ∧ wq.cell? ⟨b, off + k * 5 + 1, none⟩ = some (.int .i64 x.md) ∧ wq.cell? ⟨b, off + k * 5 + 2, none⟩ = some (.int .i64 x.gp) ∧ wq.cell? ⟨b, off + k * 5 + 3, none⟩ = some (.bool x.nt) ∧ wq.cell? ⟨b, off + k * 5 + 4, none⟩ = some (.slice a x.rs.length n) := by
  obtain ⟨hj, hxj⟩ := List.getElem?_eq_some_iff.1 hx
  obtain ⟨cj, ⟨vj, hcj, hnj⟩, hgj⟩ := ListAt.get (sz := 5) (fun x c ⟨u, e, _⟩ => by rw [e]; rfl) h k hj
  rw [hxj] at hcj hnj
  have CE : ∀ i, i < 5 → wq.cell? ⟨b, off + k * 5 + i, none⟩ = cj[i]? := fun i hi => by
    rw [Nat.add_assoc]
    exact (hq.cell (p := ⟨b, off + (k * 5 + i), none⟩) hb).trans ((hc (k * 5 + i) (by omega)).trans (hgj i hi))
  obtain ⟨a, n, e, _⟩ := hnj
  subst e
  rw [hcj] at CE
  exact ⟨a, n, CE 0 (by decide), CE 1 (by decide), CE 2 (by decide), CE 3 (by decide), CE 4 (by decide)⟩
set_option maxRecDepth 100000 in
set_option maxHeartbeats 6400000 in
theorem few_as (ms : List MadeM) (v : Value) (w : World) (hv : MadesAt w ms v) :
    Calls Tryz.prog 11 #[v] w fun x w' => FewE x ms ∧ Below w.heap.size w w' := by
  obtain ⟨cs, ⟨a, c, rfl, hnc, hcm, hlen, hcell⟩, hL⟩ := hv
  have HC : Hid (0 < ms.length → ∃ b off, a = some ⟨b, off, none⟩ ∧ b < w.heap.size ∧ ∀ j, j < ms.length * 4 → w.cell? ⟨b, off + j, none⟩ = cs[j]?) := Lib.hid hcell
  have HL := Lib.hid hL
  have hcmi : (c : Int) ≤ 9223372036854775807 := by unfold maxLen at hcm; omega
  clear hcell hL hlen
  go_enter Tryz.func11, Tryz.ntmps11
  by_cases hn : 8 < ms.length
  · have hni : (8 : Int) < (ms.length : Int) := by omega
    go_wp2
    go_ret
    exact ⟨⟨false, rfl, fun h => (by cases h)⟩, Below.refl _ _⟩
  have hni : ¬ (8 : Int) < (ms.length : Int) := by omega
  have hn8 : ms.length ≤ 8 := by omega
  go_wp2_with fail
  go_loopw [14] (fun i wr => ∃ k : Nat, k ≤ ms.length ∧ i = .int .i64 (k : Int) ∧ (∀ m ∈ ms.take k, m.any.length ≤ 4 ∧ ∀ a ∈ m.any, a.length ≤ 4 ∧ ∀ r ∈ a, r.rs.length ≤ 5) ∧ Below w.heap.size w wr) (fun i _ => ms.length - (intOf i).toNat)
  case atStart => exact ⟨0, Nat.zero_le _, rfl, fun m h => (by cases h), Below.refl _ _⟩
  case round =>
    obtain ⟨k, hk, rfl, hall, hbw⟩ := hrel
    obtain ⟨wo, hwo⟩ : ∃ W : World, W = wr := ⟨_, rfl⟩
    subst hwo
    have HA := Lib.hid hall
    have HBW := Lib.hid hbw
    have hsz := hbw.size
    clear hall hbw
    by_cases hlt : k < ms.length
    · have hlti : (k : Int) < (ms.length : Int) := Int.ofNat_lt.2 hlt
      obtain ⟨m, hm⟩ : ∃ m, ms[k] = m := ⟨_, rfl⟩
      have HMK : Hid (ms[k]? = some m) := Lib.hid (by rw [List.getElem?_eq_getElem hlt, hm])
      clear hm
      obtain ⟨b, off, rfl, hbl, hbc⟩ := HC.out (Nat.lt_of_le_of_lt (Nat.zero_le _) hlt)
      obtain ⟨v4, hnv, e0, e1, e2, e3⟩ := made_cells HL.out hbc hbl HBW.out HMK.out
      clear hbc
      obtain ⟨cs4, ⟨a4, n4, h4, hn4, hm4, hl4, hc4⟩, hL4⟩ := hnv
      subst h4
      have HC4 := Lib.hid hc4
      have HL4 := Lib.hid hL4
      have n4i : (n4 : Int) ≤ 9223372036854775807 := by unfold maxLen at hm4; omega
      clear hc4 hL4 hl4
      have hk0 : (0 : Int) ≤ (k : Int) := Int.natCast_nonneg k
      have hkc : (k : Int) < (c : Int) := Int.ofNat_lt.2 (Nat.lt_of_lt_of_le hlt hnc)
      have glr : b < wo.heap.size := Nat.lt_of_lt_of_le hbl hsz
      have HMB := Lib.hid (BoxT.new wo (#[.int .i64 m.cat, .int .i64 m.gp, .int .i64 m.smp, .slice a4 m.any.length n4] : Array Value) 62).box
      have NB := Lib.hid ((Below.refl wo.heap.size wo).alloc (Nat.le_refl _) (.cells (#[.int .i64 m.cat, .int .i64 m.gp, .int .i64 m.smp, .slice a4 m.any.length n4] : Array Value) 62))
      go_upto_region 6 with fail
      generalize wo.alloc (.cells (#[.int .i64 m.cat, .int .i64 m.gp, .int .i64 m.smp, .slice a4 m.any.length n4] : Array Value) 62) = w1 at *
      have B1 : Hid (Below w.heap.size w w1) := Lib.hid (HBW.out.trans (NB.out.mono hsz))
      have hs1 := B1.out.size
      have m3 : w1.cell? ⟨wo.heap.size, 3, none⟩ = some (.slice a4 m.any.length n4) := HMB.out.cell 3
      have ml := HMB.out.lt
      clear NB HMB e0 e1 e2 e3 glr
      by_cases h4 : 4 < m.any.length
      · have h4i : (4 : Int) < (m.any.length : Int) := by omega
        go_wp2
        go_ret
        exact ⟨⟨false, rfl, fun h => (by cases h)⟩, B1.out⟩
      have h4i : ¬ (4 : Int) < (m.any.length : Int) := by omega
      have h4n : m.any.length ≤ 4 := by omega
      go_wp2_with fail
      clear m3 ml
      go_loopw [25] (fun i wr => ∃ j : Nat, j ≤ m.any.length ∧ i = .int .i64 (j : Int) ∧ (∀ a ∈ m.any.take j, a.length ≤ 4 ∧ ∀ r ∈ a, r.rs.length ≤ 5) ∧ Below w.heap.size w wr) (fun i _ => m.any.length - (intOf i).toNat)
      case atStart => exact ⟨0, Nat.zero_le _, rfl, fun m h => (by cases h), B1.out⟩
      case round =>
        obtain ⟨j, hj, rfl, hall2, hbw2⟩ := hrel
        obtain ⟨wp, hwp⟩ : ∃ W : World, W = wr := ⟨_, rfl⟩
        subst hwp
        have HA2 := Lib.hid hall2
        have HB2 := Lib.hid hbw2
        have hsz2 := hbw2.size
        clear hall2 hbw2
        by_cases hjt : j < m.any.length
        · have hjti : (j : Int) < (m.any.length : Int) := Int.ofNat_lt.2 hjt
          obtain ⟨xs, hxs⟩ : ∃ xs, m.any[j] = xs := ⟨_, rfl⟩
          have HXK : Hid (m.any[j]? = some xs) := Lib.hid (by rw [List.getElem?_eq_getElem hjt, hxs])
          clear hxs
          obtain ⟨b5, off5, h5, hbl5, hbc5⟩ := HC4.out (Nat.lt_of_le_of_lt (Nat.zero_le _) hjt)
          subst h5
          obtain ⟨a6, n6, hnv6, d0⟩ := all_cells HL4.out hbc5 hbl5 HB2.out HXK.out
          clear hbc5
          obtain ⟨cs6, ⟨a7, n7, h7, hn7, hm7, hl7, hc7⟩, hL7⟩ := hnv6
          injection h7 with h71 h72 h73
          subst h71 h73
          have HC7 := Lib.hid hc7
          have HL7 := Lib.hid hL7
          have n6i : (n6 : Int) ≤ 9223372036854775807 := by unfold maxLen at hm7; omega
          clear hc7 hL7 hl7 h72
          have hj0 : (0 : Int) ≤ (j : Int) := Int.natCast_nonneg j
          have hjc : (j : Int) < (n4 : Int) := Int.ofNat_lt.2 (Nat.lt_of_lt_of_le hjt hn4)
          by_cases h6 : 4 < xs.length
          · have h6i : (4 : Int) < (xs.length : Int) := by omega
            go_wp2
            go_ret
            exact ⟨⟨false, rfl, fun h => (by cases h)⟩, HB2.out⟩
          have h6i : ¬ (4 : Int) < (xs.length : Int) := by omega
          have h6n : xs.length ≤ 4 := by omega
          go_wp2_with fail
          clear d0 hj0 hjc
          go_loopw [34] (fun i wr => ∃ g : Nat, g ≤ xs.length ∧ i = .int .i64 (g : Int) ∧ (∀ r ∈ xs.take g, r.rs.length ≤ 5) ∧ Below w.heap.size w wr) (fun i _ => xs.length - (intOf i).toNat)
          case atStart => exact ⟨0, Nat.zero_le _, rfl, fun m h => (by cases h), HB2.out⟩
          case round =>
            obtain ⟨g, hg, rfl, hall3, hbw3⟩ := hrel
            obtain ⟨wz, hwz⟩ : ∃ W : World, W = wr := ⟨_, rfl⟩
            subst hwz
            have HA3 := Lib.hid hall3
            have HB3 := Lib.hid hbw3
            have hsz3 := hbw3.size
            clear hall3 hbw3
            by_cases hgt : g < xs.length
            · have hgti : (g : Int) < (xs.length : Int) := Int.ofNat_lt.2 hgt
              obtain ⟨x, hx⟩ : ∃ x, xs[g] = x := ⟨_, rfl⟩
              have HXG : Hid (xs[g]? = some x) := Lib.hid (by rw [List.getElem?_eq_getElem hgt, hx])
              clear hx
              obtain ⟨b8, off8, h8, hbl8, hbc8⟩ := HC7.out (Nat.lt_of_le_of_lt (Nat.zero_le _) hgt)
              subst h8
              obtain ⟨a9, n9, q0, q1, q2, q3, q4⟩ := rel_cells HL7.out hbc8 hbl8 HB3.out HXG.out
              clear hbc8
              have hg0 : (0 : Int) ≤ (g : Int) := Int.natCast_nonneg g
              have hgc : (g : Int) < (n6 : Int) := Int.ofNat_lt.2 (Nat.lt_of_lt_of_le hgt hn7)
              have glz : b8 < wz.heap.size := Nat.lt_of_lt_of_le hbl8 hsz3
              have B9 : Hid (Below w.heap.size w (wz.alloc (.cells (#[.int .i64 x.op, .int .i64 x.md, .int .i64 x.gp, .bool x.nt, .slice a9 x.rs.length n9] : Array Value) 58))) := Lib.hid (HB3.out.alloc hsz3 _)
              by_cases h9 : 5 < x.rs.length
              · have h9i : (5 : Int) < (x.rs.length : Int) := by omega
                go_wp2
                go_ret
                exact ⟨⟨false, rfl, fun h => (by cases h)⟩, B9.out⟩
              have h9i : ¬ (5 : Int) < (x.rs.length : Int) := by omega
              have h9n : x.rs.length ≤ 5 := by omega
              go_wp2_with fail
              go_roundw
              case rel => exact ⟨g + 1, hgt, by go_num, takeM_all HA3.out HXG.out h9n, B9.out⟩
              case measure => simp [intOf]; omega
            · obtain rfl : g = xs.length := by omega
              have hgni : ¬ (xs.length : Int) < (xs.length : Int) := by omega
              go_wp2_with fail
              go_roundw
              case rel => exact ⟨j + 1, hjt, by go_num, takeM_all HA2.out HXK.out ⟨h6n, by have h := HA3.out; rwa [List.take_length] at h⟩, HB3.out⟩
              case measure => simp [intOf]; omega
        · obtain rfl : j = m.any.length := by omega
          have hjni : ¬ (m.any.length : Int) < (m.any.length : Int) := by omega
          go_wp2_with fail
          go_roundw
          case rel => exact ⟨k + 1, hlt, by go_num, takeM_all HA.out HMK.out ⟨h4n, by have h := HA2.out; rwa [List.take_length] at h⟩, HB2.out⟩
          case measure => simp [intOf]; omega
    · obtain rfl : k = ms.length := by omega
      have hkni : ¬ (ms.length : Int) < (ms.length : Int) := by omega
      go_wp2
      go_ret
      exact ⟨⟨true, rfl, fun _ => ⟨hn8, by have h := HA.out; rwa [List.take_length] at h⟩⟩, HBW.out⟩
end Go.Proofs.YtkjhdehpcanciaaGreatDoor
