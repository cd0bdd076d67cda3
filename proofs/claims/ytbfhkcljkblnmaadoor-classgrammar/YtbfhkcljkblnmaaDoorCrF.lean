/- A number that isn't below another one, as the reader reads it; a number, or two. -/
import Derived.Test.YtbfhkcljkblnmaaDoorCrE
namespace Go.Proofs.YtbfhkcljkblnmaaDoor
open Go.RowKit Florin
set_option linter.unusedVariables false
set_option linter.unusedSimpArgs false
attribute [local go_sem ↓] Go.wp_at_zero Go.wp_at_succ
theorem Tabs.grown {w w' : World} (h : Tabs w) {b : Nat} {T : ByteArray} {p : Nat} (hr : Rd w b T p) (hg : w.grownBy w' (some b)) : Tabs w' := by
  have n1 : some 1 ≠ some b := by
    have h0 := h.1 0 (by decide)
    intro e
    rw [Option.some.inj e, hr.c0] at h0
    simp at h0
  have n2 : some 2 ≠ some b := by
    have h0 : w.cell? ⟨2, 0, none⟩ = _ := (h.2 0 (by decide)).1
    intro e
    have e2 := hr.c0
    rw [← Option.some.inj e, h0] at e2
    simp at e2
  exact ⟨fun c hc => hg.cell (h.1 c hc) n1, fun i hi => ⟨hg.cell (h.2 i hi).1 n2, hg.cell (h.2 i hi).2 n2⟩⟩
theorem take_cut {T2 : ByteArray} {l : List UInt8} (h : T2.data.toList = l) (z : Nat) : T2.extract 0 z = ⟨(l.take z).toArray⟩ := by
  apply ByteArray.ext
  apply Array.toList_inj.1
  rw [ByteArray.data_extract]
  simp [← h]
theorem nf_eq {k : Int} {l : List UInt8} {n : Int} {ok : Bool} {m : List UInt8} {u z : Nat} (hn : numP (bl l) = (u, z)) (hq : nfP k l = (n, ok, m)) :
    (z = 0 ∧ n = 0 ∧ ok = false ∧ m = bl l) ∨ (z ≠ 0 ∧ (u : Int) < k ∧ n = 0 ∧ ok = false ∧ m = bl l) ∨ (z ≠ 0 ∧ ¬ (u : Int) < k ∧ n = u ∧ ok = true ∧ m = (bl l).drop z) := by
  unfold nfP at hq
  rw [hn] at hq
  dsimp only at hq
  by_cases h0 : z = 0
  · rw [if_pos (.inl h0)] at hq
    simp only [Prod.mk.injEq] at hq
    exact .inl ⟨h0, hq.1.symm, hq.2.1.symm, hq.2.2.symm⟩
  · by_cases h1 : (u : Int) < k
    · rw [if_pos (.inr h1)] at hq
      simp only [Prod.mk.injEq] at hq
      exact .inr (.inl ⟨h0, h1, hq.1.symm, hq.2.1.symm, hq.2.2.symm⟩)
    · rw [if_neg (by rintro (h | h); exact h0 h; exact h1 h)] at hq
      simp only [Prod.mk.injEq] at hq
      exact .inr (.inr ⟨h0, h1, hq.1.symm, hq.2.1.symm, hq.2.2.symm⟩)
set_option maxRecDepth 100000 in
set_option maxHeartbeats 1600000 in
theorem nf_as (b : Nat) (T : ByteArray) (p : Nat) (l : List UInt8) (k : Int) (w : World) (h : Rd w b T p) (ha : At T p l) (hT : T.size ≤ 1000000) (hTab : Tabs w) (n : Int) (ok : Bool) (m : List UInt8) (hq : nfP k l = (n, ok, m)) :
    Calls Tryd.prog 69 #[.pointer (some ⟨b, 0, none⟩), .int .i32 k] w fun e w' => ∃ q, e = .returned (.tuple #[.int .i32 n, .bool ok]) ∧ At T q m ∧ Rd w' b T q ∧ w.grownBy w' (some b) := by
  obtain ⟨u, z, hn⟩ : ∃ u z, numP (bl l) = (u, z) := ⟨_, _, rfl⟩
  have hw := nf_eq hn hq
  have hle := (num_le (bl l)).2
  rw [hn] at hle
  dsimp only at hle
  have HR := Lib.hid h
  have HA := Lib.hid ha
  have HTab := Lib.hid hTab
  have HN := Lib.hid hn
  have bl0 := h.lt
  have HW := Lib.hid hw
  have HLE := Lib.hid hle
  clear h ha hTab hn hq hw hle
  go_enter Tryd.func69, Tryd.ntmps69
  go_wp2_with fail
  with_reducible refine (rest_as b T p l _ HR.out HA.out hT).mono ?_
  rintro e w1 ⟨q, rfl, hat, hr1, hg1⟩
  have HM := Lib.hid hat
  have HR1 := Lib.hid hr1
  have HG1 := Lib.hid hg1
  have HTab1 := Lib.hid (HTab.out.grown HR.out hg1)
  have hT2 : (⟨(bl l).toArray⟩ : ByteArray).data.toList = bl l := arr_list _
  have hsz : (⟨(bl l).toArray⟩ : ByteArray).size = (bl l).length := arr_size _
  have hln := hat.len
  generalize (⟨(bl l).toArray⟩ : ByteArray) = T2 at *
  have HT2 := Lib.hid hT2
  have hs2 : T2.size ≤ 1000000 := by omega
  have hzl : z ≤ T2.size := by have := HLE.out; omega
  have hzi : (z : Int) ≤ (T2.size : Int) := by omega
  clear hat hr1 hg1 hT2 hln hsz
  go_wp2_with fail
  with_reducible refine (number_as T2 _ HTab1.out u z (by rw [HT2.out]; exact HN.out) hs2).mono ?_
  rintro e w2 ⟨rfl, hb2⟩
  have HB2 := Lib.hid (grown_trans HG1.out (grown_of_below hb2 (some b)))
  have HR2 := Lib.hid (HR1.out.below hb2)
  clear hb2
  rcases HW.out with ⟨h0, rfl, rfl, rfl⟩ | ⟨h0, h1, rfl, rfl, rfl⟩ | ⟨h0, h1, rfl, rfl, rfl⟩
  · have e0 : ((z : Int) == 0) = true := by simp; omega
    clear h0
    go_wp2
    go_ret2
    exact ⟨q, rfl, HM.out, HR2.out, HB2.out⟩
  · have e0 : ((z : Int) == 0) = false := by simp; omega
    have e1 : ¬ (z : Int) = 0 := by omega
    go_wp2
    go_ret2
    exact ⟨q, rfl, HM.out, HR2.out, HB2.out⟩
  · have e0 : ((z : Int) == 0) = false := by simp; omega
    have e1 : ¬ (z : Int) = 0 := by omega
    have HX := Lib.hid (take_cut HT2.out z)
    have hck : ctk ((bl l).take z) (bl l) = true := by
      unfold ctk
      rw [bl_idem]
      exact List.isPrefixOf_iff_prefix.2 (List.take_prefix _ _)
    have hcr : ctkR ((bl l).take z) (bl l) = (bl l).drop z := by
      unfold ctkR
      rw [if_pos hck, bl_idem, List.length_take]
      congr 1
      have h2 := HT2.out
      have h3 := size_list T2
      rw [h2] at h3
      omega
    have HCK := Lib.hid hck
    have HCR := Lib.hid hcr
    clear hck hcr
    go_wp2_with fail
    go_region_with (go_at_call 52; rw [HX.out]; (with_reducible refine (takes_true ((bl l).take z) b T q (bl l) _ HR2.out.drew HM.out hT HCK.out).mono ?_); rintro x wz ⟨q2, rfl, hat2, hr2, hg2⟩)
    all_goals (try go_wp2)
    all_goals go_ret2
    all_goals exact ⟨q2, rfl, by rw [← HCR.out]; exact hat2, by first | exact hr2 | exact hr2.drew, by first | exact grown_trans HB2.out hg2 | exact grown_trans (grown_drew HB2.out) hg2⟩
end Go.Proofs.YtbfhkcljkblnmaaDoor
