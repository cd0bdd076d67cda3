/- Numbers of a class as they are written; builders that are written to. -/
import Derived.Test.YtbfhkcljkblnmaaDoorCrI
import Derived.Lib.AppendStr
import Derived.Shelf.Strings.Builder1
namespace Go.Proofs.YtbfhkcljkblnmaaDoor
open Go.RowKit Florin
set_option linter.unusedVariables false
set_option linter.unusedSimpArgs false
attribute [local go_sem ↓] Go.wp_at_zero Go.wp_at_succ
abbrev TB : TypeId := 84
theorem sizeB : (Tryd.prog.info? TB).map (·.size) = some 2 := by kernel_rfl
theorem liesB : liesAt Tryd.prog Tryd.prog.depth TB (2 / Tryd.prog.cellsOf TB) 0 TB 1 = true := by kernel_rfl
theorem infoB : (Tryd.prog.info? 5).map (fun i => (i.zero, i.size, i.bytes)) = some (some (.int .u8 0), 1, 1) := by kernel_rfl
set_option maxHeartbeats 1000000 in
set_option maxRecDepth 100000 in
theorem check_used (b : Nat) (w : World) (h0 : w.cell? ⟨b, 0, none⟩ = some (.pointer (some ⟨b, 0, none⟩))) :
    Calls Tryd.prog 56 #[.pointer (some ⟨b, 0, none⟩)] w fun e w' => e = .returned (.tuple #[]) ∧ w' = w := by
  obtain ⟨j, hj, _⟩ := Option.map_eq_some_iff.1 sizeB
  go_enter Tryd.func56, Tryd.ntmps56
  go_wp2
  rw [Lib.run_neq_ptr_same w _ Tryd.underlying82 hj]
  go_wp2
  go_end0
  exact ⟨rfl, rfl⟩
set_option maxHeartbeats 1000000 in
set_option maxRecDepth 100000 in
theorem check_fresh (b : Nat) (w : World) (h0 : w.cell? ⟨b, 0, none⟩ = some (.pointer none)) (hsh : w.shape? b = some (TB, 2)) (hfz : w.frozen? ⟨b, 0, none⟩ = false) :
    Calls Tryd.prog 56 #[.pointer (some ⟨b, 0, none⟩)] w fun e w' => e = .returned (.tuple #[]) ∧ w' = w.setCell ⟨b, 0, none⟩ (.pointer (some ⟨b, 0, none⟩)) := by
  obtain ⟨j, hj, hjs⟩ := Option.map_eq_some_iff.1 sizeB
  go_enter Tryd.func56, Tryd.ntmps56
  go_wp2
  rw [Lib.run_to_unsafe w ⟨b, 0, none⟩ Tryd.underlying82 Tryd.underlying116 hj (by rw [hjs]; decide) hsh (Nat.zero_lt_succ 1)]
  simp only [Result.andThen]
  rw [Oper.upon_value]
  go_wp2
  rw [run_callFunc_extern Tryd.func70 (by kernel_rfl) (by kernel_rfl) (by kernel_rfl) (e := Extern.AbiNoEscape.same) (by kernel_rfl)]
  rw [Lib.run_noEscape]
  simp only [Result.andThen]
  rw [Oper.upon_value]
  go_wp2
  rw [Lib.run_from_unsafe w ⟨b, 0, none⟩ Tryd.underlying116 Tryd.underlying82 hj hsh liesB]
  simp only [Result.andThen]
  rw [Oper.upon_value]
  go_wp2
  go_end0
  exact ⟨rfl, rfl⟩
/-- Blocks of other elements than bytes stay, but for one. -/
def KeptT (b : Nat) (w w' : World) : Prop := ∀ i cs t, t ≠ 5 → i ≠ b → BoxT w i cs t → BoxT w' i cs t
theorem KeptT.refl (b : Nat) (w : World) : KeptT b w w := fun _ _ _ _ _ h => h
theorem KeptT.trans {b : Nat} {w w' w'' : World} (h : KeptT b w w') (k : KeptT b w' w'') : KeptT b w w'' := fun i cs t h1 h2 h3 => k i cs t h1 h2 (h i cs t h1 h2 h3)
theorem KeptT.set (b j : Nat) (w : World) (v : Value) : KeptT b w (w.setCell ⟨b, j, none⟩ v) := fun i cs t _ h2 h3 => (Below.heap_setCell w ⟨b, j, none⟩ v i h2).trans h3
theorem KeptT.grown {b : Nat} {w w' : World} {B : Nat} {v : Value} {n : Nat} {xs : List Value} (h : w.ownsRow B 5 1 v n xs) (hg : w.grownBy w' v.ownBlock) : KeptT b w w' := fun i cs t h1 _ h3 => (hg.block i h3.lt (fun e => by
  rcases h.2 with ⟨rfl, _⟩ | ⟨g, cap, cur, rfl, _, hgc, _⟩
  · cases e
  · have e2 : i = g := Option.some.inj e
    subst e2
    have h4 : w.heap[i]? = some (.cells cs t) := h3
    rw [h4] at hgc
    cases hgc
    exact h1 rfl)).trans h3
theorem check_as (B b : Nat) (bs : List Value) (w : World) (h : Lib.IsBuilder TB 5 B b bs w) :
    Calls Tryd.prog 56 #[.pointer (some ⟨b, 0, none⟩)] w fun e w' => e = .returned (.tuple #[]) ∧ (Lib.BuilderAt TB 5 B b (.pointer (some ⟨b, 0, none⟩)) bs w' ∧ Below B w w' ∧ KeptT b w w') := by
  rcases h with h | h
  · refine (check_fresh b w h.cell0 h.shape h.frozen0).mono ?_
    rintro e w' ⟨rfl, rfl⟩
    exact ⟨rfl, h.used _, (Below.refl B w).setCell (p := ⟨b, 0, none⟩) h.1 _, KeptT.set b 0 w _⟩
  · refine (check_used b w h.cell0).mono ?_
    rintro e w' ⟨rfl, rfl⟩
    exact ⟨rfl, h, Below.refl B _, KeptT.refl b _⟩
set_option maxHeartbeats 2000000 in
set_option maxRecDepth 100000 in
theorem wstr_as (B b : Nat) (bs : List Value) (s : ByteArray) (w : World) (h : Lib.IsBuilder TB 5 B b bs w) (hlen : bs.length + s.size ≤ 140737488355328) (hBw : B ≤ w.heap.size) :
    Calls Tryd.prog 42 #[.pointer (some ⟨b, 0, none⟩), .string s] w fun e w' => e = .returned (.tuple #[.int .i64 s.size, .nilIface]) ∧ (Lib.BuilderAt TB 5 B b (.pointer (some ⟨b, 0, none⟩)) (bs ++ Lib.strCells s) w' ∧ Below B w w' ∧ KeptT b w w') := by
  obtain ⟨i0, hi, hz0, hz1, hz2⟩ := info_parts infoB
  go_enter Tryd.func42, Tryd.ntmps42
  go_wp2_with fail
  with_reducible refine (check_as B b bs _ h).mono ?_
  rintro e w1 ⟨rfl, h1, hb1, hkt⟩
  have HKT := Lib.hid hkt
  clear hkt
  obtain ⟨hB, v, hbk, hown, hne⟩ := h1
  have c0 : w1.cell? ⟨b, 0, none⟩ = some (.pointer (some ⟨b, 0, none⟩)) := by rw [Lib.cell_of_heap hbk]; rfl
  have c1 : w1.cell? ⟨b, 1, none⟩ = some v := by rw [Lib.cell_of_heap hbk]; rfl
  go_wp2_with (at_builtin; refine Lib.wpList_append_own_string _ rfl _ _ 80 9 rfl B 5 i0 Tryd.underlying80 Tryd.underlying9 hi hz0 hz1 hz2 _ _ _ rfl hown s rfl ?c3 ?c4 ?c5 ?_)
  case c3 => unfold maxLen; omega
  case c4 => omega
  case c5 => have := hb1.size; omega
  intro v' w2 hown' hgrow _
  have hlt : b < w1.heap.size := by
    rcases Nat.lt_or_ge b w1.heap.size with h' | h'
    · exact h'
    · simp [Array.getElem?_eq_none h'] at hbk
  have hb2 : w2.heap[b]? = some (.cells #[.pointer (some ⟨b, 0, none⟩), v] TB (0, 0)) := by
    rw [hgrow.block b hlt (fun e => hne e.symm)]
    exact hbk
  have d0 : w2.cell? ⟨b, 0, none⟩ = some (.pointer (some ⟨b, 0, none⟩)) := by rw [Lib.cell_of_heap hb2]; rfl
  have d1 : w2.cell? ⟨b, 1, none⟩ = some v := by rw [Lib.cell_of_heap hb2]; rfl
  have f1 : w2.frozen? ⟨b, 1, none⟩ = false := Lib.frozen_of_heap hb2 1
  obtain ⟨ao, n', cap, rfl⟩ : ∃ ao n' cap, v' = .slice ao n' cap := by
    rcases hown'.2 with ⟨hv, _⟩ | ⟨g, cap, cur, hv, _⟩
    · exact ⟨_, _, _, hv⟩
    · exact ⟨_, _, _, hv⟩
  go_wp2
  go_ret2
  refine ⟨rfl, ?_, ?_, (HKT.out.trans (KeptT.grown hown hgrow)).trans (KeptT.set b 1 _ _)⟩
  · exact Lib.BuilderAt.put (T := TB) (e := 5) hB hb2 (bs' := bs ++ Lib.strCells s) (by simpa [Lib.strCells_length] using hown') (by decide)
  · exact (hb1.grown hgrow (by have := hb1.size; omega) (fun k hk => (hown.lt k hk).1)).setCell (p := ⟨b, 1, none⟩) hB _
def isAl (n : Nat) : Bool := (decide (48 ≤ n) && decide (n ≤ 57)) || (decide (65 ≤ n) && decide (n ≤ 90)) || (decide (97 ≤ n) && decide (n ≤ 122))
def wrC (n : Nat) : List UInt8 := if isAl n then [UInt8.ofNat n] else [92, 117, 123] ++ hxS n ++ [125]
def oneC (x : Int × Int) : List UInt8 := wrC x.1.toNat ++ (if x.1 = x.2 then [] else 45 :: wrC x.2.toNat)
def strC (c : List (Int × Int)) : List UInt8 := [91] ++ c.flatMap oneC ++ [93]
theorem hxF_len : ∀ (f n : Nat) (l : List UInt8), (hxF f n l).length ≤ f + l.length
  | 0, n, l => by simp [hxF]
  | f + 1, n, l => by
    unfold hxF
    split
    · simp; omega
    · have := hxF_len f (n / 16) (hx (n % 16) :: l)
      simp at this
      omega
theorem hxS_len (n : Nat) : (hxS n).length ≤ 17 := hxF_len 17 n []
theorem wrC_len (n : Nat) : (wrC n).length ≤ 21 := by
  have := hxS_len n
  unfold wrC
  split
  · simp
  · simp; omega
theorem oneC_len (x : Int × Int) : (oneC x).length ≤ 43 := by
  have h1 := wrC_len x.1.toNat
  have h2 := wrC_len x.2.toNat
  unfold oneC
  rw [List.length_append]
  split
  · simp; omega
  · simp; omega
theorem esc_join (l : List UInt8) : ((⟨#[92, 117, 123]⟩ : ByteArray) ++ ⟨l.toArray⟩ ++ ⟨#[125]⟩) = ⟨([92, 117, 123] ++ l ++ [125]).toArray⟩ := by
  apply ByteArray.ext
  simp [ByteArray.data_append]
set_option maxRecDepth 100000 in
theorem enc_fin : ∀ n : Fin 128, Utf8.encode ((n.val : Nat) : Int) = ⟨#[UInt8.ofNat n.val]⟩ := by decide
set_option maxHeartbeats 1600000 in
theorem written_as (n : Nat) (hn : n ≤ 1114111) (w : World) (hD : Deb w) :
    Calls Tryd.prog 43 #[.int .i32 (n : Int)] w fun e w' => e = .returned (S (wrC n)) ∧ Below w.heap.size w w' := by
  have HF := Lib.hid (fmt_as n hn w hD)
  have HE : Hid (n < 128 → Utf8.encode (n : Int) = ⟨[UInt8.ofNat n].toArray⟩) := Lib.hid (fun h => enc_fin ⟨n, h⟩)
  have hln := hxS_len n
  clear hD
  rcases (show (n < 48) ∨ (48 ≤ n ∧ n ≤ 57) ∨ (58 ≤ n ∧ n ≤ 64) ∨ (65 ≤ n ∧ n ≤ 90) ∨ (91 ≤ n ∧ n ≤ 96) ∨ (97 ≤ n ∧ n ≤ 122) ∨ (123 ≤ n) by omega) with h | h | h | h | h | h | h
  · have : ¬ ((48 : Int) ≤ (n : Int)) := by omega
    have : (n : Int) ≤ 57 := by omega
    have : ¬ ((65 : Int) ≤ (n : Int)) := by omega
    have : (n : Int) ≤ 90 := by omega
    have : ¬ ((97 : Int) ≤ (n : Int)) := by omega
    have : (n : Int) ≤ 122 := by omega
    have HW : Hid (wrC n = [92, 117, 123] ++ hxS n ++ [125]) := Lib.hid (by unfold wrC; rw [if_neg (by unfold isAl; simp; omega)])
    go_enter Tryd.func43, Tryd.ntmps43
    go_wp2_with fail
    with_reducible refine HF.out.mono ?_
    rintro e w1 ⟨rfl, h1⟩
    go_wp2
    go_ret
    exact ⟨by rw [HW.out]; exact congrArg (fun t => Ending.returned (.string t)) (esc_join (hxS n)), h1⟩
  · have : (48 : Int) ≤ (n : Int) := by omega
    have : (n : Int) ≤ 57 := by omega
    have : ¬ ((65 : Int) ≤ (n : Int)) := by omega
    have : (n : Int) ≤ 90 := by omega
    have : ¬ ((97 : Int) ≤ (n : Int)) := by omega
    have : (n : Int) ≤ 122 := by omega
    have HW : Hid (wrC n = [UInt8.ofNat n]) := Lib.hid (by unfold wrC; rw [if_pos (by unfold isAl; simp; omega)])
    go_enter Tryd.func43, Tryd.ntmps43
    go_wp2
    go_ret
    exact ⟨by rw [HE.out (by omega), HW.out]; rfl, Below.refl _ _⟩
  · have : (48 : Int) ≤ (n : Int) := by omega
    have : ¬ ((n : Int) ≤ 57) := by omega
    have : ¬ ((65 : Int) ≤ (n : Int)) := by omega
    have : (n : Int) ≤ 90 := by omega
    have : ¬ ((97 : Int) ≤ (n : Int)) := by omega
    have : (n : Int) ≤ 122 := by omega
    have HW : Hid (wrC n = [92, 117, 123] ++ hxS n ++ [125]) := Lib.hid (by unfold wrC; rw [if_neg (by unfold isAl; simp; omega)])
    go_enter Tryd.func43, Tryd.ntmps43
    go_wp2_with fail
    with_reducible refine HF.out.mono ?_
    rintro e w1 ⟨rfl, h1⟩
    go_wp2
    go_ret
    exact ⟨by rw [HW.out]; exact congrArg (fun t => Ending.returned (.string t)) (esc_join (hxS n)), h1⟩
  · have : (48 : Int) ≤ (n : Int) := by omega
    have : ¬ ((n : Int) ≤ 57) := by omega
    have : (65 : Int) ≤ (n : Int) := by omega
    have : (n : Int) ≤ 90 := by omega
    have : ¬ ((97 : Int) ≤ (n : Int)) := by omega
    have : (n : Int) ≤ 122 := by omega
    have HW : Hid (wrC n = [UInt8.ofNat n]) := Lib.hid (by unfold wrC; rw [if_pos (by unfold isAl; simp; omega)])
    go_enter Tryd.func43, Tryd.ntmps43
    go_wp2
    go_ret
    exact ⟨by rw [HE.out (by omega), HW.out]; rfl, Below.refl _ _⟩
  · have : (48 : Int) ≤ (n : Int) := by omega
    have : ¬ ((n : Int) ≤ 57) := by omega
    have : (65 : Int) ≤ (n : Int) := by omega
    have : ¬ ((n : Int) ≤ 90) := by omega
    have : ¬ ((97 : Int) ≤ (n : Int)) := by omega
    have : (n : Int) ≤ 122 := by omega
    have HW : Hid (wrC n = [92, 117, 123] ++ hxS n ++ [125]) := Lib.hid (by unfold wrC; rw [if_neg (by unfold isAl; simp; omega)])
    go_enter Tryd.func43, Tryd.ntmps43
    go_wp2_with fail
    with_reducible refine HF.out.mono ?_
    rintro e w1 ⟨rfl, h1⟩
    go_wp2
    go_ret
    exact ⟨by rw [HW.out]; exact congrArg (fun t => Ending.returned (.string t)) (esc_join (hxS n)), h1⟩
  · have : (48 : Int) ≤ (n : Int) := by omega
    have : ¬ ((n : Int) ≤ 57) := by omega
    have : (65 : Int) ≤ (n : Int) := by omega
    have : ¬ ((n : Int) ≤ 90) := by omega
    have : (97 : Int) ≤ (n : Int) := by omega
    have : (n : Int) ≤ 122 := by omega
    have HW : Hid (wrC n = [UInt8.ofNat n]) := Lib.hid (by unfold wrC; rw [if_pos (by unfold isAl; simp; omega)])
    go_enter Tryd.func43, Tryd.ntmps43
    go_wp2
    go_ret
    exact ⟨by rw [HE.out (by omega), HW.out]; rfl, Below.refl _ _⟩
  · have : (48 : Int) ≤ (n : Int) := by omega
    have : ¬ ((n : Int) ≤ 57) := by omega
    have : (65 : Int) ≤ (n : Int) := by omega
    have : ¬ ((n : Int) ≤ 90) := by omega
    have : (97 : Int) ≤ (n : Int) := by omega
    have : ¬ ((n : Int) ≤ 122) := by omega
    have HW : Hid (wrC n = [92, 117, 123] ++ hxS n ++ [125]) := Lib.hid (by unfold wrC; rw [if_neg (by unfold isAl; simp; omega)])
    go_enter Tryd.func43, Tryd.ntmps43
    go_wp2_with fail
    with_reducible refine HF.out.mono ?_
    rintro e w1 ⟨rfl, h1⟩
    go_wp2
    go_ret
    exact ⟨by rw [HW.out]; exact congrArg (fun t => Ending.returned (.string t)) (esc_join (hxS n)), h1⟩
end Go.Proofs.YtbfhkcljkblnmaaDoor
