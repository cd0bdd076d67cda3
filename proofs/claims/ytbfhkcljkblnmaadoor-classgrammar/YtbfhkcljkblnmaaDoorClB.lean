/- A class with a range more; whether a number is in a class. -/
import Derived.Test.YtbfhkcljkblnmaaDoorClA
import Derived.Laws.OwnMore
namespace Go.Proofs.YtbfhkcljkblnmaaDoor
open Go.RowKit Florin
set_option linter.unusedVariables false
set_option linter.unusedSimpArgs false
def cC (c : List (Int × Int)) : List Value := c.flatMap fun x => [.int .i32 x.1, .int .i32 x.2]
theorem cC_len (c : List (Int × Int)) : (cC c).length = c.length * 2 := by
  induction c with
  | nil => rfl
  | cons x t ih => show (_ :: _ :: cC t).length = _; simp [ih]; omega
theorem cC_append (c d : List (Int × Int)) : cC (c ++ d) = cC c ++ cC d := by simp [cC]
abbrev OwnC (w : World) (B : Nat) (v : Value) (c : List (Int × Int)) : Prop := w.ownsRow B 28 2 v c.length (cC c)
theorem OwnC.below {w w' : World} {B : Nat} {v : Value} {c : List (Int × Int)} (h : OwnC w B v c) (hb : Below w.heap.size w w') : OwnC w' B v c := by
  refine ⟨h.1, ?_⟩
  rcases h.2 with hn | ⟨g, cap, cur, rfl, hB, hg, rest⟩
  · exact .inl hn
  · have hlt : g < w.heap.size := by
      rcases Nat.lt_or_ge g w.heap.size with h' | h'
      · exact h'
      · simp [Array.getElem?_eq_none h'] at hg
    exact .inr ⟨g, cap, cur, rfl, hB, (hb.block g hlt).trans hg, rest⟩
theorem cC_get (c : List (Int × Int)) : ∀ (k : Nat) (hk : k < c.length), (cC c)[k * 2]? = some (.int .i32 c[k].1) ∧ (cC c)[k * 2 + 1]? = some (.int .i32 c[k].2) := by
  induction c with
  | nil => intro k hk; simp at hk
  | cons x t ih =>
    intro k hk
    cases k with
    | zero => exact ⟨rfl, rfl⟩
    | succ k =>
      have h := ih k (by simpa using hk)
      have e : cC (x :: t) = .int .i32 x.1 :: .int .i32 x.2 :: cC t := rfl
      rw [e, show (k + 1) * 2 = k * 2 + 1 + 1 by omega]
      exact h
/-- A class of the call's own is a class in memory. -/
theorem OwnC.inC {w : World} {B : Nat} {v : Value} {c : List (Int × Int)} (h : OwnC w B v c) : InC w v c := by
  rcases h.2 with ⟨rfl, hn⟩ | ⟨g, cap, cur, rfl, hB, hg, h1, h2, h3, h4⟩
  · exact ⟨none, 0, by rw [hn], by omega, by unfold maxLen; omega, fun h0 => absurd h0 (by omega)⟩
  · refine ⟨_, cap, rfl, h1, h2, fun h0 => ⟨g, 0, rfl, ?_, fun k hk => ⟨?_, ?_⟩⟩⟩
    · rcases Nat.lt_or_ge g w.heap.size with h' | h'
      · exact h'
      · simp [Array.getElem?_eq_none h'] at hg
    · rw [Nat.zero_add, h.cellAt _ (by omega), (cC_get c k hk).1]
    · rw [Nat.zero_add, h.cellAt _ (by omega), (cC_get c k hk).2]
theorem infoC : (Tryd.prog.info? 28).map (fun i => (i.zero, i.size, i.bytes)) = some (some (.agg #[.int .i32 0, .int .i32 0]), 2, 8) := by kernel_rfl
theorem lit_cells2 (w : World) (x y : Value) (e : TypeId) : ∀ j u, [x, y][j]? = some u → (w.alloc (.cells #[x, y] e)).cell? ((⟨w.heap.size, 0, none⟩ : Addr).add j) = some u := by
  intro j u hu
  match j, hu with
  | 0, hu => simp at hu; subst hu; simp [Addr.add]
  | 1, hu => simp at hu; subst hu; simp [Addr.add]
set_option maxHeartbeats 800000 in
theorem has_as (w : World) (v : Value) (c : List (Int × Int)) (r : Int) (hc : InC w v c) (hs : settledC c) (hl : c.length ≤ 1000000) (b : Bool) (hq : (stretchC c r).1 = b) :
    Calls Tryd.prog 14 #[v, .int .i32 r] w fun x w' => x = .returned (.bool b) ∧ Below w.heap.size w w' := by
  have HSE := Lib.hid (stretch_as w v c r hc hs hl b (stretchC c r).2 (by rw [← hq]))
  obtain ⟨a, cap, rfl, _⟩ := hc
  clear hs hq
  go_enter Tryd.func14, Tryd.ntmps14
  go_wp2_with fail
  with_reducible refine HSE.out.mono ?_
  rintro e w1 ⟨rfl, b1⟩
  go_wp2
  go_ret
  exact ⟨rfl, b1⟩
theorem lit_cells3 (w : World) (x y : Value) (e : TypeId) (b : Nat) (hb : b = w.heap.size) : ∀ j u, [x, y][j]? = some u → (w.alloc (.cells #[x, y] e)).cell? ((⟨b, 0, none⟩ : Addr).add j) = some u := by
  subst hb
  exact lit_cells2 w x y e
set_option maxRecDepth 100000 in
set_option maxHeartbeats 1600000 in
theorem joined_none (w : World) (B : Nat) (v : Value) (x : Int × Int) (hown : OwnC w B v []) (hB : B ≤ w.heap.size) :
    Calls Tryd.prog 29 #[v, .agg #[.int .i32 x.1, .int .i32 x.2]] w fun e w' => ∃ v', e = .returned v' ∧ OwnC w' B v' [x] ∧ Below B w w' := by
  obtain ⟨i0, hi, hz0, hz1, hz2⟩ := info_parts infoC
  have OW1 : Hid (OwnC (w.alloc (.cells #[.int .i32 x.1, .int .i32 x.2] 28)).drew B v []) := Lib.hid (hown.alloc _)
  have HW1 : Hid (w.heap.size + 1 = (w.alloc (.cells #[.int .i32 x.1, .int .i32 x.2] 28)).drew.heap.size) := Lib.hid (by simp)
  obtain ⟨ao, cap, rfl, hcap, hm, _⟩ := hown.inC
  clear hown
  have OW1 : Hid ((w.alloc (.cells #[.int .i32 x.1, .int .i32 x.2] 28)).drew.ownsRow B 28 2 (.slice ao 0 cap) 0 []) := Lib.hid OW1.out
  go_enter Tryd.func29, Tryd.ntmps29
  go_wp2_with fail
  go_region
  all_goals (
    go_wp2_with (at_builtin; refine wpList_append_own _ rfl _ _ 25 rfl B 28 i0 (.agg #[.int .i32 0, .int .i32 0]) 2 8 Tryd.underlying25 hi hz0 hz1 hz2 rfl (by decide) _ _ _ rfl (OW1.out.alloc _) ⟨w.heap.size + 1, 0, none⟩ 1 1 [.int .i32 x.1, .int .i32 x.2] rfl rfl (lit_cells3 _ _ _ _ _ HW1.out) (by simp [Value.oneCell']) (by unfold maxLen; omega) (by omega) (by simp; omega) ?_; intro v8 w8 hown8 hgr8 _)
    have OW8 : Hid (OwnC w8 B v8 [x]) := Lib.hid (by
      show w8.ownsRow _ _ _ _ _ _
      exact hown8)
    have BE8 : Hid (Below B w w8) := Lib.hid ((((((Below.refl B w).alloc hB _).drew).alloc (by simp; omega) _).grown hgr8 (by simp; omega) (fun k hk => (OW1.out.lt k hk).1)))
    clear hown8 hgr8
    go_wp2
    go_ret
    exact ⟨_, rfl, OW8.out, BE8.out⟩)
end Go.Proofs.YtbfhkcljkblnmaaDoor
