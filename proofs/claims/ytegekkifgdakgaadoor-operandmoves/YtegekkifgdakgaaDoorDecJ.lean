/- What the laws' own helpers return: Few and Make of Raw. -/
import Derived.Test.YtegekkifgdakgaaDoorDecI
import Derived.Deep.RegionWith
import Derived.Deep.DrawnRows
namespace Go.Proofs.YtegekkifgdakgaaDoor
open Go.RowKit Florin
set_option linter.unusedVariables false
attribute [local go_sem ↓] Go.wp_at_zero Go.wp_at_succ

theorem Box.drew {w : World} {b : Nat} {cs : Array Value} (h : Box w b cs) : Box w.drew b cs := h
/-- A decimal as it came in. -/
abbrev RV (n : Bool) (a : Option Addr) (len cap : Nat) (e : Int) : Value := .agg #[.bool n, .slice a len cap, .int .i64 e]

set_option maxHeartbeats 800000 in
theorem few_yes (n : Bool) (a : Option Addr) (len cap : Nat) (e : Int) (k : Int) (w : World) (hc : len ≤ cap) (hm : cap ≤ maxLen) (hk : k ≤ 1000) (hk0 : 0 ≤ k) (h1 : (len : Int) ≤ k) (h2 : -k ≤ e) (h3 : e ≤ k) :
    Calls Tryd.prog 11 #[RV n a len cap e, .int .i64 k] w fun x w' => x = .returned (.bool true) ∧ Below w.heap.size w w' := by
  unfold maxLen at hm
  go_enter Tryd.func11, Tryd.ntmps11
  go_wp2
  go_ret
  exact ⟨rfl, below_alloc w _⟩
set_option maxHeartbeats 800000 in
theorem few_no (n : Bool) (a : Option Addr) (len cap : Nat) (e : Int) (k : Int) (w : World) (hc : len ≤ cap) (hm : cap ≤ maxLen) (hk : k ≤ 1000) (hk0 : 0 ≤ k) (h : ¬ ((len : Int) ≤ k ∧ -k ≤ e ∧ e ≤ k)) :
    Calls Tryd.prog 11 #[RV n a len cap e, .int .i64 k] w fun x w' => x = .returned (.bool false) ∧ Below w.heap.size w w' := by
  unfold maxLen at hm
  by_cases h1 : (len : Int) ≤ k
  · by_cases h2 : -k ≤ e
    · have h3 : ¬ e ≤ k := fun h3 => h ⟨h1, h2, h3⟩
      clear h
      go_enter Tryd.func11, Tryd.ntmps11
      go_wp2
      go_ret
      exact ⟨rfl, below_alloc w _⟩
    · clear h
      go_enter Tryd.func11, Tryd.ntmps11
      go_wp2
      go_ret
      exact ⟨rfl, below_alloc w _⟩
  · clear h
    go_enter Tryd.func11, Tryd.ntmps11
    go_wp2
    go_ret
    exact ⟨rfl, below_alloc w _⟩

set_option maxRecDepth 100000 in
set_option maxHeartbeats 3200000 in
theorem make_as (n : Bool) (a : Option Addr) (len cap : Nat) (L : List UInt8) (e : Int) (w : World) (hin : InB w a len cap L) (hl : len ≤ 1000000) :
    Calls Tryd.prog 14 #[RV n a len cap e] w fun x w' => x = .returned (V ⟨n, dgs L, e⟩) ∧ Below w.heap.size w w' := by
  have HIN := Lib.hid hin
  have hc := hin.2.1
  clear hin
  go_enter Tryd.func14, Tryd.ntmps14
  go_wp2_with fail
  have BX := Lib.hid ((Box.new (w.alloc (.cells #[.bool n, .slice a len cap, .int .i64 e] 24)) zc 31).at (b' := w.heap.size + 1) (by simp))
  have BW := Lib.hid (below_alloc2 w (.cells #[.bool n, .slice a len cap, .int .i64 e] 24) (.cells zc 31))
  have AX := Lib.hid (((Box.new w #[.bool n, .slice a len cap, .int .i64 e] 24).alloc (.cells zc 31)))
  go_region_with (go_at_call 34; refine (digits_any a len cap L _ (HIN.out.below BW.out.drew) hl).mono ?_; rintro e w3 ⟨rfl, hb⟩; obtain ⟨c0, c1, c2, _, _, _, _⟩ := (AX.out.drew.below hb (by simp <;> omega)).three; obtain ⟨q0, q1, q2, f0, f1, f2, lt⟩ := (BX.out.drew.below hb (by simp)).three)
  all_goals
    go_wp2
    exact bodyPost_ret (v := V ⟨n, dgs L, e⟩) (by simp [results, Tryd.results14, go_sem, q0, q1, q2]) rfl ⟨rfl, below_store3 (BW.out.trans ((below_drew' hb).mono (by simp <;> omega))) (Nat.le_succ _) _ _ _⟩
end Go.Proofs.YtegekkifgdakgaaDoor
