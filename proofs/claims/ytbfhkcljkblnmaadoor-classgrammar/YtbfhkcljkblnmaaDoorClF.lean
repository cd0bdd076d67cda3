/- Ranges in the order of where they begin: what is compared. -/
import Derived.Test.YtbfhkcljkblnmaaDoorClE
import Derived.Test.YtbfhkcljkblnmaaDoorShelf3
import Derived.Shelf.SlSortCmp.WholeK
namespace Go.Proofs.YtbfhkcljkblnmaaDoor
open Go.RowKit Go.Lib Go.Sort Florin
set_option linter.unusedVariables false
set_option linter.unusedSimpArgs false
theorem nan_as (x : Int) (w : World) : Calls Tryd.prog 47 #[.int .i32 x] w fun e w' => e = .returned (.bool false) ∧ w' = w := by
  go_enter Tryd.func47, Tryd.ntmps47
  go_wp2
  go_ret
  exact ⟨rfl, rfl⟩
def cmpI (x y : Int) : Int := if x < y then -1 else if y < x then 1 else 0
set_option maxHeartbeats 800000 in
theorem cmp_as (x y : Int) (w : World) : Calls Tryd.prog 28 #[.int .i32 x, .int .i32 y] w fun e w' => e = .returned (.int .i64 (cmpI x y)) ∧ w' = w := by
  unfold cmpI
  by_cases h1 : x < y
  · rw [if_pos h1]
    go_enter Tryd.func28, Tryd.ntmps28
    go_wp2_with fail
    with_reducible refine (nan_as x _).mono ?_
    rintro e w_ ⟨rfl, rfl⟩
    go_wp2_with fail
    with_reducible refine (nan_as y _).mono ?_
    rintro e w_ ⟨rfl, rfl⟩
    go_wp2
    go_ret
    exact ⟨rfl, rfl⟩
  · rw [if_neg h1]
    by_cases h2 : y < x
    · rw [if_pos h2]
      go_enter Tryd.func28, Tryd.ntmps28
      go_wp2_with fail
      with_reducible refine (nan_as x _).mono ?_
      rintro e w_ ⟨rfl, rfl⟩
      go_wp2_with fail
      with_reducible refine (nan_as y _).mono ?_
      rintro e w_ ⟨rfl, rfl⟩
      go_wp2
      go_ret
      exact ⟨rfl, rfl⟩
    · rw [if_neg h2]
      go_enter Tryd.func28, Tryd.ntmps28
      go_wp2_with fail
      with_reducible refine (nan_as x _).mono ?_
      rintro e w_ ⟨rfl, rfl⟩
      go_wp2_with fail
      with_reducible refine (nan_as y _).mono ?_
      rintro e w_ ⟨rfl, rfl⟩
      go_wp2
      go_ret
      exact ⟨rfl, rfl⟩
def encR (x : Int × Int) : List Value := [.int .i32 x.1, .int .i32 x.2]
set_option maxHeartbeats 800000 in
theorem key_as (x y : Int × Int) (W : World) : Calls Tryd.prog 27 #[.agg #[.int .i32 x.1, .int .i32 x.2], .agg #[.int .i32 y.1, .int .i32 y.2]] W fun e w' => e = .returned (.int .i64 (cmpI x.1 y.1)) ∧ ∃ q os', w' = grow (W.drewN q) os' := by
  have hcon := fun W' => cmp_as x.1 y.1 W'
  generalize cmpI x.1 y.1 = r at hcon ⊢
  go_enter Tryd.func27, Tryd.ntmps27
  go_wp2_with fail
  with_reducible refine (hcon _).mono ?_
  rintro e w' ⟨rfl, rfl⟩
  go_wp2
  go_ret
  exact ⟨rfl, 0, _, by rw [alloc_eq_grow, alloc_eq_grow, grow_grow]; rfl⟩
theorem key_lays (blk off size : Nat) (w : World) : CmpLays Tryd.prog 27 #[] encR 2 (fun x y => cmpI x.1 y.1) blk off size w :=
  fun _ _ _ _ x y => key_as x y _
theorem lt_key (x y : Int × Int) : ltOf (fun x y : Int × Int => cmpI x.1 y.1) x y = decide (x.1 < y.1) := by
  unfold ltOf cmpI
  by_cases h1 : x.1 < y.1
  · simp [h1]
  · by_cases h2 : y.1 < x.1 <;> simp [h1, h2]
theorem swo_key : SWO (ltOf fun x y : Int × Int => cmpI x.1 y.1) where
  irrefl x := by rw [lt_key]; simp
  trans x y z h1 h2 := by rw [lt_key] at *; simp at *; omega
  ntrans x y z h1 h2 := by rw [lt_key] at *; simp at *; omega
theorem sortFunc_as (blk off cap : Nat) (d : Array (Int × Int)) (w : World) (hH : HoldsK encR 2 w blk off d) (hblk : blk < w.heap.size) (hsz : d.size < 4611686018427387904) :
    Calls Tryd.prog 26 #[.slice (some ⟨blk, off, none⟩) d.size cap, .func (.func 27) #[] #[]] w fun e w' => e = .returned (.tuple #[]) ∧ ∃ d' n os, PermIn 0 d.size d d' ∧ SortedIn (ltOf fun x y : Int × Int => cmpI x.1 y.1) 0 d.size d' ∧ w' = sortWorldK encR 2 w blk off n d' os :=
  AnyQ.slices_SortFunc Tryd.laysSort 2 Tryd.isAgg28 Tryd.sizeOf28 encR (fun _ => rfl) (fun x v hv => by simp [encR] at hv; rcases hv with rfl | rfl <;> rfl) (fun x y => cmpI x.1 y.1) swo_key 27 #[] blk off cap d w (enters_of Tryd.func27 (by kernel_rfl) rfl) (key_lays blk off d.size w) hH hblk hsz
end Go.Proofs.YtbfhkcljkblnmaaDoor
