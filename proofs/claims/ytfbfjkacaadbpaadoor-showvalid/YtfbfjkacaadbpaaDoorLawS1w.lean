/- The walk of the law ShowValid, whatever came in. -/
import Derived.Test.YtfbfjkacaadbpaaDoorLawS1
namespace Go.Proofs.YtfbfjkacaadbpaaDoor
open Go.RowKit Florin
set_option linter.unusedVariables false

set_option maxRecDepth 100000 in
set_option maxHeartbeats 1600000 in
theorem valid_no (kd mn mx mo mi : Int) (n : Bool) (a : Option Addr) (len cap : Nat) (e : Int) (w : World) (hc0 : len ≤ cap) (hm0 : cap ≤ maxLen) (htab : Tab w) (h : 30 < (len : Int)) :
    Calls Tryd.prog 8 #[.int .i64 kd, .int .i64 mn, .int .i64 mx, .int .i64 mo, .int .i64 mi, RV n a len cap e] w fun x w' => x = .returned (.bool true) ∧ Below w.heap.size w w' := by
  unfold maxLen at hm0
  have HT := Lib.hid htab
  clear htab
  have hl31 : decide (30 < (len : Int)) = true := by simp; omega
  go_enter Tryd.func8, Tryd.ntmps8
  go_wp2_with fail
  with_reducible refine (head4 _ (HT.out.below (HeldL.alloc (HeldL.refl w) (w.heap.size) #[.bool n, .slice a len cap, .int .i64 e] 24 (by simp)).bel)).mono ?_
  rintro x w1 ⟨rfl, hb⟩
  have H1 : Hid (HeldL w [(w.heap.size, #[.bool n, .slice a len cap, .int .i64 e])] w1) := Lib.hid (HeldL.keep (HeldL.alloc (HeldL.refl w) (w.heap.size) #[.bool n, .slice a len cap, .int .i64 e] 24 (by simp)) hb)
  clear hb
  have r0 : w1.cell? ⟨w.heap.size, 0, none⟩ = some (.bool n) := (H1.out.f (List.Mem.head _)).cell 0
  have r1 : w1.cell? ⟨w.heap.size, 1, none⟩ = some (.slice a len cap) := (H1.out.f (List.Mem.head _)).cell 1
  have r2 : w1.cell? ⟨w.heap.size, 2, none⟩ = some (.int .i64 e) := (H1.out.f (List.Mem.head _)).cell 2
  have rl : w.heap.size < w1.heap.size := (H1.out.f (List.Mem.head _)).lt
  go_wp2
  go_ret
  exact ⟨rfl, H1.out.bel⟩

theorem showValid_walk (kd mn mx mo mi : Int) (n : Bool) (a : Option Addr) (len cap : Nat) (e : Int) (L : List UInt8) (w : World) (_ : (Lit.int .i64 kd).wf = true) (_ : (Lit.int .i64 mn).wf = true) (_ : (Lit.int .i64 mx).wf = true) (_ : (Lit.int .i64 mo).wf = true) (_ : (Lit.int .i64 mi).wf = true) (hin : InB w a len cap L) (htab : Tab w) :
    Calls Tryd.prog 8 #[.int .i64 kd, .int .i64 mn, .int .i64 mx, .int .i64 mo, .int .i64 mi, RV n a len cap e] w fun x w' => x = .returned (.bool true) ∧ Below w.heap.size w w' := by
  by_cases hl : (len : Int) ≤ 30
  · have ll : (dgs L).length ≤ 30 := by rw [dgs_length, hin.1]; omega
    refine valid_w kd mn mx mo mi n a len cap L e w hin htab (by omega) _ rfl (Nat.le_trans (made_length _ _ _) (by omega)) _ rfl (visP ⟨kd, mn, mx, ⟨n, dgs L, e⟩, mo, mi⟩ (roundP ⟨kd, mn, mx, ⟨n, dgs L, e⟩, mo, mi⟩ (made false [55] 0))) (fun hv w' ht => ?_)
    have hid : made (made false [55] 0).neg (made false [55] 0).l (made false [55] 0).e = made false [55] 0 := made_idem _ _ _
    exact apply_as ⟨kd, mn, mx, ⟨n, dgs L, e⟩, mo, mi⟩ ⟨false, [55], 0⟩ w' (by simp only; omega) (by decide) hv ht _ rfl (roundP_len hv (by decide) (made_isDig _ _ _) (made_exp _ _ _).1 (made_exp _ _ _).2) (roundP_idem hid) _ rfl
  · exact valid_no kd mn mx mo mi n a len cap e w hin.2.1 hin.2.2.1 htab (by omega)
end Go.Proofs.YtfbfjkacaadbpaaDoor
