/- The walk of the law EvalEnglish. -/
import Derived.Test.YtlambjglikdmcaaGreatDoorLawE1a
import Derived.Test.YtlambjglikdmcaaGreatDoorLawE1b
import Derived.Deep.Cut
namespace Go.Proofs.YtlambjglikdmcaaGreatDoor
open Go.RowKit Florin
set_option linter.unusedVariables false
set_option linter.unusedSimpArgs false
attribute [local go_sem ↓] Go.wp_at_zero Go.wp_at_succ


theorem evalEnglish_walk (n f v : Int) (w : World) (_h0 : (Lit.int .i64 n).wf = true) (_h1 : (Lit.int .i64 f).wf = true) (_h2 : (Lit.int .i64 v).wf = true) (ht : Tab w) (hw : Wds w) :
    Calls Tryz.prog 9 #[.int .i64 n, .int .i64 f, .int .i64 v] w fun x w' => x = .returned (.bool true) ∧ Below w.heap.size w w' := by
  obtain ⟨M, hM, han⟩ : ∃ k : Nat, k ≤ 1023 ∧ bits .and .i64 n 1023 = (k : Int) := and_mask n 1023 (by decide)
  obtain ⟨F0, hF0, haf⟩ : ∃ k : Nat, k ≤ 1023 ∧ bits .and .i64 f 1023 = (k : Int) := and_mask f 1023 (by decide)
  obtain ⟨V, hV, hav⟩ : ∃ k : Nat, k ≤ 3 ∧ bits .and .i64 v 3 = (k : Int) := and_mask v 3 (by decide)
  have hc : V = 0 ∨ V = 1 ∨ V = 2 ∨ V = 3 := by omega
  rcases hc with rfl | rfl | rfl | rfl
  · exact eng_0 n f v w ht hw M F0 hM hF0 han haf hav
  · exact eng_1 n f v w ht hw M F0 hM hF0 han haf hav
  · exact eng_2 n f v w ht hw M F0 hM hF0 han haf hav
  · exact eng_3 n f v w ht hw M F0 hM hF0 han haf hav
end Go.Proofs.YtlambjglikdmcaaGreatDoor
