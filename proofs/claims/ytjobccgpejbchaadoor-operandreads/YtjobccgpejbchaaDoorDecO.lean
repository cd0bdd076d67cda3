/- What Cmp, Add and Sub of dec return. -/
import Derived.Test.YtjobccgpejbchaaDoorDecN
import Derived.Deep.RegionWith
import Derived.Deep.DrawnRows
namespace Go.Proofs.YtjobccgpejbchaaDoor
open Go.RowKit Florin
set_option linter.unusedVariables false
attribute [local go_sem ↓] Go.wp_at_zero Go.wp_at_succ

theorem dig_add_len {a b : List UInt8} (n : Nat) (ha : isDig a = true) (hb : isDig b = true) (h1 : a.length ≤ n) (h2 : b.length ≤ n) : (dig (val a + val b)).length ≤ n + 1 := (dig_length_le _ _).2 (by
  have := val_lt a ha; have := val_lt b hb
  have := Nat.pow_le_pow_right (show 0 < 10 by decide) h1; have := Nat.pow_le_pow_right (show 0 < 10 by decide) h2
  rw [Nat.pow_succ]; omega)
theorem dig_sub_len {a b : List UInt8} (n : Nat) (ha : isDig a = true) (h1 : a.length ≤ n) : (dig (val a - val b)).length ≤ n + 1 := (dig_length_le _ _).2 (by
  have := val_lt a ha
  have := Nat.pow_le_pow_right (show 0 < 10 by decide) h1
  rw [Nat.pow_succ]; omega)
/-- Two structs of three cells, both stored anew. -/
theorem six {w wB : World} {b c : Nat} {x0 x1 x2 y0 y1 y2 : Value} (hA : Box wB b #[x0, x1, x2]) (hB : Box wB c #[y0, y1, y2]) (hW : Below w.heap.size w wB) (hb : w.heap.size ≤ b) (hc : w.heap.size ≤ c) (hn : b ≠ c) (d0 d1 d2 g0 g1 g2 : Value) :
    Box ((((((wB.setCell ⟨b, 0, none⟩ d0).setCell ⟨b, 1, none⟩ d1).setCell ⟨b, 2, none⟩ d2).setCell ⟨c, 0, none⟩ g0).setCell ⟨c, 1, none⟩ g1).setCell ⟨c, 2, none⟩ g2) b #[d0, d1, d2] ∧
    Box ((((((wB.setCell ⟨b, 0, none⟩ d0).setCell ⟨b, 1, none⟩ d1).setCell ⟨b, 2, none⟩ d2).setCell ⟨c, 0, none⟩ g0).setCell ⟨c, 1, none⟩ g1).setCell ⟨c, 2, none⟩ g2) c #[g0, g1, g2] ∧
    Below w.heap.size w ((((((wB.setCell ⟨b, 0, none⟩ d0).setCell ⟨b, 1, none⟩ d1).setCell ⟨b, 2, none⟩ d2).setCell ⟨c, 0, none⟩ g0).setCell ⟨c, 1, none⟩ g1).setCell ⟨c, 2, none⟩ g2) :=
  ⟨(((hA.store3 d0 d1 d2).other hn g0).other hn g1).other hn g2, (((hB.other (fun e => hn e.symm) d0).other (fun e => hn e.symm) d1).other (fun e => hn e.symm) d2).store3 g0 g1 g2, below_store3 (below_store3 hW hb _ _ _) hc _ _ _⟩
theorem Box.six {w wB : World} {b c r : Nat} {z0 z1 z2 : Value} (h : Box wB r #[z0, z1, z2]) (h1 : r ≠ b) (h2 : r ≠ c) (d0 d1 d2 g0 g1 g2 : Value) :
    Box ((((((wB.setCell ⟨b, 0, none⟩ d0).setCell ⟨b, 1, none⟩ d1).setCell ⟨b, 2, none⟩ d2).setCell ⟨c, 0, none⟩ g0).setCell ⟨c, 1, none⟩ g1).setCell ⟨c, 2, none⟩ g2) r #[z0, z1, z2] :=
  (((((h.other h1 d0).other h1 d1).other h1 d2).other h2 g0).other h2 g1).other h2 g2

end Go.Proofs.YtjobccgpejbchaaDoor
