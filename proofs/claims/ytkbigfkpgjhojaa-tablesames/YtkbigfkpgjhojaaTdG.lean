/- The tables of the law's own: what is known of one while it is made. -/
import Derived.Test.YtkbigfkpgjhojaaTdF
import Derived.Deep.AppendLies
namespace Go.Proofs.Ytkbigfkpgjhojaa
open Go.RowKit Florin
set_option linter.unusedVariables false
set_option linter.unusedSimpArgs false
attribute [local go_sem ↓] Go.wp_at_zero Go.wp_at_succ
structure BB (w : World) (base q : Nat) (X : Array Value) (vA vB : Value) (nA nB : Nat) : Prop where
  box : BoxT w q X TTb
  size : X.size = 34
  x0 : X[0]? = some (S [48])
  xA : X[22]? = some vA
  xB : X[24]? = some vB
  one : X.all (·.oneCell') = true
  oA : ∃ xs, w.ownsRow base TRw 2 vA nA xs
  oB : ∃ xs, w.ownsRow base TRw 2 vB nB xs
  ap : ∀ j, vA.ownBlock = some j → vB.ownBlock ≠ some j
theorem all_set {X : Array Value} (h : X.all (·.oneCell') = true) (i : Nat) (v : Value) (hv : v.oneCell' = true) : (X.setIfInBounds i v).all (·.oneCell') = true := by
  rw [Array.all_eq_true] at h ⊢
  intro k hk
  have hk2 : k < X.size := by simpa using hk
  rw [Array.getElem_setIfInBounds (by simpa using hk)]
  split
  · exact hv
  · exact h k hk2
theorem set_get {X : Array Value} {i j : Nat} (v : Value) (h : i ≠ j) : (X.setIfInBounds i v)[j]? = X[j]? := by
  rw [Array.getElem?_setIfInBounds, if_neg h]
theorem BB.below {w w' : World} {base q : Nat} {X : Array Value} {vA vB : Value} {nA nB : Nat} (h : BB w base q X vA vB nA nB) (hb : Below w.heap.size w w') : BB w' base q X vA vB nA nB :=
  ⟨h.box.below hb, h.size, h.x0, h.xA, h.xB, h.one, h.oA.elim fun xs e => ⟨xs, own_keep e (KeepB.below hb)⟩, h.oB.elim fun xs e => ⟨xs, own_keep e (KeepB.below hb)⟩, h.ap⟩
theorem BB.alloc {w : World} {base q : Nat} {X : Array Value} {vA vB : Value} {nA nB : Nat} (h : BB w base q X vA vB nA nB) (o : Obj) : BB (w.alloc o) base q X vA vB nA nB := h.below ((Below.refl _ w).alloc (Nat.le_refl _) o)
theorem BB.drew {w : World} {base q : Nat} {X : Array Value} {vA vB : Value} {nA nB : Nat} (h : BB w base q X vA vB nA nB) : BB w.drew base q X vA vB nA nB := h.below (Below.refl _ w).drew
theorem own_grown {w w' : World} {base n : Nat} {v : Value} {xs : List Value} {r : Option Nat} (h : w.ownsRow base TRw 2 v n xs) (hg : w.grownBy w' r) (hn : ∀ j, r = some j → v.ownBlock ≠ some j) : w'.ownsRow base TRw 2 v n xs := by
  refine ⟨h.1, ?_⟩
  rcases h.2 with hn | ⟨g, cap, cur, rfl, hB, hg2, rest⟩
  · exact .inl hn
  · exact .inr ⟨g, cap, cur, rfl, hB, BoxT.grown (t := TRw) hg2 hg (fun e => hn g e.symm rfl), rest⟩
/-- A cell of the table is stored into. -/
theorem BB.setq {w : World} {base q : Nat} {X : Array Value} {vA vB : Value} {nA nB : Nat} (h : BB w base q X vA vB nA nB) (i : Nat) (v : Value) (hv : v.oneCell' = true) (h0 : i ≠ 0) (hA : i ≠ 22) (hB : i ≠ 24) : BB (w.setCell ⟨q, i, none⟩ v) base q (X.setIfInBounds i v) vA vB nA nB :=
  ⟨h.box.set i v, by simpa using h.size, by rw [set_get v h0]; exact h.x0, by rw [set_get v hA]; exact h.xA, by rw [set_get v hB]; exact h.xB, all_set h.one i v hv,
   h.oA.elim fun xs e => ⟨xs, own_keep e (KeepB.set h.box (by decide) i v)⟩, h.oB.elim fun xs e => ⟨xs, own_keep e (KeepB.set h.box (by decide) i v)⟩, h.ap⟩
theorem BB.appA {w w' : World} {base q g cap : Nat} {X : Array Value} {vA vB : Value} {nA nB n8 : Nat} {xs ys : List Value} (h : BB w base q X vA vB nA nB) (hx : w.ownsRow base TRw 2 vA nA xs) (hg : w.grownBy w' vA.ownBlock) (h8 : w'.ownsRow base TRw 2 (.slice (some ⟨g, 0, none⟩) n8 cap) n8 ys) (hat : vA.ownBlock = some g ∨ g = w.heap.size) :
    BB (w'.setCell ⟨q, 22, none⟩ (.slice (some ⟨g, 0, none⟩) n8 cap)) base q (X.setIfInBounds 22 (.slice (some ⟨g, 0, none⟩) n8 cap)) (.slice (some ⟨g, 0, none⟩) n8 cap) vB n8 nB := by
  have hbox : BoxT w' q X TTb := KeepB.own (T := TTb) hx (by decide) hg q X h.box
  refine ⟨hbox.set 22 _, by simpa using h.size, by rw [set_get _ (by decide)]; exact h.x0, ?_, by rw [set_get _ (by decide)]; exact h.xB, all_set h.one 22 _ rfl, ⟨ys, own_keep h8 (KeepB.set hbox (by decide) 22 _)⟩, ?_, ?_⟩
  · rw [Array.getElem?_setIfInBounds, if_pos rfl, if_pos (by rw [h.size]; decide)]
  · obtain ⟨zs, hz⟩ := h.oB
    exact ⟨zs, own_keep (own_grown hz hg h.ap) (KeepB.set hbox (by decide) 22 _)⟩
  · intro j hj hb
    obtain ⟨zs, hz⟩ := h.oB
    have hj2 : g = j := by simpa [Value.ownBlock] using hj
    subst hj2
    rcases hat with e | e
    · exact h.ap _ e hb
    · have := (World.ownsRow.lt hz _ hb).2; omega
theorem BB.appB {w w' : World} {base q g cap : Nat} {X : Array Value} {vA vB : Value} {nA nB n8 : Nat} {xs ys : List Value} (h : BB w base q X vA vB nA nB) (hx : w.ownsRow base TRw 2 vB nB xs) (hg : w.grownBy w' vB.ownBlock) (h8 : w'.ownsRow base TRw 2 (.slice (some ⟨g, 0, none⟩) n8 cap) n8 ys) (hat : vB.ownBlock = some g ∨ g = w.heap.size) :
    BB (w'.setCell ⟨q, 24, none⟩ (.slice (some ⟨g, 0, none⟩) n8 cap)) base q (X.setIfInBounds 24 (.slice (some ⟨g, 0, none⟩) n8 cap)) vA (.slice (some ⟨g, 0, none⟩) n8 cap) nA n8 := by
  have hbox : BoxT w' q X TTb := KeepB.own (T := TTb) hx (by decide) hg q X h.box
  refine ⟨hbox.set 24 _, by simpa using h.size, by rw [set_get _ (by decide)]; exact h.x0, by rw [set_get _ (by decide)]; exact h.xA, ?_, all_set h.one 24 _ rfl, ?_, ⟨ys, own_keep h8 (KeepB.set hbox (by decide) 24 _)⟩, ?_⟩
  · rw [Array.getElem?_setIfInBounds, if_pos rfl, if_pos (by rw [h.size]; decide)]
  · obtain ⟨zs, hz⟩ := h.oA
    exact ⟨zs, own_keep (own_grown hz hg (fun j e e2 => h.ap j e2 e)) (KeepB.set hbox (by decide) 24 _)⟩
  · intro j hj hb
    obtain ⟨zs, hz⟩ := h.oA
    have hj2 : g = j := by simpa [Value.ownBlock] using hb
    subst hj2
    rcases hat with e | e
    · exact h.ap _ hj e
    · have := (World.ownsRow.lt hz _ hj).2; omega
end Go.Proofs.Ytkbigfkpgjhojaa
