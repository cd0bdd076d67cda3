/- A table with one thing turned: which, and what is left of it in memory. -/
import Derived.Test.YtkbigfkpgjhojaaTuB
namespace Go.Proofs.Ytkbigfkpgjhojaa
open Go.RowKit Florin
set_option linter.unusedVariables false
set_option linter.unusedSimpArgs false
abbrev curZ : CurM := ⟨[], [], [], [], 0, 0, 0, 0⟩
inductive TurnR (f : Nat → List UInt8) (mg : Int) (sh lo ms : List RowM) (cu : List CurM) (un : List UntM) (mu : List TxM) : Bool → (Nat → List UInt8) → Int → List RowM → List RowM → List RowM → List CurM → List UntM → List TxM → Prop
  | no : TurnR f mg sh lo ms cu un mu false f mg sh lo ms cu un mu
  | text (j : Nat) (hj : j < 27) : TurnR f mg sh lo ms cu un mu true (fun i => if i = j then f j ++ [120] else f i) mg sh lo ms cu un mu
  | mg : TurnR f mg sh lo ms cu un mu true f (mg + 1) sh lo ms cu un mu
  | sh : TurnR f mg sh lo ms cu un mu true f mg (sh ++ [(0, [])]) lo ms cu un mu
  | lo : TurnR f mg sh lo ms cu un mu true f mg sh ([(1, [])] ++ lo) ms cu un mu
  | ms : TurnR f mg sh lo ms cu un mu true f mg sh lo ([(1, [])] ++ ms) cu un mu
  | cu : TurnR f mg sh lo ms cu un mu true f mg sh lo ms (cu ++ [curZ]) un mu
  | un : TurnR f mg sh lo ms cu un mu true f mg sh lo ms cu (un ++ [([], [])]) mu
  | mu : TurnR f mg sh lo ms cu un mu true f mg sh lo ms cu un ([(0, [])] ++ mu)
  | ci (c : CurM) (cs : List CurM) (h : cu = c :: cs) : TurnR f mg sh lo ms cu un mu true f mg sh lo ms ({ c with ci := c.ci + 1 } :: cs) un mu
  | mag (r : RowM) (rs : List RowM) (h : sh = r :: rs) : TurnR f mg sh lo ms cu un mu true f mg ((r.1 + 1, r.2) :: rs) lo ms cu un mu
def TurnP (f : Nat → List UInt8) (mg : Int) (sh lo ms : List RowM) (cu : List CurM) (un : List UntM) (mu : List TxM) (w : World) (e : Ending) (w' : World) : Prop :=
  ∃ (ok : Bool) (f' : Nat → List UInt8) (mg' : Int) (a1 a2 a3 a4 a5 a6 : Option Addr) (c1 c2 c3 c4 c5 c6 : Nat) (sh' lo' ms' : List RowM) (cu' : List CurM) (un' : List UntM) (mu' : List TxM),
    e = .returned (.tuple #[.agg (tbA f' mg' (.slice a1 sh'.length c1) (.slice a2 lo'.length c2) (.slice a3 ms'.length c3) (.slice a4 cu'.length c4) (.slice a5 un'.length c5) (.slice a6 mu'.length c6)), .bool ok]) ∧
    Six w' (.slice a1 sh'.length c1) (.slice a2 lo'.length c2) (.slice a3 ms'.length c3) (.slice a4 cu'.length c4) (.slice a5 un'.length c5) (.slice a6 mu'.length c6) sh' lo' ms' cu' un' mu' ∧ Below w.heap.size w w' ∧ TurnR f mg sh lo ms cu un mu ok f' mg' sh' lo' ms' cu' un' mu'
theorem T0.rowA {w0 w w' : World} {q : Nat} {X : Array Value} (h : T0 w0 w q X) {α : Type} {A : α → List Value → Prop} {l : List α} {T : TypeId} {sz : Nat} {v : Value} (ho : OwnA w q T sz A v l) (hn : TTb ≠ T) (hg : w.grownBy w' v.ownBlock) : T0 w0 w' q X := by
  obtain ⟨xs, h1, _⟩ := ho
  exact h.row h1 hn hg
theorem T0.other {w0 w : World} {q g : Nat} {X cur : Array Value} {T : TypeId} (h : T0 w0 w q X) (hx : BoxT w g cur T) (hn : TTb ≠ T) (hqg : q ≤ g) (i : Nat) (v : Value) : T0 w0 (w.setCell ⟨g, i, none⟩ v) q X :=
  ⟨h.hq, h.hb.trans (below_grown (Below.refl _ _) (by have := h.sz; omega) hqg (grown_set (World.grownBy.refl w _) i v)), h.box.other (a := ⟨g, i, none⟩) (h.box.apart hx hn) v, h.zbox.other (a := ⟨g, i, none⟩) (h.zbox.apart hx hn) v⟩
theorem OwnA.rowA {w w' : World} {α β : Type} {A : α → List Value → Prop} {l : List α} {T : TypeId} {sz base : Nat} {v : Value} (h : OwnA w base T sz A v l) {B : β → List Value → Prop} {m : List β} {U : TypeId} {sz2 base2 : Nat} {u : Value} (ho : OwnA w base2 U sz2 B u m) (hn : T ≠ U) (hg : w.grownBy w' u.ownBlock) : OwnA w' base T sz A v l := by
  obtain ⟨xs, h1, _⟩ := ho
  exact h.keep (KeepB.own h1 hn hg) (fun _ _ h => h)
theorem fin_le {w wF : World} {q : Nat} (hq : w.heap.size = q) (hb : Below q w wF) : q ≤ wF.heap.size := by have := hb.size; omega
theorem fin_row {w wE wF : World} {q : Nat} {v : Value} {l : List RowM} (hq : w.heap.size = q) (hb : Below q w wF) (h : OwnA wE q TRw 2 (rowA w q) v l) (hz : BoxT wE (q + 1) Z34 TTb) (hg : wE.grownBy wF (some (q + 1))) : RowL wF wF.heap.size v l :=
  (h.keep (KeepB.of hz (by decide) hg) (fun _ _ h => h)).inL (rowA.move (fin_le hq hb) hb)
theorem fin_cur {w wE wF : World} {q : Nat} {v : Value} {l : List CurM} (hq : w.heap.size = q) (hb : Below q w wF) (h : OwnA wE q TCu 8 (curA w q) v l) (hz : BoxT wE (q + 1) Z34 TTb) (hg : wE.grownBy wF (some (q + 1))) : CurL wF wF.heap.size v l :=
  (h.keep (KeepB.of hz (by decide) hg) (fun _ _ h => h)).inL (curA.move (fin_le hq hb) hb)
theorem fin_unt {w wE wF : World} {q : Nat} {v : Value} {l : List UntM} (hq : w.heap.size = q) (hb : Below q w wF) (h : OwnA wE q TUn 2 (untA w q) v l) (hz : BoxT wE (q + 1) Z34 TTb) (hg : wE.grownBy wF (some (q + 1))) : UntL wF wF.heap.size v l :=
  (h.keep (KeepB.of hz (by decide) hg) (fun _ _ h => h)).inL (untA.move (fin_le hq hb) hb)
theorem fin_tx {w wE wF : World} {q : Nat} {v : Value} {l : List TxM} (hq : w.heap.size = q) (hb : Below q w wF) (h : OwnA wE q TTx 2 txA v l) (hz : BoxT wE (q + 1) Z34 TTb) (hg : wE.grownBy wF (some (q + 1))) : TxL wF wF.heap.size v l :=
  (h.keep (KeepB.of hz (by decide) hg) (fun _ _ h => h)).inL (fun _ _ h => h)
theorem which_as (n : Int) : ∃ k : Nat, k < 27 ∧ wrap64 ((IntKind.u64.wrap n).tmod 27) = (k : Int) := by
  have h0 : 0 ≤ IntKind.u64.wrap n := by
    show 0 ≤ n % _
    exact Int.emod_nonneg _ (by decide)
  obtain ⟨u, hu⟩ := Int.eq_ofNat_of_zero_le h0
  rw [hu]
  refine ⟨u % 27, Nat.mod_lt _ (by decide), ?_⟩
  have h1 : ((u : Int)).tmod 27 = ((u % 27 : Nat) : Int) := by
    rw [Int.tmod_eq_emod_of_nonneg (by omega)]; omega
  rw [h1]
  have hk := Nat.mod_lt u (show 0 < 27 by decide)
  generalize u % 27 = k at *
  clear h1 hu h0
  exact IntWalk.wrap64_in _ ⟨by omega, by omega⟩
theorem OwnA.head {α : Type} {w : World} {base sz : Nat} {T : TypeId} {A : α → List Value → Prop} {v : Value} {x : α} {l : List α} (h : OwnA w base T sz A v (x :: l)) :
    ∃ g cap cur c, v = .slice (some ⟨g, 0, none⟩) (l.length + 1) cap ∧ base ≤ g ∧ BoxT w g cur T ∧ A x c ∧ c.length = sz ∧ (∀ j, j < sz → w.cell? ⟨g, j, none⟩ = c[j]?) ∧
      ∀ i u x', i < sz → A x' (c.set i u) → OwnA (w.setCell ⟨g, i, none⟩ u) base T sz A v (x' :: l) := by
  obtain ⟨xs, h1, h2⟩ := h
  rcases h1.2 with ⟨_, h0⟩ | ⟨g, cap, cur, rfl, hB, hg, hc, hm, hs, ht⟩
  · simp at h0
  · have hx : BoxT w g cur T := hg
    obtain ⟨c, a, b, d⟩ := h2 0 (by simp)
    have hle : sz ≤ (l.length + 1) * sz := Nat.le_mul_of_pos_left _ (by omega)
    have hcs : (l.length + 1) * sz ≤ cur.size := by rw [hs]; exact Nat.mul_le_mul_right _ (by simpa using hc)
    have hxc : ∀ j, j < (l.length + 1) * sz → xs[j]? = cur[j]? := fun j hj => by
      rw [← ht, List.getElem?_take, if_pos (by simpa using hj), Array.getElem?_toList]
    have hxl : xs.length = (l.length + 1) * sz := by simpa using h1.1
    refine ⟨g, cap, cur, c, by simp, hB, hx, by simpa using a, b, fun j hj => ?_, fun i u x' hi hA => ?_⟩
    · rw [hx.cell, ← d j hj, Nat.zero_mul, Nat.zero_add, hxc j (by omega)]
    · refine ⟨xs.set i u, ⟨by simpa using h1.1, .inr ⟨g, cap, cur.setIfInBounds i u, by simp, hB, hx.set i u, by simpa using hc, hm, by simpa using hs, ?_⟩⟩, fun k hk => ?_⟩
      · rw [Array.toList_setIfInBounds, List.take_set, ← ht]
        simp
      · by_cases hk0 : k = 0
        · subst hk0
          refine ⟨c.set i u, by simpa using hA, by simpa using b, fun j hj => ?_⟩
          rw [Nat.zero_mul, Nat.zero_add, List.getElem?_set, List.getElem?_set]
          have h3 := d j hj
          rw [Nat.zero_mul, Nat.zero_add] at h3
          by_cases hij : i = j
          · rw [if_pos hij, if_pos hij, if_pos (by omega), if_pos (by omega)]
          · rw [if_neg hij, if_neg hij, h3]
        · obtain ⟨c2, a2, b2, d2⟩ := h2 k (by simpa using hk)
          refine ⟨c2, ?_, b2, fun j hj => ?_⟩
          · obtain ⟨k', rfl⟩ : ∃ k', k = k' + 1 := ⟨k - 1, by omega⟩
            simpa using a2
          · have hge : sz ≤ k * sz := Nat.le_mul_of_pos_left _ (by omega)
            rw [List.getElem?_set, if_neg (by omega)]
            exact d2 j hj
def PO : List Nat := [3, 10, 11, 12, 13, 14, 15, 17, 18, 19, 20, 21, 28, 29, 30, 31, 32, 33]
def FO : List Nat := [3, 10, 11, 12, 13, 14, 15, 16, 17, 18, 19, 20, 21, 22, 23, 24, 25, 26]
theorem po_fo : ∀ k, k < 18 → FO.getD k 0 < 27 ∧ offT.getD (FO.getD k 0) 0 = PO.getD k 0 := by decide
end Go.Proofs.Ytkbigfkpgjhojaa
