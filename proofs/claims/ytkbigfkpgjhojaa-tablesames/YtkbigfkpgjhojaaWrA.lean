/- The writer of numbers and texts: what lay, Num and Text return. -/
import Derived.Test.YtkbigfkpgjhojaaWBase
namespace Go.Proofs.Ytkbigfkpgjhojaa
open Go.RowKit Florin
set_option linter.unusedVariables false
set_option linter.unusedSimpArgs false
abbrev TWr : TypeId := 72
abbrev TPc : TypeId := 92
/-- How long texts are together. -/
def tot : List (List UInt8) → Nat
  | [] => 0
  | t :: L => tot L + t.length
/-- What was laid, the youngest first: a piece behind a piece. -/
def Chain (w : World) (B : Nat) : Option Addr → List (List UInt8) → Prop
  | q, [] => q = none
  | q, t :: L => ∃ k o, q = some ⟨k, 0, none⟩ ∧ B ≤ k ∧ BoxT w k #[.pointer o, S t] TPc ∧ Chain w B o L
theorem Chain.move {w w' : World} {B : Nat} (hk : ∀ k cs, BoxT w k cs TPc → BoxT w' k cs TPc) : ∀ {q : Option Addr} {L : List (List UInt8)}, Chain w B q L → Chain w' B q L
  | _, [], h => h
  | _, t :: L, ⟨k, o, h1, h2, h3, h4⟩ => ⟨k, o, h1, h2, hk _ _ h3, Chain.move hk h4⟩
def WrT (w : World) (B b : Nat) (L : List (List UInt8)) : Prop := B ≤ b ∧ ∃ q, BoxT w b #[.pointer q, .int .i64 (tot L : Nat)] TWr ∧ Chain w B q L
theorem WrT.below {w w' : World} {B b : Nat} {L : List (List UInt8)} (h : WrT w B b L) (hb : Below w.heap.size w w') : WrT w' B b L := by
  obtain ⟨h1, q, h2, h3⟩ := h
  exact ⟨h1, q, h2.below hb, h3.move fun k cs hk => hk.below hb⟩
theorem WrT.lt {w : World} {B b : Nat} {L : List (List UInt8)} (h : WrT w B b L) : b < w.heap.size := by
  obtain ⟨h1, q, h2, h3⟩ := h
  exact h2.lt
theorem WrT.grown {w w' : World} {B b r : Nat} {L : List (List UInt8)} {cs : Array Value} {t : TypeId} (h : WrT w B b L) (hr : BoxT w r cs t) (h1 : t ≠ TWr) (h2 : t ≠ TPc) (hg : w.grownBy w' (some r)) : WrT w' B b L := by
  obtain ⟨g1, q, g2, g3⟩ := h
  exact ⟨g1, q, g2.grown hg (fun e => hr.apart g2 h1 (Option.some.inj e).symm), g3.move fun k ds hk => hk.grown hg (fun e => hr.apart hk h2 (Option.some.inj e).symm)⟩
theorem WrT.new (w : World) (B : Nat) (hB : B ≤ w.heap.size) : WrT (w.alloc (.cells #[.pointer none, .int .i64 0] TWr)) B w.heap.size [] :=
  ⟨hB, none, BoxT.new w _ _, rfl⟩
set_option maxRecDepth 100000 in
set_option maxHeartbeats 1600000 in
theorem lay_as (B b : Nat) (L : List (List UInt8)) (t : List UInt8) (w : World) (h : WrT w B b L) (ht : tot L + t.length ≤ 1000000000) :
    Calls Try.prog 49 #[ptr b, S t] w fun e w' => e = .returned (ptr b) ∧ WrT w' B b (t :: L) ∧ w.grownBy w' (some b) := by
  obtain ⟨hB, q, hx, hc⟩ := h
  have HX := Lib.hid hx
  have HC := Lib.hid hc
  have c0 := hx.cell 0
  have c1 := hx.cell 1
  have z0 := hx.frozen 0
  have z1 := hx.frozen 1
  have hlt := hx.lt
  simp only [List.getElem?_toArray, List.getElem?_cons_zero, List.getElem?_cons_succ] at c0 c1
  clear hx hc
  have hsz : (t.length : Int) = ((⟨t.toArray⟩ : ByteArray).size : Int) := by rw [arr_size]
  go_enter Try.func49, Try.ntmps49
  go_wp2
  go_ret
  have hn : b ≠ w.heap.size := by omega
  rw [← hsz]
  have hbx := ((HX.out.set0 (.pointer (some ⟨w.heap.size, 0, none⟩))).set1 (.int .i64 ((tot L : Nat) + (t.length : Int)))).alloc (.cells #[.pointer q, S t] TPc)
  refine ⟨rfl, ⟨hB, some ⟨w.heap.size, 0, none⟩, hbx, w.heap.size, q, rfl, by omega, ?_, ?_⟩, grown_alloc (grown_set (grown_set (World.grownBy.refl w _) 0 _) 1 _) _⟩
  · have h := BoxT.new ((w.setCell ⟨b, 0, none⟩ (.pointer (some ⟨w.heap.size, 0, none⟩))).setCell ⟨b, 1, none⟩ (.int .i64 ((tot L : Nat) + (t.length : Int)))) #[.pointer q, S t] TPc
    simpa using h
  · refine HC.out.move fun k cs hk => ?_
    have hkb : k ≠ b := hk.apart HX.out (by decide)
    exact ((hk.other (a := ⟨b, 0, none⟩) hkb _).other (a := ⟨b, 1, none⟩) hkb _).alloc _
end Go.Proofs.Ytkbigfkpgjhojaa
