/- What dec.split returns: the pieces of a decimal's text. -/
import Derived.Test.YtkjhdehpcanciaaGreatDoorDecF
namespace Go.Proofs.YtkjhdehpcanciaaGreatDoor
open Go.RowKit Florin

abbrev zw : Array Value := #[.bool false, .string ⟨#[]⟩, .string ⟨#[]⟩, .bool false, .string ⟨#[]⟩]
theorem Box.five {w : World} {b : Nat} {v0 v1 v2 v3 v4 : Value} (h : Box w b #[v0, v1, v2, v3, v4]) : w.cell? ⟨b, 0, none⟩ = some v0 ∧ w.cell? ⟨b, 1, none⟩ = some v1 ∧ w.cell? ⟨b, 2, none⟩ = some v2 ∧ w.cell? ⟨b, 3, none⟩ = some v3 ∧ w.cell? ⟨b, 4, none⟩ = some v4 ∧
    w.frozen? ⟨b, 0, none⟩ = false ∧ w.frozen? ⟨b, 1, none⟩ = false ∧ w.frozen? ⟨b, 2, none⟩ = false ∧ w.frozen? ⟨b, 3, none⟩ = false ∧ w.frozen? ⟨b, 4, none⟩ = false ∧ b < w.heap.size :=
  ⟨h.cell 0, h.cell 1, h.cell 2, h.cell 3, h.cell 4, h.frozen 0, h.frozen 1, h.frozen 2, h.frozen 3, h.frozen 4, h.lt⟩
theorem below_store5 {B : Nat} {W w : World} {b : Nat} (h : Below B W w) (hb : B ≤ b) (x0 x1 x2 x3 x4 : Value) :
    Below B W (((((w.setCell ⟨b, 0, none⟩ x0).setCell ⟨b, 1, none⟩ x1).setCell ⟨b, 2, none⟩ x2).setCell ⟨b, 3, none⟩ x3).setCell ⟨b, 4, none⟩ x4) :=
  ((((h.setCell hb x0).setCell hb x1).setCell hb x2).setCell hb x3).setCell hb x4
theorem ext_take' (p : List UInt8) (k : Nat) : (⟨p.toArray⟩ : ByteArray).extract 0 k = ⟨(p.take k).toArray⟩ := by rw [cut_arr]; simp
theorem ext_drop' (p : List UInt8) (k : Nat) : (⟨p.toArray⟩ : ByteArray).extract k p.length = ⟨(p.drop k).toArray⟩ := by
  rw [cut_arr, List.take_of_length_le (by rw [List.length_drop]; omega)]

def okV (l : List UInt8) : Value := .agg #[.bool (minus l), S (whole l), S (frac l), .bool (pneg l), S (pw l)]
theorem sdig_no {l : List UInt8} (h : ¬ sdig l = true) : sdig l = false := by simpa using h
end Go.Proofs.YtkjhdehpcanciaaGreatDoor
