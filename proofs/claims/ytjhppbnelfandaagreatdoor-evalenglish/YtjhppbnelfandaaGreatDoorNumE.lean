/- A row of bytes of the call's own; what num.Add returns, at any world. -/
import Derived.Test.YtjhppbnelfandaaGreatDoorNumD
import Derived.OwnWalk
import Derived.Laws.OwnMore
import Derived.Laws.IdiomStrings
namespace Go.Proofs.YtjhppbnelfandaaGreatDoor
open Go.RowKit Florin

/-- A byte as a value. -/
abbrev bv (c : UInt8) : Value := .int .u8 (c.toNat : Int)
theorem Tryz.infoB : (Tryz.prog.info? 5).map (fun i => (i.zero, i.size, i.bytes)) = some (some (.int .u8 0), 1, 1) := by kernel_rfl

/-- The slice of n bytes at the head of block g is the call's own, and its bytes are L. -/
def RowB (w : World) (B g n : Nat) (L : List UInt8) : Prop := w.ownsRow B 5 1 (.slice (some ⟨g, 0, none⟩) n n) n (L.map bv)

theorem RowB.len {w : World} {B g n : Nat} {L : List UInt8} (h : RowB w B g n L) : L.length = n := by
  have := h.1; simpa using this
theorem RowB.cell {w : World} {B g n : Nat} {L : List UInt8} (h : RowB w B g n L) (j : Nat) (hj : j < n) : ∃ c, w.cell? ⟨g, j, none⟩ = some (bv c) := by
  have h1 := World.ownsRow.cellAt h j (by omega)
  have h2 : j < L.length := by rw [h.len]; exact hj
  rw [h1, List.getElem?_map, List.getElem?_eq_getElem h2]
  exact ⟨_, rfl⟩
theorem RowB.frozen {w : World} {B g n : Nat} {L : List UInt8} (h : RowB w B g n L) (j : Nat) : w.frozen? ⟨g, j, none⟩ = false := World.ownsRow.frozenAt h j
theorem RowB.stored {w : World} {B g n : Nat} {L : List UInt8} (h : RowB w B g n L) (j : Nat) (c : UInt8) : RowB (w.setCell ⟨g, j, none⟩ (bv c)) B g n (L.set j c) := by
  have := (World.ownsRow.stored h j (bv c)).1
  unfold RowB
  rw [List.map_set]
  exact this
theorem RowB.ge {w : World} {B g n : Nat} {L : List UInt8} (h : RowB w B g n L) : B ≤ g := (World.ownsRow.lt h g rfl).1
theorem RowB.conv {w : World} {B g n : Nat} {L : List UInt8} (h : RowB w B g n L) : (convert 24 9 (.slice (some ⟨g, 0, none⟩) n n)).run Tryz.prog w = .ok (S L) w := by
  have hl := h.len
  subst hl
  refine run_convert_bytes_back w 24 9 5 ⟨g, 0, none⟩ L.length L Tryz.underlying24 Tryz.underlying5 Tryz.underlying9 ?_
  intro j hj
  refine World.ownsRow.cells h (g := g) rfl j _ ?_
  rw [List.getElem?_map, List.getElem?_eq_getElem hj]
  rfl
theorem RowB.conv_later {w w' : World} {B g n : Nat} {L : List UInt8} (h : RowB w B g n L) (hb : Below w.heap.size w w') : (convert 24 9 (.slice (some ⟨g, 0, none⟩) n n)).run Tryz.prog w' = .ok (S L) w' := by
  have hl := h.len
  subst hl
  refine run_convert_bytes_back w' 24 9 5 ⟨g, 0, none⟩ L.length L Tryz.underlying24 Tryz.underlying5 Tryz.underlying9 ?_
  intro j hj
  rw [hb.cell (by have := (World.ownsRow.lt h g rfl).2; unfold Addr.add; split <;> exact this)]
  refine World.ownsRow.cells h (g := g) rfl j _ ?_
  rw [List.getElem?_map, List.getElem?_eq_getElem hj]
  rfl
theorem RowB.made {w : World} {B g n : Nat} (h : w.ownsRow B 5 1 (.slice (some ⟨g, 0, none⟩) n n) n (madeCells (Value.int .u8 0).cells (n * 1)).toList) : RowB w B g n (List.replicate n 0) := by
  unfold RowB
  rw [show (Value.int .u8 0).cells = #[Value.int .u8 0] from rfl, toList_madeCells_one, Nat.mul_one] at h
  have e : bv 0 = Value.int .u8 0 := rfl
  rw [List.map_replicate, e]
  exact h

theorem ret_S {a b : List UInt8} (h : a = b) : Ending.returned (S a) = .returned (S b) := by rw [h]
theorem ret_S2 {a b : List UInt8} {v : Value} (h : a = b) : Ending.returned (.tuple #[S a, v]) = .returned (.tuple #[S b, v]) := by rw [h]
theorem vint {k : IntKind} {a b : Int} (h : a = b) : Value.int k a = .int k b := by rw [h]
theorem trim_digs (n N : Nat) (h : N < 10 ^ n) : trim (digs n N) = dig N := by
  rw [← dig_val (isDig_digs n N), val_digs, Nat.mod_eq_of_lt h]
theorem arr_dig (l : List UInt8) (h : isDig l = true) : isDig (⟨l.toArray⟩ : ByteArray).data.toList = true := by rw [arr_list]; exact h
theorem sum_lt {a b : List UInt8} {n : Nat} (ha : isDig a = true) (hb : isDig b = true) (h1 : a.length < n) (h2 : b.length < n) : val a + val b < 10 ^ n := by
  have v1 := val_lt a ha
  have v2 := val_lt b hb
  have m1 : 10 ^ a.length ≤ 10 ^ (n - 1) := Nat.pow_le_pow_right (by decide) (by omega)
  have m2 : 10 ^ b.length ≤ 10 ^ (n - 1) := Nat.pow_le_pow_right (by decide) (by omega)
  have e : 10 ^ n = 10 ^ (n - 1) * 10 := by rw [← Nat.pow_succ]; congr 1; omega
  omega

/-- A digit put ahead of those that are there. -/
theorem set_digs (n k N d : Nat) (hk : k < n) (hd : d % 10 = N / 10 ^ k % 10) : (List.replicate (n - k) (0 : UInt8) ++ digs k N).set (n - 1 - k) (db d) = List.replicate (n - (k + 1)) 0 ++ digs (k + 1) N := by
  rw [digs_succ', db_congr hd, List.set_append_left _ _ (by simp; omega)]
  rw [show n - k = (n - (k + 1)) + 1 by omega, List.replicate_succ']
  rw [List.set_append_right _ _ (by simp; omega)]
  simp [show n - 1 - k - (n - (k + 1)) = 0 by omega]

end Go.Proofs.YtjhppbnelfandaaGreatDoor
