/- The tables of signs, texts that are cut. -/
import Derived.Test.YtmmllhdphlnpjaaDoorGlA
import Derived.Shelf.Unicode.DecodeSlow
import Derived.Deep.Cut
import Derived.Deep.DrawnRows
namespace Go.Proofs.YtmmllhdphlnpjaaDoor
open Go.RowKit Florin
set_option linter.unusedVariables false
set_option linter.unusedSimpArgs false
abbrev Tabs (w : World) : Prop := Lib.Utf8Tabs 0 1 w
theorem Tabs.below {w w' : World} (h : Tabs w) (hb : Below w.heap.size w w') : Tabs w' :=
  ⟨fun c hc => (hb.cell (p := ⟨_, c, none⟩) (World.block_lt_of_cell? w _ (h.1 c hc))).trans (h.1 c hc),
   fun i hi => ⟨(hb.cell (p := ⟨_, 2 * i, none⟩) (World.block_lt_of_cell? w _ (h.2 i hi).1)).trans (h.2 i hi).1, (hb.cell (p := ⟨_, 2 * i + 1, none⟩) (World.block_lt_of_cell? w _ (h.2 i hi).2)).trans (h.2 i hi).2⟩⟩
def szV (v : Value) : Nat := match v with | .string t => t.size | _ => 0
theorem ret_boolG {a b : Bool} (h : a = b) : Ending.returned (.bool a) = .returned (.bool b) := by rw [h]
theorem size_list (t : ByteArray) : t.data.toList.length = t.size := by simp
theorem list_cons (t : ByteArray) (h : 0 < t.size) : t.data.toList = t[0] :: t.data.toList.drop 1 := by
  have h2 : 0 < t.data.toList.length := by simpa using h
  have : t.data.toList = t.data.toList[0] :: t.data.toList.drop 1 := by
    rw [List.getElem_cons_drop (i := 0) (h := h2)]; rfl
  exact this
theorem ext_list (t : ByteArray) (k : Nat) : (t.extract k t.size).data.toList = t.data.toList.drop k := by
  rw [ByteArray.data_extract]
  simp
  exact List.take_of_length_le (by simp)
theorem ext_size (t : ByteArray) (k : Nat) : (t.extract k t.size).size = t.size - k := by
  rw [← size_list, ext_list, List.length_drop, size_list]
theorem ne_list {t : ByteArray} (h : 0 < t.size) : t.data.toList ≠ [] := by
  intro h2
  have := size_list t
  rw [h2] at this
  simp at this
  omega
theorem bt_t (t : ByteArray) (k : Nat) (h : k < t.size) : bt t.data.toList k = t[k].toNat := by
  unfold bt
  rw [List.getD_eq_getElem?_getD, List.getElem?_eq_getElem (by simpa using h)]
  rfl
theorem lead_t (t : ByteArray) (h0 : 0 < t.size) : lead t.data.toList = leadN t.size t[0].toNat (bt t.data.toList 1) (bt t.data.toList 2) (bt t.data.toList 3) := by
  unfold lead
  rw [if_neg (ne_list h0), size_list, bt_t t 0 h0]
theorem rt_bad {t : ByteArray} {r : Bool} (h0 : 0 < t.size) (hr : rightL t.data.toList = r) (hl : lead t.data.toList = 0) : false = r := by
  rw [← hr, right_bad (ne_list h0) hl]
theorem rt_go {t : ByteArray} {r : Bool} {k : Nat} (h0 : 0 < t.size) (hr : rightL t.data.toList = r) (hk : 0 < k) (hl : lead t.data.toList = k) : rightL (t.extract k t.size).data.toList = r := by
  rw [ext_list, ← hr, right_step (ne_list h0) (by omega), hl]
theorem get_ext (u : ByteArray) (m j : Nat) (h : m + j < u.size) (h2 : j < (u.extract m u.size).size) : (u.extract m u.size)[j] = u[m + j] := by
  have e : (u.extract m u.size).data.toList[j]'(by rw [size_list]; exact h2) = u.data.toList[m + j]'(by rw [size_list]; exact h) := by
    have := ext_list u m
    simp only [this, List.getElem_drop]
  exact e
theorem asc0 {u : ByteArray} {x : Nat} (h : HiW u x) (z : bits .and .u64 (x : Int) 9259542123273814144 = 0) : ∀ j (_ : j < 8) (hs : j < u.size), (u[j]'hs).toNat < 128 := fun j hj hs => h.ascii z j hj hs
theorem asc1 {u : ByteArray} {m x : Nat} (h : HiW (u.extract m u.size) x) (z : bits .and .u64 (x : Int) 9259542123273814144 = 0) : ∀ j (_ : m ≤ j) (_ : j < m + 8) (hs : j < u.size), (u[j]'hs).toNat < 128 := by
  intro j h1 h2 hs
  obtain ⟨i, rfl⟩ : ∃ i, j = m + i := ⟨j - m, by omega⟩
  have hi : i < (u.extract m u.size).size := by rw [ext_size]; omega
  have := h.ascii z i (by omega) hi
  rw [get_ext u m i hs hi] at this
  exact this
theorem join8 {u : ByteArray} (h0 : ∀ j (_ : j < 8) (hs : j < u.size), (u[j]'hs).toNat < 128) (h1 : ∀ j (_ : 8 ≤ j) (_ : j < 8 + 8) (hs : j < u.size), (u[j]'hs).toNat < 128) : ∀ j (_ : j < 16) (hs : j < u.size), (u[j]'hs).toNat < 128 := fun j hj hs => by
  by_cases h : j < 8
  · exact h0 j h hs
  · exact h1 j (by omega) (by omega) hs
theorem join16 {u : ByteArray} (h0 : ∀ j (_ : j < 8) (hs : j < u.size), (u[j]'hs).toNat < 128) (h1 : ∀ j (_ : 8 ≤ j) (_ : j < 8 + 8) (hs : j < u.size), (u[j]'hs).toNat < 128) (h2 : ∀ j (_ : 16 ≤ j) (_ : j < 16 + 8) (hs : j < u.size), (u[j]'hs).toNat < 128) (h3 : ∀ j (_ : 24 ≤ j) (_ : j < 24 + 8) (hs : j < u.size), (u[j]'hs).toNat < 128) :
    ∀ j (_ : j < 32) (hs : j < u.size), (u[j]'hs).toNat < 128 := fun j hj hs => by
  by_cases h : j < 8
  · exact h0 j h hs
  · by_cases h4 : j < 16
    · exact h1 j (by omega) (by omega) hs
    · by_cases h5 : j < 24
      · exact h2 j (by omega) (by omega) hs
      · exact h3 j (by omega) (by omega) hs
theorem rt_skip {t : ByteArray} {k : Nat} (hk : k ≤ t.size) (h : ∀ j (_ : j < k) (hs : j < t.size), (t[j]'hs).toNat < 128) : rightL (t.extract k t.size).data.toList = rightL t.data.toList := by
  rw [ext_list]
  conv => rhs; rw [← List.take_append_drop k t.data.toList]
  rw [right_asciis]
  intro c hc
  obtain ⟨j, hj, e⟩ := List.mem_take_iff_getElem.1 hc
  have hs : j < t.size := by rw [← size_list]; omega
  rw [← e]
  exact h j (by omega) hs
set_option maxRecDepth 100000 in
theorem cls_all : ∀ x : Fin 256, 128 ≤ x.val → (wid x.val = 0 ∧ bits .and .u8 (Lib.firstT x.val : Int) 7 = 1) ∨ (wid x.val = 2 ∧ bits .and .u8 (Lib.firstT x.val : Int) 7 = 2 ∧ Lib.accLo (Lib.firstT x.val / 16) = sLo x.val ∧ Lib.accHi (Lib.firstT x.val / 16) = sHi x.val) ∨
    (wid x.val = 3 ∧ bits .and .u8 (Lib.firstT x.val : Int) 7 = 3 ∧ Lib.accLo (Lib.firstT x.val / 16) = sLo x.val ∧ Lib.accHi (Lib.firstT x.val / 16) = sHi x.val) ∨
    (wid x.val = 4 ∧ bits .and .u8 (Lib.firstT x.val : Int) 7 = 4 ∧ Lib.accLo (Lib.firstT x.val / 16) = sLo x.val ∧ Lib.accHi (Lib.firstT x.val / 16) = sHi x.val) := by decide
set_option maxRecDepth 100000 in
theorem fst_lt : ∀ x : Fin 256, Lib.firstT x.val < 256 := by decide
end Go.Proofs.YtmmllhdphlnpjaaDoor
