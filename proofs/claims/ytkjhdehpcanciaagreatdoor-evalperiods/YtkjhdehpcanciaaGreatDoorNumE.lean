/- A row of bytes of the call's own; what num.Add returns, at any world. -/
import Derived.Test.YtkjhdehpcanciaaGreatDoorNumD
import Derived.OwnWalk
import Derived.Laws.OwnMore
import Derived.Laws.IdiomStrings
namespace Go.Proofs.YtkjhdehpcanciaaGreatDoor
open Go.RowKit Florin

/-- A byte as a value. -/
abbrev bv (c : UInt8) : Value := .int .u8 (c.toNat : Int)
theorem Tryz.infoB : (Tryz.prog.info? 5).map (fun i => (i.zero, i.size, i.bytes)) = some (some (.int .u8 0), 1, 1) := by kernel_rfl

/-- The slice of n bytes at the head of block g is the call's own, and its bytes are L. -/
def RowB (w : World) (B g n : Nat) (L : List UInt8) : Prop := w.ownsRow B 5 1 (.slice (some ⟨g, 0, none⟩) n n) n (L.map bv)

theorem RowB.len {w : World} {B g n : Nat} {L : List UInt8} (h : RowB w B g n L) : L.length = n := by
  have := h.1; simpa using this
theorem RowB.cell {w : World} {B g n : Nat} {L : List UInt8} (h : RowB w B g n L) (j : Nat) (hj : j < n) : ∃ c, w.cell? ⟨g, j, none⟩ = some (bv c) := by
  have h1 := World.ownsRow.cellAt h j (by omega)
  have h2 : j < L.length := by rw [h.len]; exact hj
  rw [h1, List.getElem?_map, List.getElem?_eq_getElem h2]
  exact ⟨_, rfl⟩
theorem RowB.frozen {w : World} {B g n : Nat} {L : List UInt8} (h : RowB w B g n L) (j : Nat) : w.frozen? ⟨g, j, none⟩ = false := World.ownsRow.frozenAt h j
theorem RowB.stored {w : World} {B g n : Nat} {L : List UInt8} (h : RowB w B g n L) (j : Nat) (c : UInt8) : RowB (w.setCell ⟨g, j, none⟩ (bv c)) B g n (L.set j c) := by
  have := (World.ownsRow.stored h j (bv c)).1
  unfold RowB
  rw [List.map_set]
  exact this
theorem RowB.ge {w : World} {B g n : Nat} {L : List UInt8} (h : RowB w B g n L) : B ≤ g := (World.ownsRow.lt h g rfl).1
theorem RowB.conv {w : World} {B g n : Nat} {L : List UInt8} (h : RowB w B g n L) : (convert 40 9 (.slice (some ⟨g, 0, none⟩) n n)).run Tryz.prog w = .ok (S L) w := by
  have hl := h.len
  subst hl
  refine run_convert_bytes_back w 40 9 5 ⟨g, 0, none⟩ L.length L Tryz.underlying40 Tryz.underlying5 Tryz.underlying9 ?_
  intro j hj
  refine World.ownsRow.cells h (g := g) rfl j _ ?_
  rw [List.getElem?_map, List.getElem?_eq_getElem hj]
  rfl
theorem RowB.conv_later {w w' : World} {B g n : Nat} {L : List UInt8} (h : RowB w B g n L) (hb : Below w.heap.size w w') : (convert 40 9 (.slice (some ⟨g, 0, none⟩) n n)).run Tryz.prog w' = .ok (S L) w' := by
  have hl := h.len
  subst hl
  refine run_convert_bytes_back w' 40 9 5 ⟨g, 0, none⟩ L.length L Tryz.underlying40 Tryz.underlying5 Tryz.underlying9 ?_
  intro j hj
  rw [hb.cell (by have := (World.ownsRow.lt h g rfl).2; unfold Addr.add; split <;> exact this)]
  refine World.ownsRow.cells h (g := g) rfl j _ ?_
  rw [List.getElem?_map, List.getElem?_eq_getElem hj]
  rfl
theorem RowB.made {w : World} {B g n : Nat} (h : w.ownsRow B 5 1 (.slice (some ⟨g, 0, none⟩) n n) n (madeCells (Value.int .u8 0).cells (n * 1)).toList) : RowB w B g n (List.replicate n 0) := by
  unfold RowB
  rw [show (Value.int .u8 0).cells = #[Value.int .u8 0] from rfl, toList_madeCells_one, Nat.mul_one] at h
  have e : bv 0 = Value.int .u8 0 := rfl
  rw [List.map_replicate, e]
  exact h

theorem ret_S {a b : List UInt8} (h : a = b) : Ending.returned (S a) = .returned (S b) := by rw [h]
theorem ret_S2 {a b : List UInt8} {v : Value} (h : a = b) : Ending.returned (.tuple #[S a, v]) = .returned (.tuple #[S b, v]) := by rw [h]
theorem vint {k : IntKind} {a b : Int} (h : a = b) : Value.int k a = .int k b := by rw [h]
theorem trim_digs (n N : Nat) (h : N < 10 ^ n) : trim (digs n N) = dig N := by
  rw [← dig_val (isDig_digs n N), val_digs, Nat.mod_eq_of_lt h]
theorem arr_dig (l : List UInt8) (h : isDig l = true) : isDig (⟨l.toArray⟩ : ByteArray).data.toList = true := by rw [arr_list]; exact h
theorem sum_lt {a b : List UInt8} {n : Nat} (ha : isDig a = true) (hb : isDig b = true) (h1 : a.length < n) (h2 : b.length < n) : val a + val b < 10 ^ n := by
  have v1 := val_lt a ha
  have v2 := val_lt b hb
  have m1 : 10 ^ a.length ≤ 10 ^ (n - 1) := Nat.pow_le_pow_right (by decide) (by omega)
  have m2 : 10 ^ b.length ≤ 10 ^ (n - 1) := Nat.pow_le_pow_right (by decide) (by omega)
  have e : 10 ^ n = 10 ^ (n - 1) * 10 := by rw [← Nat.pow_succ]; congr 1; omega
  omega

/-- A digit put ahead of those that are there. -/
theorem set_digs (n k N d : Nat) (hk : k < n) (hd : d % 10 = N / 10 ^ k % 10) : (List.replicate (n - k) (0 : UInt8) ++ digs k N).set (n - 1 - k) (db d) = List.replicate (n - (k + 1)) 0 ++ digs (k + 1) N := by
  rw [digs_succ', db_congr hd, List.set_append_left _ _ (by simp; omega)]
  rw [show n - k = (n - (k + 1)) + 1 by omega, List.replicate_succ']
  rw [List.set_append_right _ _ (by simp; omega)]
  simp [show n - 1 - k - (n - (k + 1)) = 0 by omega]

set_option maxRecDepth 100000 in
set_option maxHeartbeats 800000 in
theorem add_yes (s t : ByteArray) (w : World) (hs : s.size ≤ 1000000) (ht : t.size ≤ 1000000) (d1 : isDig s.data.toList = true) (d2 : isDig t.data.toList = true) :
    Calls Tryz.prog 26 #[.string s, .string t] w fun e w' => e = .returned (S (dig (val s.data.toList + val t.data.toList))) ∧ Below w.heap.size w w' := by
  obtain ⟨i0, hi, hz0, hz1, hz2⟩ := info_parts Tryz.infoB
  have D1 := Lib.hid d1
  have D2 := Lib.hid d2
  clear d1 d2
  go_enter Tryz.func26, Tryz.ntmps26
  go_wp2_with fail
  refine (allDigits_yes _ s t _ (by unfold maxLen; omega) (by unfold maxLen; omega) D1.out D2.out (by simp) (by simp)).mono ?_
  rintro e w' ⟨rfl, rfl⟩
  obtain ⟨n, hn⟩ : ∃ n : Nat, n = max s.size t.size + 1 := ⟨_, rfl⟩
  have n1 : s.size < n := by omega
  have n2 : t.size < n := by omega
  have n3 : n ≤ 1000001 := by omega
  have HN : Hid ((max (s.size : Int) (t.size : Int) + 1) = (n : Int)) := Lib.hid (by omega)
  clear hn
  go_wp2_with (at_make; refine wpList_make_full _ rfl (.tmp 21) (.tmp 21) 40 rfl w.heap.size 5 i0 (.int .u8 0) 1 Tryz.underlying40 hi hz0 hz1 .i64 .i64 _ _ n rfl rfl HN.out HN.out (by rw [hz2]; omega) (by unfold maxLen; omega) (by simp) ?_; intro w1 hown hgrow)
  rw [HN.out]
  have hrow := RowB.made hown
  have hb1 : Below w.heap.size w w1 := (((Below.refl _ _).alloc (Nat.le_refl _) _).grown hgrow (by simp) (by intro g hg; cases hg))
  clear hown hgrow hi hz0 hz1 hz2 i0
  go_loopw [7, 24] (fun c i wr => ∃ k : Nat, k ≤ n ∧ i = .int .i64 k ∧ c = .int .i64 (addC (val s.data.toList) (val t.data.toList) k) ∧
      RowB wr w.heap.size (w.heap.size + 1) n (List.replicate (n - k) 0 ++ digs k (val s.data.toList + val t.data.toList)) ∧ Below w.heap.size w wr)
    (fun _ i _ => n - (intOf i).toNat)
  case atStart => exact ⟨0, Nat.zero_le _, rfl, by rw [addC_zero]; rfl, by simpa [digs] using hrow, hb1⟩
  case round =>
    obtain ⟨k, hk, rfl, rfl, hr, hb⟩ := hrel
    clear hrow hb1 w1
    have c1 := addC_le (val s.data.toList) (val t.data.toList) k
    have p1 : plc s.data.toList k < 10 := Nat.mod_lt _ (by decide)
    have p2 : plc t.data.toList k < 10 := Nat.mod_lt _ (by decide)
    by_cases hlt : k < n
    · obtain ⟨x, hc⟩ := hr.cell (n - 1 - k) (by omega)
      have hf := hr.frozen (n - 1 - k)
      go_wp2_with fail
      refine (digitAt_any s k _ (by unfold maxLen; omega) D1.out).mono ?_
      rintro e w' ⟨rfl, rfl⟩
      go_wp2_with fail
      refine (digitAt_any t k _ (by unfold maxLen; omega) D2.out).mono ?_
      rintro e w' ⟨rfl, rfl⟩
      go_wp2_with fail
      refine (digitByte_any _ _ (by omega) (by omega)).mono ?_
      rintro e w' ⟨rfl, rfl⟩
      go_wp2
      go_roundw
      case rel =>
        refine ⟨k + 1, by omega, by go_num, vint ?_, ?_, hb.setCell (by simp) _⟩
        · rw [addC_succ]; unfold plc; omega
        · rw [← set_digs n k _ _ hlt ?_]
          · exact hr.stored _ _
          · rw [add_digit]; unfold plc; omega
      case measure => simp [intOf]; omega
    · obtain rfl : k = n := by omega
      have hcv := hr.conv
      rw [Nat.sub_self, List.replicate_zero, List.nil_append] at hcv
      have HT := Lib.hid (sum_lt (n := k) D1.out D2.out (by simpa using n1) (by simpa using n2))
      clear hr
      go_wp2_with fail
      refine (trim_yes _ _ (by rw [arr_size, digs_length]; unfold maxLen; omega) (arr_dig _ (isDig_digs _ _))).mono ?_
      rintro e w' ⟨rfl, rfl⟩
      go_wp2
      go_ret
      exact ⟨ret_S (by rw [← trim_digs _ _ HT.out]), hb⟩
theorem add_no (s t : ByteArray) (w : World) (hs : s.size ≤ maxLen) (ht : t.size ≤ maxLen) (h0 : (isDig s.data.toList && isDig t.data.toList) = false) :
    Calls Tryz.prog 26 #[.string s, .string t] w fun e w' => e = .returned (S []) ∧ Below w.heap.size w w' := by
  go_enter Tryz.func26, Tryz.ntmps26
  go_wp2_with fail
  refine (allDigits_no _ s t _ hs ht h0 (by simp) (by simp)).mono ?_
  rintro e w' ⟨rfl, rfl⟩
  go_wp2
  go_ret
  exact ⟨rfl, (Below.refl _ _).alloc (Nat.le_refl _) _⟩
end Go.Proofs.YtkjhdehpcanciaaGreatDoor
