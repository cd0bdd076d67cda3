/- EvA, EvB, EvC, EvD, in one text. -/
import Derived.Test.YtkjhdehpcanciaaGreatDoorMOpx
import Derived.Test.YtkjhdehpcanciaaGreatDoorMRd1
import Derived.Deep.RegionWith
namespace Go.Proofs.YtkjhdehpcanciaaGreatDoor
open Go.RowKit Florin
set_option linter.unusedVariables false
set_option linter.unusedSimpArgs false
attribute [local go_sem ↓] Go.wp_at_zero Go.wp_at_succ

/-- An operand's value, as digits; none: it is no whole number. -/
def wvP (op : UInt8) (o : Og) : Option (List UInt8) :=
  if op = 110 then (if bare (rt o.f) = [] then some (bare o.i) else none)
  else if op = 105 then some (bare o.i)
  else if op = 118 then some (dig o.f.length)
  else if op = 119 then some (dig (rt o.f).length)
  else if op = 102 then some (bare o.f)
  else if op = 116 then some (bare (rt o.f))
  else if op = 99 then some (dig o.e.toNat)
  else if op = 101 then some (dig o.e.toNat) else none
/-- What is held against ranges. -/
def vlP (x : RelT) (o : Og) : Option Nat :=
  match wvP x.op o with
  | none => none
  | some d => if x.mod ≠ 0 then some (val d % x.mod) else if (dig (val d)).length ≤ 18 then some (val d) else none
def inP (x : RelT) (o : Og) : Bool :=
  match vlP x o with
  | none => false
  | some n => x.rs.any fun r => decide (r.1 ≤ n) && decide (n ≤ r.2)
def holdsP (x : RelT) (o : Og) : Bool := inP x o != x.nt
def allP' (xs : List RelT) (o : Og) : Bool := xs.all fun x => holdsP x o
def meetsP (u : RuleT) (o : Og) : Bool := u.cat == 5 || u.any.any fun a => allP' a o
/-- Which of the categories from one on is the first with a rule that holds. -/
def pickP (us : List RuleT) (o : Og) : Nat := ((List.range 5).find? fun c => us.any fun u => u.cat == c && meetsP u o).getD 5
/-- A number within bounds. -/
structure OgB (o : Og) : Prop where
  il : o.i.length ≤ 900000
  fl : o.f.length ≤ 900000
  e0 : 0 ≤ o.e
  e1 : o.e ≤ 10000
  di : isDig o.i = true
  df : isDig o.f = true
theorem ofI (e : Int) (w : World) (h0 : 0 ≤ e) (h1 : e ≤ 10000) (ht : Tab w) : Calls Tryz.prog 28 #[.int .i64 e] w fun z w' => z = .returned (S (dig e.toNat)) ∧ Below w.heap.size w w' := by
  obtain ⟨k, rfl⟩ : ∃ k : Nat, e = (k : Int) := ⟨e.toNat, by omega⟩
  rw [Int.toNat_natCast]
  exact ofN k w (by omega) ht

set_option maxRecDepth 100000 in
set_option maxHeartbeats 1600000 in
theorem wv_nt (o : Og) (w : World) (hB : OgB o) (ht : Tab w) (hN : bare (rt o.f) = []) :
    Calls Tryz.prog 96 #[.int .u8 110, OV o] w fun z w' => z = .returned (.tuple #[S (bare o.i), .bool true]) ∧ Below w.heap.size w w' := by
  have HT := Lib.hid ht
  have il := hB.il
  have fl := hB.fl
  have rl := rt_length_le o.f
  have e0 := hB.e0
  have e1 := hB.e1
  clear ht
  go_enter Tryz.func96, Tryz.ntmps96
  go_wp2_with fail
  with_reducible refine (opN_true o _ (by omega) hN).mono ?_
  rintro x w1 ⟨rfl, hb⟩
  have H1 : Hid (HeldL w [(w.heap.size, #[S o.i, S o.f, .int .i64 o.e])] w1) := Lib.hid (HeldL.keep (HeldL.alloc (HeldL.refl w) (w.heap.size) #[S o.i, S o.f, .int .i64 o.e] 42 (by simp)) hb)
  clear hb
  have o0 : w1.cell? ⟨w.heap.size, 0, none⟩ = some (S o.i) := (H1.out.f (List.Mem.head _)).cell 0
  have o1 : w1.cell? ⟨w.heap.size, 1, none⟩ = some (S o.f) := (H1.out.f (List.Mem.head _)).cell 1
  have o2 : w1.cell? ⟨w.heap.size, 2, none⟩ = some (.int .i64 o.e) := (H1.out.f (List.Mem.head _)).cell 2
  have ol : w.heap.size < w1.heap.size := (H1.out.f (List.Mem.head _)).lt
  go_wp2_with fail
  with_reducible refine (opI_as o _ (by omega) _ rfl).mono ?_
  rintro x w2 ⟨rfl, hb⟩
  clear o0 o1 o2 ol
  have H2 : Hid (HeldL w [(w.heap.size, #[S o.i, S o.f, .int .i64 o.e])] w2) := Lib.hid (HeldL.keep H1.out hb)
  clear H1
  clear hb
  go_wp2
  go_ret2
  exact ⟨rfl, H2.out.bel⟩

set_option maxRecDepth 100000 in
set_option maxHeartbeats 1600000 in
theorem wv_nf (o : Og) (w : World) (hB : OgB o) (ht : Tab w) (hN : bare (rt o.f) ≠ []) :
    Calls Tryz.prog 96 #[.int .u8 110, OV o] w fun z w' => z = .returned (.tuple #[S [], .bool false]) ∧ Below w.heap.size w w' := by
  have HT := Lib.hid ht
  have il := hB.il
  have fl := hB.fl
  have rl := rt_length_le o.f
  have e0 := hB.e0
  have e1 := hB.e1
  clear ht
  go_enter Tryz.func96, Tryz.ntmps96
  go_wp2_with fail
  with_reducible refine (opN_false o _ (by omega) _ rfl hN).mono ?_
  rintro x w1 ⟨rfl, hb⟩
  have H1 : Hid (HeldL w [(w.heap.size, #[S o.i, S o.f, .int .i64 o.e])] w1) := Lib.hid (HeldL.keep (HeldL.alloc (HeldL.refl w) (w.heap.size) #[S o.i, S o.f, .int .i64 o.e] 42 (by simp)) hb)
  clear hb
  have o0 : w1.cell? ⟨w.heap.size, 0, none⟩ = some (S o.i) := (H1.out.f (List.Mem.head _)).cell 0
  have o1 : w1.cell? ⟨w.heap.size, 1, none⟩ = some (S o.f) := (H1.out.f (List.Mem.head _)).cell 1
  have o2 : w1.cell? ⟨w.heap.size, 2, none⟩ = some (.int .i64 o.e) := (H1.out.f (List.Mem.head _)).cell 2
  have ol : w.heap.size < w1.heap.size := (H1.out.f (List.Mem.head _)).lt
  go_wp2
  go_ret2
  exact ⟨rfl, H1.out.bel⟩

set_option maxRecDepth 100000 in
set_option maxHeartbeats 1600000 in
theorem wv_i (o : Og) (w : World) (hB : OgB o) (ht : Tab w) :
    Calls Tryz.prog 96 #[.int .u8 105, OV o] w fun z w' => z = .returned (.tuple #[S (bare o.i), .bool true]) ∧ Below w.heap.size w w' := by
  have HT := Lib.hid ht
  have il := hB.il
  have fl := hB.fl
  have rl := rt_length_le o.f
  have e0 := hB.e0
  have e1 := hB.e1
  clear ht
  go_enter Tryz.func96, Tryz.ntmps96
  go_wp2_with fail
  with_reducible refine (opI_as o _ (by omega) _ rfl).mono ?_
  rintro x w1 ⟨rfl, hb⟩
  have H1 : Hid (HeldL w [(w.heap.size, #[S o.i, S o.f, .int .i64 o.e])] w1) := Lib.hid (HeldL.keep (HeldL.alloc (HeldL.refl w) (w.heap.size) #[S o.i, S o.f, .int .i64 o.e] 42 (by simp)) hb)
  clear hb
  go_wp2
  go_ret2
  exact ⟨rfl, H1.out.bel⟩

set_option maxRecDepth 100000 in
set_option maxHeartbeats 1600000 in
theorem wv_v (o : Og) (w : World) (hB : OgB o) (ht : Tab w) :
    Calls Tryz.prog 96 #[.int .u8 118, OV o] w fun z w' => z = .returned (.tuple #[S (dig o.f.length), .bool true]) ∧ Below w.heap.size w w' := by
  have HT := Lib.hid ht
  have il := hB.il
  have fl := hB.fl
  have rl := rt_length_le o.f
  have e0 := hB.e0
  have e1 := hB.e1
  clear ht
  go_enter Tryz.func96, Tryz.ntmps96
  go_wp2_with fail
  with_reducible refine (opV_as o _).mono ?_
  rintro x w1 ⟨rfl, hb⟩
  have H1 : Hid (HeldL w [(w.heap.size, #[S o.i, S o.f, .int .i64 o.e])] w1) := Lib.hid (HeldL.keep (HeldL.alloc (HeldL.refl w) (w.heap.size) #[S o.i, S o.f, .int .i64 o.e] 42 (by simp)) hb)
  clear hb
  go_wp2_with fail
  with_reducible refine (ofN o.f.length _ (by omega) (HT.out.below H1.out.bel)).mono ?_
  rintro x w2 ⟨rfl, hb⟩
  have H2 : Hid (HeldL w [(w.heap.size, #[S o.i, S o.f, .int .i64 o.e])] w2) := Lib.hid (HeldL.keep H1.out hb)
  clear H1
  clear hb
  go_wp2
  go_ret2
  exact ⟨rfl, H2.out.bel⟩

set_option maxRecDepth 100000 in
set_option maxHeartbeats 1600000 in
theorem wv_w (o : Og) (w : World) (hB : OgB o) (ht : Tab w) :
    Calls Tryz.prog 96 #[.int .u8 119, OV o] w fun z w' => z = .returned (.tuple #[S (dig (rt o.f).length), .bool true]) ∧ Below w.heap.size w w' := by
  have HT := Lib.hid ht
  have il := hB.il
  have fl := hB.fl
  have rl := rt_length_le o.f
  have e0 := hB.e0
  have e1 := hB.e1
  clear ht
  go_enter Tryz.func96, Tryz.ntmps96
  go_wp2_with fail
  with_reducible refine (opW_as o _ (by omega)).mono ?_
  rintro x w1 ⟨rfl, hb⟩
  have H1 : Hid (HeldL w [(w.heap.size, #[S o.i, S o.f, .int .i64 o.e])] w1) := Lib.hid (HeldL.keep (HeldL.alloc (HeldL.refl w) (w.heap.size) #[S o.i, S o.f, .int .i64 o.e] 42 (by simp)) hb)
  clear hb
  go_wp2_with fail
  with_reducible refine (ofN (rt o.f).length _ (by omega) (HT.out.below H1.out.bel)).mono ?_
  rintro x w2 ⟨rfl, hb⟩
  have H2 : Hid (HeldL w [(w.heap.size, #[S o.i, S o.f, .int .i64 o.e])] w2) := Lib.hid (HeldL.keep H1.out hb)
  clear H1
  clear hb
  go_wp2
  go_ret2
  exact ⟨rfl, H2.out.bel⟩

set_option maxRecDepth 100000 in
set_option maxHeartbeats 1600000 in
theorem wv_f (o : Og) (w : World) (hB : OgB o) (ht : Tab w) :
    Calls Tryz.prog 96 #[.int .u8 102, OV o] w fun z w' => z = .returned (.tuple #[S (bare o.f), .bool true]) ∧ Below w.heap.size w w' := by
  have HT := Lib.hid ht
  have il := hB.il
  have fl := hB.fl
  have rl := rt_length_le o.f
  have e0 := hB.e0
  have e1 := hB.e1
  clear ht
  go_enter Tryz.func96, Tryz.ntmps96
  go_wp2_with fail
  with_reducible refine (opF_as o _ (by omega) _ rfl).mono ?_
  rintro x w1 ⟨rfl, hb⟩
  have H1 : Hid (HeldL w [(w.heap.size, #[S o.i, S o.f, .int .i64 o.e])] w1) := Lib.hid (HeldL.keep (HeldL.alloc (HeldL.refl w) (w.heap.size) #[S o.i, S o.f, .int .i64 o.e] 42 (by simp)) hb)
  clear hb
  go_wp2
  go_ret2
  exact ⟨rfl, H1.out.bel⟩

set_option maxRecDepth 100000 in
set_option maxHeartbeats 1600000 in
theorem wv_t (o : Og) (w : World) (hB : OgB o) (ht : Tab w) :
    Calls Tryz.prog 96 #[.int .u8 116, OV o] w fun z w' => z = .returned (.tuple #[S (bare (rt o.f)), .bool true]) ∧ Below w.heap.size w w' := by
  have HT := Lib.hid ht
  have il := hB.il
  have fl := hB.fl
  have rl := rt_length_le o.f
  have e0 := hB.e0
  have e1 := hB.e1
  clear ht
  go_enter Tryz.func96, Tryz.ntmps96
  go_wp2_with fail
  with_reducible refine (opT_as o _ (by omega) _ rfl).mono ?_
  rintro x w1 ⟨rfl, hb⟩
  have H1 : Hid (HeldL w [(w.heap.size, #[S o.i, S o.f, .int .i64 o.e])] w1) := Lib.hid (HeldL.keep (HeldL.alloc (HeldL.refl w) (w.heap.size) #[S o.i, S o.f, .int .i64 o.e] 42 (by simp)) hb)
  clear hb
  go_wp2
  go_ret2
  exact ⟨rfl, H1.out.bel⟩

set_option maxRecDepth 100000 in
set_option maxHeartbeats 1600000 in
theorem wv_c (o : Og) (w : World) (hB : OgB o) (ht : Tab w) :
    Calls Tryz.prog 96 #[.int .u8 99, OV o] w fun z w' => z = .returned (.tuple #[S (dig o.e.toNat), .bool true]) ∧ Below w.heap.size w w' := by
  have HT := Lib.hid ht
  have il := hB.il
  have fl := hB.fl
  have rl := rt_length_le o.f
  have e0 := hB.e0
  have e1 := hB.e1
  clear ht
  go_enter Tryz.func96, Tryz.ntmps96
  go_wp2_with fail
  with_reducible refine (ofI o.e _ e0 e1 (HT.out.below (HeldL.alloc (HeldL.refl w) (w.heap.size) #[S o.i, S o.f, .int .i64 o.e] 42 (by simp)).bel)).mono ?_
  rintro x w1 ⟨rfl, hb⟩
  have H1 : Hid (HeldL w [(w.heap.size, #[S o.i, S o.f, .int .i64 o.e])] w1) := Lib.hid (HeldL.keep (HeldL.alloc (HeldL.refl w) (w.heap.size) #[S o.i, S o.f, .int .i64 o.e] 42 (by simp)) hb)
  clear hb
  go_wp2
  go_ret2
  exact ⟨rfl, H1.out.bel⟩

set_option maxRecDepth 100000 in
set_option maxHeartbeats 1600000 in
theorem wv_e (o : Og) (w : World) (hB : OgB o) (ht : Tab w) :
    Calls Tryz.prog 96 #[.int .u8 101, OV o] w fun z w' => z = .returned (.tuple #[S (dig o.e.toNat), .bool true]) ∧ Below w.heap.size w w' := by
  have HT := Lib.hid ht
  have il := hB.il
  have fl := hB.fl
  have rl := rt_length_le o.f
  have e0 := hB.e0
  have e1 := hB.e1
  clear ht
  go_enter Tryz.func96, Tryz.ntmps96
  go_wp2_with fail
  with_reducible refine (ofI o.e _ e0 e1 (HT.out.below (HeldL.alloc (HeldL.refl w) (w.heap.size) #[S o.i, S o.f, .int .i64 o.e] 42 (by simp)).bel)).mono ?_
  rintro x w1 ⟨rfl, hb⟩
  have H1 : Hid (HeldL w [(w.heap.size, #[S o.i, S o.f, .int .i64 o.e])] w1) := Lib.hid (HeldL.keep (HeldL.alloc (HeldL.refl w) (w.heap.size) #[S o.i, S o.f, .int .i64 o.e] 42 (by simp)) hb)
  clear hb
  go_wp2
  go_ret2
  exact ⟨rfl, H1.out.bel⟩

theorem wv_as (op : UInt8) (o : Og) (w : World) (hB : OgB o) (ht : Tab w) (ho : opsB.contains op = true) (r : Option (List UInt8)) (hr : wvP op o = r) :
    Calls Tryz.prog 96 #[.int .u8 ((op : UInt8).toNat : Int), OV o] w fun z w' => z = .returned (.tuple #[S (r.getD []), .bool r.isSome]) ∧ Below w.heap.size w w' := by
  subst hr
  have hm : op ∈ opsB := by simpa using ho
  unfold opsB at hm
  simp only [List.mem_cons, List.not_mem_nil, or_false] at hm
  rcases hm with rfl | rfl | rfl | rfl | rfl | rfl | rfl | rfl
  · by_cases hN : bare (rt o.f) = []
    · have : wvP 110 o = some (bare o.i) := by unfold wvP; simp [hN]
      rw [this]; exact wv_nt o w hB ht hN
    · have : wvP 110 o = none := by unfold wvP; simp [hN]
      rw [this]; exact wv_nf o w hB ht hN
  · exact wv_i o w hB ht
  · exact wv_v o w hB ht
  · exact wv_w o w hB ht
  · exact wv_f o w hB ht
  · exact wv_t o w hB ht
  · exact wv_c o w hB ht
  · exact wv_e o w hB ht
theorem bare_isDig {l : List UInt8} (h : isDig l = true) : isDig (bare l) = true := by rw [bare_dig h]; exact isDig_dig _
theorem wv_dig {op : UInt8} {o : Og} (hB : OgB o) {d : List UInt8} (h : wvP op o = some d) : isDig d = true ∧ d.length ≤ 1000000 := by
  have h1 := bare_isDig hB.di
  have h2 := bare_isDig hB.df
  have h3 : isDig (rt o.f) = true := isDig_rt hB.df
  have h4 := bare_isDig h3
  have l1 := bare_length_le o.i
  have l2 := bare_length_le o.f
  have l3 := bare_length_le (rt o.f)
  have l4 := rt_length_le o.f
  have b1 := hB.il
  have b2 := hB.fl
  have b3 := hB.e1
  have hd : ∀ n : Nat, n ≤ 900000 → isDig (dig n) = true ∧ (dig n).length ≤ 1000000 := fun n hn => ⟨isDig_dig n, dig_len (k := 7) (by omega) (by omega)⟩
  unfold wvP at h
  split at h
  · split at h
    · cases h; exact ⟨h1, by omega⟩
    · cases h
  · repeat' split at h
    all_goals first
      | (cases h; exact ⟨h1, by omega⟩)
      | (cases h; exact ⟨h2, by omega⟩)
      | (cases h; exact ⟨h4, by omega⟩)
      | (cases h; exact hd _ (by omega))
      | cases h

set_option maxRecDepth 100000 in
set_option maxHeartbeats 1600000 in
theorem vl_none (x : RelT) (sa : Option Addr) (sn sc : Nat) (o : Og) (w : World) (hB : OgB o) (ht : Tab w) (hop : opsB.contains x.op = true) (hmd : x.mod ≤ 1000000000) (hV : wvP x.op o = none) :
    Calls Tryz.prog 66 #[.agg #[.int .u8 ((x.op : UInt8).toNat : Int), .int .i64 ((x.mod : Nat) : Int), .bool x.nt, .slice sa sn sc], OV o] w fun z w' => z = .returned (.tuple #[.int .i64 0, .bool false]) ∧ Below w.heap.size w w' := by
  have HT := Lib.hid ht
  clear ht
  go_enter Tryz.func66, Tryz.ntmps66
  go_wp2_with fail
  with_reducible refine (wv_as x.op o _ hB (HT.out.below (HeldL.alloc (HeldL.alloc (HeldL.refl w) (w.heap.size) #[.int .u8 ((x.op : UInt8).toNat : Int), .int .i64 ((x.mod : Nat) : Int), .bool x.nt, .slice sa sn sc] 50 (by simp)) (w.heap.size + 1) #[S o.i, S o.f, .int .i64 o.e] 42 (by simp)).bel) hop none hV).mono ?_
  rintro x w1 ⟨rfl, hb⟩
  have H1 : Hid (HeldL w [(w.heap.size + 1, #[S o.i, S o.f, .int .i64 o.e]), (w.heap.size, #[.int .u8 ((x.op : UInt8).toNat : Int), .int .i64 ((x.mod : Nat) : Int), .bool x.nt, .slice sa sn sc])] w1) := Lib.hid (HeldL.keep (HeldL.alloc (HeldL.alloc (HeldL.refl w) (w.heap.size) #[.int .u8 ((x.op : UInt8).toNat : Int), .int .i64 ((x.mod : Nat) : Int), .bool x.nt, .slice sa sn sc] 50 (by simp)) (w.heap.size + 1) #[S o.i, S o.f, .int .i64 o.e] 42 (by simp)) hb)
  clear hb
  have r0 : w1.cell? ⟨w.heap.size, 0, none⟩ = some (.int .u8 ((x.op : UInt8).toNat : Int)) := (H1.out.f (List.Mem.tail _ (List.Mem.head _))).cell 0
  have r1 : w1.cell? ⟨w.heap.size, 1, none⟩ = some (.int .i64 ((x.mod : Nat) : Int)) := (H1.out.f (List.Mem.tail _ (List.Mem.head _))).cell 1
  have r2 : w1.cell? ⟨w.heap.size, 2, none⟩ = some (.bool x.nt) := (H1.out.f (List.Mem.tail _ (List.Mem.head _))).cell 2
  have r3 : w1.cell? ⟨w.heap.size, 3, none⟩ = some (.slice sa sn sc) := (H1.out.f (List.Mem.tail _ (List.Mem.head _))).cell 3
  have rl : w.heap.size < w1.heap.size := (H1.out.f (List.Mem.tail _ (List.Mem.head _))).lt
  go_wp2
  go_ret2
  exact ⟨rfl, H1.out.bel⟩

set_option maxRecDepth 100000 in
set_option maxHeartbeats 1600000 in
theorem vl_int (x : RelT) (sa : Option Addr) (sn sc : Nat) (o : Og) (w : World) (hB : OgB o) (ht : Tab w) (hop : opsB.contains x.op = true) (hmd : x.mod ≤ 1000000000) (d : List UInt8) (hV : wvP x.op o = some d) (dd : isDig d = true) (dl : d.length ≤ 1000000) (hm : x.mod = 0) (h18 : (dig (val d)).length ≤ 18) :
    Calls Tryz.prog 66 #[.agg #[.int .u8 ((x.op : UInt8).toNat : Int), .int .i64 ((x.mod : Nat) : Int), .bool x.nt, .slice sa sn sc], OV o] w fun z w' => z = .returned (.tuple #[.int .i64 ((val d : Nat) : Int), .bool true]) ∧ Below w.heap.size w w' := by
  have HT := Lib.hid ht
  clear ht
  have HM := Lib.hid hm
  clear hm
  go_enter Tryz.func66, Tryz.ntmps66
  go_wp2_with fail
  with_reducible refine (wv_as x.op o _ hB (HT.out.below (HeldL.alloc (HeldL.alloc (HeldL.refl w) (w.heap.size) #[.int .u8 ((x.op : UInt8).toNat : Int), .int .i64 ((x.mod : Nat) : Int), .bool x.nt, .slice sa sn sc] 50 (by simp)) (w.heap.size + 1) #[S o.i, S o.f, .int .i64 o.e] 42 (by simp)).bel) hop (some d) hV).mono ?_
  rintro x w1 ⟨rfl, hb⟩
  have H1 : Hid (HeldL w [(w.heap.size + 1, #[S o.i, S o.f, .int .i64 o.e]), (w.heap.size, #[.int .u8 ((x.op : UInt8).toNat : Int), .int .i64 ((x.mod : Nat) : Int), .bool x.nt, .slice sa sn sc])] w1) := Lib.hid (HeldL.keep (HeldL.alloc (HeldL.alloc (HeldL.refl w) (w.heap.size) #[.int .u8 ((x.op : UInt8).toNat : Int), .int .i64 ((x.mod : Nat) : Int), .bool x.nt, .slice sa sn sc] 50 (by simp)) (w.heap.size + 1) #[S o.i, S o.f, .int .i64 o.e] 42 (by simp)) hb)
  clear hb
  have r0 : w1.cell? ⟨w.heap.size, 0, none⟩ = some (.int .u8 ((x.op : UInt8).toNat : Int)) := (H1.out.f (List.Mem.tail _ (List.Mem.head _))).cell 0
  have r1 : w1.cell? ⟨w.heap.size, 1, none⟩ = some (.int .i64 ((x.mod : Nat) : Int)) := (H1.out.f (List.Mem.tail _ (List.Mem.head _))).cell 1
  have r2 : w1.cell? ⟨w.heap.size, 2, none⟩ = some (.bool x.nt) := (H1.out.f (List.Mem.tail _ (List.Mem.head _))).cell 2
  have r3 : w1.cell? ⟨w.heap.size, 3, none⟩ = some (.slice sa sn sc) := (H1.out.f (List.Mem.tail _ (List.Mem.head _))).cell 3
  have rl : w.heap.size < w1.heap.size := (H1.out.f (List.Mem.tail _ (List.Mem.head _))).lt
  have hm0 : (x.mod : Int) = 0 := by have := HM.out; omega
  go_wp2_with fail
  with_reducible refine (intS d _ dl dd h18).mono ?_
  rintro x wz ⟨rfl, rfl⟩
  go_wp2
  go_ret2
  exact ⟨rfl, H1.out.bel⟩

set_option maxRecDepth 100000 in
set_option maxHeartbeats 1600000 in
theorem vl_big (x : RelT) (sa : Option Addr) (sn sc : Nat) (o : Og) (w : World) (hB : OgB o) (ht : Tab w) (hop : opsB.contains x.op = true) (hmd : x.mod ≤ 1000000000) (d : List UInt8) (hV : wvP x.op o = some d) (dd : isDig d = true) (dl : d.length ≤ 1000000) (hm : x.mod = 0) (h18 : 18 < (dig (val d)).length) :
    Calls Tryz.prog 66 #[.agg #[.int .u8 ((x.op : UInt8).toNat : Int), .int .i64 ((x.mod : Nat) : Int), .bool x.nt, .slice sa sn sc], OV o] w fun z w' => z = .returned (.tuple #[.int .i64 0, .bool false]) ∧ Below w.heap.size w w' := by
  have HT := Lib.hid ht
  clear ht
  have HM := Lib.hid hm
  clear hm
  go_enter Tryz.func66, Tryz.ntmps66
  go_wp2_with fail
  with_reducible refine (wv_as x.op o _ hB (HT.out.below (HeldL.alloc (HeldL.alloc (HeldL.refl w) (w.heap.size) #[.int .u8 ((x.op : UInt8).toNat : Int), .int .i64 ((x.mod : Nat) : Int), .bool x.nt, .slice sa sn sc] 50 (by simp)) (w.heap.size + 1) #[S o.i, S o.f, .int .i64 o.e] 42 (by simp)).bel) hop (some d) hV).mono ?_
  rintro x w1 ⟨rfl, hb⟩
  have H1 : Hid (HeldL w [(w.heap.size + 1, #[S o.i, S o.f, .int .i64 o.e]), (w.heap.size, #[.int .u8 ((x.op : UInt8).toNat : Int), .int .i64 ((x.mod : Nat) : Int), .bool x.nt, .slice sa sn sc])] w1) := Lib.hid (HeldL.keep (HeldL.alloc (HeldL.alloc (HeldL.refl w) (w.heap.size) #[.int .u8 ((x.op : UInt8).toNat : Int), .int .i64 ((x.mod : Nat) : Int), .bool x.nt, .slice sa sn sc] 50 (by simp)) (w.heap.size + 1) #[S o.i, S o.f, .int .i64 o.e] 42 (by simp)) hb)
  clear hb
  have r0 : w1.cell? ⟨w.heap.size, 0, none⟩ = some (.int .u8 ((x.op : UInt8).toNat : Int)) := (H1.out.f (List.Mem.tail _ (List.Mem.head _))).cell 0
  have r1 : w1.cell? ⟨w.heap.size, 1, none⟩ = some (.int .i64 ((x.mod : Nat) : Int)) := (H1.out.f (List.Mem.tail _ (List.Mem.head _))).cell 1
  have r2 : w1.cell? ⟨w.heap.size, 2, none⟩ = some (.bool x.nt) := (H1.out.f (List.Mem.tail _ (List.Mem.head _))).cell 2
  have r3 : w1.cell? ⟨w.heap.size, 3, none⟩ = some (.slice sa sn sc) := (H1.out.f (List.Mem.tail _ (List.Mem.head _))).cell 3
  have rl : w.heap.size < w1.heap.size := (H1.out.f (List.Mem.tail _ (List.Mem.head _))).lt
  have hm0 : (x.mod : Int) = 0 := by have := HM.out; omega
  go_wp2_with fail
  with_reducible refine (intS_big d _ dl dd h18).mono ?_
  rintro x wz ⟨rfl, rfl⟩
  go_wp2
  go_ret2
  exact ⟨rfl, H1.out.bel⟩

set_option maxRecDepth 100000 in
set_option maxHeartbeats 1600000 in
theorem vl_mod (x : RelT) (sa : Option Addr) (sn sc : Nat) (o : Og) (w : World) (hB : OgB o) (ht : Tab w) (hop : opsB.contains x.op = true) (hmd : x.mod ≤ 1000000000) (d : List UInt8) (hV : wvP x.op o = some d) (dd : isDig d = true) (dl : d.length ≤ 1000000) (hm : x.mod ≠ 0) :
    Calls Tryz.prog 66 #[.agg #[.int .u8 ((x.op : UInt8).toNat : Int), .int .i64 ((x.mod : Nat) : Int), .bool x.nt, .slice sa sn sc], OV o] w fun z w' => z = .returned (.tuple #[.int .i64 ((val d % x.mod : Nat) : Int), .bool true]) ∧ Below w.heap.size w w' := by
  have HT := Lib.hid ht
  clear ht
  have HM := Lib.hid hm
  clear hm
  go_enter Tryz.func66, Tryz.ntmps66
  go_wp2_with fail
  with_reducible refine (wv_as x.op o _ hB (HT.out.below (HeldL.alloc (HeldL.alloc (HeldL.refl w) (w.heap.size) #[.int .u8 ((x.op : UInt8).toNat : Int), .int .i64 ((x.mod : Nat) : Int), .bool x.nt, .slice sa sn sc] 50 (by simp)) (w.heap.size + 1) #[S o.i, S o.f, .int .i64 o.e] 42 (by simp)).bel) hop (some d) hV).mono ?_
  rintro x w1 ⟨rfl, hb⟩
  have H1 : Hid (HeldL w [(w.heap.size + 1, #[S o.i, S o.f, .int .i64 o.e]), (w.heap.size, #[.int .u8 ((x.op : UInt8).toNat : Int), .int .i64 ((x.mod : Nat) : Int), .bool x.nt, .slice sa sn sc])] w1) := Lib.hid (HeldL.keep (HeldL.alloc (HeldL.alloc (HeldL.refl w) (w.heap.size) #[.int .u8 ((x.op : UInt8).toNat : Int), .int .i64 ((x.mod : Nat) : Int), .bool x.nt, .slice sa sn sc] 50 (by simp)) (w.heap.size + 1) #[S o.i, S o.f, .int .i64 o.e] 42 (by simp)) hb)
  clear hb
  have r0 : w1.cell? ⟨w.heap.size, 0, none⟩ = some (.int .u8 ((x.op : UInt8).toNat : Int)) := (H1.out.f (List.Mem.tail _ (List.Mem.head _))).cell 0
  have r1 : w1.cell? ⟨w.heap.size, 1, none⟩ = some (.int .i64 ((x.mod : Nat) : Int)) := (H1.out.f (List.Mem.tail _ (List.Mem.head _))).cell 1
  have r2 : w1.cell? ⟨w.heap.size, 2, none⟩ = some (.bool x.nt) := (H1.out.f (List.Mem.tail _ (List.Mem.head _))).cell 2
  have r3 : w1.cell? ⟨w.heap.size, 3, none⟩ = some (.slice sa sn sc) := (H1.out.f (List.Mem.tail _ (List.Mem.head _))).cell 3
  have rl : w.heap.size < w1.heap.size := (H1.out.f (List.Mem.tail _ (List.Mem.head _))).lt
  have hm0 : ¬ (x.mod : Int) = 0 := by have := HM.out; omega
  go_wp2_with fail
  with_reducible refine (divS d x.mod _ dl dd (by have := HM.out; omega) hmd).mono ?_
  rintro x w2 ⟨rfl, hb⟩
  clear r0 r1 r2 r3 rl
  have H2 : Hid (HeldL w [(w.heap.size + 1, #[S o.i, S o.f, .int .i64 o.e]), (w.heap.size, #[.int .u8 ((x.op : UInt8).toNat : Int), .int .i64 ((x.mod : Nat) : Int), .bool x.nt, .slice sa sn sc])] w2) := Lib.hid (HeldL.keep H1.out hb)
  clear H1
  clear hb
  go_wp2
  go_ret2
  exact ⟨rfl, H2.out.bel⟩

theorem vl_as (x : RelT) (sa : Option Addr) (sn sc : Nat) (o : Og) (w : World) (hB : OgB o) (ht : Tab w) (hop : opsB.contains x.op = true) (hmd : x.mod ≤ 1000000000) (r : Option Nat) (hr : vlP x o = r) :
    Calls Tryz.prog 66 #[.agg #[.int .u8 ((x.op : UInt8).toNat : Int), .int .i64 ((x.mod : Nat) : Int), .bool x.nt, .slice sa sn sc], OV o] w fun z w' => z = .returned (.tuple #[.int .i64 ((r.getD 0 : Nat) : Int), .bool r.isSome]) ∧ Below w.heap.size w w' := by
  subst hr
  unfold vlP
  cases hV : wvP x.op o with
  | none => exact vl_none x sa sn sc o w hB ht hop hmd hV
  | some d =>
    obtain ⟨dd, dl⟩ := wv_dig hB hV
    simp only
    by_cases hm : x.mod = 0
    · rw [if_neg (by simpa using hm)]
      by_cases h18 : (dig (val d)).length ≤ 18
      · rw [if_pos h18]; exact vl_int x sa sn sc o w hB ht hop hmd d hV dd dl hm h18
      · rw [if_neg h18]; exact vl_big x sa sn sc o w hB ht hop hmd d hV dd dl hm (by omega)
    · rw [if_pos hm]; exact vl_mod x sa sn sc o w hB ht hop hmd d hV dd dl hm
end Go.Proofs.YtkjhdehpcanciaaGreatDoor

namespace Go.Proofs.YtkjhdehpcanciaaGreatDoor
open Go.RowKit Florin
set_option linter.unusedVariables false
set_option linter.unusedSimpArgs false
attribute [local go_sem ↓] Go.wp_at_zero Go.wp_at_succ

theorem ListAt.get2 {α : Type} {A : α → List Value → Prop} {sz : Nat} (hA : ∀ x c, A x c → c.length = sz) : ∀ {xs : List α} {cs : List Value}, ListAt A xs cs → ∀ (k : Nat) (hk : k < xs.length), ∃ c, A xs[k] c ∧ ∀ j, j < sz → cs[k * sz + j]? = c[j]?
  | x :: xs, cs, ⟨c, d, e, a, r⟩, 0, hk => ⟨c, a, fun j hj => by rw [e, Nat.zero_mul, Nat.zero_add, List.getElem?_append_left (by rw [hA x c a]; exact hj)]⟩
  | x :: xs, cs, ⟨c, d, e, a, r⟩, k + 1, hk => by
    obtain ⟨c2, a2, h2⟩ := ListAt.get2 hA r k (by simp at hk; omega)
    refine ⟨c2, a2, fun j hj => ?_⟩
    rw [e, List.getElem?_append_right (by rw [hA x c a, Nat.add_mul]; omega), hA x c a, ← h2 j hj]
    congr 1
    rw [Nat.add_mul]; omega
def RngAt2 (x : Nat × Nat) (c : List Value) : Prop := c = [.int .i64 ((x.1 : Nat) : Int), .int .i64 ((x.2 : Nat) : Int)]
theorem rng_list2 : ∀ xs, ListAt RngAt2 xs (rngC xs)
  | [] => rfl
  | x :: xs => ⟨_, rngC xs, rfl, rfl, rng_list2 xs⟩
theorem tkn_all {α : Type} {P : α → Bool} {xs : List α} {k : Nat} {x : α} (h : (xs.take k).all P = true) (hx : xs[k]? = some x) (hp : P x = true) : (xs.take (k + 1)).all P = true := by
  rw [List.take_add_one, hx, List.all_append, h]; simp [hp]
theorem tkn_any {α : Type} {P : α → Bool} {xs : List α} {k : Nat} {x : α} (h : (xs.take k).any P = false) (hx : xs[k]? = some x) (hp : P x = false) : (xs.take (k + 1)).any P = false := by
  rw [List.take_add_one, hx, List.any_append, h]; simp [hp]
theorem evall_no {α : Type} {P : α → Bool} {xs : List α} {x : α} (hx : x ∈ xs) (hp : P x = false) : xs.all P = false := by
  rw [List.all_eq_false]; exact ⟨x, hx, by rw [hp]; decide⟩
theorem evany_yes {α : Type} {P : α → Bool} {xs : List α} {x : α} (hx : x ∈ xs) (hp : P x = true) : xs.any P = true := List.any_eq_true.2 ⟨x, hx, hp⟩
/-- A relation as the reader tells them. -/
def RelB (x : RelT) : Prop := opsB.contains x.op = true ∧ x.mod ≤ 1000000000
def RuleB (u : RuleT) : Prop := ∀ a ∈ u.any, ∀ x ∈ a, RelB x

set_option maxRecDepth 100000 in
set_option maxHeartbeats 3200000 in
theorem in_none (x : RelT) (sa : Option Addr) (sn sc : Nat) (o : Og) (w : World) (hB : OgB o) (ht : Tab w) (hop : opsB.contains x.op = true) (hmd : x.mod ≤ 1000000000) (hV : vlP x o = none) :
    Calls Tryz.prog 43 #[.agg #[.int .u8 ((x.op : UInt8).toNat : Int), .int .i64 ((x.mod : Nat) : Int), .bool x.nt, .slice sa sn sc], OV o] w fun z w' => z = .returned (.bool false) ∧ Below w.heap.size w w' := by
  have HT := Lib.hid ht
  clear ht
  go_enter Tryz.func43, Tryz.ntmps43
  go_wp2_with fail
  with_reducible refine (vl_as x sa sn sc o _ hB (HT.out.below (HeldL.alloc (HeldL.alloc (HeldL.refl w) (w.heap.size) #[.int .u8 ((x.op : UInt8).toNat : Int), .int .i64 ((x.mod : Nat) : Int), .bool x.nt, .slice sa sn sc] 50 (by simp)) (w.heap.size + 1) #[S o.i, S o.f, .int .i64 o.e] 42 (by simp)).bel) hop hmd none hV).mono ?_
  rintro x w1 ⟨rfl, hb⟩
  have H1 : Hid (HeldL w [(w.heap.size + 1, #[S o.i, S o.f, .int .i64 o.e]), (w.heap.size, #[.int .u8 ((x.op : UInt8).toNat : Int), .int .i64 ((x.mod : Nat) : Int), .bool x.nt, .slice sa sn sc])] w1) := Lib.hid (HeldL.keep (HeldL.alloc (HeldL.alloc (HeldL.refl w) (w.heap.size) #[.int .u8 ((x.op : UInt8).toNat : Int), .int .i64 ((x.mod : Nat) : Int), .bool x.nt, .slice sa sn sc] 50 (by simp)) (w.heap.size + 1) #[S o.i, S o.f, .int .i64 o.e] 42 (by simp)) hb)
  clear hb
  go_wp2
  go_ret
  exact ⟨rfl, H1.out.bel⟩

set_option maxRecDepth 100000 in
set_option maxHeartbeats 3200000 in
theorem in_nil (x : RelT) (o : Og) (w : World) (hB : OgB o) (ht : Tab w) (hop : opsB.contains x.op = true) (hmd : x.mod ≤ 1000000000) (n : Nat) (hV : vlP x o = some n) :
    Calls Tryz.prog 43 #[.agg #[.int .u8 ((x.op : UInt8).toNat : Int), .int .i64 ((x.mod : Nat) : Int), .bool x.nt, .slice none 0 0], OV o] w fun z w' => z = .returned (.bool false) ∧ Below w.heap.size w w' := by
  have HT := Lib.hid ht
  clear ht
  go_enter Tryz.func43, Tryz.ntmps43
  go_wp2_with fail
  with_reducible refine (vl_as x none 0 0 o _ hB (HT.out.below (HeldL.alloc (HeldL.alloc (HeldL.refl w) (w.heap.size) #[.int .u8 ((x.op : UInt8).toNat : Int), .int .i64 ((x.mod : Nat) : Int), .bool x.nt, .slice none 0 0] 50 (by simp)) (w.heap.size + 1) #[S o.i, S o.f, .int .i64 o.e] 42 (by simp)).bel) hop hmd (some n) hV).mono ?_
  rintro x w1 ⟨rfl, hb⟩
  have H1 : Hid (HeldL w [(w.heap.size + 1, #[S o.i, S o.f, .int .i64 o.e]), (w.heap.size, #[.int .u8 ((x.op : UInt8).toNat : Int), .int .i64 ((x.mod : Nat) : Int), .bool x.nt, .slice none 0 0])] w1) := Lib.hid (HeldL.keep (HeldL.alloc (HeldL.alloc (HeldL.refl w) (w.heap.size) #[.int .u8 ((x.op : UInt8).toNat : Int), .int .i64 ((x.mod : Nat) : Int), .bool x.nt, .slice none 0 0] 50 (by simp)) (w.heap.size + 1) #[S o.i, S o.f, .int .i64 o.e] 42 (by simp)) hb)
  clear hb
  have r0 : w1.cell? ⟨w.heap.size, 0, none⟩ = some (.int .u8 ((x.op : UInt8).toNat : Int)) := (H1.out.f (List.Mem.tail _ (List.Mem.head _))).cell 0
  have r1 : w1.cell? ⟨w.heap.size, 1, none⟩ = some (.int .i64 ((x.mod : Nat) : Int)) := (H1.out.f (List.Mem.tail _ (List.Mem.head _))).cell 1
  have r2 : w1.cell? ⟨w.heap.size, 2, none⟩ = some (.bool x.nt) := (H1.out.f (List.Mem.tail _ (List.Mem.head _))).cell 2
  have r3 : w1.cell? ⟨w.heap.size, 3, none⟩ = some (.slice none 0 0) := (H1.out.f (List.Mem.tail _ (List.Mem.head _))).cell 3
  have rl : w.heap.size < w1.heap.size := (H1.out.f (List.Mem.tail _ (List.Mem.head _))).lt
  go_wp2_with fail
  go_loopw [20] (fun i wr => i = .int .i64 0 ∧ w1 = wr) (fun _ _ => 0)
  case atStart => exact ⟨rfl, rfl⟩
  case round =>
    obtain ⟨rfl, rfl⟩ := hrel
    go_wp2
    go_ret
    exact ⟨rfl, H1.out.bel⟩

set_option maxRecDepth 100000 in
set_option maxHeartbeats 3200000 in
theorem in_row (x : RelT) (o : Og) (w : World) (hB : OgB o) (ht : Tab w) (hop : opsB.contains x.op = true) (hmd : x.mod ≤ 1000000000) (n : Nat) (hV : vlP x o = some n) (g cap base : Nat) (ho : w.ownsRow base 64 2 (.slice (some ⟨g, 0, none⟩) x.rs.length cap) x.rs.length (rngC x.rs)) (hcap : x.rs.length ≤ cap) (hcm : cap ≤ maxLen) (r : Bool) (hr : (x.rs.any fun r => decide (r.1 ≤ n) && decide (n ≤ r.2)) = r) :
    Calls Tryz.prog 43 #[.agg #[.int .u8 ((x.op : UInt8).toNat : Int), .int .i64 ((x.mod : Nat) : Int), .bool x.nt, .slice (some ⟨g, 0, none⟩) x.rs.length cap], OV o] w fun z w' => z = .returned (.bool r) ∧ Below w.heap.size w w' := by
  have HO := Lib.hid ho
  have HR := Lib.hid hr
  have HL := Lib.hid (rng_list2 x.rs)
  have hgl := (ho.lt g rfl).2
  have hcmi : (cap : Int) ≤ 9223372036854775807 := by unfold maxLen at hcm; omega
  have HT := Lib.hid ht
  clear ht ho hr
  go_enter Tryz.func43, Tryz.ntmps43
  go_wp2_with fail
  with_reducible refine (vl_as x (some ⟨g, 0, none⟩) x.rs.length cap o _ hB (HT.out.below (HeldL.alloc (HeldL.alloc (HeldL.refl w) (w.heap.size) #[.int .u8 ((x.op : UInt8).toNat : Int), .int .i64 ((x.mod : Nat) : Int), .bool x.nt, .slice (some ⟨g, 0, none⟩) x.rs.length cap] 50 (by simp)) (w.heap.size + 1) #[S o.i, S o.f, .int .i64 o.e] 42 (by simp)).bel) hop hmd (some n) hV).mono ?_
  rintro x w1 ⟨rfl, hb⟩
  have H1 : Hid (HeldL w [(w.heap.size + 1, #[S o.i, S o.f, .int .i64 o.e]), (w.heap.size, #[.int .u8 ((x.op : UInt8).toNat : Int), .int .i64 ((x.mod : Nat) : Int), .bool x.nt, .slice (some ⟨g, 0, none⟩) x.rs.length cap])] w1) := Lib.hid (HeldL.keep (HeldL.alloc (HeldL.alloc (HeldL.refl w) (w.heap.size) #[.int .u8 ((x.op : UInt8).toNat : Int), .int .i64 ((x.mod : Nat) : Int), .bool x.nt, .slice (some ⟨g, 0, none⟩) x.rs.length cap] 50 (by simp)) (w.heap.size + 1) #[S o.i, S o.f, .int .i64 o.e] 42 (by simp)) hb)
  clear hb
  have r0 : w1.cell? ⟨w.heap.size, 0, none⟩ = some (.int .u8 ((x.op : UInt8).toNat : Int)) := (H1.out.f (List.Mem.tail _ (List.Mem.head _))).cell 0
  have r1 : w1.cell? ⟨w.heap.size, 1, none⟩ = some (.int .i64 ((x.mod : Nat) : Int)) := (H1.out.f (List.Mem.tail _ (List.Mem.head _))).cell 1
  have r2 : w1.cell? ⟨w.heap.size, 2, none⟩ = some (.bool x.nt) := (H1.out.f (List.Mem.tail _ (List.Mem.head _))).cell 2
  have r3 : w1.cell? ⟨w.heap.size, 3, none⟩ = some (.slice (some ⟨g, 0, none⟩) x.rs.length cap) := (H1.out.f (List.Mem.tail _ (List.Mem.head _))).cell 3
  have rl : w.heap.size < w1.heap.size := (H1.out.f (List.Mem.tail _ (List.Mem.head _))).lt
  go_wp2_with fail
  go_loopw [20] (fun i wr => ∃ k : Nat, k ≤ x.rs.length ∧ i = .int .i64 k ∧ (x.rs.take k).any (fun r => decide (r.1 ≤ n) && decide (n ≤ r.2)) = false ∧ Below w.heap.size w wr) (fun i _ => x.rs.length - (intOf i).toNat)
  case atStart => exact ⟨0, Nat.zero_le _, rfl, rfl, H1.out.bel⟩
  case round =>
    obtain ⟨k, hk, rfl, hany, hbb⟩ := hrel
    have HAN := Lib.hid hany
    have BB2 := Lib.hid hbb
    clear hany hbb r0 r1 r2 r3 rl H1
    by_cases hlt : k < x.rs.length
    · have hlti : (k : Int) < (x.rs.length : Int) := by omega
      obtain ⟨xk, hxk⟩ : ∃ xk, x.rs[k] = xk := ⟨_, rfl⟩
      obtain ⟨c, hA, hc⟩ := ListAt.get2 (sz := 2) (fun x c h => by obtain rfl := h; rfl) HL.out k hlt
      rw [hxk] at hA
      have hmem : xk ∈ x.rs := by rw [← hxk]; exact List.getElem_mem hlt
      have HXK : Hid (x.rs[k]? = some xk) := Lib.hid (by rw [List.getElem?_eq_getElem hlt, hxk])
      clear hxk
      obtain rfl := hA
      have e0 : wr.cell? ⟨g, k * 2, none⟩ = some (.int .i64 ((xk.1 : Nat) : Int)) := by rw [BB2.out.cell (show g < _ from hgl), HO.out.cellAt _ (by omega), show (rngC x.rs)[k * 2]? = _ from hc 0 (by decide)]; rfl
      have e1 : wr.cell? ⟨g, k * 2 + 1, none⟩ = some (.int .i64 ((xk.2 : Nat) : Int)) := by rw [BB2.out.cell (show g < _ from hgl), HO.out.cellAt _ (by omega), show (rngC x.rs)[k * 2 + 1]? = _ from hc 1 (by decide)]; rfl
      clear hc
      have hk3 : (0 : Int) ≤ (k : Int) := by omega
      have hkc : (k : Int) < (cap : Int) := by omega
      have glr : g < wr.heap.size := Nat.lt_of_lt_of_le hgl BB2.out.size
      have BB3 := Lib.hid (BB2.out.alloc BB2.out.size (.cells #[.int .i64 ((xk.1 : Nat) : Int), .int .i64 ((xk.2 : Nat) : Int)] 64))
      by_cases c1 : xk.1 ≤ n
      · have c1i : (xk.1 : Int) ≤ (n : Int) := by omega
        by_cases c2 : n ≤ xk.2
        · have c2i : (n : Int) ≤ (xk.2 : Int) := by omega
          have HRR : Hid (r = true) := Lib.hid (by rw [← HR.out]; exact evany_yes hmem (by simp [c1, c2]))
          go_wp2
          go_ret
          exact ⟨by rw [HRR.out]; rfl, BB3.out⟩
        · have c2i : ¬ (n : Int) ≤ (xk.2 : Int) := by omega
          go_wp2
          go_roundw
          case rel => exact ⟨k + 1, by omega, by go_num, tkn_any HAN.out HXK.out (by simp; omega), BB3.out⟩
          case measure => simp [intOf]; omega
      · have c1i : ¬ (xk.1 : Int) ≤ (n : Int) := by omega
        go_wp2
        go_roundw
        case rel => exact ⟨k + 1, by omega, by go_num, tkn_any HAN.out HXK.out (by simp; omega), BB3.out⟩
        case measure => simp [intOf]; omega
    · obtain rfl : k = x.rs.length := by omega
      have hlti : ¬ (x.rs.length : Int) < (x.rs.length : Int) := by omega
      have HRR : Hid (r = false) := Lib.hid (by rw [← HR.out]; have h := HAN.out; rw [List.take_length] at h; exact h)
      go_wp2
      go_ret
      exact ⟨by rw [HRR.out]; rfl, BB2.out⟩

theorem in_as (x : RelT) (v : Value) (base : Nat) (o : Og) (w : World) (hB : OgB o) (ht : Tab w) (hx : RelB x) (hv : Rngs w base x.rs v) (r : Bool) (hr : inP x o = r) :
    Calls Tryz.prog 43 #[.agg #[.int .u8 ((x.op : UInt8).toNat : Int), .int .i64 ((x.mod : Nat) : Int), .bool x.nt, v], OV o] w fun z w' => z = .returned (.bool r) ∧ Below w.heap.size w w' := by
  subst hr
  obtain ⟨sa, sn, sc, hsv⟩ := own_slice hv
  unfold inP
  cases hV : vlP x o with
  | none => subst hsv; exact in_none x sa sn sc o w hB ht hx.1 hx.2 hV
  | some n =>
    clear hsv
    rcases hv.2 with ⟨hv0, h0⟩ | ⟨g, cap, cur, hv0, _, _, hcap, hcm, _⟩
    · subst hv0
      rw [List.eq_nil_of_length_eq_zero h0]
      exact in_nil x o w hB ht hx.1 hx.2 n hV
    · subst hv0
      exact in_row x o w hB ht hx.1 hx.2 n hV g cap base hv hcap hcm _ rfl

set_option maxRecDepth 100000 in
set_option maxHeartbeats 3200000 in
theorem holds_s (x : RelT) (sa : Option Addr) (sn sc base : Nat) (o : Og) (w : World) (hB : OgB o) (ht : Tab w) (hx : RelB x) (hv : Rngs w base x.rs (.slice sa sn sc)) :
    Calls Tryz.prog 20 #[.agg #[.int .u8 ((x.op : UInt8).toNat : Int), .int .i64 ((x.mod : Nat) : Int), .bool x.nt, .slice sa sn sc], OV o] w fun z w' => z = .returned (.bool (holdsP x o)) ∧ Below w.heap.size w w' := by
  have HV := Lib.hid hv
  have KR : ∀ W : World, Below w.heap.size w W → Rngs W base x.rs (.slice sa sn sc) := fun W hb => Rngs.kept HV.out (grown_of_below hb none) (Apart.none _ _)
  have HT := Lib.hid ht
  clear ht hv
  go_enter Tryz.func20, Tryz.ntmps20
  go_wp2_with fail
  have ALL1 : Hid (∀ w' : World, HeldL w [(w.heap.size + 1, #[S o.i, S o.f, .int .i64 o.e]), (w.heap.size, #[.int .u8 ((x.op : UInt8).toNat : Int), .int .i64 ((x.mod : Nat) : Int), .bool x.nt, .slice sa sn sc])] w' → w'.cell? ⟨w.heap.size, 0, none⟩ = some (.int .u8 ((x.op : UInt8).toNat : Int)) ∧ w'.cell? ⟨w.heap.size, 1, none⟩ = some (.int .i64 ((x.mod : Nat) : Int)) ∧ w'.cell? ⟨w.heap.size, 2, none⟩ = some (.bool x.nt) ∧ w'.cell? ⟨w.heap.size, 3, none⟩ = some (.slice sa sn sc) ∧ w'.cell? ⟨w.heap.size + 1, 0, none⟩ = some (S o.i) ∧ w'.cell? ⟨w.heap.size + 1, 1, none⟩ = some (S o.f) ∧ w'.cell? ⟨w.heap.size + 1, 2, none⟩ = some (.int .i64 o.e) ∧ HeldL w [(w.heap.size + 1, #[S o.i, S o.f, .int .i64 o.e]), (w.heap.size, #[.int .u8 ((x.op : UInt8).toNat : Int), .int .i64 ((x.mod : Nat) : Int), .bool x.nt, .slice sa sn sc])] w') := Lib.hid (fun w' h => ⟨(h.f (List.Mem.tail _ (List.Mem.head _))).cell 0, (h.f (List.Mem.tail _ (List.Mem.head _))).cell 1, (h.f (List.Mem.tail _ (List.Mem.head _))).cell 2, (h.f (List.Mem.tail _ (List.Mem.head _))).cell 3, (h.f (List.Mem.head _)).cell 0, (h.f (List.Mem.head _)).cell 1, (h.f (List.Mem.head _)).cell 2, h⟩)
  have KEEP1 : Hid (∀ w' w'' : World, (w'.cell? ⟨w.heap.size, 0, none⟩ = some (.int .u8 ((x.op : UInt8).toNat : Int)) ∧ w'.cell? ⟨w.heap.size, 1, none⟩ = some (.int .i64 ((x.mod : Nat) : Int)) ∧ w'.cell? ⟨w.heap.size, 2, none⟩ = some (.bool x.nt) ∧ w'.cell? ⟨w.heap.size, 3, none⟩ = some (.slice sa sn sc) ∧ w'.cell? ⟨w.heap.size + 1, 0, none⟩ = some (S o.i) ∧ w'.cell? ⟨w.heap.size + 1, 1, none⟩ = some (S o.f) ∧ w'.cell? ⟨w.heap.size + 1, 2, none⟩ = some (.int .i64 o.e) ∧ HeldL w [(w.heap.size + 1, #[S o.i, S o.f, .int .i64 o.e]), (w.heap.size, #[.int .u8 ((x.op : UInt8).toNat : Int), .int .i64 ((x.mod : Nat) : Int), .bool x.nt, .slice sa sn sc])] w') → Below w'.heap.size w' w'' → (w''.cell? ⟨w.heap.size, 0, none⟩ = some (.int .u8 ((x.op : UInt8).toNat : Int)) ∧ w''.cell? ⟨w.heap.size, 1, none⟩ = some (.int .i64 ((x.mod : Nat) : Int)) ∧ w''.cell? ⟨w.heap.size, 2, none⟩ = some (.bool x.nt) ∧ w''.cell? ⟨w.heap.size, 3, none⟩ = some (.slice sa sn sc) ∧ w''.cell? ⟨w.heap.size + 1, 0, none⟩ = some (S o.i) ∧ w''.cell? ⟨w.heap.size + 1, 1, none⟩ = some (S o.f) ∧ w''.cell? ⟨w.heap.size + 1, 2, none⟩ = some (.int .i64 o.e) ∧ HeldL w [(w.heap.size + 1, #[S o.i, S o.f, .int .i64 o.e]), (w.heap.size, #[.int .u8 ((x.op : UInt8).toNat : Int), .int .i64 ((x.mod : Nat) : Int), .bool x.nt, .slice sa sn sc])] w'')) := Lib.hid (fun w' w'' h hb => ALL1.out _ (HeldL.keep (h.2.2.2.2.2.2.2) hb))
  have HS1 : Hid (HeldL w [(w.heap.size + 1, #[S o.i, S o.f, .int .i64 o.e]), (w.heap.size, #[.int .u8 ((x.op : UInt8).toNat : Int), .int .i64 ((x.mod : Nat) : Int), .bool x.nt, .slice sa sn sc])] _) := Lib.hid (HeldL.alloc (HeldL.alloc (HeldL.refl w) (w.heap.size) #[.int .u8 ((x.op : UInt8).toNat : Int), .int .i64 ((x.mod : Nat) : Int), .bool x.nt, .slice sa sn sc] 50 (by simp)) (w.heap.size + 1) #[S o.i, S o.f, .int .i64 o.e] 42 (by simp))
  have TAB1 : Hid (∀ w' : World, (w'.cell? ⟨w.heap.size, 0, none⟩ = some (.int .u8 ((x.op : UInt8).toNat : Int)) ∧ w'.cell? ⟨w.heap.size, 1, none⟩ = some (.int .i64 ((x.mod : Nat) : Int)) ∧ w'.cell? ⟨w.heap.size, 2, none⟩ = some (.bool x.nt) ∧ w'.cell? ⟨w.heap.size, 3, none⟩ = some (.slice sa sn sc) ∧ w'.cell? ⟨w.heap.size + 1, 0, none⟩ = some (S o.i) ∧ w'.cell? ⟨w.heap.size + 1, 1, none⟩ = some (S o.f) ∧ w'.cell? ⟨w.heap.size + 1, 2, none⟩ = some (.int .i64 o.e) ∧ HeldL w [(w.heap.size + 1, #[S o.i, S o.f, .int .i64 o.e]), (w.heap.size, #[.int .u8 ((x.op : UInt8).toNat : Int), .int .i64 ((x.mod : Nat) : Int), .bool x.nt, .slice sa sn sc])] w') → Tab w') := Lib.hid (fun w' h => HT.out.below (h.2.2.2.2.2.2.2).bel)
  go_region_held3 (fun w' => w'.cell? ⟨w.heap.size, 0, none⟩ = some (.int .u8 ((x.op : UInt8).toNat : Int)) ∧ w'.cell? ⟨w.heap.size, 1, none⟩ = some (.int .i64 ((x.mod : Nat) : Int)) ∧ w'.cell? ⟨w.heap.size, 2, none⟩ = some (.bool x.nt) ∧ w'.cell? ⟨w.heap.size, 3, none⟩ = some (.slice sa sn sc) ∧ w'.cell? ⟨w.heap.size + 1, 0, none⟩ = some (S o.i) ∧ w'.cell? ⟨w.heap.size + 1, 1, none⟩ = some (S o.f) ∧ w'.cell? ⟨w.heap.size + 1, 2, none⟩ = some (.int .i64 o.e) ∧ HeldL w [(w.heap.size + 1, #[S o.i, S o.f, .int .i64 o.e]), (w.heap.size, #[.int .u8 ((x.op : UInt8).toNat : Int), .int .i64 ((x.mod : Nat) : Int), .bool x.nt, .slice sa sn sc])] w')
    (first | exact ALL1.out _ (HeldL.drew HS1.out) | exact KEEP1.out _ _ (by assumption) hb | assumption)
    (first | (go_at_call 43; (with_reducible refine (in_as x (.slice sa sn sc) base o _ hB (by first | exact HT.out.below HS1.out.bel.drew | exact TAB1.out _ (by assumption)) hx (KR _ (by first | exact HS1.out.bel.drew | (exact HeldL.bel (by assumption)))) _ rfl).mono ?_); rintro x wA ⟨rfl, hb⟩))
  have HH : HeldL w [(w.heap.size + 1, #[S o.i, S o.f, .int .i64 o.e]), (w.heap.size, #[.int .u8 ((x.op : UInt8).toNat : Int), .int .i64 ((x.mod : Nat) : Int), .bool x.nt, .slice sa sn sc])] wA := (‹wA.cell? ⟨w.heap.size, 0, none⟩ = some (.int .u8 ((x.op : UInt8).toNat : Int)) ∧ wA.cell? ⟨w.heap.size, 1, none⟩ = some (.int .i64 ((x.mod : Nat) : Int)) ∧ wA.cell? ⟨w.heap.size, 2, none⟩ = some (.bool x.nt) ∧ wA.cell? ⟨w.heap.size, 3, none⟩ = some (.slice sa sn sc) ∧ wA.cell? ⟨w.heap.size + 1, 0, none⟩ = some (S o.i) ∧ wA.cell? ⟨w.heap.size + 1, 1, none⟩ = some (S o.f) ∧ wA.cell? ⟨w.heap.size + 1, 2, none⟩ = some (.int .i64 o.e) ∧ HeldL w [(w.heap.size + 1, #[S o.i, S o.f, .int .i64 o.e]), (w.heap.size, #[.int .u8 ((x.op : UInt8).toNat : Int), .int .i64 ((x.mod : Nat) : Int), .bool x.nt, .slice sa sn sc])] wA›).2.2.2.2.2.2.2
  have H1 : Hid (HeldL w [(w.heap.size + 1, #[S o.i, S o.f, .int .i64 o.e]), (w.heap.size, #[.int .u8 ((x.op : UInt8).toNat : Int), .int .i64 ((x.mod : Nat) : Int), .bool x.nt, .slice sa sn sc])] wA) := Lib.hid HH
  clear HH ALL1 KEEP1 HS1 TAB1
  have r0 : wA.cell? ⟨w.heap.size, 0, none⟩ = some (.int .u8 ((x.op : UInt8).toNat : Int)) := (H1.out.f (List.Mem.tail _ (List.Mem.head _))).cell 0
  have r1 : wA.cell? ⟨w.heap.size, 1, none⟩ = some (.int .i64 ((x.mod : Nat) : Int)) := (H1.out.f (List.Mem.tail _ (List.Mem.head _))).cell 1
  have r2 : wA.cell? ⟨w.heap.size, 2, none⟩ = some (.bool x.nt) := (H1.out.f (List.Mem.tail _ (List.Mem.head _))).cell 2
  have r3 : wA.cell? ⟨w.heap.size, 3, none⟩ = some (.slice sa sn sc) := (H1.out.f (List.Mem.tail _ (List.Mem.head _))).cell 3
  have rl : w.heap.size < wA.heap.size := (H1.out.f (List.Mem.tail _ (List.Mem.head _))).lt
  go_wp2
  go_ret
  exact ⟨rfl, H1.out.bel⟩

theorem holds_as (x : RelT) (v : Value) (base : Nat) (o : Og) (w : World) (hB : OgB o) (ht : Tab w) (hx : RelB x) (hv : Rngs w base x.rs v) (r : Bool) (hr : holdsP x o = r) :
    Calls Tryz.prog 20 #[.agg #[.int .u8 ((x.op : UInt8).toNat : Int), .int .i64 ((x.mod : Nat) : Int), .bool x.nt, v], OV o] w fun z w' => z = .returned (.bool r) ∧ Below w.heap.size w w' := by
  subst hr
  obtain ⟨sa, sn, sc, hsv⟩ := own_slice hv
  subst hsv
  exact holds_s x sa sn sc base o w hB ht hx hv
end Go.Proofs.YtkjhdehpcanciaaGreatDoor

namespace Go.Proofs.YtkjhdehpcanciaaGreatDoor
open Go.RowKit Florin
set_option linter.unusedVariables false
set_option linter.unusedSimpArgs false
attribute [local go_sem ↓] Go.wp_at_zero Go.wp_at_succ

set_option maxRecDepth 100000 in
set_option maxHeartbeats 3200000 in
theorem all_nil (o : Og) (w : World) (hB : OgB o) (ht : Tab w) :
    Calls Tryz.prog 49 #[.slice none 0 0, OV o] w fun z w' => z = .returned (.bool true) ∧ Below w.heap.size w w' := by
  have HT := Lib.hid ht
  clear ht
  go_enter Tryz.func49, Tryz.ntmps49
  go_wp2_with fail
  go_loopw [9] (fun i wr => i = .int .i64 0 ∧ HeldL w [] wr) (fun _ _ => 0)
  case atStart => exact ⟨rfl, HeldL.skip (HeldL.refl w) _⟩
  case round =>
    obtain ⟨rfl, hh⟩ := hrel
    have HH := Lib.hid hh
    clear hh
    go_wp2
    go_ret
    exact ⟨rfl, HH.out.bel⟩

set_option maxRecDepth 100000 in
set_option maxHeartbeats 3200000 in
theorem all_row (xs : List RelT) (g cap base : Nat) (cs : List Value) (o : Og) (w : World) (hB : OgB o) (ht : Tab w) (hx : ∀ x ∈ xs, RelB x) (ho : w.ownsRow base 50 4 (.slice (some ⟨g, 0, none⟩) xs.length cap) xs.length cs) (hl : ListAt (RelAt w) xs cs) (hcap : xs.length ≤ cap) (hcm : cap ≤ maxLen) (r : Bool) (hr : (xs.all fun x => holdsP x o) = r) :
    Calls Tryz.prog 49 #[.slice (some ⟨g, 0, none⟩) xs.length cap, OV o] w fun z w' => z = .returned (.bool r) ∧ Below w.heap.size w w' := by
  have HO := Lib.hid ho
  have HR := Lib.hid hr
  have HL := Lib.hid hl
  have HX := Lib.hid hx
  have hgl := (ho.lt g rfl).2
  have hcmi : (cap : Int) ≤ 9223372036854775807 := by unfold maxLen at hcm; omega
  have HT := Lib.hid ht
  clear ht ho hl hx hr
  go_enter Tryz.func49, Tryz.ntmps49
  go_wp2_with fail
  go_loopw [9] (fun i wr => ∃ k : Nat, k ≤ xs.length ∧ i = .int .i64 k ∧ (xs.take k).all (fun x => holdsP x o) = true ∧ HeldL w [(w.heap.size, #[S o.i, S o.f, .int .i64 o.e])] wr) (fun i _ => xs.length - (intOf i).toNat)
  case atStart => exact ⟨0, Nat.zero_le _, rfl, rfl, (HeldL.alloc (HeldL.refl w) (w.heap.size) #[S o.i, S o.f, .int .i64 o.e] 42 (by simp))⟩
  case round =>
    obtain ⟨k, hk, rfl, hany, hbb⟩ := hrel
    have HAN := Lib.hid hany
    have HH := Lib.hid hbb
    have o0 : wr.cell? ⟨w.heap.size, 0, none⟩ = some (S o.i) := (hbb.f (List.Mem.head _)).cell 0
    have o1 : wr.cell? ⟨w.heap.size, 1, none⟩ = some (S o.f) := (hbb.f (List.Mem.head _)).cell 1
    have o2 : wr.cell? ⟨w.heap.size, 2, none⟩ = some (.int .i64 o.e) := (hbb.f (List.Mem.head _)).cell 2
    have ol : w.heap.size < wr.heap.size := (hbb.f (List.Mem.head _)).lt
    clear hany hbb
    by_cases hlt : k < xs.length
    · have hlti : (k : Int) < (xs.length : Int) := by omega
      obtain ⟨xk, hxk⟩ : ∃ xk, xs[k] = xk := ⟨_, rfl⟩
      obtain ⟨c, hA, hc⟩ := ListAt.get2 (sz := 4) (fun x c h => by obtain ⟨u, rfl, _⟩ := h; rfl) HL.out k hlt
      rw [hxk] at hA
      have hmem : xk ∈ xs := by rw [← hxk]; exact List.getElem_mem hlt
      have HXK : Hid (xs[k]? = some xk) := Lib.hid (by rw [List.getElem?_eq_getElem hlt, hxk])
      clear hxk
      obtain ⟨u, rfl, hrg⟩ := hA
      obtain ⟨sa, sn, sc, hsv⟩ := own_slice hrg
      subst hsv
      have HRG := Lib.hid hrg
      clear hrg
      have e0 : wr.cell? ⟨g, k * 4, none⟩ = some (.int .u8 ((xk.op : UInt8).toNat : Int)) := by rw [HH.out.bel.cell (show g < _ from hgl), HO.out.cellAt _ (by omega), show cs[k * 4]? = _ from hc 0 (by decide)]; rfl
      have e1 : wr.cell? ⟨g, k * 4 + 1, none⟩ = some (.int .i64 ((xk.mod : Nat) : Int)) := by rw [HH.out.bel.cell (show g < _ from hgl), HO.out.cellAt _ (by omega), show cs[k * 4 + 1]? = _ from hc 1 (by decide)]; rfl
      have e2 : wr.cell? ⟨g, k * 4 + 2, none⟩ = some (.bool xk.nt) := by rw [HH.out.bel.cell (show g < _ from hgl), HO.out.cellAt _ (by omega), show cs[k * 4 + 2]? = _ from hc 2 (by decide)]; rfl
      have e3 : wr.cell? ⟨g, k * 4 + 3, none⟩ = some (.slice sa sn sc) := by rw [HH.out.bel.cell (show g < _ from hgl), HO.out.cellAt _ (by omega), show cs[k * 4 + 3]? = _ from hc 3 (by decide)]; rfl
      clear hc
      have hk3 : (0 : Int) ≤ (k : Int) := by omega
      have hkc : (k : Int) < (cap : Int) := by omega
      have glr : g < wr.heap.size := Nat.lt_of_lt_of_le hgl HH.out.bel.size
      cases hh : holdsP xk o with
      | false =>
        have HE := Lib.hid hh
        clear hh
        go_wp2_with fail
        with_reducible refine (holds_as xk (.slice sa sn sc) 0 o _ hB (HT.out.below ((HeldL.skip HH.out (.cells #[.int .u8 ((xk.op : UInt8).toNat : Int), .int .i64 ((xk.mod : Nat) : Int), .bool xk.nt, .slice sa sn sc] 50))).bel) (HX.out xk hmem) (Rngs.kept HRG.out (grown_of_below ((HeldL.skip HH.out (.cells #[.int .u8 ((xk.op : UInt8).toNat : Int), .int .i64 ((xk.mod : Nat) : Int), .bool xk.nt, .slice sa sn sc] 50))).bel none) (Apart.none _ _)) false HE.out).mono ?_
        rintro x w3 ⟨rfl, hb⟩
        have HH3 := Lib.hid (HeldL.keep (HeldL.skip HH.out (.cells #[.int .u8 ((xk.op : UInt8).toNat : Int), .int .i64 ((xk.mod : Nat) : Int), .bool xk.nt, .slice sa sn sc] 50)) hb)
        clear hb
        have HRR : Hid (r = false) := Lib.hid (by rw [← HR.out]; exact evall_no hmem HE.out)
        go_wp2
        go_ret
        exact ⟨by rw [HRR.out]; rfl, HH3.out.bel⟩
      | true =>
        have HE := Lib.hid hh
        clear hh
        go_wp2_with fail
        with_reducible refine (holds_as xk (.slice sa sn sc) 0 o _ hB (HT.out.below ((HeldL.skip HH.out (.cells #[.int .u8 ((xk.op : UInt8).toNat : Int), .int .i64 ((xk.mod : Nat) : Int), .bool xk.nt, .slice sa sn sc] 50))).bel) (HX.out xk hmem) (Rngs.kept HRG.out (grown_of_below ((HeldL.skip HH.out (.cells #[.int .u8 ((xk.op : UInt8).toNat : Int), .int .i64 ((xk.mod : Nat) : Int), .bool xk.nt, .slice sa sn sc] 50))).bel none) (Apart.none _ _)) true HE.out).mono ?_
        rintro x w3 ⟨rfl, hb⟩
        have HH3 := Lib.hid (HeldL.keep (HeldL.skip HH.out (.cells #[.int .u8 ((xk.op : UInt8).toNat : Int), .int .i64 ((xk.mod : Nat) : Int), .bool xk.nt, .slice sa sn sc] 50)) hb)
        clear hb
        go_wp2
        go_roundw
        case rel => exact ⟨k + 1, by omega, by go_num, tkn_all HAN.out HXK.out HE.out, HH3.out⟩
        case measure => simp [intOf]; omega
    · obtain rfl : k = xs.length := by omega
      have hlti : ¬ (xs.length : Int) < (xs.length : Int) := by omega
      have HRR : Hid (r = true) := Lib.hid (by rw [← HR.out]; have h := HAN.out; rw [List.take_length] at h; exact h)
      go_wp2
      go_ret
      exact ⟨by rw [HRR.out]; rfl, HH.out.bel⟩

theorem all_as' (xs : List RelT) (v : Value) (base : Nat) (o : Og) (w : World) (hB : OgB o) (ht : Tab w) (hx : ∀ x ∈ xs, RelB x) (hv : AllAt w base xs v) (r : Bool) (hr : allP' xs o = r) :
    Calls Tryz.prog 49 #[v, OV o] w fun z w' => z = .returned (.bool r) ∧ Below w.heap.size w w' := by
  obtain ⟨cs, ho, hl⟩ := hv
  rcases ho.2 with ⟨hv0, h0⟩ | ⟨g, cap, cur, hv0, _, _, hcap, hcm, _⟩
  · subst hv0 hr
    rw [List.eq_nil_of_length_eq_zero h0]
    exact all_nil o w hB ht
  · subst hv0
    exact all_row xs g cap base cs o w hB ht hx ho hl hcap hcm r hr

set_option maxRecDepth 100000 in
set_option maxHeartbeats 3200000 in
theorem meets_5 (v : Value) (sa : Option Addr) (sn sc : Nat) (sm : List UInt8) (o : Og) (w : World) (hB : OgB o) (ht : Tab w) :
    Calls Tryz.prog 22 #[.agg #[.int .i64 5, .slice sa sn sc, S sm], OV o] w fun z w' => z = .returned (.bool true) ∧ Below w.heap.size w w' := by
  have HT := Lib.hid ht
  clear ht
  go_enter Tryz.func22, Tryz.ntmps22
  go_wp2
  go_ret
  exact ⟨rfl, (HeldL.skip (HeldL.skip (HeldL.refl w) _) _).bel⟩

set_option maxRecDepth 100000 in
set_option maxHeartbeats 3200000 in
theorem meets_nil (ct : Nat) (h5 : ct ≠ 5) (sm : List UInt8) (o : Og) (w : World) (hB : OgB o) (ht : Tab w) :
    Calls Tryz.prog 22 #[.agg #[.int .i64 ((ct : Nat) : Int), .slice none 0 0, S sm], OV o] w fun z w' => z = .returned (.bool false) ∧ Below w.heap.size w w' := by
  have h5i : ¬ (ct : Int) = 5 := by omega
  have h5b : ((ct : Int) == 5) = false := by simpa using h5i
  have HT := Lib.hid ht
  clear ht
  go_enter Tryz.func22, Tryz.ntmps22
  go_wp2_with fail
  go_loopw [13] (fun i wr => i = .int .i64 0 ∧ HeldL w [] wr) (fun _ _ => 0)
  case atStart => exact ⟨rfl, HeldL.skip (HeldL.skip (HeldL.refl w) _) _⟩
  case round =>
    obtain ⟨rfl, hh⟩ := hrel
    have HH := Lib.hid hh
    clear hh
    go_wp2
    go_ret
    exact ⟨rfl, HH.out.bel⟩

set_option maxRecDepth 100000 in
set_option maxHeartbeats 3200000 in
theorem meets_row (ct : Nat) (h5 : ct ≠ 5) (sm : List UInt8) (xs : List (List RelT)) (g cap base : Nat) (cs : List Value) (o : Og) (w : World) (hB : OgB o) (ht : Tab w) (hx : ∀ a ∈ xs, ∀ x ∈ a, RelB x) (ho : w.ownsRow base 47 1 (.slice (some ⟨g, 0, none⟩) xs.length cap) xs.length cs) (hl : ListAt (fun x c => ∃ u, c = [u] ∧ AllAt w 0 x u) xs cs) (hcap : xs.length ≤ cap) (hcm : cap ≤ maxLen) (r : Bool) (hr : (xs.any fun a => allP' a o) = r) :
    Calls Tryz.prog 22 #[.agg #[.int .i64 ((ct : Nat) : Int), .slice (some ⟨g, 0, none⟩) xs.length cap, S sm], OV o] w fun z w' => z = .returned (.bool r) ∧ Below w.heap.size w w' := by
  have HO := Lib.hid ho
  have HR := Lib.hid hr
  have HL := Lib.hid hl
  have HX := Lib.hid hx
  have hgl := (ho.lt g rfl).2
  have hcmi : (cap : Int) ≤ 9223372036854775807 := by unfold maxLen at hcm; omega
  have h5i : ¬ (ct : Int) = 5 := by omega
  have h5b : ((ct : Int) == 5) = false := by simpa using h5i
  have HT := Lib.hid ht
  clear ht ho hl hx hr
  go_enter Tryz.func22, Tryz.ntmps22
  go_wp2_with fail
  go_loopw [6, 13] (fun u6 i wr => ∃ k : Nat, k ≤ xs.length ∧ i = .int .i64 k ∧ (xs.take k).any (fun a => allP' a o) = false ∧ HeldL w [(w.heap.size + 1, #[S o.i, S o.f, .int .i64 o.e]), (w.heap.size, #[.int .i64 ((ct : Nat) : Int), .slice (some ⟨g, 0, none⟩) xs.length cap, S sm])] wr) (fun _ i _ => xs.length - (intOf i).toNat)
  case atStart => exact ⟨0, Nat.zero_le _, rfl, rfl, (HeldL.alloc (HeldL.alloc (HeldL.refl w) (w.heap.size) #[.int .i64 ((ct : Nat) : Int), .slice (some ⟨g, 0, none⟩) xs.length cap, S sm] 39 (by simp)) (w.heap.size + 1) #[S o.i, S o.f, .int .i64 o.e] 42 (by simp))⟩
  case round =>
    obtain ⟨k, hk, rfl, hany, hbb⟩ := hrel
    have HAN := Lib.hid hany
    have HH := Lib.hid hbb
    have o0 : wr.cell? ⟨w.heap.size + 1, 0, none⟩ = some (S o.i) := (hbb.f (List.Mem.head _)).cell 0
    have o1 : wr.cell? ⟨w.heap.size + 1, 1, none⟩ = some (S o.f) := (hbb.f (List.Mem.head _)).cell 1
    have o2 : wr.cell? ⟨w.heap.size + 1, 2, none⟩ = some (.int .i64 o.e) := (hbb.f (List.Mem.head _)).cell 2
    have ol : w.heap.size + 1 < wr.heap.size := (hbb.f (List.Mem.head _)).lt
    clear hany hbb
    by_cases hlt : k < xs.length
    · have hlti : (k : Int) < (xs.length : Int) := by omega
      obtain ⟨xk, hxk⟩ : ∃ xk, xs[k] = xk := ⟨_, rfl⟩
      obtain ⟨c, hA, hc⟩ := ListAt.get2 (sz := 1) (fun x c h => by obtain ⟨u, rfl, _⟩ := h; rfl) HL.out k hlt
      rw [hxk] at hA
      have hmem : xk ∈ xs := by rw [← hxk]; exact List.getElem_mem hlt
      have HXK : Hid (xs[k]? = some xk) := Lib.hid (by rw [List.getElem?_eq_getElem hlt, hxk])
      clear hxk
      obtain ⟨u, rfl, hrg⟩ := hA
      have HRG := Lib.hid hrg
      obtain ⟨csx, hox, hlx⟩ := hrg
      obtain ⟨sa, sn, sc, hsv⟩ := own_slice hox
      subst hsv
      clear hox hlx
      have e0 : wr.cell? ⟨g, k, none⟩ = some (.slice sa sn sc) := by rw [HH.out.bel.cell (show g < _ from hgl), HO.out.cellAt _ (by omega)]; have := hc 0 (by decide); rw [Nat.mul_one, Nat.add_zero] at this; rw [this]; rfl
      clear hc
      have hk3 : (0 : Int) ≤ (k : Int) := by omega
      have hkc : (k : Int) < (cap : Int) := by omega
      have glr : g < wr.heap.size := Nat.lt_of_lt_of_le hgl HH.out.bel.size
      cases hh : allP' xk o with
      | false =>
        have HE := Lib.hid hh
        clear hh
        go_wp2_with fail
        with_reducible refine (all_as' xk (.slice sa sn sc) 0 o _ hB (HT.out.below (HH.out).bel) (HX.out xk hmem) (AllAt.kept HRG.out (grown_of_below (HH.out).bel none) (Apart.none _ _)) false HE.out).mono ?_
        rintro x w3 ⟨rfl, hb⟩
        have HH3 := Lib.hid (HeldL.keep HH.out hb)
        clear hb
        go_wp2
        go_roundw
        case rel => exact ⟨k + 1, by omega, by go_num, tkn_any HAN.out HXK.out HE.out, HH3.out⟩
        case measure => simp [intOf]; omega
      | true =>
        have HE := Lib.hid hh
        clear hh
        go_wp2_with fail
        with_reducible refine (all_as' xk (.slice sa sn sc) 0 o _ hB (HT.out.below (HH.out).bel) (HX.out xk hmem) (AllAt.kept HRG.out (grown_of_below (HH.out).bel none) (Apart.none _ _)) true HE.out).mono ?_
        rintro x w3 ⟨rfl, hb⟩
        have HH3 := Lib.hid (HeldL.keep HH.out hb)
        clear hb
        have HRR : Hid (r = true) := Lib.hid (by rw [← HR.out]; exact evany_yes hmem HE.out)
        go_wp2
        go_ret
        exact ⟨by rw [HRR.out]; rfl, HH3.out.bel⟩
    · obtain rfl : k = xs.length := by omega
      have hlti : ¬ (xs.length : Int) < (xs.length : Int) := by omega
      have HRR : Hid (r = false) := Lib.hid (by rw [← HR.out]; have h := HAN.out; rw [List.take_length] at h; exact h)
      go_wp2
      go_ret
      exact ⟨by rw [HRR.out]; rfl, HH.out.bel⟩

theorem meets_as (u : RuleT) (v : Value) (base : Nat) (o : Og) (w : World) (hB : OgB o) (ht : Tab w) (hx : RuleB u) (hv : CondAt w base u.any v) (r : Bool) (hr : meetsP u o = r) :
    Calls Tryz.prog 22 #[.agg #[.int .i64 ((u.cat : Nat) : Int), v, S u.smp], OV o] w fun z w' => z = .returned (.bool r) ∧ Below w.heap.size w w' := by
  subst hr
  obtain ⟨cs, ho, hl⟩ := hv
  unfold meetsP
  by_cases h5 : u.cat = 5
  · obtain ⟨sa, sn, sc, hsv⟩ := own_slice ho
    subst hsv
    rw [h5]
    exact meets_5 (.slice sa sn sc) sa sn sc u.smp o w hB ht
  · have hn : (u.cat == 5) = false := by simpa using h5
    rw [hn, Bool.false_or]
    rcases ho.2 with ⟨hv0, h0⟩ | ⟨g, cap, cur, hv0, _, _, hcap, hcm, _⟩
    · subst hv0
      rw [List.eq_nil_of_length_eq_zero h0]
      exact meets_nil u.cat h5 u.smp o w hB ht
    · subst hv0
      exact meets_row u.cat h5 u.smp u.any g cap base cs o w hB ht hx ho hl hcap hcm _ rfl
end Go.Proofs.YtkjhdehpcanciaaGreatDoor

namespace Go.Proofs.YtkjhdehpcanciaaGreatDoor
open Go.RowKit Florin
set_option linter.unusedVariables false
set_option linter.unusedSimpArgs false
attribute [local go_sem ↓] Go.wp_at_zero Go.wp_at_succ

theorem pick_at {us : List RuleT} {o : Og} {c : Nat} (hc : c < 5) (h0 : ∀ d, d < c → (us.any fun u => u.cat == d && meetsP u o) = false) (h1 : (us.any fun u => u.cat == c && meetsP u o) = true) : pickP us o = c := by
  unfold pickP
  rw [show List.range 5 = [0, 1, 2, 3, 4] from rfl]
  have hcs : c = 0 ∨ c = 1 ∨ c = 2 ∨ c = 3 ∨ c = 4 := by omega
  rcases hcs with rfl | rfl | rfl | rfl | rfl
  · rw [List.find?_cons_of_pos (p := fun c => us.any fun u => u.cat == c && meetsP u o) h1]; rfl
  · rw [List.find?_cons_of_neg (by rw [h0 0 (by omega)]; decide), List.find?_cons_of_pos (p := fun c => us.any fun u => u.cat == c && meetsP u o) h1]; rfl
  · rw [List.find?_cons_of_neg (by rw [h0 0 (by omega)]; decide), List.find?_cons_of_neg (by rw [h0 1 (by omega)]; decide), List.find?_cons_of_pos (p := fun c => us.any fun u => u.cat == c && meetsP u o) h1]; rfl
  · rw [List.find?_cons_of_neg (by rw [h0 0 (by omega)]; decide), List.find?_cons_of_neg (by rw [h0 1 (by omega)]; decide), List.find?_cons_of_neg (by rw [h0 2 (by omega)]; decide), List.find?_cons_of_pos (p := fun c => us.any fun u => u.cat == c && meetsP u o) h1]; rfl
  · rw [List.find?_cons_of_neg (by rw [h0 0 (by omega)]; decide), List.find?_cons_of_neg (by rw [h0 1 (by omega)]; decide), List.find?_cons_of_neg (by rw [h0 2 (by omega)]; decide), List.find?_cons_of_neg (by rw [h0 3 (by omega)]; decide), List.find?_cons_of_pos (p := fun c => us.any fun u => u.cat == c && meetsP u o) h1]; rfl
theorem pick_none {us : List RuleT} {o : Og} (h0 : ∀ d, d < 5 → (us.any fun u => u.cat == d && meetsP u o) = false) : pickP us o = 5 := by
  unfold pickP
  rw [show List.range 5 = [0, 1, 2, 3, 4] from rfl]
  rw [List.find?_cons_of_neg (by rw [h0 0 (by omega)]; decide), List.find?_cons_of_neg (by rw [h0 1 (by omega)]; decide), List.find?_cons_of_neg (by rw [h0 2 (by omega)]; decide), List.find?_cons_of_neg (by rw [h0 3 (by omega)]; decide), List.find?_cons_of_neg (by rw [h0 4 (by omega)]; decide)]; rfl

set_option maxRecDepth 100000 in
set_option maxHeartbeats 6400000 in
theorem pick_row (us : List RuleT) (g cap base : Nat) (cs : List Value) (o : Og) (w : World) (hB : OgB o) (ht : Tab w) (hx : ∀ u ∈ us, RuleB u) (ho : w.ownsRow base 39 3 (.slice (some ⟨g, 0, none⟩) us.length cap) us.length cs) (hl : ListAt (RuleAt w) us cs) (hcap : us.length ≤ cap) (hcm : cap ≤ maxLen) (r : Nat) (hr : pickP us o = r) :
    Calls Tryz.prog 24 #[.slice (some ⟨g, 0, none⟩) us.length cap, OV o] w fun z w' => z = .returned (.int .i64 ((r : Nat) : Int)) ∧ Below w.heap.size w w' := by
  have HO := Lib.hid ho
  have HR := Lib.hid hr
  have HL := Lib.hid hl
  have HX := Lib.hid hx
  have HT := Lib.hid ht
  have hgl := (ho.lt g rfl).2
  have hcmi : (cap : Int) ≤ 9223372036854775807 := by unfold maxLen at hcm; omega
  clear ht ho hl hx hr
  go_enter Tryz.func24, Tryz.ntmps24
  go_wp2_with fail
  go_loopw [5, 8] (fun u5 i wr => ∃ c : Nat, c ≤ 5 ∧ i = .int .i64 c ∧ (∀ d, d < c → (us.any fun u => u.cat == d && meetsP u o) = false) ∧ HeldL w [(w.heap.size, #[S o.i, S o.f, .int .i64 o.e])] wr) (fun _ i _ => 5 - (intOf i).toNat)
  case atStart => exact ⟨0, Nat.zero_le _, rfl, fun d hd => absurd hd (by omega), HeldL.alloc (HeldL.refl w) (w.heap.size) #[S o.i, S o.f, .int .i64 o.e] 42 (by simp)⟩
  case round =>
    obtain ⟨c, hc5, rfl, hno, hbb⟩ := hrel
    have HNO := Lib.hid hno
    have HH := Lib.hid hbb
    clear hno hbb
    by_cases hcl : c < 5
    · have hcli : (c : Int) < 5 := by omega
      go_wp2_with fail
      go_loopw [13] (fun i wr => ∃ k : Nat, k ≤ us.length ∧ i = .int .i64 k ∧ (us.take k).any (fun u => u.cat == c && meetsP u o) = false ∧ HeldL w [(w.heap.size, #[S o.i, S o.f, .int .i64 o.e])] wr) (fun i _ => us.length - (intOf i).toNat)
      case atStart => exact ⟨0, Nat.zero_le _, rfl, rfl, HH.out⟩
      case round =>
        obtain ⟨k, hk, rfl, hany, hbb⟩ := hrel
        have HAN := Lib.hid hany
        have HH2 := Lib.hid hbb
        have o0 : wr.cell? ⟨w.heap.size, 0, none⟩ = some (S o.i) := (hbb.f (List.Mem.head _)).cell 0
        have o1 : wr.cell? ⟨w.heap.size, 1, none⟩ = some (S o.f) := (hbb.f (List.Mem.head _)).cell 1
        have o2 : wr.cell? ⟨w.heap.size, 2, none⟩ = some (.int .i64 o.e) := (hbb.f (List.Mem.head _)).cell 2
        have ol : w.heap.size < wr.heap.size := (hbb.f (List.Mem.head _)).lt
        clear hany hbb HH
        by_cases hlt : k < us.length
        · have hlti : (k : Int) < (us.length : Int) := by omega
          obtain ⟨xk, hxk⟩ : ∃ xk, us[k] = xk := ⟨_, rfl⟩
          obtain ⟨c3, hA, hc⟩ := ListAt.get2 (sz := 3) (fun x c h => by obtain ⟨u, rfl, _⟩ := h; rfl) HL.out k hlt
          rw [hxk] at hA
          have hmem : xk ∈ us := by rw [← hxk]; exact List.getElem_mem hlt
          have HXK : Hid (us[k]? = some xk) := Lib.hid (by rw [List.getElem?_eq_getElem hlt, hxk])
          clear hxk
          obtain ⟨u, rfl, hrg⟩ := hA
          have HRG := Lib.hid hrg
          obtain ⟨csx, hox, hlx⟩ := hrg
          obtain ⟨sa, sn, sc, hsv⟩ := own_slice hox
          subst hsv
          clear hox hlx
          have e0 : wr.cell? ⟨g, k * 3, none⟩ = some (.int .i64 ((xk.cat : Nat) : Int)) := by rw [HH2.out.bel.cell (show g < _ from hgl), HO.out.cellAt _ (by omega), show cs[k * 3]? = _ from hc 0 (by decide)]; rfl
          have e1 : wr.cell? ⟨g, k * 3 + 1, none⟩ = some (.slice sa sn sc) := by rw [HH2.out.bel.cell (show g < _ from hgl), HO.out.cellAt _ (by omega), show cs[k * 3 + 1]? = _ from hc 1 (by decide)]; rfl
          have e2 : wr.cell? ⟨g, k * 3 + 2, none⟩ = some (S xk.smp) := by rw [HH2.out.bel.cell (show g < _ from hgl), HO.out.cellAt _ (by omega), show cs[k * 3 + 2]? = _ from hc 2 (by decide)]; rfl
          clear hc
          have hk3 : (0 : Int) ≤ (k : Int) := by omega
          have hkc : (k : Int) < (cap : Int) := by omega
          have glr : g < wr.heap.size := Nat.lt_of_lt_of_le hgl HH2.out.bel.size
          have HH3 := Lib.hid (HeldL.skip HH2.out (.cells #[.int .i64 ((xk.cat : Nat) : Int), .slice sa sn sc, S xk.smp] 39))
          by_cases hct : xk.cat = c
          · subst hct
            cases hh : meetsP xk o with
            | true =>
              have HE := Lib.hid hh
              clear hh
              go_wp2_with fail
              with_reducible refine (meets_as xk (.slice sa sn sc) 0 o _ hB (HT.out.below HH3.out.bel) (HX.out xk hmem) (CondAt.kept HRG.out (grown_of_below HH3.out.bel none) (Apart.none _ _)) true HE.out).mono ?_
              rintro x w3 ⟨rfl, hb⟩
              have HH4 := Lib.hid (HeldL.keep HH3.out hb)
              clear hb
              have HRR : Hid (r = xk.cat) := Lib.hid (by rw [← HR.out]; exact pick_at hcl HNO.out (evany_yes hmem (by rw [HE.out]; simp)))
              go_wp2
              go_ret
              exact ⟨by rw [HRR.out]; rfl, HH4.out.bel⟩
            | false =>
              have HE := Lib.hid hh
              clear hh
              go_wp2_with fail
              with_reducible refine (meets_as xk (.slice sa sn sc) 0 o _ hB (HT.out.below HH3.out.bel) (HX.out xk hmem) (CondAt.kept HRG.out (grown_of_below HH3.out.bel none) (Apart.none _ _)) false HE.out).mono ?_
              rintro x w3 ⟨rfl, hb⟩
              have HH4 := Lib.hid (HeldL.keep HH3.out hb)
              clear hb
              go_wp2
              go_roundw
              case rel => exact ⟨k + 1, by omega, by go_num, tkn_any HAN.out HXK.out (by rw [HE.out]; simp), HH4.out⟩
              case measure => simp [intOf]; omega
          · have hcti : ¬ (xk.cat : Int) = (c : Int) := by omega
            have hctb : ((xk.cat : Int) == (c : Int)) = false := by simpa using hcti
            go_wp2
            go_roundw
            case rel => exact ⟨k + 1, by omega, by go_num, tkn_any HAN.out HXK.out (by simp [hct]), HH3.out⟩
            case measure => simp [intOf]; omega
        · obtain rfl : k = us.length := by omega
          have hlti : ¬ (us.length : Int) < (us.length : Int) := by omega
          have HNX : Hid ((us.any fun u => u.cat == c && meetsP u o) = false) := Lib.hid (by have h := HAN.out; rw [List.take_length] at h; exact h)
          go_wp2
          go_roundw
          case rel => exact ⟨c + 1, by omega, by go_num, fun d hd => by rcases Nat.lt_succ_iff_lt_or_eq.1 hd with h | h; exact HNO.out d h; rw [h]; exact HNX.out, HH2.out⟩
          case measure => simp [intOf]; omega
    · obtain rfl : c = 5 := by omega
      have HRR : Hid (r = 5) := Lib.hid (by rw [← HR.out]; exact pick_none HNO.out)
      go_wp2
      go_ret
      exact ⟨by rw [HRR.out]; rfl, HH.out.bel⟩

set_option maxRecDepth 100000 in
set_option maxHeartbeats 3200000 in
theorem pick_nil (o : Og) (w : World) (hB : OgB o) (ht : Tab w) :
    Calls Tryz.prog 24 #[.slice none 0 0, OV o] w fun z w' => z = .returned (.int .i64 5) ∧ Below w.heap.size w w' := by
  clear ht
  go_enter Tryz.func24, Tryz.ntmps24
  go_wp2_with fail
  go_loopw [5, 8] (fun u5 i wr => ∃ c : Nat, c ≤ 5 ∧ i = .int .i64 c ∧ Below w.heap.size w wr) (fun _ i _ => 5 - (intOf i).toNat)
  case atStart => exact ⟨0, Nat.zero_le _, rfl, Below.alloc (Below.refl _ _) (Nat.le_refl _) _⟩
  case round =>
    obtain ⟨c, hc5, rfl, hbb⟩ := hrel
    have HH := Lib.hid hbb
    clear hbb
    by_cases hcl : c < 5
    · have hcli : (c : Int) < 5 := by omega
      go_wp2_with fail
      go_loopw [13] (fun i wr => i = .int .i64 0 ∧ Below w.heap.size w wr) (fun _ _ => 0)
      case atStart => exact ⟨rfl, HH.out⟩
      case round =>
        obtain ⟨rfl, hbb⟩ := hrel
        have HH2 := Lib.hid hbb
        clear hbb
        go_wp2
        go_roundw
        case rel => exact ⟨c + 1, by omega, by go_num, HH2.out⟩
        case measure => simp [intOf]; omega
    · obtain rfl : c = 5 := by omega
      go_wp2
      go_ret
      exact ⟨rfl, HH.out⟩

theorem pick_as (us : List RuleT) (v : Value) (base : Nat) (o : Og) (w : World) (hB : OgB o) (ht : Tab w) (hx : ∀ u ∈ us, RuleB u) (hv : RulesAt w base us v) (r : Nat) (hr : pickP us o = r) :
    Calls Tryz.prog 24 #[v, OV o] w fun z w' => z = .returned (.int .i64 ((r : Nat) : Int)) ∧ Below w.heap.size w w' := by
  obtain ⟨cs, ho, hl⟩ := hv
  rcases ho.2 with ⟨hv0, h0⟩ | ⟨g, cap, cur, hv0, _, _, hcap, hcm, _⟩
  · subst hv0 hr
    rw [List.eq_nil_of_length_eq_zero h0]
    exact pick_nil o w hB ht
  · subst hv0
    exact pick_row us g cap base cs o w hB ht hx ho hl hcap hcm r hr
end Go.Proofs.YtkjhdehpcanciaaGreatDoor
