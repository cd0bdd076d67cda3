/- Builders that are written to; sets of signs: what they write. -/
import Derived.Test.YtcdjclidckohpaaDoorGlC
import Derived.Test.YtcdjclidckohpaaDoorNumA
namespace Go.Proofs.YtcdjclidckohpaaDoor
open Go.RowKit Florin
set_option linter.unusedVariables false
set_option linter.unusedSimpArgs false
set_option maxHeartbeats 1000000 in
set_option maxRecDepth 100000 in
theorem check_fresh (b : Nat) (w : World) (h0 : w.cell? ⟨b, 0, none⟩ = some (.pointer none)) (hsh : w.shape? b = some (TB, 2)) (hfz : w.frozen? ⟨b, 0, none⟩ = false) :
    Calls Tryd.prog 36 #[.pointer (some ⟨b, 0, none⟩)] w fun e w' => e = .returned (.tuple #[]) ∧ w' = w.setCell ⟨b, 0, none⟩ (.pointer (some ⟨b, 0, none⟩)) := by
  obtain ⟨j, hj, hjs⟩ := Option.map_eq_some_iff.1 sizeB
  go_enter Tryd.func36, Tryd.ntmps36
  go_wp2
  rw [Lib.run_to_unsafe w ⟨b, 0, none⟩ Tryd.underlying49 Tryd.underlying69 hj (by rw [hjs]; decide) hsh (Nat.zero_lt_succ 1)]
  simp only [Result.andThen]
  rw [Oper.upon_value]
  go_wp2
  rw [run_callFunc_extern Tryd.func39 (by kernel_rfl) (by kernel_rfl) (by kernel_rfl) (e := Extern.AbiNoEscape.same) (by kernel_rfl)]
  rw [Lib.run_noEscape]
  simp only [Result.andThen]
  rw [Oper.upon_value]
  go_wp2
  rw [Lib.run_from_unsafe w ⟨b, 0, none⟩ Tryd.underlying69 Tryd.underlying49 hj hsh liesB]
  simp only [Result.andThen]
  rw [Oper.upon_value]
  go_wp2
  go_end0
  exact ⟨rfl, rfl⟩
theorem check_as (B b : Nat) (bs : List Value) (w : World) (h : Lib.IsBuilder TB 5 B b bs w) :
    Calls Tryd.prog 36 #[.pointer (some ⟨b, 0, none⟩)] w fun e w' => e = .returned (.tuple #[]) ∧ (Lib.BuilderAt TB 5 B b (.pointer (some ⟨b, 0, none⟩)) bs w' ∧ Below B w w') := by
  rcases h with h | h
  · refine (check_fresh b w h.cell0 h.shape h.frozen0).mono ?_
    rintro e w' ⟨rfl, rfl⟩
    exact ⟨rfl, h.used _, (Below.refl B w).setCell (p := ⟨b, 0, none⟩) h.1 _⟩
  · refine (check_used b w h.cell0).mono ?_
    rintro e w' ⟨rfl, rfl⟩
    exact ⟨rfl, h, Below.refl B _⟩
set_option maxHeartbeats 2000000 in
set_option maxRecDepth 100000 in
theorem wstr_as (B b : Nat) (bs : List Value) (s : ByteArray) (w : World) (h : Lib.IsBuilder TB 5 B b bs w) (hlen : bs.length + s.size ≤ 140737488355328) (hBw : B ≤ w.heap.size) :
    Calls Tryd.prog 29 #[.pointer (some ⟨b, 0, none⟩), .string s] w fun e w' => e = .returned (.tuple #[.int .i64 s.size, .nilIface]) ∧ (Lib.BuilderAt TB 5 B b (.pointer (some ⟨b, 0, none⟩)) (bs ++ Lib.strCells s) w' ∧ Below B w w') := by
  obtain ⟨i0, hi, hz0, hz1, hz2⟩ := info_parts infoB
  go_enter Tryd.func29, Tryd.ntmps29
  go_wp2_with fail
  with_reducible refine (check_as B b bs _ h).mono ?_
  rintro e w1 ⟨rfl, h1, hb1⟩
  obtain ⟨hB, v, hbk, hown, hne⟩ := h1
  have c0 : w1.cell? ⟨b, 0, none⟩ = some (.pointer (some ⟨b, 0, none⟩)) := by rw [Lib.cell_of_heap hbk]; rfl
  have c1 : w1.cell? ⟨b, 1, none⟩ = some v := by rw [Lib.cell_of_heap hbk]; rfl
  go_wp2_with (at_builtin; refine Lib.wpList_append_own_string _ rfl _ _ 31 9 rfl B 5 i0 Tryd.underlying31 Tryd.underlying9 hi hz0 hz1 hz2 _ _ _ rfl hown s rfl ?c3 ?c4 ?c5 ?_)
  case c3 => unfold maxLen; omega
  case c4 => omega
  case c5 => have := hb1.size; omega
  intro v' w2 hown' hgrow _
  have hlt : b < w1.heap.size := by
    rcases Nat.lt_or_ge b w1.heap.size with h' | h'
    · exact h'
    · simp [Array.getElem?_eq_none h'] at hbk
  have hb2 : w2.heap[b]? = some (.cells #[.pointer (some ⟨b, 0, none⟩), v] TB (0, 0)) := by
    rw [hgrow.block b hlt (fun e => hne e.symm)]
    exact hbk
  have d0 : w2.cell? ⟨b, 0, none⟩ = some (.pointer (some ⟨b, 0, none⟩)) := by rw [Lib.cell_of_heap hb2]; rfl
  have d1 : w2.cell? ⟨b, 1, none⟩ = some v := by rw [Lib.cell_of_heap hb2]; rfl
  have f1 : w2.frozen? ⟨b, 1, none⟩ = false := Lib.frozen_of_heap hb2 1
  obtain ⟨ao, n', cap, rfl⟩ : ∃ ao n' cap, v' = .slice ao n' cap := by
    rcases hown'.2 with ⟨hv, _⟩ | ⟨g, cap, cur, hv, _⟩
    · exact ⟨_, _, _, hv⟩
    · exact ⟨_, _, _, hv⟩
  go_wp2
  go_ret2
  refine ⟨rfl, ?_, ?_⟩
  · exact Lib.BuilderAt.put (T := TB) (e := 5) hB hb2 (bs' := bs ++ Lib.strCells s) (by simpa [Lib.strCells_length] using hown') (by decide)
  · exact (hb1.grown hgrow (by have := hb1.size; omega) (fun k hk => (hown.lt k hk).1)).setCell (p := ⟨b, 1, none⟩) hB _
/-- A set of signs, as a value and in memory. -/
abbrev SV (g : Nat → ByteArray) : Value := .agg #[.string (g 0), .string (g 1), .string (g 2), .string (g 3), .string (g 4), .string (g 5), .string (g 6), .string (g 7), .string (g 8), .string (g 9)]
abbrev SC (g : Nat → ByteArray) : Array Value := #[.string (g 0), .string (g 1), .string (g 2), .string (g 3), .string (g 4), .string (g 5), .string (g 6), .string (g 7), .string (g 8), .string (g 9)]
def Gs (w : World) (b : Nat) (g : Nat → ByteArray) : Prop := b < w.heap.size ∧ ∀ k, k < 10 → w.cell? ⟨b, k, none⟩ = some (.string (g k))
theorem Gs.below {w w' : World} {b B : Nat} {g : Nat → ByteArray} (h : Gs w b g) (hB : b < B) (hb : Below B w w') (hs : w.heap.size ≤ w'.heap.size) : Gs w' b g :=
  ⟨Nat.lt_of_lt_of_le h.1 hs, fun k hk => (hb.cell (p := ⟨b, k, none⟩) hB).trans (h.2 k hk)⟩
theorem Gs.new (w : World) (g : Nat → ByteArray) (t : TypeId) : Gs (w.alloc (.cells (SC g) t)) w.heap.size g := by
  refine ⟨by simp, fun k hk => ?_⟩
  rw [Lib.cell_of_heap (heap_alloc_new w _) k]
  match k, hk with
  | 0, _ => rfl
  | 1, _ => rfl
  | 2, _ => rfl
  | 3, _ => rfl
  | 4, _ => rfl
  | 5, _ => rfl
  | 6, _ => rfl
  | 7, _ => rfl
  | 8, _ => rfl
  | 9, _ => rfl
/-- What digits are written as. -/
def wrL (g : Nat → ByteArray) (l : List UInt8) : List UInt8 := l.flatMap fun c => (g (c.toNat - 48)).data.toList
theorem wrL_snoc (g : Nat → ByteArray) (l : List UInt8) (c : UInt8) : wrL g (l ++ [c]) = wrL g l ++ (g (c.toNat - 48)).data.toList := by simp [wrL]
theorem wrL_append (g : Nat → ByteArray) (l m : List UInt8) : wrL g (l ++ m) = wrL g l ++ wrL g m := by simp [wrL]
theorem wrL_len (g : Nat → ByteArray) (M : Nat) (hg : ∀ k, (g k).size ≤ M) : ∀ l : List UInt8, (wrL g l).length ≤ l.length * M
  | [] => by simp [wrL]
  | c :: t => by
    have := wrL_len g M hg t
    have h2 := hg (c.toNat - 48)
    rw [show c :: t = [c] ++ t from rfl, wrL_append, List.length_append, show wrL g [c] = (g (c.toNat - 48)).data.toList by simp [wrL], size_list, List.length_append, Nat.add_mul]
    simp
    omega
set_option maxHeartbeats 1600000 in
set_option maxRecDepth 100000 in
theorem write_no (g : Nat → ByteArray) (d : ByteArray) (w : World) (hd : d.size ≤ 1000) (hi : isDig d.data.toList = false) :
    Calls Tryd.prog 18 #[SV g, .string d] w fun e w' => e = .returned (S []) ∧ Below w.heap.size w w' := by
  have HI := Lib.hid hi
  clear hi
  go_enter Tryd.func18, Tryd.ntmps18
  go_wp2_with fail
  with_reducible refine (is_any d _ (by unfold maxLen; omega)).mono ?_
  rintro e w1 ⟨rfl, rfl⟩
  rw [HI.out]
  go_wp2
  go_ret
  exact ⟨rfl, (Below.refl _ _).alloc (Nat.le_refl _) _⟩
theorem isDig_get {d : ByteArray} (h : isDig d.data.toList = true) (k : Nat) (hk : k < d.size) : 48 ≤ d[k].toNat ∧ d[k].toNat ≤ 57 := by
  unfold isDig at h
  have := List.all_eq_true.1 h d[k] (by rw [ByteArray.getElem_eq_getElem_data]; simp)
  have h2 := (isD_iff _).1 this
  omega
set_option maxHeartbeats 1600000 in
set_option maxRecDepth 100000 in
theorem write_as (g : Nat → ByteArray) (d : ByteArray) (w : World) (hd : d.size ≤ 1000) (hg : ∀ k, (g k).size ≤ 1000) (hi : isDig d.data.toList = true) :
    Calls Tryd.prog 18 #[SV g, .string d] w fun e w' => e = .returned (S (wrL g d.data.toList)) ∧ Below w.heap.size w w' := by
  have HI := Lib.hid hi
  have HG := Lib.hid hg
  clear hi hg
  go_enter Tryd.func18, Tryd.ntmps18
  go_wp2_with fail
  with_reducible refine (is_any d _ (by unfold maxLen; omega)).mono ?_
  rintro e w1 ⟨rfl, rfl⟩
  rw [HI.out]
  go_wp2_with fail
  go_loopw [12] (fun i wr => ∃ k : Nat, k ≤ d.size ∧ i = .int .i64 k ∧ Gs wr w.heap.size g ∧ Lib.IsBuilder TB 5 (w.heap.size + 1) (w.heap.size + 1) (Lib.byteCells (wrL g (d.data.toList.take k))) wr ∧ w.heap.size + 2 ≤ wr.heap.size ∧ Below w.heap.size w wr) (fun i _ => d.size - (intOf i).toNat)
  case atStart =>
    refine ⟨0, Nat.zero_le _, rfl, ?_, ?_, by simp, ?_⟩
    · exact (Gs.new w g 33).below (B := w.heap.size + 1) (by omega) ((Below.refl _ _).alloc (by simp) _) (by simp)
    · have := Lib.fresh_isBuilder TB 5 (w.alloc (.cells (SC g) 33))
      simpa [wrL, Lib.byteCells] using this
    · exact ((Below.refl _ _).alloc (Nat.le_refl _) _).alloc (by simp) _
  case round =>
    obtain ⟨k, hk, rfl, hgs, hbd, hsz, hb⟩ := hrel
    by_cases hlt : k < d.size
    · have hdk := isDig_get HI.out k hlt
      have hcell := hgs.2 (d[k].toNat - 48) (by omega)
      have e48 : ((d[k].toNat : Int) - 48) % 256 = ((d[k].toNat - 48 : Nat) : Int) := by omega
      have e49 : (d[k].toNat : Int) - 48 = ((d[k].toNat - 48 : Nat) : Int) := by omega
      have HBD := Lib.hid hbd
      have HGS := Lib.hid hgs
      have HB := Lib.hid hb
      have HTK := Lib.hid (take_snoc d k hlt)
      have hl48 : d[k].toNat - 48 < 10 := by omega
      clear hbd hgs hb hdk
      go_wp2_with fail
      with_reducible refine (wstr_as (w.heap.size + 1) _ _ _ _ HBD.out (by
        rw [Lib.byteCells_length]
        have h1 := wrL_len g 1000 HG.out (d.data.toList.take k)
        have h2 := HG.out (d[k].toNat - 48)
        have h3 := List.length_take_le k d.data.toList
        have h4 := Nat.mul_le_mul_right 1000 h3
        omega) (by omega)).mono ?_
      rintro e w1 ⟨rfl, hbd1, hb1⟩
      have HB1 := Lib.hid hb1
      have HBD1 : Hid (Lib.IsBuilder TB 5 (w.heap.size + 1) (w.heap.size + 1) (Lib.byteCells (wrL g (d.data.toList.take (k + 1)))) w1) := Lib.hid (.inr (by
        rw [HTK.out, wrL_snoc, Lib.byteCells_append]
        exact hbd1))
      clear hb1 hbd1
      go_wp2
      go_roundw
      case rel =>
        have hs := HB1.out.size
        exact ⟨k + 1, by omega, by go_num, HGS.out.below (B := w.heap.size + 1) (by omega) HB1.out (by omega), HBD1.out, by omega, HB.out.trans (HB1.out.mono (by omega))⟩
      case measure => simp [intOf]; omega
    · have HTK : Hid (d.data.toList.take k = d.data.toList) := Lib.hid (take_all d k (by omega))
      have HBD := Lib.hid hbd
      have HB := Lib.hid hb
      clear hbd hgs hb
      go_wp2_with fail
      with_reducible refine (Tryd.Builder_String_any _ _ _ _ HBD.out (by omega)).mono ?_
      rintro e w1 ⟨rfl, hb1⟩
      rw [HTK.out]
      go_wp2
      go_ret
      exact ⟨rfl, HB.out.trans (hb1.mono (by omega))⟩
/-- The digit with whose sign a text begins. -/
def hitG (g : Nat → ByteArray) (l : List UInt8) (d : Nat) : Bool := !(g d).data.toList.isEmpty && (g d).data.toList.isPrefixOf l
def oneG (g : Nat → ByteArray) (l : List UInt8) : Option Nat := (List.range 10).find? (hitG g l)
def oneV (g : Nat → ByteArray) (l : List UInt8) : Value := match oneG g l with
  | some d => .tuple #[.int .i64 (d : Int), .int .i64 ((g d).size : Int)]
  | none => .tuple #[.int .i64 (-1), .int .i64 0]
theorem oneG_at {g : Nat → ByteArray} {l : List UInt8} {k : Nat} (hk : k < 10) (h : ∀ j, j < k → hitG g l j = false) (hh : hitG g l k = true) : oneG g l = some k := by
  unfold oneG
  rw [List.find?_range_eq_some]
  exact ⟨hh, by simpa using hk, fun j hj => by simpa using h j hj⟩
theorem oneG_no {g : Nat → ByteArray} {l : List UInt8} (h : ∀ j, j < 10 → hitG g l j = false) : oneG g l = none := by
  unfold oneG
  rw [List.find?_eq_none]
  intro x hx
  rw [h x (List.mem_range.1 hx)]
  decide
theorem oneV_no {g : Nat → ByteArray} {l : List UInt8} (h : oneG g l = none) : oneV g l = .tuple #[.int .i64 (-1), .int .i64 0] := by unfold oneV; rw [h]
theorem oneV_at {g : Nat → ByteArray} {l : List UInt8} {k : Nat} (h : oneG g l = some k) : oneV g l = .tuple #[.int .i64 (k : Int), .int .i64 ((g k).size : Int)] := by unfold oneV; rw [h]
theorem emp_iff (s : ByteArray) : s.toList.isEmpty = s.data.toList.isEmpty := by rw [ByteArray.toList_eq]
set_option maxHeartbeats 1600000 in
set_option maxRecDepth 100000 in
theorem gone_as (g : Nat → ByteArray) (s : ByteArray) (w : World) (hg : ∀ k, (g k).size ≤ 1000) (v : Value) (hv : oneV g s.data.toList = v) :
    Calls Tryd.prog 20 #[SV g, .string s] w fun e w' => e = .returned v ∧ Below w.heap.size w w' := by
  have HV := Lib.hid hv
  have HG := Lib.hid hg
  clear hv hg
  go_enter Tryd.func20, Tryd.ntmps20
  go_wp2_with fail
  go_loopw [7] (fun i wr => ∃ k : Nat, k ≤ 10 ∧ i = .int .i64 k ∧ Gs wr w.heap.size g ∧ (∀ j, j < k → hitG g s.data.toList j = false) ∧ Below w.heap.size w wr) (fun i _ => 10 - (intOf i).toNat)
  case atStart => exact ⟨0, Nat.zero_le _, rfl, Gs.new w g 33, fun j hj => absurd hj (by omega), (Below.refl _ _).alloc (Nat.le_refl _) _⟩
  case round =>
    obtain ⟨k, hk, rfl, hgs, hj, hb⟩ := hrel
    have HGS := Lib.hid hgs
    have HJ := Lib.hid hj
    have HB := Lib.hid hb
    clear hj hb
    by_cases hlt : (k : Int) < 10
    · have hcell := hgs.2 k (by omega)
      clear hgs
      by_cases he : (g k).toList.isEmpty = true
      · have HH : Hid (hitG g s.data.toList k = false) := Lib.hid (by unfold hitG; rw [← emp_iff, he]; rfl)
        go_wp2_with fail
        exact ⟨⟨k + 1, by omega, by go_num, HGS.out, fun j hj => by
          rcases Nat.lt_or_ge j k with h | h
          · exact HJ.out j h
          · obtain rfl : j = k := by omega
            exact HH.out, HB.out⟩, by simp [intOf]; omega⟩
      · have he2 : (g k).toList.isEmpty = false := by simpa using he
        go_wp2_with fail
        with_reducible refine (Tryd.strings_HasPrefix s (g k) _).mono ?_
        rintro e w1 ⟨rfl, rfl⟩
        cases hp : Lib.hasPrefix s.data.toList (g k).data.toList with
        | true =>
          have HH : Hid (hitG g s.data.toList k = true) := Lib.hid (by unfold hitG; rw [← emp_iff, he2]; exact hp)
          clear hp
          go_wp2_with fail
          go_region
          all_goals (try go_wp2)
          all_goals go_ret2
          all_goals exact ⟨congrArg Ending.returned ((oneV_at (oneG_at (by omega) HJ.out HH.out)).symm.trans HV.out), HB.out.drew⟩
        | false =>
          have HH : Hid (hitG g s.data.toList k = false) := Lib.hid (by unfold hitG; rw [← emp_iff, he2]; exact hp)
          clear hp
          go_wp2_with fail
          exact ⟨⟨k + 1, by omega, by go_num, HGS.out, fun j hj => by
            rcases Nat.lt_or_ge j k with h | h
            · exact HJ.out j h
            · obtain rfl : j = k := by omega
              exact HH.out, HB.out⟩, by simp [intOf]; omega⟩
    · clear hgs
      go_wp2
      go_ret2
      exact ⟨congrArg Ending.returned ((oneV_no (oneG_no (fun j hj2 => HJ.out j (by omega)))).symm.trans HV.out), HB.out⟩
end Go.Proofs.YtcdjclidckohpaaDoor
