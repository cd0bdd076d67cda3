/- Ranges as the law writes them. -/
import Derived.Test.YtbfhkcljkblnmaaDoorCrV
import Derived.Test.YtbfhkcljkblnmaaDoorCrQ
namespace Go.Proofs.YtbfhkcljkblnmaaDoor
open Go.RowKit Florin
set_option linter.unusedVariables false
set_option linter.unusedSimpArgs false
attribute [local go_sem ↓] Go.wp_at_zero Go.wp_at_succ
/-- A pair that came in. -/
structure PairM where
  an : Int
  ak : Int
  bn : Int
  bk : Int
  two : Bool
  gap : Int
def pC (x : PairM) : Array Value := #[.int .i64 x.an, .int .i64 x.ak, .int .i64 x.bn, .int .i64 x.bk, .bool x.two, .int .i64 x.gap]
def InP (w : World) (v : Value) (ps : List PairM) : Prop :=
  ∃ a cap, v = .slice a ps.length cap ∧ (0 < ps.length → ∃ b off, a = some ⟨b, off, none⟩ ∧ b < w.heap.size ∧ ∀ k (h : k < ps.length) j, j < 6 → w.cell? ⟨b, off + k * 6 + j, none⟩ = (pC ps[k])[j]?)
theorem InP.below {w w' : World} {v : Value} {ps : List PairM} (h : InP w v ps) (hb : Below w.heap.size w w') : InP w' v ps := by
  obtain ⟨a, cap, h1, h2⟩ := h
  refine ⟨a, cap, h1, fun h0 => ?_⟩
  obtain ⟨b, off, e, hl, hc⟩ := h2 h0
  exact ⟨b, off, e, Nat.lt_of_lt_of_le hl hb.size, fun k hk j hj => (hb.cell (p := ⟨b, off + k * 6 + j, none⟩) hl).trans (hc k hk j hj)⟩
theorem txt_len {e : El} (h : e.ok) : e.txt.length ≤ 47 := by
  obtain ⟨h1, h2, h3, h4⟩ := h
  have q1 := h2.2.1
  have q2 := h3.2.1
  unfold El.txt
  split
  · simp; omega
  · simp; omega
theorem flatE_len : ∀ es : List El, (∀ e ∈ es, e.ok) → (es.flatMap El.txt).length ≤ 47 * es.length
  | [], _ => by simp
  | e :: t, h => by
    have h1 := txt_len (h e (List.mem_cons_self ..))
    have h2 := flatE_len t (fun z hz => h z (List.mem_cons_of_mem _ hz))
    rw [List.flatMap_cons, List.length_append, List.length_cons]
    omega
def preN (nt : Bool) : List UInt8 := if nt then [91, 94] else [91]
theorem es_snoc {es : List El} {e : El} (h : ∀ e ∈ es, e.ok) (he : e.ok) : ∀ z ∈ es ++ [e], z.ok := by
  intro z hz
  rcases List.mem_append.1 hz with hz | hz
  · exact h z hz
  · rw [List.mem_singleton.1 hz]; exact he
theorem b_ext {s t : ByteArray} (h : s.data.toList = t.data.toList) : s = t := by
  apply ByteArray.ext
  exact Array.toList_inj.1 h
set_option maxRecDepth 100000 in
set_option maxHeartbeats 25600000 in
theorem write_as (w : World) (v : Value) (ps : List PairM) (nt : Bool) (hin : InP w v ps) (hl : ps.length ≤ 20) :
    Calls Tryd.prog 22 #[v, .bool nt] w fun e w' => ∃ v' es, e = .returned (.tuple #[v', S (preN nt ++ txtE es)]) ∧ (∀ e ∈ es, e.ok) ∧ OwnC w' w.heap.size v' (es.map El.rng) ∧ es.length = ps.length ∧ Below w.heap.size w w' := by
  obtain ⟨i0, hi, hz0, hz1, hz2⟩ := info_parts infoC
  obtain ⟨a0, p0, rfl, h3⟩ := hin
  have H3 := Lib.hid h3
  clear h3
  have B0 := Lib.hid ((Below.refl w.heap.size w).alloc (Nat.le_refl _) (.cells #[] 28))
  have O0 : Hid (OwnC (w.alloc (.cells #[] 28)) w.heap.size (.slice (some ⟨w.heap.size, 0, none⟩) 0 0) (([] : List El).map El.rng)) := Lib.hid (World.ownsRow_lit w #[] 0 (Nat.le_refl _) (by unfold maxLen; omega) rfl)
  have hN : nt = nt := rfl
  cases nt with
  | false =>
    go_enter Tryd.func22, Tryd.ntmps22
    go_wp2_with fail
    go_loopw [6, 7, 21] (fun u s i wr => ∃ (k : Nat) (es : List El), k ≤ ps.length ∧ i = .int .i64 (k : Int) ∧ es.length = k ∧ (∀ e ∈ es, e.ok) ∧ s = S ([91] ++ es.flatMap El.txt) ∧ OwnC wr w.heap.size u (es.map El.rng) ∧ Below w.heap.size w wr) (fun _ _ i _ => ps.length - (intOf i).toNat)
    case atStart => exact ⟨0, [], Nat.zero_le _, rfl, rfl, (fun e h => by cases h), rfl, O0.out, B0.out⟩
    case round =>
      obtain ⟨k, es, hk, rfl, hes, hok, rfl, ho, hb⟩ := hrel
      have HES := Lib.hid hes
      have HOK := Lib.hid hok
      have HO := Lib.hid ho
      have HB := Lib.hid hb
      have hfl := flatE_len es hok
      rw [hes] at hfl
      have hml : (es.map El.rng).length = k := by rw [List.length_map, hes]
      clear hes hok ho hb
      obtain ⟨Q, hQ⟩ : ∃ Q, [91] ++ es.flatMap El.txt = Q := ⟨_, rfl⟩
      have hQl : Q.length ≤ 2000 := by rw [← hQ, List.length_append]; simp only [List.length_cons, List.length_nil]; omega
      have HQ := Lib.hid hQ
      rw [hQ]
      clear hQ hfl
      have hz := HB.out.size
      by_cases hlt : k < ps.length
      · have hki : (k : Int) < (ps.length : Int) := by omega
        obtain ⟨b0, off, rfl, hbl, hcell⟩ := H3.out (by omega)
        have C := fun j hj => (HB.out.cell (p := ⟨b0, off + k * 6 + j, none⟩) hbl).trans (hcell k hlt j hj)
        obtain ⟨⟨an, ak, bn, bk, two, gap⟩, hx⟩ : ∃ z, ps[k] = z := ⟨_, rfl⟩
        rw [hx] at C
        have c0 : wr.cell? ⟨b0, off + k * 6, none⟩ = some (.int .i64 an) := C 0 (by decide)
        have c1 : wr.cell? ⟨b0, off + k * 6 + 1, none⟩ = some (.int .i64 ak) := C 1 (by decide)
        have c2 : wr.cell? ⟨b0, off + k * 6 + 2, none⟩ = some (.int .i64 bn) := C 2 (by decide)
        have c3 : wr.cell? ⟨b0, off + k * 6 + 3, none⟩ = some (.int .i64 bk) := C 3 (by decide)
        have c4 : wr.cell? ⟨b0, off + k * 6 + 4, none⟩ = some (.bool two) := C 4 (by decide)
        have c5 : wr.cell? ⟨b0, off + k * 6 + 5, none⟩ = some (.int .i64 gap) := C 5 (by decide)
        clear C hcell hx
        have XB := Lib.hid (((BoxT.new wr #[.int .i64 an, .int .i64 ak, .int .i64 bn, .int .i64 bk, .bool two, .int .i64 gap] 67)).alloc (.cells #[.string ⟨#[]⟩, .string ⟨#[32]⟩, .string ⟨#[32, 32]⟩, .string ⟨#[]⟩] 9))
        have BX := Lib.hid (((Below.refl wr.heap.size wr).alloc (Nat.le_refl _) (.cells #[.int .i64 an, .int .i64 ak, .int .i64 bn, .int .i64 bk, .bool two, .int .i64 gap] 67)).alloc (by simp) (.cells #[.string ⟨#[]⟩, .string ⟨#[32]⟩, .string ⟨#[32, 32]⟩, .string ⟨#[]⟩] 9))
        have OX : Hid (OwnC ((wr.alloc (.cells #[.int .i64 an, .int .i64 ak, .int .i64 bn, .int .i64 bk, .bool two, .int .i64 gap] 67)).alloc (.cells #[.string ⟨#[]⟩, .string ⟨#[32]⟩, .string ⟨#[32, 32]⟩, .string ⟨#[]⟩] 9)) w.heap.size u6 (es.map El.rng)) := Lib.hid ((HO.out.alloc _).alloc _)
        obtain ⟨kk, hkk, hand⟩ := and_mask9 gap 3 (by decide)
        rw [show ((3 : Nat) : Int) = 3 from rfl] at hand
        rcases (show kk = 0 ∨ kk = 1 ∨ kk = 2 ∨ kk = 3 by omega) with rfl | rfl | rfl | rfl
        · rw [show ((0 : Nat) : Int) = 0 from rfl] at hand
          clear hkk
          go_wp2_with fail
          with_reducible refine (one_as an ak _).mono ?_
          rintro e w4 ⟨a, x, rfl, hx, hb4⟩
          have L4 := Lib.hid (BX.out.trans (hb4.mono BX.out.size))
          have X4 := XB.out.below hb4
          have r2 := X4.cell 2
          have r3 := X4.cell 3
          have rl := X4.lt
          simp at r2 r3
          have O4 := Lib.hid (OX.out.below hb4)
          go_wp2_with fail
          with_reducible refine (one_as bn bk _).mono ?_
          rintro e w5 ⟨b, y, rfl, hy, hb5⟩
          have L5 := Lib.hid (L4.out.trans (hb5.mono L4.out.size))
          have X5 := X4.below hb5
          have s4 := X5.cell 4
          have sl := X5.lt
          simp at s4
          have O5 := Lib.hid (O4.out.below hb5)
          have hat := hx.1
          have hbt := hy.1
          have hxl := hx.2.1
          have hyl := hy.2.1
          have HX := Lib.hid hx
          have HY := Lib.hid hy
          have hz5 := L5.out.size
          have B5 := Lib.hid (HB.out.trans (L5.out.mono hz))
          have hz6 := B5.out.size
          clear hx hy hb4 hb5 X4 r2 r3 rl
          by_cases hab : (b : Int) < (a : Int)
          · cases two with
            | false =>
              have EOK : Hid (El.ok ⟨0, y, x, false, b, a⟩) := Lib.hid ⟨(show 0 ≤ 2 by decide), HY.out, HX.out, by show (b : Nat) ≤ a; omega⟩
              go_wp2_with (at_builtin; refine wpList_append_own _ rfl _ _ 22 rfl w.heap.size 28 i0 (.agg #[.int .i32 0, .int .i32 0]) 2 8 Tryd.underlying22 hi hz0 hz1 hz2 rfl (by decide) _ _ _ rfl (O5.out.alloc _) ⟨w5.heap.size, 0, none⟩ 1 1 [.int .i32 (b : Int), .int .i32 (b : Int)] rfl rfl (lit_cells4 _ _ _ _ _ rfl) (by simp [Value.oneCell']) (by unfold maxLen; omega) (by omega) (by simp; omega) ?_; intro v8 w8 hown8 hgr8 _)
              have OW8 : Hid (OwnC w8 w.heap.size v8 ((es ++ [(⟨0, y, x, false, b, a⟩ : El)]).map El.rng)) := Lib.hid (by
                rw [List.map_append]
                show w8.ownsRow _ _ _ _ _ _
                rw [cC_append, List.length_append]
                exact hown8)
              have BE8 : Hid (Below w.heap.size w w8) := Lib.hid ((B5.out.alloc hz6 _).grown hgr8 (by simp; omega) (fun k hk => (O5.out.lt k hk).1))
              clear hown8 hgr8
              go_wp2
              go_roundw
              case rel => exact ⟨k + 1, es ++ [(⟨0, y, x, false, b, a⟩ : El)], by omega, by go_num, by rw [List.length_append, HES.out]; rfl, es_snoc HOK.out EOK.out, by rw [List.flatMap_append, ← List.append_assoc, HQ.out]; exact congrArg Value.string (b_ext (by simp [El.txt, ByteArray.data_append])), OW8.out, BE8.out⟩
              case measure => simp [intOf]; omega
            | true =>
              have EOK : Hid (El.ok ⟨0, y, x, true, b, a⟩) := Lib.hid ⟨(show 0 ≤ 2 by decide), HY.out, HX.out, by show (b : Nat) ≤ a; omega⟩
              go_wp2_with (at_builtin; refine wpList_append_own _ rfl _ _ 22 rfl w.heap.size 28 i0 (.agg #[.int .i32 0, .int .i32 0]) 2 8 Tryd.underlying22 hi hz0 hz1 hz2 rfl (by decide) _ _ _ rfl (O5.out.alloc _) ⟨w5.heap.size, 0, none⟩ 1 1 [.int .i32 (b : Int), .int .i32 (a : Int)] rfl rfl (lit_cells4 _ _ _ _ _ rfl) (by simp [Value.oneCell']) (by unfold maxLen; omega) (by omega) (by simp; omega) ?_; intro v8 w8 hown8 hgr8 _)
              have OW8 : Hid (OwnC w8 w.heap.size v8 ((es ++ [(⟨0, y, x, true, b, a⟩ : El)]).map El.rng)) := Lib.hid (by
                rw [List.map_append]
                show w8.ownsRow _ _ _ _ _ _
                rw [cC_append, List.length_append]
                exact hown8)
              have BE8 : Hid (Below w.heap.size w w8) := Lib.hid ((B5.out.alloc hz6 _).grown hgr8 (by simp; omega) (fun k hk => (O5.out.lt k hk).1))
              clear hown8 hgr8
              go_wp2
              go_roundw
              case rel => exact ⟨k + 1, es ++ [(⟨0, y, x, true, b, a⟩ : El)], by omega, by go_num, by rw [List.length_append, HES.out]; rfl, es_snoc HOK.out EOK.out, by rw [List.flatMap_append, ← List.append_assoc, HQ.out]; exact congrArg Value.string (b_ext (by simp [El.txt, ByteArray.data_append])), OW8.out, BE8.out⟩
              case measure => simp [intOf]; omega
          · cases two with
            | false =>
              have EOK : Hid (El.ok ⟨0, x, y, false, a, b⟩) := Lib.hid ⟨(show 0 ≤ 2 by decide), HX.out, HY.out, by show (a : Nat) ≤ b; omega⟩
              go_wp2_with (at_builtin; refine wpList_append_own _ rfl _ _ 22 rfl w.heap.size 28 i0 (.agg #[.int .i32 0, .int .i32 0]) 2 8 Tryd.underlying22 hi hz0 hz1 hz2 rfl (by decide) _ _ _ rfl (O5.out.alloc _) ⟨w5.heap.size, 0, none⟩ 1 1 [.int .i32 (a : Int), .int .i32 (a : Int)] rfl rfl (lit_cells4 _ _ _ _ _ rfl) (by simp [Value.oneCell']) (by unfold maxLen; omega) (by omega) (by simp; omega) ?_; intro v8 w8 hown8 hgr8 _)
              have OW8 : Hid (OwnC w8 w.heap.size v8 ((es ++ [(⟨0, x, y, false, a, b⟩ : El)]).map El.rng)) := Lib.hid (by
                rw [List.map_append]
                show w8.ownsRow _ _ _ _ _ _
                rw [cC_append, List.length_append]
                exact hown8)
              have BE8 : Hid (Below w.heap.size w w8) := Lib.hid ((B5.out.alloc hz6 _).grown hgr8 (by simp; omega) (fun k hk => (O5.out.lt k hk).1))
              clear hown8 hgr8
              go_wp2
              go_roundw
              case rel => exact ⟨k + 1, es ++ [(⟨0, x, y, false, a, b⟩ : El)], by omega, by go_num, by rw [List.length_append, HES.out]; rfl, es_snoc HOK.out EOK.out, by rw [List.flatMap_append, ← List.append_assoc, HQ.out]; exact congrArg Value.string (b_ext (by simp [El.txt, ByteArray.data_append])), OW8.out, BE8.out⟩
              case measure => simp [intOf]; omega
            | true =>
              have EOK : Hid (El.ok ⟨0, x, y, true, a, b⟩) := Lib.hid ⟨(show 0 ≤ 2 by decide), HX.out, HY.out, by show (a : Nat) ≤ b; omega⟩
              go_wp2_with (at_builtin; refine wpList_append_own _ rfl _ _ 22 rfl w.heap.size 28 i0 (.agg #[.int .i32 0, .int .i32 0]) 2 8 Tryd.underlying22 hi hz0 hz1 hz2 rfl (by decide) _ _ _ rfl (O5.out.alloc _) ⟨w5.heap.size, 0, none⟩ 1 1 [.int .i32 (a : Int), .int .i32 (b : Int)] rfl rfl (lit_cells4 _ _ _ _ _ rfl) (by simp [Value.oneCell']) (by unfold maxLen; omega) (by omega) (by simp; omega) ?_; intro v8 w8 hown8 hgr8 _)
              have OW8 : Hid (OwnC w8 w.heap.size v8 ((es ++ [(⟨0, x, y, true, a, b⟩ : El)]).map El.rng)) := Lib.hid (by
                rw [List.map_append]
                show w8.ownsRow _ _ _ _ _ _
                rw [cC_append, List.length_append]
                exact hown8)
              have BE8 : Hid (Below w.heap.size w w8) := Lib.hid ((B5.out.alloc hz6 _).grown hgr8 (by simp; omega) (fun k hk => (O5.out.lt k hk).1))
              clear hown8 hgr8
              go_wp2
              go_roundw
              case rel => exact ⟨k + 1, es ++ [(⟨0, x, y, true, a, b⟩ : El)], by omega, by go_num, by rw [List.length_append, HES.out]; rfl, es_snoc HOK.out EOK.out, by rw [List.flatMap_append, ← List.append_assoc, HQ.out]; exact congrArg Value.string (b_ext (by simp [El.txt, ByteArray.data_append])), OW8.out, BE8.out⟩
              case measure => simp [intOf]; omega
        · rw [show ((1 : Nat) : Int) = 1 from rfl] at hand
          clear hkk
          go_wp2_with fail
          with_reducible refine (one_as an ak _).mono ?_
          rintro e w4 ⟨a, x, rfl, hx, hb4⟩
          have L4 := Lib.hid (BX.out.trans (hb4.mono BX.out.size))
          have X4 := XB.out.below hb4
          have r2 := X4.cell 2
          have r3 := X4.cell 3
          have rl := X4.lt
          simp at r2 r3
          have O4 := Lib.hid (OX.out.below hb4)
          go_wp2_with fail
          with_reducible refine (one_as bn bk _).mono ?_
          rintro e w5 ⟨b, y, rfl, hy, hb5⟩
          have L5 := Lib.hid (L4.out.trans (hb5.mono L4.out.size))
          have X5 := X4.below hb5
          have s4 := X5.cell 4
          have sl := X5.lt
          simp at s4
          have O5 := Lib.hid (O4.out.below hb5)
          have hat := hx.1
          have hbt := hy.1
          have hxl := hx.2.1
          have hyl := hy.2.1
          have HX := Lib.hid hx
          have HY := Lib.hid hy
          have hz5 := L5.out.size
          have B5 := Lib.hid (HB.out.trans (L5.out.mono hz))
          have hz6 := B5.out.size
          clear hx hy hb4 hb5 X4 r2 r3 rl
          by_cases hab : (b : Int) < (a : Int)
          · cases two with
            | false =>
              have EOK : Hid (El.ok ⟨1, y, x, false, b, a⟩) := Lib.hid ⟨(show 1 ≤ 2 by decide), HY.out, HX.out, by show (b : Nat) ≤ a; omega⟩
              go_wp2_with (at_builtin; refine wpList_append_own _ rfl _ _ 22 rfl w.heap.size 28 i0 (.agg #[.int .i32 0, .int .i32 0]) 2 8 Tryd.underlying22 hi hz0 hz1 hz2 rfl (by decide) _ _ _ rfl (O5.out.alloc _) ⟨w5.heap.size, 0, none⟩ 1 1 [.int .i32 (b : Int), .int .i32 (b : Int)] rfl rfl (lit_cells4 _ _ _ _ _ rfl) (by simp [Value.oneCell']) (by unfold maxLen; omega) (by omega) (by simp; omega) ?_; intro v8 w8 hown8 hgr8 _)
              have OW8 : Hid (OwnC w8 w.heap.size v8 ((es ++ [(⟨1, y, x, false, b, a⟩ : El)]).map El.rng)) := Lib.hid (by
                rw [List.map_append]
                show w8.ownsRow _ _ _ _ _ _
                rw [cC_append, List.length_append]
                exact hown8)
              have BE8 : Hid (Below w.heap.size w w8) := Lib.hid ((B5.out.alloc hz6 _).grown hgr8 (by simp; omega) (fun k hk => (O5.out.lt k hk).1))
              clear hown8 hgr8
              go_wp2
              go_roundw
              case rel => exact ⟨k + 1, es ++ [(⟨1, y, x, false, b, a⟩ : El)], by omega, by go_num, by rw [List.length_append, HES.out]; rfl, es_snoc HOK.out EOK.out, by rw [List.flatMap_append, ← List.append_assoc, HQ.out]; exact congrArg Value.string (b_ext (by simp [El.txt, ByteArray.data_append])), OW8.out, BE8.out⟩
              case measure => simp [intOf]; omega
            | true =>
              have EOK : Hid (El.ok ⟨1, y, x, true, b, a⟩) := Lib.hid ⟨(show 1 ≤ 2 by decide), HY.out, HX.out, by show (b : Nat) ≤ a; omega⟩
              go_wp2_with (at_builtin; refine wpList_append_own _ rfl _ _ 22 rfl w.heap.size 28 i0 (.agg #[.int .i32 0, .int .i32 0]) 2 8 Tryd.underlying22 hi hz0 hz1 hz2 rfl (by decide) _ _ _ rfl (O5.out.alloc _) ⟨w5.heap.size, 0, none⟩ 1 1 [.int .i32 (b : Int), .int .i32 (a : Int)] rfl rfl (lit_cells4 _ _ _ _ _ rfl) (by simp [Value.oneCell']) (by unfold maxLen; omega) (by omega) (by simp; omega) ?_; intro v8 w8 hown8 hgr8 _)
              have OW8 : Hid (OwnC w8 w.heap.size v8 ((es ++ [(⟨1, y, x, true, b, a⟩ : El)]).map El.rng)) := Lib.hid (by
                rw [List.map_append]
                show w8.ownsRow _ _ _ _ _ _
                rw [cC_append, List.length_append]
                exact hown8)
              have BE8 : Hid (Below w.heap.size w w8) := Lib.hid ((B5.out.alloc hz6 _).grown hgr8 (by simp; omega) (fun k hk => (O5.out.lt k hk).1))
              clear hown8 hgr8
              go_wp2
              go_roundw
              case rel => exact ⟨k + 1, es ++ [(⟨1, y, x, true, b, a⟩ : El)], by omega, by go_num, by rw [List.length_append, HES.out]; rfl, es_snoc HOK.out EOK.out, by rw [List.flatMap_append, ← List.append_assoc, HQ.out]; exact congrArg Value.string (b_ext (by simp [El.txt, ByteArray.data_append])), OW8.out, BE8.out⟩
              case measure => simp [intOf]; omega
          · cases two with
            | false =>
              have EOK : Hid (El.ok ⟨1, x, y, false, a, b⟩) := Lib.hid ⟨(show 1 ≤ 2 by decide), HX.out, HY.out, by show (a : Nat) ≤ b; omega⟩
              go_wp2_with (at_builtin; refine wpList_append_own _ rfl _ _ 22 rfl w.heap.size 28 i0 (.agg #[.int .i32 0, .int .i32 0]) 2 8 Tryd.underlying22 hi hz0 hz1 hz2 rfl (by decide) _ _ _ rfl (O5.out.alloc _) ⟨w5.heap.size, 0, none⟩ 1 1 [.int .i32 (a : Int), .int .i32 (a : Int)] rfl rfl (lit_cells4 _ _ _ _ _ rfl) (by simp [Value.oneCell']) (by unfold maxLen; omega) (by omega) (by simp; omega) ?_; intro v8 w8 hown8 hgr8 _)
              have OW8 : Hid (OwnC w8 w.heap.size v8 ((es ++ [(⟨1, x, y, false, a, b⟩ : El)]).map El.rng)) := Lib.hid (by
                rw [List.map_append]
                show w8.ownsRow _ _ _ _ _ _
                rw [cC_append, List.length_append]
                exact hown8)
              have BE8 : Hid (Below w.heap.size w w8) := Lib.hid ((B5.out.alloc hz6 _).grown hgr8 (by simp; omega) (fun k hk => (O5.out.lt k hk).1))
              clear hown8 hgr8
              go_wp2
              go_roundw
              case rel => exact ⟨k + 1, es ++ [(⟨1, x, y, false, a, b⟩ : El)], by omega, by go_num, by rw [List.length_append, HES.out]; rfl, es_snoc HOK.out EOK.out, by rw [List.flatMap_append, ← List.append_assoc, HQ.out]; exact congrArg Value.string (b_ext (by simp [El.txt, ByteArray.data_append])), OW8.out, BE8.out⟩
              case measure => simp [intOf]; omega
            | true =>
              have EOK : Hid (El.ok ⟨1, x, y, true, a, b⟩) := Lib.hid ⟨(show 1 ≤ 2 by decide), HX.out, HY.out, by show (a : Nat) ≤ b; omega⟩
              go_wp2_with (at_builtin; refine wpList_append_own _ rfl _ _ 22 rfl w.heap.size 28 i0 (.agg #[.int .i32 0, .int .i32 0]) 2 8 Tryd.underlying22 hi hz0 hz1 hz2 rfl (by decide) _ _ _ rfl (O5.out.alloc _) ⟨w5.heap.size, 0, none⟩ 1 1 [.int .i32 (a : Int), .int .i32 (b : Int)] rfl rfl (lit_cells4 _ _ _ _ _ rfl) (by simp [Value.oneCell']) (by unfold maxLen; omega) (by omega) (by simp; omega) ?_; intro v8 w8 hown8 hgr8 _)
              have OW8 : Hid (OwnC w8 w.heap.size v8 ((es ++ [(⟨1, x, y, true, a, b⟩ : El)]).map El.rng)) := Lib.hid (by
                rw [List.map_append]
                show w8.ownsRow _ _ _ _ _ _
                rw [cC_append, List.length_append]
                exact hown8)
              have BE8 : Hid (Below w.heap.size w w8) := Lib.hid ((B5.out.alloc hz6 _).grown hgr8 (by simp; omega) (fun k hk => (O5.out.lt k hk).1))
              clear hown8 hgr8
              go_wp2
              go_roundw
              case rel => exact ⟨k + 1, es ++ [(⟨1, x, y, true, a, b⟩ : El)], by omega, by go_num, by rw [List.length_append, HES.out]; rfl, es_snoc HOK.out EOK.out, by rw [List.flatMap_append, ← List.append_assoc, HQ.out]; exact congrArg Value.string (b_ext (by simp [El.txt, ByteArray.data_append])), OW8.out, BE8.out⟩
              case measure => simp [intOf]; omega
        · rw [show ((2 : Nat) : Int) = 2 from rfl] at hand
          clear hkk
          go_wp2_with fail
          with_reducible refine (one_as an ak _).mono ?_
          rintro e w4 ⟨a, x, rfl, hx, hb4⟩
          have L4 := Lib.hid (BX.out.trans (hb4.mono BX.out.size))
          have X4 := XB.out.below hb4
          have r2 := X4.cell 2
          have r3 := X4.cell 3
          have rl := X4.lt
          simp at r2 r3
          have O4 := Lib.hid (OX.out.below hb4)
          go_wp2_with fail
          with_reducible refine (one_as bn bk _).mono ?_
          rintro e w5 ⟨b, y, rfl, hy, hb5⟩
          have L5 := Lib.hid (L4.out.trans (hb5.mono L4.out.size))
          have X5 := X4.below hb5
          have s4 := X5.cell 4
          have sl := X5.lt
          simp at s4
          have O5 := Lib.hid (O4.out.below hb5)
          have hat := hx.1
          have hbt := hy.1
          have hxl := hx.2.1
          have hyl := hy.2.1
          have HX := Lib.hid hx
          have HY := Lib.hid hy
          have hz5 := L5.out.size
          have B5 := Lib.hid (HB.out.trans (L5.out.mono hz))
          have hz6 := B5.out.size
          clear hx hy hb4 hb5 X4 r2 r3 rl
          by_cases hab : (b : Int) < (a : Int)
          · cases two with
            | false =>
              have EOK : Hid (El.ok ⟨2, y, x, false, b, a⟩) := Lib.hid ⟨(show 2 ≤ 2 by decide), HY.out, HX.out, by show (b : Nat) ≤ a; omega⟩
              go_wp2_with (at_builtin; refine wpList_append_own _ rfl _ _ 22 rfl w.heap.size 28 i0 (.agg #[.int .i32 0, .int .i32 0]) 2 8 Tryd.underlying22 hi hz0 hz1 hz2 rfl (by decide) _ _ _ rfl (O5.out.alloc _) ⟨w5.heap.size, 0, none⟩ 1 1 [.int .i32 (b : Int), .int .i32 (b : Int)] rfl rfl (lit_cells4 _ _ _ _ _ rfl) (by simp [Value.oneCell']) (by unfold maxLen; omega) (by omega) (by simp; omega) ?_; intro v8 w8 hown8 hgr8 _)
              have OW8 : Hid (OwnC w8 w.heap.size v8 ((es ++ [(⟨2, y, x, false, b, a⟩ : El)]).map El.rng)) := Lib.hid (by
                rw [List.map_append]
                show w8.ownsRow _ _ _ _ _ _
                rw [cC_append, List.length_append]
                exact hown8)
              have BE8 : Hid (Below w.heap.size w w8) := Lib.hid ((B5.out.alloc hz6 _).grown hgr8 (by simp; omega) (fun k hk => (O5.out.lt k hk).1))
              clear hown8 hgr8
              go_wp2
              go_roundw
              case rel => exact ⟨k + 1, es ++ [(⟨2, y, x, false, b, a⟩ : El)], by omega, by go_num, by rw [List.length_append, HES.out]; rfl, es_snoc HOK.out EOK.out, by rw [List.flatMap_append, ← List.append_assoc, HQ.out]; exact congrArg Value.string (b_ext (by simp [El.txt, ByteArray.data_append])), OW8.out, BE8.out⟩
              case measure => simp [intOf]; omega
            | true =>
              have EOK : Hid (El.ok ⟨2, y, x, true, b, a⟩) := Lib.hid ⟨(show 2 ≤ 2 by decide), HY.out, HX.out, by show (b : Nat) ≤ a; omega⟩
              go_wp2_with (at_builtin; refine wpList_append_own _ rfl _ _ 22 rfl w.heap.size 28 i0 (.agg #[.int .i32 0, .int .i32 0]) 2 8 Tryd.underlying22 hi hz0 hz1 hz2 rfl (by decide) _ _ _ rfl (O5.out.alloc _) ⟨w5.heap.size, 0, none⟩ 1 1 [.int .i32 (b : Int), .int .i32 (a : Int)] rfl rfl (lit_cells4 _ _ _ _ _ rfl) (by simp [Value.oneCell']) (by unfold maxLen; omega) (by omega) (by simp; omega) ?_; intro v8 w8 hown8 hgr8 _)
              have OW8 : Hid (OwnC w8 w.heap.size v8 ((es ++ [(⟨2, y, x, true, b, a⟩ : El)]).map El.rng)) := Lib.hid (by
                rw [List.map_append]
                show w8.ownsRow _ _ _ _ _ _
                rw [cC_append, List.length_append]
                exact hown8)
              have BE8 : Hid (Below w.heap.size w w8) := Lib.hid ((B5.out.alloc hz6 _).grown hgr8 (by simp; omega) (fun k hk => (O5.out.lt k hk).1))
              clear hown8 hgr8
              go_wp2
              go_roundw
              case rel => exact ⟨k + 1, es ++ [(⟨2, y, x, true, b, a⟩ : El)], by omega, by go_num, by rw [List.length_append, HES.out]; rfl, es_snoc HOK.out EOK.out, by rw [List.flatMap_append, ← List.append_assoc, HQ.out]; exact congrArg Value.string (b_ext (by simp [El.txt, ByteArray.data_append])), OW8.out, BE8.out⟩
              case measure => simp [intOf]; omega
          · cases two with
            | false =>
              have EOK : Hid (El.ok ⟨2, x, y, false, a, b⟩) := Lib.hid ⟨(show 2 ≤ 2 by decide), HX.out, HY.out, by show (a : Nat) ≤ b; omega⟩
              go_wp2_with (at_builtin; refine wpList_append_own _ rfl _ _ 22 rfl w.heap.size 28 i0 (.agg #[.int .i32 0, .int .i32 0]) 2 8 Tryd.underlying22 hi hz0 hz1 hz2 rfl (by decide) _ _ _ rfl (O5.out.alloc _) ⟨w5.heap.size, 0, none⟩ 1 1 [.int .i32 (a : Int), .int .i32 (a : Int)] rfl rfl (lit_cells4 _ _ _ _ _ rfl) (by simp [Value.oneCell']) (by unfold maxLen; omega) (by omega) (by simp; omega) ?_; intro v8 w8 hown8 hgr8 _)
              have OW8 : Hid (OwnC w8 w.heap.size v8 ((es ++ [(⟨2, x, y, false, a, b⟩ : El)]).map El.rng)) := Lib.hid (by
                rw [List.map_append]
                show w8.ownsRow _ _ _ _ _ _
                rw [cC_append, List.length_append]
                exact hown8)
              have BE8 : Hid (Below w.heap.size w w8) := Lib.hid ((B5.out.alloc hz6 _).grown hgr8 (by simp; omega) (fun k hk => (O5.out.lt k hk).1))
              clear hown8 hgr8
              go_wp2
              go_roundw
              case rel => exact ⟨k + 1, es ++ [(⟨2, x, y, false, a, b⟩ : El)], by omega, by go_num, by rw [List.length_append, HES.out]; rfl, es_snoc HOK.out EOK.out, by rw [List.flatMap_append, ← List.append_assoc, HQ.out]; exact congrArg Value.string (b_ext (by simp [El.txt, ByteArray.data_append])), OW8.out, BE8.out⟩
              case measure => simp [intOf]; omega
            | true =>
              have EOK : Hid (El.ok ⟨2, x, y, true, a, b⟩) := Lib.hid ⟨(show 2 ≤ 2 by decide), HX.out, HY.out, by show (a : Nat) ≤ b; omega⟩
              go_wp2_with (at_builtin; refine wpList_append_own _ rfl _ _ 22 rfl w.heap.size 28 i0 (.agg #[.int .i32 0, .int .i32 0]) 2 8 Tryd.underlying22 hi hz0 hz1 hz2 rfl (by decide) _ _ _ rfl (O5.out.alloc _) ⟨w5.heap.size, 0, none⟩ 1 1 [.int .i32 (a : Int), .int .i32 (b : Int)] rfl rfl (lit_cells4 _ _ _ _ _ rfl) (by simp [Value.oneCell']) (by unfold maxLen; omega) (by omega) (by simp; omega) ?_; intro v8 w8 hown8 hgr8 _)
              have OW8 : Hid (OwnC w8 w.heap.size v8 ((es ++ [(⟨2, x, y, true, a, b⟩ : El)]).map El.rng)) := Lib.hid (by
                rw [List.map_append]
                show w8.ownsRow _ _ _ _ _ _
                rw [cC_append, List.length_append]
                exact hown8)
              have BE8 : Hid (Below w.heap.size w w8) := Lib.hid ((B5.out.alloc hz6 _).grown hgr8 (by simp; omega) (fun k hk => (O5.out.lt k hk).1))
              clear hown8 hgr8
              go_wp2
              go_roundw
              case rel => exact ⟨k + 1, es ++ [(⟨2, x, y, true, a, b⟩ : El)], by omega, by go_num, by rw [List.length_append, HES.out]; rfl, es_snoc HOK.out EOK.out, by rw [List.flatMap_append, ← List.append_assoc, HQ.out]; exact congrArg Value.string (b_ext (by simp [El.txt, ByteArray.data_append])), OW8.out, BE8.out⟩
              case measure => simp [intOf]; omega
        · rw [show ((3 : Nat) : Int) = 3 from rfl] at hand
          clear hkk
          go_wp2_with fail
          with_reducible refine (one_as an ak _).mono ?_
          rintro e w4 ⟨a, x, rfl, hx, hb4⟩
          have L4 := Lib.hid (BX.out.trans (hb4.mono BX.out.size))
          have X4 := XB.out.below hb4
          have r2 := X4.cell 2
          have r3 := X4.cell 3
          have rl := X4.lt
          simp at r2 r3
          have O4 := Lib.hid (OX.out.below hb4)
          go_wp2_with fail
          with_reducible refine (one_as bn bk _).mono ?_
          rintro e w5 ⟨b, y, rfl, hy, hb5⟩
          have L5 := Lib.hid (L4.out.trans (hb5.mono L4.out.size))
          have X5 := X4.below hb5
          have s4 := X5.cell 4
          have sl := X5.lt
          simp at s4
          have O5 := Lib.hid (O4.out.below hb5)
          have hat := hx.1
          have hbt := hy.1
          have hxl := hx.2.1
          have hyl := hy.2.1
          have HX := Lib.hid hx
          have HY := Lib.hid hy
          have hz5 := L5.out.size
          have B5 := Lib.hid (HB.out.trans (L5.out.mono hz))
          have hz6 := B5.out.size
          clear hx hy hb4 hb5 X4 r2 r3 rl
          by_cases hab : (b : Int) < (a : Int)
          · cases two with
            | false =>
              have EOK : Hid (El.ok ⟨0, y, x, false, b, a⟩) := Lib.hid ⟨(show 0 ≤ 2 by decide), HY.out, HX.out, by show (b : Nat) ≤ a; omega⟩
              go_wp2_with (at_builtin; refine wpList_append_own _ rfl _ _ 22 rfl w.heap.size 28 i0 (.agg #[.int .i32 0, .int .i32 0]) 2 8 Tryd.underlying22 hi hz0 hz1 hz2 rfl (by decide) _ _ _ rfl (O5.out.alloc _) ⟨w5.heap.size, 0, none⟩ 1 1 [.int .i32 (b : Int), .int .i32 (b : Int)] rfl rfl (lit_cells4 _ _ _ _ _ rfl) (by simp [Value.oneCell']) (by unfold maxLen; omega) (by omega) (by simp; omega) ?_; intro v8 w8 hown8 hgr8 _)
              have OW8 : Hid (OwnC w8 w.heap.size v8 ((es ++ [(⟨0, y, x, false, b, a⟩ : El)]).map El.rng)) := Lib.hid (by
                rw [List.map_append]
                show w8.ownsRow _ _ _ _ _ _
                rw [cC_append, List.length_append]
                exact hown8)
              have BE8 : Hid (Below w.heap.size w w8) := Lib.hid ((B5.out.alloc hz6 _).grown hgr8 (by simp; omega) (fun k hk => (O5.out.lt k hk).1))
              clear hown8 hgr8
              go_wp2
              go_roundw
              case rel => exact ⟨k + 1, es ++ [(⟨0, y, x, false, b, a⟩ : El)], by omega, by go_num, by rw [List.length_append, HES.out]; rfl, es_snoc HOK.out EOK.out, by rw [List.flatMap_append, ← List.append_assoc, HQ.out]; exact congrArg Value.string (b_ext (by simp [El.txt, ByteArray.data_append])), OW8.out, BE8.out⟩
              case measure => simp [intOf]; omega
            | true =>
              have EOK : Hid (El.ok ⟨0, y, x, true, b, a⟩) := Lib.hid ⟨(show 0 ≤ 2 by decide), HY.out, HX.out, by show (b : Nat) ≤ a; omega⟩
              go_wp2_with (at_builtin; refine wpList_append_own _ rfl _ _ 22 rfl w.heap.size 28 i0 (.agg #[.int .i32 0, .int .i32 0]) 2 8 Tryd.underlying22 hi hz0 hz1 hz2 rfl (by decide) _ _ _ rfl (O5.out.alloc _) ⟨w5.heap.size, 0, none⟩ 1 1 [.int .i32 (b : Int), .int .i32 (a : Int)] rfl rfl (lit_cells4 _ _ _ _ _ rfl) (by simp [Value.oneCell']) (by unfold maxLen; omega) (by omega) (by simp; omega) ?_; intro v8 w8 hown8 hgr8 _)
              have OW8 : Hid (OwnC w8 w.heap.size v8 ((es ++ [(⟨0, y, x, true, b, a⟩ : El)]).map El.rng)) := Lib.hid (by
                rw [List.map_append]
                show w8.ownsRow _ _ _ _ _ _
                rw [cC_append, List.length_append]
                exact hown8)
              have BE8 : Hid (Below w.heap.size w w8) := Lib.hid ((B5.out.alloc hz6 _).grown hgr8 (by simp; omega) (fun k hk => (O5.out.lt k hk).1))
              clear hown8 hgr8
              go_wp2
              go_roundw
              case rel => exact ⟨k + 1, es ++ [(⟨0, y, x, true, b, a⟩ : El)], by omega, by go_num, by rw [List.length_append, HES.out]; rfl, es_snoc HOK.out EOK.out, by rw [List.flatMap_append, ← List.append_assoc, HQ.out]; exact congrArg Value.string (b_ext (by simp [El.txt, ByteArray.data_append])), OW8.out, BE8.out⟩
              case measure => simp [intOf]; omega
          · cases two with
            | false =>
              have EOK : Hid (El.ok ⟨0, x, y, false, a, b⟩) := Lib.hid ⟨(show 0 ≤ 2 by decide), HX.out, HY.out, by show (a : Nat) ≤ b; omega⟩
              go_wp2_with (at_builtin; refine wpList_append_own _ rfl _ _ 22 rfl w.heap.size 28 i0 (.agg #[.int .i32 0, .int .i32 0]) 2 8 Tryd.underlying22 hi hz0 hz1 hz2 rfl (by decide) _ _ _ rfl (O5.out.alloc _) ⟨w5.heap.size, 0, none⟩ 1 1 [.int .i32 (a : Int), .int .i32 (a : Int)] rfl rfl (lit_cells4 _ _ _ _ _ rfl) (by simp [Value.oneCell']) (by unfold maxLen; omega) (by omega) (by simp; omega) ?_; intro v8 w8 hown8 hgr8 _)
              have OW8 : Hid (OwnC w8 w.heap.size v8 ((es ++ [(⟨0, x, y, false, a, b⟩ : El)]).map El.rng)) := Lib.hid (by
                rw [List.map_append]
                show w8.ownsRow _ _ _ _ _ _
                rw [cC_append, List.length_append]
                exact hown8)
              have BE8 : Hid (Below w.heap.size w w8) := Lib.hid ((B5.out.alloc hz6 _).grown hgr8 (by simp; omega) (fun k hk => (O5.out.lt k hk).1))
              clear hown8 hgr8
              go_wp2
              go_roundw
              case rel => exact ⟨k + 1, es ++ [(⟨0, x, y, false, a, b⟩ : El)], by omega, by go_num, by rw [List.length_append, HES.out]; rfl, es_snoc HOK.out EOK.out, by rw [List.flatMap_append, ← List.append_assoc, HQ.out]; exact congrArg Value.string (b_ext (by simp [El.txt, ByteArray.data_append])), OW8.out, BE8.out⟩
              case measure => simp [intOf]; omega
            | true =>
              have EOK : Hid (El.ok ⟨0, x, y, true, a, b⟩) := Lib.hid ⟨(show 0 ≤ 2 by decide), HX.out, HY.out, by show (a : Nat) ≤ b; omega⟩
              go_wp2_with (at_builtin; refine wpList_append_own _ rfl _ _ 22 rfl w.heap.size 28 i0 (.agg #[.int .i32 0, .int .i32 0]) 2 8 Tryd.underlying22 hi hz0 hz1 hz2 rfl (by decide) _ _ _ rfl (O5.out.alloc _) ⟨w5.heap.size, 0, none⟩ 1 1 [.int .i32 (a : Int), .int .i32 (b : Int)] rfl rfl (lit_cells4 _ _ _ _ _ rfl) (by simp [Value.oneCell']) (by unfold maxLen; omega) (by omega) (by simp; omega) ?_; intro v8 w8 hown8 hgr8 _)
              have OW8 : Hid (OwnC w8 w.heap.size v8 ((es ++ [(⟨0, x, y, true, a, b⟩ : El)]).map El.rng)) := Lib.hid (by
                rw [List.map_append]
                show w8.ownsRow _ _ _ _ _ _
                rw [cC_append, List.length_append]
                exact hown8)
              have BE8 : Hid (Below w.heap.size w w8) := Lib.hid ((B5.out.alloc hz6 _).grown hgr8 (by simp; omega) (fun k hk => (O5.out.lt k hk).1))
              clear hown8 hgr8
              go_wp2
              go_roundw
              case rel => exact ⟨k + 1, es ++ [(⟨0, x, y, true, a, b⟩ : El)], by omega, by go_num, by rw [List.length_append, HES.out]; rfl, es_snoc HOK.out EOK.out, by rw [List.flatMap_append, ← List.append_assoc, HQ.out]; exact congrArg Value.string (b_ext (by simp [El.txt, ByteArray.data_append])), OW8.out, BE8.out⟩
              case measure => simp [intOf]; omega
      · have hkn : ¬ (k : Int) < (ps.length : Int) := by omega
        have SA : (⟨Q.toArray⟩ : ByteArray) ++ (⟨#[93]⟩ : ByteArray) = ⟨(Q ++ [93]).toArray⟩ := arr_append Q [93]
        go_wp2
        go_ret2
        exact ⟨_, es, by rw [show preN false ++ txtE es = Q ++ [93] by rw [← HQ.out]; unfold txtE preN; simp]; first | rfl | rw [SA], HOK.out, HO.out, by have := HES.out; omega, HB.out⟩
  | true =>
    go_enter Tryd.func22, Tryd.ntmps22
    go_wp2_with fail
    go_loopw [6, 7, 21] (fun u s i wr => ∃ (k : Nat) (es : List El), k ≤ ps.length ∧ i = .int .i64 (k : Int) ∧ es.length = k ∧ (∀ e ∈ es, e.ok) ∧ s = S ([91, 94] ++ es.flatMap El.txt) ∧ OwnC wr w.heap.size u (es.map El.rng) ∧ Below w.heap.size w wr) (fun _ _ i _ => ps.length - (intOf i).toNat)
    case atStart => exact ⟨0, [], Nat.zero_le _, rfl, rfl, (fun e h => by cases h), rfl, O0.out, B0.out⟩
    case round =>
      obtain ⟨k, es, hk, rfl, hes, hok, rfl, ho, hb⟩ := hrel
      have HES := Lib.hid hes
      have HOK := Lib.hid hok
      have HO := Lib.hid ho
      have HB := Lib.hid hb
      have hfl := flatE_len es hok
      rw [hes] at hfl
      have hml : (es.map El.rng).length = k := by rw [List.length_map, hes]
      clear hes hok ho hb
      obtain ⟨Q, hQ⟩ : ∃ Q, [91, 94] ++ es.flatMap El.txt = Q := ⟨_, rfl⟩
      have hQl : Q.length ≤ 2000 := by rw [← hQ, List.length_append]; simp only [List.length_cons, List.length_nil]; omega
      have HQ := Lib.hid hQ
      rw [hQ]
      clear hQ hfl
      have hz := HB.out.size
      by_cases hlt : k < ps.length
      · have hki : (k : Int) < (ps.length : Int) := by omega
        obtain ⟨b0, off, rfl, hbl, hcell⟩ := H3.out (by omega)
        have C := fun j hj => (HB.out.cell (p := ⟨b0, off + k * 6 + j, none⟩) hbl).trans (hcell k hlt j hj)
        obtain ⟨⟨an, ak, bn, bk, two, gap⟩, hx⟩ : ∃ z, ps[k] = z := ⟨_, rfl⟩
        rw [hx] at C
        have c0 : wr.cell? ⟨b0, off + k * 6, none⟩ = some (.int .i64 an) := C 0 (by decide)
        have c1 : wr.cell? ⟨b0, off + k * 6 + 1, none⟩ = some (.int .i64 ak) := C 1 (by decide)
        have c2 : wr.cell? ⟨b0, off + k * 6 + 2, none⟩ = some (.int .i64 bn) := C 2 (by decide)
        have c3 : wr.cell? ⟨b0, off + k * 6 + 3, none⟩ = some (.int .i64 bk) := C 3 (by decide)
        have c4 : wr.cell? ⟨b0, off + k * 6 + 4, none⟩ = some (.bool two) := C 4 (by decide)
        have c5 : wr.cell? ⟨b0, off + k * 6 + 5, none⟩ = some (.int .i64 gap) := C 5 (by decide)
        clear C hcell hx
        have XB := Lib.hid (((BoxT.new wr #[.int .i64 an, .int .i64 ak, .int .i64 bn, .int .i64 bk, .bool two, .int .i64 gap] 67)).alloc (.cells #[.string ⟨#[]⟩, .string ⟨#[32]⟩, .string ⟨#[32, 32]⟩, .string ⟨#[]⟩] 9))
        have BX := Lib.hid (((Below.refl wr.heap.size wr).alloc (Nat.le_refl _) (.cells #[.int .i64 an, .int .i64 ak, .int .i64 bn, .int .i64 bk, .bool two, .int .i64 gap] 67)).alloc (by simp) (.cells #[.string ⟨#[]⟩, .string ⟨#[32]⟩, .string ⟨#[32, 32]⟩, .string ⟨#[]⟩] 9))
        have OX : Hid (OwnC ((wr.alloc (.cells #[.int .i64 an, .int .i64 ak, .int .i64 bn, .int .i64 bk, .bool two, .int .i64 gap] 67)).alloc (.cells #[.string ⟨#[]⟩, .string ⟨#[32]⟩, .string ⟨#[32, 32]⟩, .string ⟨#[]⟩] 9)) w.heap.size u6 (es.map El.rng)) := Lib.hid ((HO.out.alloc _).alloc _)
        obtain ⟨kk, hkk, hand⟩ := and_mask9 gap 3 (by decide)
        rw [show ((3 : Nat) : Int) = 3 from rfl] at hand
        rcases (show kk = 0 ∨ kk = 1 ∨ kk = 2 ∨ kk = 3 by omega) with rfl | rfl | rfl | rfl
        · rw [show ((0 : Nat) : Int) = 0 from rfl] at hand
          clear hkk
          go_wp2_with fail
          with_reducible refine (one_as an ak _).mono ?_
          rintro e w4 ⟨a, x, rfl, hx, hb4⟩
          have L4 := Lib.hid (BX.out.trans (hb4.mono BX.out.size))
          have X4 := XB.out.below hb4
          have r2 := X4.cell 2
          have r3 := X4.cell 3
          have rl := X4.lt
          simp at r2 r3
          have O4 := Lib.hid (OX.out.below hb4)
          go_wp2_with fail
          with_reducible refine (one_as bn bk _).mono ?_
          rintro e w5 ⟨b, y, rfl, hy, hb5⟩
          have L5 := Lib.hid (L4.out.trans (hb5.mono L4.out.size))
          have X5 := X4.below hb5
          have s4 := X5.cell 4
          have sl := X5.lt
          simp at s4
          have O5 := Lib.hid (O4.out.below hb5)
          have hat := hx.1
          have hbt := hy.1
          have hxl := hx.2.1
          have hyl := hy.2.1
          have HX := Lib.hid hx
          have HY := Lib.hid hy
          have hz5 := L5.out.size
          have B5 := Lib.hid (HB.out.trans (L5.out.mono hz))
          have hz6 := B5.out.size
          clear hx hy hb4 hb5 X4 r2 r3 rl
          by_cases hab : (b : Int) < (a : Int)
          · cases two with
            | false =>
              have EOK : Hid (El.ok ⟨0, y, x, false, b, a⟩) := Lib.hid ⟨(show 0 ≤ 2 by decide), HY.out, HX.out, by show (b : Nat) ≤ a; omega⟩
              go_wp2_with (at_builtin; refine wpList_append_own _ rfl _ _ 22 rfl w.heap.size 28 i0 (.agg #[.int .i32 0, .int .i32 0]) 2 8 Tryd.underlying22 hi hz0 hz1 hz2 rfl (by decide) _ _ _ rfl (O5.out.alloc _) ⟨w5.heap.size, 0, none⟩ 1 1 [.int .i32 (b : Int), .int .i32 (b : Int)] rfl rfl (lit_cells4 _ _ _ _ _ rfl) (by simp [Value.oneCell']) (by unfold maxLen; omega) (by omega) (by simp; omega) ?_; intro v8 w8 hown8 hgr8 _)
              have OW8 : Hid (OwnC w8 w.heap.size v8 ((es ++ [(⟨0, y, x, false, b, a⟩ : El)]).map El.rng)) := Lib.hid (by
                rw [List.map_append]
                show w8.ownsRow _ _ _ _ _ _
                rw [cC_append, List.length_append]
                exact hown8)
              have BE8 : Hid (Below w.heap.size w w8) := Lib.hid ((B5.out.alloc hz6 _).grown hgr8 (by simp; omega) (fun k hk => (O5.out.lt k hk).1))
              clear hown8 hgr8
              go_wp2
              go_roundw
              case rel => exact ⟨k + 1, es ++ [(⟨0, y, x, false, b, a⟩ : El)], by omega, by go_num, by rw [List.length_append, HES.out]; rfl, es_snoc HOK.out EOK.out, by rw [List.flatMap_append, ← List.append_assoc, HQ.out]; exact congrArg Value.string (b_ext (by simp [El.txt, ByteArray.data_append])), OW8.out, BE8.out⟩
              case measure => simp [intOf]; omega
            | true =>
              have EOK : Hid (El.ok ⟨0, y, x, true, b, a⟩) := Lib.hid ⟨(show 0 ≤ 2 by decide), HY.out, HX.out, by show (b : Nat) ≤ a; omega⟩
              go_wp2_with (at_builtin; refine wpList_append_own _ rfl _ _ 22 rfl w.heap.size 28 i0 (.agg #[.int .i32 0, .int .i32 0]) 2 8 Tryd.underlying22 hi hz0 hz1 hz2 rfl (by decide) _ _ _ rfl (O5.out.alloc _) ⟨w5.heap.size, 0, none⟩ 1 1 [.int .i32 (b : Int), .int .i32 (a : Int)] rfl rfl (lit_cells4 _ _ _ _ _ rfl) (by simp [Value.oneCell']) (by unfold maxLen; omega) (by omega) (by simp; omega) ?_; intro v8 w8 hown8 hgr8 _)
              have OW8 : Hid (OwnC w8 w.heap.size v8 ((es ++ [(⟨0, y, x, true, b, a⟩ : El)]).map El.rng)) := Lib.hid (by
                rw [List.map_append]
                show w8.ownsRow _ _ _ _ _ _
                rw [cC_append, List.length_append]
                exact hown8)
              have BE8 : Hid (Below w.heap.size w w8) := Lib.hid ((B5.out.alloc hz6 _).grown hgr8 (by simp; omega) (fun k hk => (O5.out.lt k hk).1))
              clear hown8 hgr8
              go_wp2
              go_roundw
              case rel => exact ⟨k + 1, es ++ [(⟨0, y, x, true, b, a⟩ : El)], by omega, by go_num, by rw [List.length_append, HES.out]; rfl, es_snoc HOK.out EOK.out, by rw [List.flatMap_append, ← List.append_assoc, HQ.out]; exact congrArg Value.string (b_ext (by simp [El.txt, ByteArray.data_append])), OW8.out, BE8.out⟩
              case measure => simp [intOf]; omega
          · cases two with
            | false =>
              have EOK : Hid (El.ok ⟨0, x, y, false, a, b⟩) := Lib.hid ⟨(show 0 ≤ 2 by decide), HX.out, HY.out, by show (a : Nat) ≤ b; omega⟩
              go_wp2_with (at_builtin; refine wpList_append_own _ rfl _ _ 22 rfl w.heap.size 28 i0 (.agg #[.int .i32 0, .int .i32 0]) 2 8 Tryd.underlying22 hi hz0 hz1 hz2 rfl (by decide) _ _ _ rfl (O5.out.alloc _) ⟨w5.heap.size, 0, none⟩ 1 1 [.int .i32 (a : Int), .int .i32 (a : Int)] rfl rfl (lit_cells4 _ _ _ _ _ rfl) (by simp [Value.oneCell']) (by unfold maxLen; omega) (by omega) (by simp; omega) ?_; intro v8 w8 hown8 hgr8 _)
              have OW8 : Hid (OwnC w8 w.heap.size v8 ((es ++ [(⟨0, x, y, false, a, b⟩ : El)]).map El.rng)) := Lib.hid (by
                rw [List.map_append]
                show w8.ownsRow _ _ _ _ _ _
                rw [cC_append, List.length_append]
                exact hown8)
              have BE8 : Hid (Below w.heap.size w w8) := Lib.hid ((B5.out.alloc hz6 _).grown hgr8 (by simp; omega) (fun k hk => (O5.out.lt k hk).1))
              clear hown8 hgr8
              go_wp2
              go_roundw
              case rel => exact ⟨k + 1, es ++ [(⟨0, x, y, false, a, b⟩ : El)], by omega, by go_num, by rw [List.length_append, HES.out]; rfl, es_snoc HOK.out EOK.out, by rw [List.flatMap_append, ← List.append_assoc, HQ.out]; exact congrArg Value.string (b_ext (by simp [El.txt, ByteArray.data_append])), OW8.out, BE8.out⟩
              case measure => simp [intOf]; omega
            | true =>
              have EOK : Hid (El.ok ⟨0, x, y, true, a, b⟩) := Lib.hid ⟨(show 0 ≤ 2 by decide), HX.out, HY.out, by show (a : Nat) ≤ b; omega⟩
              go_wp2_with (at_builtin; refine wpList_append_own _ rfl _ _ 22 rfl w.heap.size 28 i0 (.agg #[.int .i32 0, .int .i32 0]) 2 8 Tryd.underlying22 hi hz0 hz1 hz2 rfl (by decide) _ _ _ rfl (O5.out.alloc _) ⟨w5.heap.size, 0, none⟩ 1 1 [.int .i32 (a : Int), .int .i32 (b : Int)] rfl rfl (lit_cells4 _ _ _ _ _ rfl) (by simp [Value.oneCell']) (by unfold maxLen; omega) (by omega) (by simp; omega) ?_; intro v8 w8 hown8 hgr8 _)
              have OW8 : Hid (OwnC w8 w.heap.size v8 ((es ++ [(⟨0, x, y, true, a, b⟩ : El)]).map El.rng)) := Lib.hid (by
                rw [List.map_append]
                show w8.ownsRow _ _ _ _ _ _
                rw [cC_append, List.length_append]
                exact hown8)
              have BE8 : Hid (Below w.heap.size w w8) := Lib.hid ((B5.out.alloc hz6 _).grown hgr8 (by simp; omega) (fun k hk => (O5.out.lt k hk).1))
              clear hown8 hgr8
              go_wp2
              go_roundw
              case rel => exact ⟨k + 1, es ++ [(⟨0, x, y, true, a, b⟩ : El)], by omega, by go_num, by rw [List.length_append, HES.out]; rfl, es_snoc HOK.out EOK.out, by rw [List.flatMap_append, ← List.append_assoc, HQ.out]; exact congrArg Value.string (b_ext (by simp [El.txt, ByteArray.data_append])), OW8.out, BE8.out⟩
              case measure => simp [intOf]; omega
        · rw [show ((1 : Nat) : Int) = 1 from rfl] at hand
          clear hkk
          go_wp2_with fail
          with_reducible refine (one_as an ak _).mono ?_
          rintro e w4 ⟨a, x, rfl, hx, hb4⟩
          have L4 := Lib.hid (BX.out.trans (hb4.mono BX.out.size))
          have X4 := XB.out.below hb4
          have r2 := X4.cell 2
          have r3 := X4.cell 3
          have rl := X4.lt
          simp at r2 r3
          have O4 := Lib.hid (OX.out.below hb4)
          go_wp2_with fail
          with_reducible refine (one_as bn bk _).mono ?_
          rintro e w5 ⟨b, y, rfl, hy, hb5⟩
          have L5 := Lib.hid (L4.out.trans (hb5.mono L4.out.size))
          have X5 := X4.below hb5
          have s4 := X5.cell 4
          have sl := X5.lt
          simp at s4
          have O5 := Lib.hid (O4.out.below hb5)
          have hat := hx.1
          have hbt := hy.1
          have hxl := hx.2.1
          have hyl := hy.2.1
          have HX := Lib.hid hx
          have HY := Lib.hid hy
          have hz5 := L5.out.size
          have B5 := Lib.hid (HB.out.trans (L5.out.mono hz))
          have hz6 := B5.out.size
          clear hx hy hb4 hb5 X4 r2 r3 rl
          by_cases hab : (b : Int) < (a : Int)
          · cases two with
            | false =>
              have EOK : Hid (El.ok ⟨1, y, x, false, b, a⟩) := Lib.hid ⟨(show 1 ≤ 2 by decide), HY.out, HX.out, by show (b : Nat) ≤ a; omega⟩
              go_wp2_with (at_builtin; refine wpList_append_own _ rfl _ _ 22 rfl w.heap.size 28 i0 (.agg #[.int .i32 0, .int .i32 0]) 2 8 Tryd.underlying22 hi hz0 hz1 hz2 rfl (by decide) _ _ _ rfl (O5.out.alloc _) ⟨w5.heap.size, 0, none⟩ 1 1 [.int .i32 (b : Int), .int .i32 (b : Int)] rfl rfl (lit_cells4 _ _ _ _ _ rfl) (by simp [Value.oneCell']) (by unfold maxLen; omega) (by omega) (by simp; omega) ?_; intro v8 w8 hown8 hgr8 _)
              have OW8 : Hid (OwnC w8 w.heap.size v8 ((es ++ [(⟨1, y, x, false, b, a⟩ : El)]).map El.rng)) := Lib.hid (by
                rw [List.map_append]
                show w8.ownsRow _ _ _ _ _ _
                rw [cC_append, List.length_append]
                exact hown8)
              have BE8 : Hid (Below w.heap.size w w8) := Lib.hid ((B5.out.alloc hz6 _).grown hgr8 (by simp; omega) (fun k hk => (O5.out.lt k hk).1))
              clear hown8 hgr8
              go_wp2
              go_roundw
              case rel => exact ⟨k + 1, es ++ [(⟨1, y, x, false, b, a⟩ : El)], by omega, by go_num, by rw [List.length_append, HES.out]; rfl, es_snoc HOK.out EOK.out, by rw [List.flatMap_append, ← List.append_assoc, HQ.out]; exact congrArg Value.string (b_ext (by simp [El.txt, ByteArray.data_append])), OW8.out, BE8.out⟩
              case measure => simp [intOf]; omega
            | true =>
              have EOK : Hid (El.ok ⟨1, y, x, true, b, a⟩) := Lib.hid ⟨(show 1 ≤ 2 by decide), HY.out, HX.out, by show (b : Nat) ≤ a; omega⟩
              go_wp2_with (at_builtin; refine wpList_append_own _ rfl _ _ 22 rfl w.heap.size 28 i0 (.agg #[.int .i32 0, .int .i32 0]) 2 8 Tryd.underlying22 hi hz0 hz1 hz2 rfl (by decide) _ _ _ rfl (O5.out.alloc _) ⟨w5.heap.size, 0, none⟩ 1 1 [.int .i32 (b : Int), .int .i32 (a : Int)] rfl rfl (lit_cells4 _ _ _ _ _ rfl) (by simp [Value.oneCell']) (by unfold maxLen; omega) (by omega) (by simp; omega) ?_; intro v8 w8 hown8 hgr8 _)
              have OW8 : Hid (OwnC w8 w.heap.size v8 ((es ++ [(⟨1, y, x, true, b, a⟩ : El)]).map El.rng)) := Lib.hid (by
                rw [List.map_append]
                show w8.ownsRow _ _ _ _ _ _
                rw [cC_append, List.length_append]
                exact hown8)
              have BE8 : Hid (Below w.heap.size w w8) := Lib.hid ((B5.out.alloc hz6 _).grown hgr8 (by simp; omega) (fun k hk => (O5.out.lt k hk).1))
              clear hown8 hgr8
              go_wp2
              go_roundw
              case rel => exact ⟨k + 1, es ++ [(⟨1, y, x, true, b, a⟩ : El)], by omega, by go_num, by rw [List.length_append, HES.out]; rfl, es_snoc HOK.out EOK.out, by rw [List.flatMap_append, ← List.append_assoc, HQ.out]; exact congrArg Value.string (b_ext (by simp [El.txt, ByteArray.data_append])), OW8.out, BE8.out⟩
              case measure => simp [intOf]; omega
          · cases two with
            | false =>
              have EOK : Hid (El.ok ⟨1, x, y, false, a, b⟩) := Lib.hid ⟨(show 1 ≤ 2 by decide), HX.out, HY.out, by show (a : Nat) ≤ b; omega⟩
              go_wp2_with (at_builtin; refine wpList_append_own _ rfl _ _ 22 rfl w.heap.size 28 i0 (.agg #[.int .i32 0, .int .i32 0]) 2 8 Tryd.underlying22 hi hz0 hz1 hz2 rfl (by decide) _ _ _ rfl (O5.out.alloc _) ⟨w5.heap.size, 0, none⟩ 1 1 [.int .i32 (a : Int), .int .i32 (a : Int)] rfl rfl (lit_cells4 _ _ _ _ _ rfl) (by simp [Value.oneCell']) (by unfold maxLen; omega) (by omega) (by simp; omega) ?_; intro v8 w8 hown8 hgr8 _)
              have OW8 : Hid (OwnC w8 w.heap.size v8 ((es ++ [(⟨1, x, y, false, a, b⟩ : El)]).map El.rng)) := Lib.hid (by
                rw [List.map_append]
                show w8.ownsRow _ _ _ _ _ _
                rw [cC_append, List.length_append]
                exact hown8)
              have BE8 : Hid (Below w.heap.size w w8) := Lib.hid ((B5.out.alloc hz6 _).grown hgr8 (by simp; omega) (fun k hk => (O5.out.lt k hk).1))
              clear hown8 hgr8
              go_wp2
              go_roundw
              case rel => exact ⟨k + 1, es ++ [(⟨1, x, y, false, a, b⟩ : El)], by omega, by go_num, by rw [List.length_append, HES.out]; rfl, es_snoc HOK.out EOK.out, by rw [List.flatMap_append, ← List.append_assoc, HQ.out]; exact congrArg Value.string (b_ext (by simp [El.txt, ByteArray.data_append])), OW8.out, BE8.out⟩
              case measure => simp [intOf]; omega
            | true =>
              have EOK : Hid (El.ok ⟨1, x, y, true, a, b⟩) := Lib.hid ⟨(show 1 ≤ 2 by decide), HX.out, HY.out, by show (a : Nat) ≤ b; omega⟩
              go_wp2_with (at_builtin; refine wpList_append_own _ rfl _ _ 22 rfl w.heap.size 28 i0 (.agg #[.int .i32 0, .int .i32 0]) 2 8 Tryd.underlying22 hi hz0 hz1 hz2 rfl (by decide) _ _ _ rfl (O5.out.alloc _) ⟨w5.heap.size, 0, none⟩ 1 1 [.int .i32 (a : Int), .int .i32 (b : Int)] rfl rfl (lit_cells4 _ _ _ _ _ rfl) (by simp [Value.oneCell']) (by unfold maxLen; omega) (by omega) (by simp; omega) ?_; intro v8 w8 hown8 hgr8 _)
              have OW8 : Hid (OwnC w8 w.heap.size v8 ((es ++ [(⟨1, x, y, true, a, b⟩ : El)]).map El.rng)) := Lib.hid (by
                rw [List.map_append]
                show w8.ownsRow _ _ _ _ _ _
                rw [cC_append, List.length_append]
                exact hown8)
              have BE8 : Hid (Below w.heap.size w w8) := Lib.hid ((B5.out.alloc hz6 _).grown hgr8 (by simp; omega) (fun k hk => (O5.out.lt k hk).1))
              clear hown8 hgr8
              go_wp2
              go_roundw
              case rel => exact ⟨k + 1, es ++ [(⟨1, x, y, true, a, b⟩ : El)], by omega, by go_num, by rw [List.length_append, HES.out]; rfl, es_snoc HOK.out EOK.out, by rw [List.flatMap_append, ← List.append_assoc, HQ.out]; exact congrArg Value.string (b_ext (by simp [El.txt, ByteArray.data_append])), OW8.out, BE8.out⟩
              case measure => simp [intOf]; omega
        · rw [show ((2 : Nat) : Int) = 2 from rfl] at hand
          clear hkk
          go_wp2_with fail
          with_reducible refine (one_as an ak _).mono ?_
          rintro e w4 ⟨a, x, rfl, hx, hb4⟩
          have L4 := Lib.hid (BX.out.trans (hb4.mono BX.out.size))
          have X4 := XB.out.below hb4
          have r2 := X4.cell 2
          have r3 := X4.cell 3
          have rl := X4.lt
          simp at r2 r3
          have O4 := Lib.hid (OX.out.below hb4)
          go_wp2_with fail
          with_reducible refine (one_as bn bk _).mono ?_
          rintro e w5 ⟨b, y, rfl, hy, hb5⟩
          have L5 := Lib.hid (L4.out.trans (hb5.mono L4.out.size))
          have X5 := X4.below hb5
          have s4 := X5.cell 4
          have sl := X5.lt
          simp at s4
          have O5 := Lib.hid (O4.out.below hb5)
          have hat := hx.1
          have hbt := hy.1
          have hxl := hx.2.1
          have hyl := hy.2.1
          have HX := Lib.hid hx
          have HY := Lib.hid hy
          have hz5 := L5.out.size
          have B5 := Lib.hid (HB.out.trans (L5.out.mono hz))
          have hz6 := B5.out.size
          clear hx hy hb4 hb5 X4 r2 r3 rl
          by_cases hab : (b : Int) < (a : Int)
          · cases two with
            | false =>
              have EOK : Hid (El.ok ⟨2, y, x, false, b, a⟩) := Lib.hid ⟨(show 2 ≤ 2 by decide), HY.out, HX.out, by show (b : Nat) ≤ a; omega⟩
              go_wp2_with (at_builtin; refine wpList_append_own _ rfl _ _ 22 rfl w.heap.size 28 i0 (.agg #[.int .i32 0, .int .i32 0]) 2 8 Tryd.underlying22 hi hz0 hz1 hz2 rfl (by decide) _ _ _ rfl (O5.out.alloc _) ⟨w5.heap.size, 0, none⟩ 1 1 [.int .i32 (b : Int), .int .i32 (b : Int)] rfl rfl (lit_cells4 _ _ _ _ _ rfl) (by simp [Value.oneCell']) (by unfold maxLen; omega) (by omega) (by simp; omega) ?_; intro v8 w8 hown8 hgr8 _)
              have OW8 : Hid (OwnC w8 w.heap.size v8 ((es ++ [(⟨2, y, x, false, b, a⟩ : El)]).map El.rng)) := Lib.hid (by
                rw [List.map_append]
                show w8.ownsRow _ _ _ _ _ _
                rw [cC_append, List.length_append]
                exact hown8)
              have BE8 : Hid (Below w.heap.size w w8) := Lib.hid ((B5.out.alloc hz6 _).grown hgr8 (by simp; omega) (fun k hk => (O5.out.lt k hk).1))
              clear hown8 hgr8
              go_wp2
              go_roundw
              case rel => exact ⟨k + 1, es ++ [(⟨2, y, x, false, b, a⟩ : El)], by omega, by go_num, by rw [List.length_append, HES.out]; rfl, es_snoc HOK.out EOK.out, by rw [List.flatMap_append, ← List.append_assoc, HQ.out]; exact congrArg Value.string (b_ext (by simp [El.txt, ByteArray.data_append])), OW8.out, BE8.out⟩
              case measure => simp [intOf]; omega
            | true =>
              have EOK : Hid (El.ok ⟨2, y, x, true, b, a⟩) := Lib.hid ⟨(show 2 ≤ 2 by decide), HY.out, HX.out, by show (b : Nat) ≤ a; omega⟩
              go_wp2_with (at_builtin; refine wpList_append_own _ rfl _ _ 22 rfl w.heap.size 28 i0 (.agg #[.int .i32 0, .int .i32 0]) 2 8 Tryd.underlying22 hi hz0 hz1 hz2 rfl (by decide) _ _ _ rfl (O5.out.alloc _) ⟨w5.heap.size, 0, none⟩ 1 1 [.int .i32 (b : Int), .int .i32 (a : Int)] rfl rfl (lit_cells4 _ _ _ _ _ rfl) (by simp [Value.oneCell']) (by unfold maxLen; omega) (by omega) (by simp; omega) ?_; intro v8 w8 hown8 hgr8 _)
              have OW8 : Hid (OwnC w8 w.heap.size v8 ((es ++ [(⟨2, y, x, true, b, a⟩ : El)]).map El.rng)) := Lib.hid (by
                rw [List.map_append]
                show w8.ownsRow _ _ _ _ _ _
                rw [cC_append, List.length_append]
                exact hown8)
              have BE8 : Hid (Below w.heap.size w w8) := Lib.hid ((B5.out.alloc hz6 _).grown hgr8 (by simp; omega) (fun k hk => (O5.out.lt k hk).1))
              clear hown8 hgr8
              go_wp2
              go_roundw
              case rel => exact ⟨k + 1, es ++ [(⟨2, y, x, true, b, a⟩ : El)], by omega, by go_num, by rw [List.length_append, HES.out]; rfl, es_snoc HOK.out EOK.out, by rw [List.flatMap_append, ← List.append_assoc, HQ.out]; exact congrArg Value.string (b_ext (by simp [El.txt, ByteArray.data_append])), OW8.out, BE8.out⟩
              case measure => simp [intOf]; omega
          · cases two with
            | false =>
              have EOK : Hid (El.ok ⟨2, x, y, false, a, b⟩) := Lib.hid ⟨(show 2 ≤ 2 by decide), HX.out, HY.out, by show (a : Nat) ≤ b; omega⟩
              go_wp2_with (at_builtin; refine wpList_append_own _ rfl _ _ 22 rfl w.heap.size 28 i0 (.agg #[.int .i32 0, .int .i32 0]) 2 8 Tryd.underlying22 hi hz0 hz1 hz2 rfl (by decide) _ _ _ rfl (O5.out.alloc _) ⟨w5.heap.size, 0, none⟩ 1 1 [.int .i32 (a : Int), .int .i32 (a : Int)] rfl rfl (lit_cells4 _ _ _ _ _ rfl) (by simp [Value.oneCell']) (by unfold maxLen; omega) (by omega) (by simp; omega) ?_; intro v8 w8 hown8 hgr8 _)
              have OW8 : Hid (OwnC w8 w.heap.size v8 ((es ++ [(⟨2, x, y, false, a, b⟩ : El)]).map El.rng)) := Lib.hid (by
                rw [List.map_append]
                show w8.ownsRow _ _ _ _ _ _
                rw [cC_append, List.length_append]
                exact hown8)
              have BE8 : Hid (Below w.heap.size w w8) := Lib.hid ((B5.out.alloc hz6 _).grown hgr8 (by simp; omega) (fun k hk => (O5.out.lt k hk).1))
              clear hown8 hgr8
              go_wp2
              go_roundw
              case rel => exact ⟨k + 1, es ++ [(⟨2, x, y, false, a, b⟩ : El)], by omega, by go_num, by rw [List.length_append, HES.out]; rfl, es_snoc HOK.out EOK.out, by rw [List.flatMap_append, ← List.append_assoc, HQ.out]; exact congrArg Value.string (b_ext (by simp [El.txt, ByteArray.data_append])), OW8.out, BE8.out⟩
              case measure => simp [intOf]; omega
            | true =>
              have EOK : Hid (El.ok ⟨2, x, y, true, a, b⟩) := Lib.hid ⟨(show 2 ≤ 2 by decide), HX.out, HY.out, by show (a : Nat) ≤ b; omega⟩
              go_wp2_with (at_builtin; refine wpList_append_own _ rfl _ _ 22 rfl w.heap.size 28 i0 (.agg #[.int .i32 0, .int .i32 0]) 2 8 Tryd.underlying22 hi hz0 hz1 hz2 rfl (by decide) _ _ _ rfl (O5.out.alloc _) ⟨w5.heap.size, 0, none⟩ 1 1 [.int .i32 (a : Int), .int .i32 (b : Int)] rfl rfl (lit_cells4 _ _ _ _ _ rfl) (by simp [Value.oneCell']) (by unfold maxLen; omega) (by omega) (by simp; omega) ?_; intro v8 w8 hown8 hgr8 _)
              have OW8 : Hid (OwnC w8 w.heap.size v8 ((es ++ [(⟨2, x, y, true, a, b⟩ : El)]).map El.rng)) := Lib.hid (by
                rw [List.map_append]
                show w8.ownsRow _ _ _ _ _ _
                rw [cC_append, List.length_append]
                exact hown8)
              have BE8 : Hid (Below w.heap.size w w8) := Lib.hid ((B5.out.alloc hz6 _).grown hgr8 (by simp; omega) (fun k hk => (O5.out.lt k hk).1))
              clear hown8 hgr8
              go_wp2
              go_roundw
              case rel => exact ⟨k + 1, es ++ [(⟨2, x, y, true, a, b⟩ : El)], by omega, by go_num, by rw [List.length_append, HES.out]; rfl, es_snoc HOK.out EOK.out, by rw [List.flatMap_append, ← List.append_assoc, HQ.out]; exact congrArg Value.string (b_ext (by simp [El.txt, ByteArray.data_append])), OW8.out, BE8.out⟩
              case measure => simp [intOf]; omega
        · rw [show ((3 : Nat) : Int) = 3 from rfl] at hand
          clear hkk
          go_wp2_with fail
          with_reducible refine (one_as an ak _).mono ?_
          rintro e w4 ⟨a, x, rfl, hx, hb4⟩
          have L4 := Lib.hid (BX.out.trans (hb4.mono BX.out.size))
          have X4 := XB.out.below hb4
          have r2 := X4.cell 2
          have r3 := X4.cell 3
          have rl := X4.lt
          simp at r2 r3
          have O4 := Lib.hid (OX.out.below hb4)
          go_wp2_with fail
          with_reducible refine (one_as bn bk _).mono ?_
          rintro e w5 ⟨b, y, rfl, hy, hb5⟩
          have L5 := Lib.hid (L4.out.trans (hb5.mono L4.out.size))
          have X5 := X4.below hb5
          have s4 := X5.cell 4
          have sl := X5.lt
          simp at s4
          have O5 := Lib.hid (O4.out.below hb5)
          have hat := hx.1
          have hbt := hy.1
          have hxl := hx.2.1
          have hyl := hy.2.1
          have HX := Lib.hid hx
          have HY := Lib.hid hy
          have hz5 := L5.out.size
          have B5 := Lib.hid (HB.out.trans (L5.out.mono hz))
          have hz6 := B5.out.size
          clear hx hy hb4 hb5 X4 r2 r3 rl
          by_cases hab : (b : Int) < (a : Int)
          · cases two with
            | false =>
              have EOK : Hid (El.ok ⟨0, y, x, false, b, a⟩) := Lib.hid ⟨(show 0 ≤ 2 by decide), HY.out, HX.out, by show (b : Nat) ≤ a; omega⟩
              go_wp2_with (at_builtin; refine wpList_append_own _ rfl _ _ 22 rfl w.heap.size 28 i0 (.agg #[.int .i32 0, .int .i32 0]) 2 8 Tryd.underlying22 hi hz0 hz1 hz2 rfl (by decide) _ _ _ rfl (O5.out.alloc _) ⟨w5.heap.size, 0, none⟩ 1 1 [.int .i32 (b : Int), .int .i32 (b : Int)] rfl rfl (lit_cells4 _ _ _ _ _ rfl) (by simp [Value.oneCell']) (by unfold maxLen; omega) (by omega) (by simp; omega) ?_; intro v8 w8 hown8 hgr8 _)
              have OW8 : Hid (OwnC w8 w.heap.size v8 ((es ++ [(⟨0, y, x, false, b, a⟩ : El)]).map El.rng)) := Lib.hid (by
                rw [List.map_append]
                show w8.ownsRow _ _ _ _ _ _
                rw [cC_append, List.length_append]
                exact hown8)
              have BE8 : Hid (Below w.heap.size w w8) := Lib.hid ((B5.out.alloc hz6 _).grown hgr8 (by simp; omega) (fun k hk => (O5.out.lt k hk).1))
              clear hown8 hgr8
              go_wp2
              go_roundw
              case rel => exact ⟨k + 1, es ++ [(⟨0, y, x, false, b, a⟩ : El)], by omega, by go_num, by rw [List.length_append, HES.out]; rfl, es_snoc HOK.out EOK.out, by rw [List.flatMap_append, ← List.append_assoc, HQ.out]; exact congrArg Value.string (b_ext (by simp [El.txt, ByteArray.data_append])), OW8.out, BE8.out⟩
              case measure => simp [intOf]; omega
            | true =>
              have EOK : Hid (El.ok ⟨0, y, x, true, b, a⟩) := Lib.hid ⟨(show 0 ≤ 2 by decide), HY.out, HX.out, by show (b : Nat) ≤ a; omega⟩
              go_wp2_with (at_builtin; refine wpList_append_own _ rfl _ _ 22 rfl w.heap.size 28 i0 (.agg #[.int .i32 0, .int .i32 0]) 2 8 Tryd.underlying22 hi hz0 hz1 hz2 rfl (by decide) _ _ _ rfl (O5.out.alloc _) ⟨w5.heap.size, 0, none⟩ 1 1 [.int .i32 (b : Int), .int .i32 (a : Int)] rfl rfl (lit_cells4 _ _ _ _ _ rfl) (by simp [Value.oneCell']) (by unfold maxLen; omega) (by omega) (by simp; omega) ?_; intro v8 w8 hown8 hgr8 _)
              have OW8 : Hid (OwnC w8 w.heap.size v8 ((es ++ [(⟨0, y, x, true, b, a⟩ : El)]).map El.rng)) := Lib.hid (by
                rw [List.map_append]
                show w8.ownsRow _ _ _ _ _ _
                rw [cC_append, List.length_append]
                exact hown8)
              have BE8 : Hid (Below w.heap.size w w8) := Lib.hid ((B5.out.alloc hz6 _).grown hgr8 (by simp; omega) (fun k hk => (O5.out.lt k hk).1))
              clear hown8 hgr8
              go_wp2
              go_roundw
              case rel => exact ⟨k + 1, es ++ [(⟨0, y, x, true, b, a⟩ : El)], by omega, by go_num, by rw [List.length_append, HES.out]; rfl, es_snoc HOK.out EOK.out, by rw [List.flatMap_append, ← List.append_assoc, HQ.out]; exact congrArg Value.string (b_ext (by simp [El.txt, ByteArray.data_append])), OW8.out, BE8.out⟩
              case measure => simp [intOf]; omega
          · cases two with
            | false =>
              have EOK : Hid (El.ok ⟨0, x, y, false, a, b⟩) := Lib.hid ⟨(show 0 ≤ 2 by decide), HX.out, HY.out, by show (a : Nat) ≤ b; omega⟩
              go_wp2_with (at_builtin; refine wpList_append_own _ rfl _ _ 22 rfl w.heap.size 28 i0 (.agg #[.int .i32 0, .int .i32 0]) 2 8 Tryd.underlying22 hi hz0 hz1 hz2 rfl (by decide) _ _ _ rfl (O5.out.alloc _) ⟨w5.heap.size, 0, none⟩ 1 1 [.int .i32 (a : Int), .int .i32 (a : Int)] rfl rfl (lit_cells4 _ _ _ _ _ rfl) (by simp [Value.oneCell']) (by unfold maxLen; omega) (by omega) (by simp; omega) ?_; intro v8 w8 hown8 hgr8 _)
              have OW8 : Hid (OwnC w8 w.heap.size v8 ((es ++ [(⟨0, x, y, false, a, b⟩ : El)]).map El.rng)) := Lib.hid (by
                rw [List.map_append]
                show w8.ownsRow _ _ _ _ _ _
                rw [cC_append, List.length_append]
                exact hown8)
              have BE8 : Hid (Below w.heap.size w w8) := Lib.hid ((B5.out.alloc hz6 _).grown hgr8 (by simp; omega) (fun k hk => (O5.out.lt k hk).1))
              clear hown8 hgr8
              go_wp2
              go_roundw
              case rel => exact ⟨k + 1, es ++ [(⟨0, x, y, false, a, b⟩ : El)], by omega, by go_num, by rw [List.length_append, HES.out]; rfl, es_snoc HOK.out EOK.out, by rw [List.flatMap_append, ← List.append_assoc, HQ.out]; exact congrArg Value.string (b_ext (by simp [El.txt, ByteArray.data_append])), OW8.out, BE8.out⟩
              case measure => simp [intOf]; omega
            | true =>
              have EOK : Hid (El.ok ⟨0, x, y, true, a, b⟩) := Lib.hid ⟨(show 0 ≤ 2 by decide), HX.out, HY.out, by show (a : Nat) ≤ b; omega⟩
              go_wp2_with (at_builtin; refine wpList_append_own _ rfl _ _ 22 rfl w.heap.size 28 i0 (.agg #[.int .i32 0, .int .i32 0]) 2 8 Tryd.underlying22 hi hz0 hz1 hz2 rfl (by decide) _ _ _ rfl (O5.out.alloc _) ⟨w5.heap.size, 0, none⟩ 1 1 [.int .i32 (a : Int), .int .i32 (b : Int)] rfl rfl (lit_cells4 _ _ _ _ _ rfl) (by simp [Value.oneCell']) (by unfold maxLen; omega) (by omega) (by simp; omega) ?_; intro v8 w8 hown8 hgr8 _)
              have OW8 : Hid (OwnC w8 w.heap.size v8 ((es ++ [(⟨0, x, y, true, a, b⟩ : El)]).map El.rng)) := Lib.hid (by
                rw [List.map_append]
                show w8.ownsRow _ _ _ _ _ _
                rw [cC_append, List.length_append]
                exact hown8)
              have BE8 : Hid (Below w.heap.size w w8) := Lib.hid ((B5.out.alloc hz6 _).grown hgr8 (by simp; omega) (fun k hk => (O5.out.lt k hk).1))
              clear hown8 hgr8
              go_wp2
              go_roundw
              case rel => exact ⟨k + 1, es ++ [(⟨0, x, y, true, a, b⟩ : El)], by omega, by go_num, by rw [List.length_append, HES.out]; rfl, es_snoc HOK.out EOK.out, by rw [List.flatMap_append, ← List.append_assoc, HQ.out]; exact congrArg Value.string (b_ext (by simp [El.txt, ByteArray.data_append])), OW8.out, BE8.out⟩
              case measure => simp [intOf]; omega
      · have hkn : ¬ (k : Int) < (ps.length : Int) := by omega
        have SA : (⟨Q.toArray⟩ : ByteArray) ++ (⟨#[93]⟩ : ByteArray) = ⟨(Q ++ [93]).toArray⟩ := arr_append Q [93]
        go_wp2
        go_ret2
        exact ⟨_, es, by rw [show preN true ++ txtE es = Q ++ [93] by rw [← HQ.out]; unfold txtE preN; simp]; first | rfl | rw [SA], HOK.out, HO.out, by have := HES.out; omega, HB.out⟩
end Go.Proofs.YtbfhkcljkblnmaaDoor
