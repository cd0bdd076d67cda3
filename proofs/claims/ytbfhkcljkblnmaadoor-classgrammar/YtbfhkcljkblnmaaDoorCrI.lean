/- Numbers written to the base sixteen. -/
import Derived.Test.YtbfhkcljkblnmaaDoorCrE
namespace Go.Proofs.YtbfhkcljkblnmaaDoor
open Go.RowKit Florin
set_option linter.unusedVariables false
set_option linter.unusedSimpArgs false
attribute [local go_sem ↓] Go.wp_at_zero Go.wp_at_succ
def hx (d : Nat) : UInt8 := UInt8.ofNat (if d < 10 then 48 + d else 87 + d)
def hxF : Nat → Nat → List UInt8 → List UInt8
  | 0, _, l => l
  | f + 1, n, l => if n < 16 then hx n :: l else hxF f (n / 16) (hx (n % 16) :: l)
def hxS (n : Nat) : List UInt8 := hxF 17 n []
/-- The table's word that sixteen has four noughts behind its one. -/
def Deb (w : World) : Prop := w.cell? ⟨4, 15, none⟩ = some (.int .u8 4)
theorem Deb.below {w w' : World} (h : Deb w) (hb : Below w.heap.size w w') : Deb w' :=
  (hb.cell (p := ⟨_, 15, none⟩) (World.block_lt_of_cell? w _ h)).trans h
set_option maxHeartbeats 800000 in
theorem tz_as (w : World) (h : Deb w) : Calls Tryd.prog 90 #[.int .u64 16] w fun e w' => e = .returned (.int .i64 4) ∧ w' = w := by
  have h0 : w.cell? ⟨4, 15, none⟩ = some (.int .u8 4) := h
  have e1 : bits .and .u64 16 (IntKind.u64.wrap (-16)) = 16 := by decide
  have hT : Calls Tryd.prog 96 #[.int .u64 16] w fun e w' => e = .returned (.int .i64 4) ∧ w' = w := by
    go_enter Tryd.func96, Tryd.ntmps96
    go_wp2
    go_ret
    exact ⟨rfl, rfl⟩
  go_enter Tryd.func90, Tryd.ntmps90
  go_wp2_with fail
  with_reducible refine hT.mono ?_
  rintro e w1 ⟨rfl, rfl⟩
  go_wp2
  go_ret
  exact ⟨rfl, rfl⟩
set_option maxHeartbeats 800000 in
theorem pow_as (w : World) : Calls Tryd.prog 89 #[.int .i64 16] w fun e w' => e = .returned (.bool true) ∧ w' = w := by
  have e1 : bits .and .i64 16 15 = 0 := by decide
  go_enter Tryd.func89, Tryd.ntmps89
  go_wp2
  go_ret
  exact ⟨rfl, rfl⟩
set_option maxRecDepth 100000 in
theorem dig_fin : ∀ d : Fin 16, (⟨#[48, 49, 50, 51, 52, 53, 54, 55, 56, 57, 97, 98, 99, 100, 101, 102, 103, 104, 105, 106, 107, 108, 109, 110, 111, 112, 113, 114, 115, 116, 117, 118, 119, 120, 121, 122]⟩ : ByteArray)[d.val]! = hx d.val := by decide
theorem dig_at (d : Nat) (h : d < 16) (h2 : d < (⟨#[48, 49, 50, 51, 52, 53, 54, 55, 56, 57, 97, 98, 99, 100, 101, 102, 103, 104, 105, 106, 107, 108, 109, 110, 111, 112, 113, 114, 115, 116, 117, 118, 119, 120, 121, 122]⟩ : ByteArray).size) : (⟨#[48, 49, 50, 51, 52, 53, 54, 55, 56, 57, 97, 98, 99, 100, 101, 102, 103, 104, 105, 106, 107, 108, 109, 110, 111, 112, 113, 114, 115, 116, 117, 118, 119, 120, 121, 122]⟩ : ByteArray)[d] = hx d := by
  have h3 := dig_fin ⟨d, h⟩
  rw [← h3]
  exact (getElem!_pos _ d h2).symm
theorem and15 (u : Nat) (h : u < 18446744073709551616) : bits .and .u64 (u : Int) 15 = ((u % 16 : Nat) : Int) := by
  have h1 := u64_and_nat u 15 h (by decide)
  rw [show (((15 : Nat)) : Int) = 15 from rfl] at h1
  rw [h1, show (15 : Nat) = 2 ^ 4 - 1 from rfl, Nat.and_two_pow_sub_one_eq_mod]
theorem hx_more {u f : Nat} {l : List UInt8} (hu : u < 16 ^ f) (h16 : 16 ≤ u) : ∃ g, f = g + 1 ∧ 0 < g ∧ u / 16 < 16 ^ g ∧ hxF f u l = hxF g (u / 16) (hx (u % 16) :: l) := by
  cases f with
  | zero => simp at hu; omega
  | succ g =>
    refine ⟨g, rfl, ?_, ?_, ?_⟩
    · cases g with
      | zero => simp at hu; omega
      | succ g => omega
    · rw [Nat.pow_succ] at hu; omega
    · conv => lhs; unfold hxF
      rw [if_neg (by omega)]
theorem hx_last {u f : Nat} {l : List UInt8} (hu : u < 16 ^ f) (hf : 0 < f) (h16 : u < 16) : hxF f u l = hx u :: l := by
  cases f with
  | zero => omega
  | succ g => unfold hxF; rw [if_pos h16]
theorem row_put {cs : Array Value} {l : List UInt8} {i : Nat} (hi : 65 - l.length = i) (h1 : 1 ≤ i) (hl : l.length ≤ 65) (hcs : cs.size = 65) (hall : ∀ j (hj : j < l.length), cs[65 - l.length + j]? = some (bv l[j])) (c : UInt8) (v : Value) (hv : v = bv c) :
    ∀ j (hj : j < (c :: l).length), (cs.setIfInBounds (i - 1) v)[65 - (c :: l).length + j]? = some (bv (c :: l)[j]) := by
  intro j hj
  subst hv
  have e : 65 - (c :: l).length = i - 1 := by rw [List.length_cons]; omega
  rw [e]
  cases j with
  | zero => rw [Nat.add_zero, Array.getElem?_setIfInBounds_self_of_lt (by omega)]; rfl
  | succ j =>
    rw [Array.getElem?_setIfInBounds_ne (by omega)]
    have h := hall j (by simpa using hj)
    rw [show i - 1 + (j + 1) = 65 - l.length + j by omega, h]
    rfl
theorem row_conv {W : World} {B : Nat} {cs : Array Value} {t : TypeId} (hbox : BoxT W B cs t) {l : List UInt8} {i : Nat} (hi : 65 - l.length = i) (hall : ∀ j (hj : j < l.length), cs[65 - l.length + j]? = some (bv l[j])) :
    (convert 80 9 (.slice (some ⟨B, i, none⟩) l.length l.length)).run Tryd.prog W = .ok (S l) W := by
  refine run_convert_bytes_back W 80 9 5 ⟨B, i, none⟩ l.length l Tryd.underlying80 Tryd.underlying5 Tryd.underlying9 ?_
  intro j hj
  have e : (⟨B, i, none⟩ : Addr).add j = ⟨B, i + j, none⟩ := by unfold Addr.add; split <;> simp_all
  rw [e, hbox.cell, ← hi, hall j hj]
theorem row_slice (B i k : Nat) (h1 : 1 ≤ i) (hk : 1 ≤ k) (h : i - 1 + k = 65) (W : World) : (Instr.sliceAt 136 (.pointer (some ⟨B, 0, none⟩)) (some (.int .i64 ((i : Int) - 1))) none none).run Tryd.prog W = .ok (.slice (some ⟨B, i - 1, none⟩) k k) W := by
  have hal : Tryd.prog.arrayLen 136 = 65 := by simp [Program.arrayLen, Tryd.underlying136]
  rw [run_sliceAt_array_l W 136 ⟨B, 0, none⟩ (by simp [Program.arrayLen, Program.elem, Tryd.underlying136]) .i64 ((i : Int) - 1) (by omega) (by rw [hal]; omega)]
  rw [hal]
  go_simp
  exact ⟨fun h => by omega, by omega⟩
theorem some_cell {cs : Array Value} {k : Nat} (h : k < cs.size) : ∃ v, cs[k]? = some v := ⟨_, Array.getElem?_eq_getElem h⟩
set_option maxRecDepth 100000 in
set_option maxHeartbeats 3200000 in
theorem bits_as (n : Nat) (hn : n ≤ 1114111) (w : World) (hD : Deb w) :
    Calls Tryd.prog 82 #[.slice none 0 0, .int .u64 (n : Int), .int .i64 16, .bool false, .bool false] w fun e w' => e = .returned (.tuple #[.slice none 0 0, S (hxS n)]) ∧ Below w.heap.size w w' := by
  have HD := Lib.hid hD
  clear hD
  go_enter Tryd.func82, Tryd.ntmps82
  go_wp2_with fail
  with_reducible refine (pow_as _).mono ?_
  rintro e w1 ⟨rfl, rfl⟩
  go_wp2_with fail
  with_reducible refine (tz_as _ (HD.out.below ((Below.refl _ _).alloc (Nat.le_refl _) _))).mono ?_
  rintro e w1 ⟨rfl, rfl⟩
  go_wp2_with fail
  go_loopw [1, 13] (fun x y wr => ∃ (u f : Nat) (l : List UInt8) (cs : Array Value), x = .int .u64 (u : Int) ∧ y = .int .i64 ((65 - l.length : Nat) : Int) ∧ f + l.length = 17 ∧ 0 < f ∧ u < 16 ^ f ∧ u ≤ n ∧ hxF f u l = hxS n ∧ BoxT wr w.heap.size cs 136 ∧ cs.size = 65 ∧ (∀ j (hj : j < l.length), cs[65 - l.length + j]? = some (bv l[j])) ∧ Below w.heap.size w wr) (fun x _ _ => (intOf x).toNat)
  case atStart =>
    refine ⟨n, 17, [], _, rfl, rfl, rfl, by decide, ?_, Nat.le_refl _, rfl, BoxT.new w _ _, ?_, fun j hj => absurd hj (by simp), (Below.refl _ _).alloc (Nat.le_refl _) _⟩
    · exact Nat.lt_of_le_of_lt hn (by decide)
    · rfl
  case round =>
    obtain ⟨u, f, l, cs, rfl, rfl, hf, hf0, hu, hun, hh, hbox, hcs, hall, hb⟩ := hrel
    have HH := Lib.hid hh
    have HBOX := Lib.hid hbox
    have HALL := Lib.hid hall
    have HB := Lib.hid hb
    have HU := Lib.hid hu
    obtain ⟨i, hi⟩ : ∃ i, 65 - l.length = i := ⟨_, rfl⟩
    rw [hi]
    have hi2 : 48 ≤ i ∧ i ≤ 65 := by omega
    have HF := Lib.hid hf
    have HI := Lib.hid hi
    clear hh hbox hall hb hu hi hf
    by_cases hlt : 16 ≤ u
    · have hlti : (16 : Int) ≤ (u : Int) := by omega
      obtain ⟨g, rfl, hg0, hug, hxg⟩ := hx_more (l := l) HU.out hlt
      have HXG := Lib.hid hxg
      have HUG := Lib.hid hug
      have ea := and15 u (by omega)
      have hd16 : u % 16 < 16 := by omega
      generalize hd : u % 16 = d at *
      have z1 := HBOX.out.frozen (i - 1)
      obtain ⟨old, hold⟩ := some_cell (cs := cs) (k := i - 1) (by omega)
      have c1 := HBOX.out.cell (i - 1)
      rw [hold] at c1
      have hl65 : l.length ≤ 65 := by have := HI.out; omega
      have HP := Lib.hid (row_put HI.out (by omega) hl65 hcs HALL.out (hx d))
      have HDG := Lib.hid (dig_at d hd16)
      clear hold hd hxg hug
      go_wp2
      go_roundw
      case rel =>
        refine ⟨u / 16, g, hx d :: l, _, by go_num, ?_, ?_, hg0, HUG.out, by omega, by rw [← HXG.out, HH.out], HBOX.out.set (i - 1) _, by simp [hcs], HP.out _ ?_, HB.out.setCell (p := ⟨w.heap.size, i - 1, none⟩) (Nat.le_refl _) _⟩
        · rw [List.length_cons]; have := HI.out; congr 1; omega
        · rw [List.length_cons]; have := HF.out; omega
        · rw [HDG.out]
      case measure => simp [intOf]; omega
    · have hlti : ¬ (16 : Int) ≤ (u : Int) := by omega
      have hu16 : u < 16 := by omega
      have hxl := hx_last (l := l) HU.out hf0 hu16
      rw [HH.out] at hxl
      have HXL := Lib.hid hxl
      have z1 := HBOX.out.frozen (i - 1)
      obtain ⟨old, hold⟩ := some_cell (cs := cs) (k := i - 1) (by omega)
      have c1 := HBOX.out.cell (i - 1)
      rw [hold] at c1
      have hl65 : l.length ≤ 65 := by have := HI.out; omega
      have HP := Lib.hid (row_put HI.out (by omega) hl65 hcs HALL.out (hx u))
      have HDG := Lib.hid (dig_at u hu16)
      have HSL := row_slice w.heap.size i (l.length + 1) (by omega) (by omega) (by have := HI.out; omega)
      have HCV : Hid _ := Lib.hid (fun v hv => row_conv (HBOX.out.set (i - 1) v) (l := hx u :: l) (i := i - 1) (by rw [List.length_cons]; have := HI.out; omega) (HP.out v hv))
      have HCV2 := HCV.out (.int .u8 (((⟨#[48, 49, 50, 51, 52, 53, 54, 55, 56, 57, 97, 98, 99, 100, 101, 102, 103, 104, 105, 106, 107, 108, 109, 110, 111, 112, 113, 114, 115, 116, 117, 118, 119, 120, 121, 122]⟩ : ByteArray)[u]'(by show u < 36; omega)).toNat : Int)) (by rw [HDG.out])
      rw [List.length_cons] at HCV2
      clear hold hxl
      go_wp2
      go_ret2
      exact ⟨by rw [HXL.out]; rfl, HB.out.setCell (p := ⟨w.heap.size, i - 1, none⟩) (Nat.le_refl _) _⟩
set_option maxRecDepth 100000 in
set_option maxHeartbeats 1600000 in
theorem fmt_as (n : Nat) (hn : n ≤ 1114111) (w : World) (hD : Deb w) :
    Calls Tryd.prog 57 #[.int .i64 (n : Int), .int .i64 16] w fun e w' => e = .returned (S (hxS n)) ∧ Below w.heap.size w w' := by
  have HB := Lib.hid (fun w hD => bits_as n hn w hD)
  have HD := Lib.hid hD
  clear hD
  have hF : Calls Tryd.prog 71 #[.int .i64 (n : Int), .int .i64 16] w fun e w' => e = .returned (S (hxS n)) ∧ Below w.heap.size w w' := by
    have h0 : ¬ (n : Int) < 0 := by omega
    go_enter Tryd.func71, Tryd.ntmps71
    go_wp2_with fail
    with_reducible refine (HB.out _ HD.out).mono ?_
    rintro e w1 ⟨rfl, h1⟩
    go_wp2
    go_ret
    exact ⟨rfl, h1⟩
  have HF := Lib.hid hF
  clear hF
  go_enter Tryd.func57, Tryd.ntmps57
  go_wp2_with fail
  with_reducible refine HF.out.mono ?_
  rintro e w1 ⟨rfl, h1⟩
  go_wp2
  go_ret
  exact ⟨rfl, h1⟩
end Go.Proofs.YtbfhkcljkblnmaaDoor
