/- The walk of the law RoundBounds. -/
import Derived.Test.YtfbfjkacaadbpaaDoorRndP
namespace Go.Proofs.YtfbfjkacaadbpaaDoor
open Go.RowKit Florin
set_option linter.unusedVariables false
set_option linter.unusedSimpArgs false
attribute [local go_sem ↓] Go.wp_at_zero Go.wp_at_succ eq_V ne_V

/-- Sig, whatever came in. -/
def sigT (d : Tri) (k m : Int) : Tri := if d.l = [] then zero else mulT d 1 (hld (d.e + (d.l.length : Int) - 1 - min (max k 1) 30000 + 1)) m
theorem sig_T (d : Tri) (k m : Int) (g : Tri) (w : World) (h1 : d.l.length ≤ 100000) (h : sigT (made d.neg d.l d.e) k m = g) (ht : Tab w) :
    Calls Tryd.prog 16 #[V d, .int .i64 k, .int .i64 m] w fun z w' => z = .returned (V g) ∧ Below w.heap.size w w' := by
  unfold sigT at h
  by_cases hz : (made d.neg d.l d.e).l = []
  · rw [if_pos hz] at h
    subst h
    have hd : made d.neg d.l d.e = zero := by
      rcases made_nrm d.neg d.l d.e with h | h
      · exact h
      · exact absurd hz h.ne
    exact sig_zero d.neg ⟨d.l.toArray⟩ d.e k m w (by rw [arr_size]; exact h1) (by rw [arr_list]; exact hd)
  · rw [if_neg hz] at h
    exact sig_some d.neg ⟨d.l.toArray⟩ d.e k m w (by rw [arr_size]; exact h1) _ (by rw [arr_list]) hz _ _ rfl rfl ht g h
theorem stepT_one (d : Tri) (m : Int) (g : Tri) (w : World) (h1 : d.l.length ≤ 100000) (h : mulT (made d.neg d.l d.e) 1 0 m = g) (ht : Tab w) :
    Calls Tryd.prog 17 #[V d, .agg #[.bool false, .string ⟨#[49]⟩, .int .i64 0], .int .i64 m] w fun z w' => z = .returned (V g) ∧ Below w.heap.size w w' :=
  stepT_yes d ⟨false, [49], 0⟩ m g w h1 (by decide) [49] 0 (by decide) (by decide) (by decide) h ht
theorem stepT_zero (d : Tri) (m : Int) (g : Tri) (w : World) (h1 : d.l.length ≤ 100000) (h : made d.neg d.l d.e = g) :
    Calls Tryd.prog 17 #[V d, .agg #[.bool false, .string ⟨#[]⟩, .int .i64 0], .int .i64 m] w fun z w' => z = .returned (V g) ∧ Below w.heap.size w w' :=
  step_low d.neg ⟨d.l.toArray⟩ d.e m w (by rw [arr_size]; exact h1) g (by rw [arr_list]; exact h) false ⟨#[]⟩ 0 (by decide) false [] 0 (by decide) 0 rfl (by decide) rfl
theorem stepT_neg (d : Tri) (m : Int) (g : Tri) (w : World) (h1 : d.l.length ≤ 100000) (h : made d.neg d.l d.e = g) :
    Calls Tryd.prog 17 #[V d, .agg #[.bool true, .string ⟨#[49]⟩, .int .i64 0], .int .i64 m] w fun z w' => z = .returned (V g) ∧ Below w.heap.size w w' :=
  step_neg d.neg ⟨d.l.toArray⟩ d.e m w (by rw [arr_size]; exact h1) g (by rw [arr_list]; exact h) true ⟨#[49]⟩ 0 (by decide) [49] 0 (by decide) 1 rfl (by decide) (by decide) (by decide)
theorem stepT_big (d : Tri) (m : Int) (g : Tri) (w : World) (h1 : d.l.length ≤ 100000) (h : made d.neg d.l d.e = g) :
    Calls Tryd.prog 17 #[V d, .agg #[.bool false, .string ⟨#[49, 48, 48, 48, 48, 48, 48, 48, 48, 49]⟩, .int .i64 0], .int .i64 m] w fun z w' => z = .returned (V g) ∧ Below w.heap.size w w' :=
  step_high d.neg ⟨d.l.toArray⟩ d.e m w (by rw [arr_size]; exact h1) g (by rw [arr_list]; exact h) false ⟨#[49, 48, 48, 48, 48, 48, 48, 48, 48, 49]⟩ 0 (by decide) false [49, 48, 48, 48, 48, 48, 48, 48, 48, 49] 0 (by decide) 1000000001 rfl (by decide) (by decide)

set_option maxRecDepth 100000 in
set_option maxHeartbeats 6400000 in
theorem bounds_lo (n : Bool) (a : Option Addr) (len cap : Nat) (L : List UInt8) (e : Int) (mo pl : Int) (w : World) (hin : InB w a len cap L) (htab : Tab w) (h1 : len ≤ 40) (h2 : -40 ≤ e) (h3 : e ≤ 40)
    (d : Tri) (hd : made n (dgs L) e = d) (ha : mulT (made n (dgs L) e) 1 (hld pl) mo = d) (hs : sigT (made n (dgs L) e) pl mo = d) (ho : mulT (made n (dgs L) e) 1 0 mo = d) (hm : mo < 0) :
    Calls Tryd.prog 3 #[RV n a len cap e, .int .i64 mo, .int .i64 pl] w fun x w' => x = .returned (.bool true) ∧ Below w.heap.size w w' := by
  have m1 : decide (0 ≤ mo) = false := by simp; omega
  have LL : (dgs L).length ≤ 100000 := by rw [dgs_length, hin.1]; omega
  have hcA := hin.2.1
  have hmA := hin.2.2.1
  have HD := Lib.hid hd
  have HT := Lib.hid htab
  have HIN := Lib.hid hin
  have HA := Lib.hid ha
  have HS := Lib.hid hs
  have HO := Lib.hid ho
  clear hd htab hin ha hs ho
  go_enter Tryd.func3, Tryd.ntmps3
  go_wp2_with fail
  with_reducible refine (head3 _ (HT.out.below (HeldL.alloc (HeldL.refl w) (w.heap.size) #[.bool n, .slice a len cap, .int .i64 e] 24 (by simp)).bel)).mono ?_
  rintro x w1 ⟨rfl, hb⟩
  have H1 : Hid (HeldL w [(w.heap.size, #[.bool n, .slice a len cap, .int .i64 e])] w1) := Lib.hid (HeldL.keep (HeldL.alloc (HeldL.refl w) (w.heap.size) #[.bool n, .slice a len cap, .int .i64 e] 24 (by simp)) hb)
  clear hb
  have r0 : w1.cell? ⟨w.heap.size, 0, none⟩ = some (.bool n) := (H1.out.f (List.Mem.head _)).cell 0
  have r1 : w1.cell? ⟨w.heap.size, 1, none⟩ = some (.slice a len cap) := (H1.out.f (List.Mem.head _)).cell 1
  have r2 : w1.cell? ⟨w.heap.size, 2, none⟩ = some (.int .i64 e) := (H1.out.f (List.Mem.head _)).cell 2
  have rl : w.heap.size < w1.heap.size := (H1.out.f (List.Mem.head _)).lt
  go_wp2_with fail
  with_reducible refine (few_yes n a len cap e 40 _ hcA hmA (by decide) (by decide) (by omega) h2 h3).mono ?_
  rintro x w2 ⟨rfl, hb⟩
  clear r0 r1 r2 rl
  have H2 : Hid (HeldL w [(w.heap.size, #[.bool n, .slice a len cap, .int .i64 e])] w2) := Lib.hid (HeldL.keep H1.out hb)
  clear H1
  clear hb
  have r0 : w2.cell? ⟨w.heap.size, 0, none⟩ = some (.bool n) := (H2.out.f (List.Mem.head _)).cell 0
  have r1 : w2.cell? ⟨w.heap.size, 1, none⟩ = some (.slice a len cap) := (H2.out.f (List.Mem.head _)).cell 1
  have r2 : w2.cell? ⟨w.heap.size, 2, none⟩ = some (.int .i64 e) := (H2.out.f (List.Mem.head _)).cell 2
  have rl : w.heap.size < w2.heap.size := (H2.out.f (List.Mem.head _)).lt
  go_wp2_with fail
  with_reducible refine (make_as n a len cap L e _ (HIN.out.below H2.out.bel) (by omega)).mono ?_
  rintro x w3 ⟨rfl, hb⟩
  clear r0 r1 r2 rl
  have H3 : Hid (HeldL w [(w.heap.size, #[.bool n, .slice a len cap, .int .i64 e])] w3) := Lib.hid (HeldL.keep H2.out hb)
  clear H2
  clear hb
  go_wp2_with fail
  with_reducible refine (norm_T ⟨n, dgs L, e⟩ d _ LL HD.out).mono ?_
  rintro x w4 ⟨rfl, hb⟩
  have H4 : Hid (HeldL w [(w3.heap.size, #[.bool n, S (dgs L), .int .i64 e]), (w.heap.size, #[.bool n, .slice a len cap, .int .i64 e])] w4) := Lib.hid (HeldL.keep (HeldL.alloc H3.out (w3.heap.size) #[.bool n, S (dgs L), .int .i64 e] 28 (by simp)) hb)
  clear H3
  clear hb
  have x0 : w4.cell? ⟨w3.heap.size, 0, none⟩ = some (.bool n) := (H4.out.f (List.Mem.head _)).cell 0
  have x1 : w4.cell? ⟨w3.heap.size, 1, none⟩ = some (S (dgs L)) := (H4.out.f (List.Mem.head _)).cell 1
  have x2 : w4.cell? ⟨w3.heap.size, 2, none⟩ = some (.int .i64 e) := (H4.out.f (List.Mem.head _)).cell 2
  have xl : w3.heap.size < w4.heap.size := (H4.out.f (List.Mem.head _)).lt
  go_wp2_with fail
  with_reducible refine (made_as false ⟨#[49]⟩ 0 _ (by decide) ⟨false, [49], 0⟩ (by decide)).mono ?_
  rintro x w5 ⟨rfl, hb⟩
  clear x0 x1 x2 xl
  have H5 : Hid (HeldL w [(w4.heap.size, #[.bool d.neg, S d.l, .int .i64 d.e]), (w3.heap.size, #[.bool n, S (dgs L), .int .i64 e]), (w.heap.size, #[.bool n, .slice a len cap, .int .i64 e])] w5) := Lib.hid (HeldL.keep (HeldL.alloc H4.out (w4.heap.size) #[.bool d.neg, S d.l, .int .i64 d.e] 28 (by simp)) hb)
  clear H4
  clear hb
  have x0 : w5.cell? ⟨w3.heap.size, 0, none⟩ = some (.bool n) := (H5.out.f (List.Mem.tail _ (List.Mem.head _))).cell 0
  have x1 : w5.cell? ⟨w3.heap.size, 1, none⟩ = some (S (dgs L)) := (H5.out.f (List.Mem.tail _ (List.Mem.head _))).cell 1
  have x2 : w5.cell? ⟨w3.heap.size, 2, none⟩ = some (.int .i64 e) := (H5.out.f (List.Mem.tail _ (List.Mem.head _))).cell 2
  have xl : w3.heap.size < w5.heap.size := (H5.out.f (List.Mem.tail _ (List.Mem.head _))).lt
  have d0 : w5.cell? ⟨w4.heap.size, 0, none⟩ = some (.bool d.neg) := (H5.out.f (List.Mem.head _)).cell 0
  have d1 : w5.cell? ⟨w4.heap.size, 1, none⟩ = some (S d.l) := (H5.out.f (List.Mem.head _)).cell 1
  have d2 : w5.cell? ⟨w4.heap.size, 2, none⟩ = some (.int .i64 d.e) := (H5.out.f (List.Mem.head _)).cell 2
  have dl : w4.heap.size < w5.heap.size := (H5.out.f (List.Mem.head _)).lt
  go_wp2_with fail
  with_reducible refine (modeValid_no mo _ (.inl hm)).mono ?_
  rintro x wz ⟨rfl, rfl⟩
  go_wp2_with fail
  with_reducible refine (modeValid_no mo _ (.inl hm)).mono ?_
  rintro x wz ⟨rfl, rfl⟩
  go_wp2_with fail
  have ALL1 : Hid (∀ w' : World, HeldL w [(w5.heap.size, #[.bool false, .string ⟨#[49]⟩, .int .i64 0]), (w4.heap.size, #[.bool d.neg, S d.l, .int .i64 d.e]), (w3.heap.size, #[.bool n, S (dgs L), .int .i64 e]), (w.heap.size, #[.bool n, .slice a len cap, .int .i64 e])] w' → w'.cell? ⟨w3.heap.size, 0, none⟩ = some (.bool n) ∧ w'.cell? ⟨w3.heap.size, 1, none⟩ = some (S (dgs L)) ∧ w'.cell? ⟨w3.heap.size, 2, none⟩ = some (.int .i64 e) ∧ w'.cell? ⟨w4.heap.size, 0, none⟩ = some (.bool d.neg) ∧ w'.cell? ⟨w4.heap.size, 1, none⟩ = some (S d.l) ∧ w'.cell? ⟨w4.heap.size, 2, none⟩ = some (.int .i64 d.e) ∧ w'.cell? ⟨w5.heap.size, 0, none⟩ = some (.bool false) ∧ w'.cell? ⟨w5.heap.size, 1, none⟩ = some (.string ⟨#[49]⟩) ∧ w'.cell? ⟨w5.heap.size, 2, none⟩ = some (.int .i64 0) ∧ HeldL w [(w5.heap.size, #[.bool false, .string ⟨#[49]⟩, .int .i64 0]), (w4.heap.size, #[.bool d.neg, S d.l, .int .i64 d.e]), (w3.heap.size, #[.bool n, S (dgs L), .int .i64 e]), (w.heap.size, #[.bool n, .slice a len cap, .int .i64 e])] w') := Lib.hid (fun w' h => ⟨(h.f (List.Mem.tail _ (List.Mem.tail _ (List.Mem.head _)))).cell 0, (h.f (List.Mem.tail _ (List.Mem.tail _ (List.Mem.head _)))).cell 1, (h.f (List.Mem.tail _ (List.Mem.tail _ (List.Mem.head _)))).cell 2, (h.f (List.Mem.tail _ (List.Mem.head _))).cell 0, (h.f (List.Mem.tail _ (List.Mem.head _))).cell 1, (h.f (List.Mem.tail _ (List.Mem.head _))).cell 2, (h.f (List.Mem.head _)).cell 0, (h.f (List.Mem.head _)).cell 1, (h.f (List.Mem.head _)).cell 2, h⟩)
  have KEEP1 : Hid (∀ w' w'' : World, (w'.cell? ⟨w3.heap.size, 0, none⟩ = some (.bool n) ∧ w'.cell? ⟨w3.heap.size, 1, none⟩ = some (S (dgs L)) ∧ w'.cell? ⟨w3.heap.size, 2, none⟩ = some (.int .i64 e) ∧ w'.cell? ⟨w4.heap.size, 0, none⟩ = some (.bool d.neg) ∧ w'.cell? ⟨w4.heap.size, 1, none⟩ = some (S d.l) ∧ w'.cell? ⟨w4.heap.size, 2, none⟩ = some (.int .i64 d.e) ∧ w'.cell? ⟨w5.heap.size, 0, none⟩ = some (.bool false) ∧ w'.cell? ⟨w5.heap.size, 1, none⟩ = some (.string ⟨#[49]⟩) ∧ w'.cell? ⟨w5.heap.size, 2, none⟩ = some (.int .i64 0) ∧ HeldL w [(w5.heap.size, #[.bool false, .string ⟨#[49]⟩, .int .i64 0]), (w4.heap.size, #[.bool d.neg, S d.l, .int .i64 d.e]), (w3.heap.size, #[.bool n, S (dgs L), .int .i64 e]), (w.heap.size, #[.bool n, .slice a len cap, .int .i64 e])] w') → Below w'.heap.size w' w'' → (w''.cell? ⟨w3.heap.size, 0, none⟩ = some (.bool n) ∧ w''.cell? ⟨w3.heap.size, 1, none⟩ = some (S (dgs L)) ∧ w''.cell? ⟨w3.heap.size, 2, none⟩ = some (.int .i64 e) ∧ w''.cell? ⟨w4.heap.size, 0, none⟩ = some (.bool d.neg) ∧ w''.cell? ⟨w4.heap.size, 1, none⟩ = some (S d.l) ∧ w''.cell? ⟨w4.heap.size, 2, none⟩ = some (.int .i64 d.e) ∧ w''.cell? ⟨w5.heap.size, 0, none⟩ = some (.bool false) ∧ w''.cell? ⟨w5.heap.size, 1, none⟩ = some (.string ⟨#[49]⟩) ∧ w''.cell? ⟨w5.heap.size, 2, none⟩ = some (.int .i64 0) ∧ HeldL w [(w5.heap.size, #[.bool false, .string ⟨#[49]⟩, .int .i64 0]), (w4.heap.size, #[.bool d.neg, S d.l, .int .i64 d.e]), (w3.heap.size, #[.bool n, S (dgs L), .int .i64 e]), (w.heap.size, #[.bool n, .slice a len cap, .int .i64 e])] w'')) := Lib.hid (fun w' w'' h hb => ALL1.out _ (HeldL.keep (h.2.2.2.2.2.2.2.2.2) hb))
  have HS1 : Hid (HeldL w [(w5.heap.size, #[.bool false, .string ⟨#[49]⟩, .int .i64 0]), (w4.heap.size, #[.bool d.neg, S d.l, .int .i64 d.e]), (w3.heap.size, #[.bool n, S (dgs L), .int .i64 e]), (w.heap.size, #[.bool n, .slice a len cap, .int .i64 e])] _) := Lib.hid (HeldL.alloc H5.out (w5.heap.size) #[.bool false, .string ⟨#[49]⟩, .int .i64 0] 28 (by simp))
  have TAB1 : Hid (∀ w' : World, (w'.cell? ⟨w3.heap.size, 0, none⟩ = some (.bool n) ∧ w'.cell? ⟨w3.heap.size, 1, none⟩ = some (S (dgs L)) ∧ w'.cell? ⟨w3.heap.size, 2, none⟩ = some (.int .i64 e) ∧ w'.cell? ⟨w4.heap.size, 0, none⟩ = some (.bool d.neg) ∧ w'.cell? ⟨w4.heap.size, 1, none⟩ = some (S d.l) ∧ w'.cell? ⟨w4.heap.size, 2, none⟩ = some (.int .i64 d.e) ∧ w'.cell? ⟨w5.heap.size, 0, none⟩ = some (.bool false) ∧ w'.cell? ⟨w5.heap.size, 1, none⟩ = some (.string ⟨#[49]⟩) ∧ w'.cell? ⟨w5.heap.size, 2, none⟩ = some (.int .i64 0) ∧ HeldL w [(w5.heap.size, #[.bool false, .string ⟨#[49]⟩, .int .i64 0]), (w4.heap.size, #[.bool d.neg, S d.l, .int .i64 d.e]), (w3.heap.size, #[.bool n, S (dgs L), .int .i64 e]), (w.heap.size, #[.bool n, .slice a len cap, .int .i64 e])] w') → Tab w') := Lib.hid (fun w' h => HT.out.below (h.2.2.2.2.2.2.2.2.2).bel)
  go_region_held3 (fun w' => w'.cell? ⟨w3.heap.size, 0, none⟩ = some (.bool n) ∧ w'.cell? ⟨w3.heap.size, 1, none⟩ = some (S (dgs L)) ∧ w'.cell? ⟨w3.heap.size, 2, none⟩ = some (.int .i64 e) ∧ w'.cell? ⟨w4.heap.size, 0, none⟩ = some (.bool d.neg) ∧ w'.cell? ⟨w4.heap.size, 1, none⟩ = some (S d.l) ∧ w'.cell? ⟨w4.heap.size, 2, none⟩ = some (.int .i64 d.e) ∧ w'.cell? ⟨w5.heap.size, 0, none⟩ = some (.bool false) ∧ w'.cell? ⟨w5.heap.size, 1, none⟩ = some (.string ⟨#[49]⟩) ∧ w'.cell? ⟨w5.heap.size, 2, none⟩ = some (.int .i64 0) ∧ HeldL w [(w5.heap.size, #[.bool false, .string ⟨#[49]⟩, .int .i64 0]), (w4.heap.size, #[.bool d.neg, S d.l, .int .i64 d.e]), (w3.heap.size, #[.bool n, S (dgs L), .int .i64 e]), (w.heap.size, #[.bool n, .slice a len cap, .int .i64 e])] w')
    (first | exact ALL1.out _ (HeldL.drew HS1.out) | exact KEEP1.out _ _ (by assumption) hb | assumption)
    (first | (go_at_call 15; (with_reducible refine (at_T ⟨n, dgs L, e⟩ pl mo d _ LL HA.out (by first | exact HT.out.below HS1.out.bel.drew | exact TAB1.out _ (by assumption))).mono ?_); rintro x wA ⟨rfl, hb⟩) | (go_at_call 16; (with_reducible refine (sig_T ⟨n, dgs L, e⟩ pl mo d _ LL HS.out (by first | exact HT.out.below HS1.out.bel.drew | exact TAB1.out _ (by assumption))).mono ?_); rintro x wB ⟨rfl, hb⟩) | (go_at_call 17; (with_reducible refine (stepT_one ⟨n, dgs L, e⟩ mo d _ LL HO.out (by first | exact HT.out.below HS1.out.bel.drew | exact TAB1.out _ (by assumption))).mono ?_); rintro x wC ⟨rfl, hb⟩))
  have HH : HeldL w [(w5.heap.size, #[.bool false, .string ⟨#[49]⟩, .int .i64 0]), (w4.heap.size, #[.bool d.neg, S d.l, .int .i64 d.e]), (w3.heap.size, #[.bool n, S (dgs L), .int .i64 e]), (w.heap.size, #[.bool n, .slice a len cap, .int .i64 e])] wC := (‹wC.cell? ⟨w3.heap.size, 0, none⟩ = some (.bool n) ∧ wC.cell? ⟨w3.heap.size, 1, none⟩ = some (S (dgs L)) ∧ wC.cell? ⟨w3.heap.size, 2, none⟩ = some (.int .i64 e) ∧ wC.cell? ⟨w4.heap.size, 0, none⟩ = some (.bool d.neg) ∧ wC.cell? ⟨w4.heap.size, 1, none⟩ = some (S d.l) ∧ wC.cell? ⟨w4.heap.size, 2, none⟩ = some (.int .i64 d.e) ∧ wC.cell? ⟨w5.heap.size, 0, none⟩ = some (.bool false) ∧ wC.cell? ⟨w5.heap.size, 1, none⟩ = some (.string ⟨#[49]⟩) ∧ wC.cell? ⟨w5.heap.size, 2, none⟩ = some (.int .i64 0) ∧ HeldL w [(w5.heap.size, #[.bool false, .string ⟨#[49]⟩, .int .i64 0]), (w4.heap.size, #[.bool d.neg, S d.l, .int .i64 d.e]), (w3.heap.size, #[.bool n, S (dgs L), .int .i64 e]), (w.heap.size, #[.bool n, .slice a len cap, .int .i64 e])] wC›).2.2.2.2.2.2.2.2.2
  clear x0 x1 x2 xl d0 d1 d2 dl
  have H6 : Hid (HeldL w [(w5.heap.size, #[.bool false, .string ⟨#[49]⟩, .int .i64 0]), (w4.heap.size, #[.bool d.neg, S d.l, .int .i64 d.e]), (w3.heap.size, #[.bool n, S (dgs L), .int .i64 e]), (w.heap.size, #[.bool n, .slice a len cap, .int .i64 e])] wC) := Lib.hid HH
  clear HH ALL1 KEEP1 HS1 TAB1 H5
  go_wp2
  go_ret
  exact ⟨rfl, H6.out.bel⟩

set_option maxRecDepth 100000 in
set_option maxHeartbeats 6400000 in
theorem bounds_hi (n : Bool) (a : Option Addr) (len cap : Nat) (L : List UInt8) (e : Int) (mo pl : Int) (w : World) (hin : InB w a len cap L) (htab : Tab w) (h1 : len ≤ 40) (h2 : -40 ≤ e) (h3 : e ≤ 40)
    (d : Tri) (hd : made n (dgs L) e = d) (ha : mulT (made n (dgs L) e) 1 (hld pl) mo = d) (hs : sigT (made n (dgs L) e) pl mo = d) (ho : mulT (made n (dgs L) e) 1 0 mo = d) (hm : 6 < mo) :
    Calls Tryd.prog 3 #[RV n a len cap e, .int .i64 mo, .int .i64 pl] w fun x w' => x = .returned (.bool true) ∧ Below w.heap.size w w' := by
  have m1 : decide (0 ≤ mo) = true := by simp; omega
  have m2 : decide (mo ≤ 6) = false := by simp; omega
  have m3 : 0 ≤ mo := by omega
  have LL : (dgs L).length ≤ 100000 := by rw [dgs_length, hin.1]; omega
  have hcA := hin.2.1
  have hmA := hin.2.2.1
  have HD := Lib.hid hd
  have HT := Lib.hid htab
  have HIN := Lib.hid hin
  have HA := Lib.hid ha
  have HS := Lib.hid hs
  have HO := Lib.hid ho
  clear hd htab hin ha hs ho
  go_enter Tryd.func3, Tryd.ntmps3
  go_wp2_with fail
  with_reducible refine (head3 _ (HT.out.below (HeldL.alloc (HeldL.refl w) (w.heap.size) #[.bool n, .slice a len cap, .int .i64 e] 24 (by simp)).bel)).mono ?_
  rintro x w1 ⟨rfl, hb⟩
  have H1 : Hid (HeldL w [(w.heap.size, #[.bool n, .slice a len cap, .int .i64 e])] w1) := Lib.hid (HeldL.keep (HeldL.alloc (HeldL.refl w) (w.heap.size) #[.bool n, .slice a len cap, .int .i64 e] 24 (by simp)) hb)
  clear hb
  have r0 : w1.cell? ⟨w.heap.size, 0, none⟩ = some (.bool n) := (H1.out.f (List.Mem.head _)).cell 0
  have r1 : w1.cell? ⟨w.heap.size, 1, none⟩ = some (.slice a len cap) := (H1.out.f (List.Mem.head _)).cell 1
  have r2 : w1.cell? ⟨w.heap.size, 2, none⟩ = some (.int .i64 e) := (H1.out.f (List.Mem.head _)).cell 2
  have rl : w.heap.size < w1.heap.size := (H1.out.f (List.Mem.head _)).lt
  go_wp2_with fail
  with_reducible refine (few_yes n a len cap e 40 _ hcA hmA (by decide) (by decide) (by omega) h2 h3).mono ?_
  rintro x w2 ⟨rfl, hb⟩
  clear r0 r1 r2 rl
  have H2 : Hid (HeldL w [(w.heap.size, #[.bool n, .slice a len cap, .int .i64 e])] w2) := Lib.hid (HeldL.keep H1.out hb)
  clear H1
  clear hb
  have r0 : w2.cell? ⟨w.heap.size, 0, none⟩ = some (.bool n) := (H2.out.f (List.Mem.head _)).cell 0
  have r1 : w2.cell? ⟨w.heap.size, 1, none⟩ = some (.slice a len cap) := (H2.out.f (List.Mem.head _)).cell 1
  have r2 : w2.cell? ⟨w.heap.size, 2, none⟩ = some (.int .i64 e) := (H2.out.f (List.Mem.head _)).cell 2
  have rl : w.heap.size < w2.heap.size := (H2.out.f (List.Mem.head _)).lt
  go_wp2_with fail
  with_reducible refine (make_as n a len cap L e _ (HIN.out.below H2.out.bel) (by omega)).mono ?_
  rintro x w3 ⟨rfl, hb⟩
  clear r0 r1 r2 rl
  have H3 : Hid (HeldL w [(w.heap.size, #[.bool n, .slice a len cap, .int .i64 e])] w3) := Lib.hid (HeldL.keep H2.out hb)
  clear H2
  clear hb
  go_wp2_with fail
  with_reducible refine (norm_T ⟨n, dgs L, e⟩ d _ LL HD.out).mono ?_
  rintro x w4 ⟨rfl, hb⟩
  have H4 : Hid (HeldL w [(w3.heap.size, #[.bool n, S (dgs L), .int .i64 e]), (w.heap.size, #[.bool n, .slice a len cap, .int .i64 e])] w4) := Lib.hid (HeldL.keep (HeldL.alloc H3.out (w3.heap.size) #[.bool n, S (dgs L), .int .i64 e] 28 (by simp)) hb)
  clear H3
  clear hb
  have x0 : w4.cell? ⟨w3.heap.size, 0, none⟩ = some (.bool n) := (H4.out.f (List.Mem.head _)).cell 0
  have x1 : w4.cell? ⟨w3.heap.size, 1, none⟩ = some (S (dgs L)) := (H4.out.f (List.Mem.head _)).cell 1
  have x2 : w4.cell? ⟨w3.heap.size, 2, none⟩ = some (.int .i64 e) := (H4.out.f (List.Mem.head _)).cell 2
  have xl : w3.heap.size < w4.heap.size := (H4.out.f (List.Mem.head _)).lt
  go_wp2_with fail
  with_reducible refine (made_as false ⟨#[49]⟩ 0 _ (by decide) ⟨false, [49], 0⟩ (by decide)).mono ?_
  rintro x w5 ⟨rfl, hb⟩
  clear x0 x1 x2 xl
  have H5 : Hid (HeldL w [(w4.heap.size, #[.bool d.neg, S d.l, .int .i64 d.e]), (w3.heap.size, #[.bool n, S (dgs L), .int .i64 e]), (w.heap.size, #[.bool n, .slice a len cap, .int .i64 e])] w5) := Lib.hid (HeldL.keep (HeldL.alloc H4.out (w4.heap.size) #[.bool d.neg, S d.l, .int .i64 d.e] 28 (by simp)) hb)
  clear H4
  clear hb
  have x0 : w5.cell? ⟨w3.heap.size, 0, none⟩ = some (.bool n) := (H5.out.f (List.Mem.tail _ (List.Mem.head _))).cell 0
  have x1 : w5.cell? ⟨w3.heap.size, 1, none⟩ = some (S (dgs L)) := (H5.out.f (List.Mem.tail _ (List.Mem.head _))).cell 1
  have x2 : w5.cell? ⟨w3.heap.size, 2, none⟩ = some (.int .i64 e) := (H5.out.f (List.Mem.tail _ (List.Mem.head _))).cell 2
  have xl : w3.heap.size < w5.heap.size := (H5.out.f (List.Mem.tail _ (List.Mem.head _))).lt
  have d0 : w5.cell? ⟨w4.heap.size, 0, none⟩ = some (.bool d.neg) := (H5.out.f (List.Mem.head _)).cell 0
  have d1 : w5.cell? ⟨w4.heap.size, 1, none⟩ = some (S d.l) := (H5.out.f (List.Mem.head _)).cell 1
  have d2 : w5.cell? ⟨w4.heap.size, 2, none⟩ = some (.int .i64 d.e) := (H5.out.f (List.Mem.head _)).cell 2
  have dl : w4.heap.size < w5.heap.size := (H5.out.f (List.Mem.head _)).lt
  go_wp2_with fail
  with_reducible refine (modeValid_no mo _ (.inr hm)).mono ?_
  rintro x wz ⟨rfl, rfl⟩
  go_wp2_with fail
  with_reducible refine (modeValid_no mo _ (.inr hm)).mono ?_
  rintro x wz ⟨rfl, rfl⟩
  go_wp2_with fail
  have ALL1 : Hid (∀ w' : World, HeldL w [(w5.heap.size, #[.bool false, .string ⟨#[49]⟩, .int .i64 0]), (w4.heap.size, #[.bool d.neg, S d.l, .int .i64 d.e]), (w3.heap.size, #[.bool n, S (dgs L), .int .i64 e]), (w.heap.size, #[.bool n, .slice a len cap, .int .i64 e])] w' → w'.cell? ⟨w3.heap.size, 0, none⟩ = some (.bool n) ∧ w'.cell? ⟨w3.heap.size, 1, none⟩ = some (S (dgs L)) ∧ w'.cell? ⟨w3.heap.size, 2, none⟩ = some (.int .i64 e) ∧ w'.cell? ⟨w4.heap.size, 0, none⟩ = some (.bool d.neg) ∧ w'.cell? ⟨w4.heap.size, 1, none⟩ = some (S d.l) ∧ w'.cell? ⟨w4.heap.size, 2, none⟩ = some (.int .i64 d.e) ∧ w'.cell? ⟨w5.heap.size, 0, none⟩ = some (.bool false) ∧ w'.cell? ⟨w5.heap.size, 1, none⟩ = some (.string ⟨#[49]⟩) ∧ w'.cell? ⟨w5.heap.size, 2, none⟩ = some (.int .i64 0) ∧ HeldL w [(w5.heap.size, #[.bool false, .string ⟨#[49]⟩, .int .i64 0]), (w4.heap.size, #[.bool d.neg, S d.l, .int .i64 d.e]), (w3.heap.size, #[.bool n, S (dgs L), .int .i64 e]), (w.heap.size, #[.bool n, .slice a len cap, .int .i64 e])] w') := Lib.hid (fun w' h => ⟨(h.f (List.Mem.tail _ (List.Mem.tail _ (List.Mem.head _)))).cell 0, (h.f (List.Mem.tail _ (List.Mem.tail _ (List.Mem.head _)))).cell 1, (h.f (List.Mem.tail _ (List.Mem.tail _ (List.Mem.head _)))).cell 2, (h.f (List.Mem.tail _ (List.Mem.head _))).cell 0, (h.f (List.Mem.tail _ (List.Mem.head _))).cell 1, (h.f (List.Mem.tail _ (List.Mem.head _))).cell 2, (h.f (List.Mem.head _)).cell 0, (h.f (List.Mem.head _)).cell 1, (h.f (List.Mem.head _)).cell 2, h⟩)
  have KEEP1 : Hid (∀ w' w'' : World, (w'.cell? ⟨w3.heap.size, 0, none⟩ = some (.bool n) ∧ w'.cell? ⟨w3.heap.size, 1, none⟩ = some (S (dgs L)) ∧ w'.cell? ⟨w3.heap.size, 2, none⟩ = some (.int .i64 e) ∧ w'.cell? ⟨w4.heap.size, 0, none⟩ = some (.bool d.neg) ∧ w'.cell? ⟨w4.heap.size, 1, none⟩ = some (S d.l) ∧ w'.cell? ⟨w4.heap.size, 2, none⟩ = some (.int .i64 d.e) ∧ w'.cell? ⟨w5.heap.size, 0, none⟩ = some (.bool false) ∧ w'.cell? ⟨w5.heap.size, 1, none⟩ = some (.string ⟨#[49]⟩) ∧ w'.cell? ⟨w5.heap.size, 2, none⟩ = some (.int .i64 0) ∧ HeldL w [(w5.heap.size, #[.bool false, .string ⟨#[49]⟩, .int .i64 0]), (w4.heap.size, #[.bool d.neg, S d.l, .int .i64 d.e]), (w3.heap.size, #[.bool n, S (dgs L), .int .i64 e]), (w.heap.size, #[.bool n, .slice a len cap, .int .i64 e])] w') → Below w'.heap.size w' w'' → (w''.cell? ⟨w3.heap.size, 0, none⟩ = some (.bool n) ∧ w''.cell? ⟨w3.heap.size, 1, none⟩ = some (S (dgs L)) ∧ w''.cell? ⟨w3.heap.size, 2, none⟩ = some (.int .i64 e) ∧ w''.cell? ⟨w4.heap.size, 0, none⟩ = some (.bool d.neg) ∧ w''.cell? ⟨w4.heap.size, 1, none⟩ = some (S d.l) ∧ w''.cell? ⟨w4.heap.size, 2, none⟩ = some (.int .i64 d.e) ∧ w''.cell? ⟨w5.heap.size, 0, none⟩ = some (.bool false) ∧ w''.cell? ⟨w5.heap.size, 1, none⟩ = some (.string ⟨#[49]⟩) ∧ w''.cell? ⟨w5.heap.size, 2, none⟩ = some (.int .i64 0) ∧ HeldL w [(w5.heap.size, #[.bool false, .string ⟨#[49]⟩, .int .i64 0]), (w4.heap.size, #[.bool d.neg, S d.l, .int .i64 d.e]), (w3.heap.size, #[.bool n, S (dgs L), .int .i64 e]), (w.heap.size, #[.bool n, .slice a len cap, .int .i64 e])] w'')) := Lib.hid (fun w' w'' h hb => ALL1.out _ (HeldL.keep (h.2.2.2.2.2.2.2.2.2) hb))
  have HS1 : Hid (HeldL w [(w5.heap.size, #[.bool false, .string ⟨#[49]⟩, .int .i64 0]), (w4.heap.size, #[.bool d.neg, S d.l, .int .i64 d.e]), (w3.heap.size, #[.bool n, S (dgs L), .int .i64 e]), (w.heap.size, #[.bool n, .slice a len cap, .int .i64 e])] _) := Lib.hid (HeldL.alloc H5.out (w5.heap.size) #[.bool false, .string ⟨#[49]⟩, .int .i64 0] 28 (by simp))
  have TAB1 : Hid (∀ w' : World, (w'.cell? ⟨w3.heap.size, 0, none⟩ = some (.bool n) ∧ w'.cell? ⟨w3.heap.size, 1, none⟩ = some (S (dgs L)) ∧ w'.cell? ⟨w3.heap.size, 2, none⟩ = some (.int .i64 e) ∧ w'.cell? ⟨w4.heap.size, 0, none⟩ = some (.bool d.neg) ∧ w'.cell? ⟨w4.heap.size, 1, none⟩ = some (S d.l) ∧ w'.cell? ⟨w4.heap.size, 2, none⟩ = some (.int .i64 d.e) ∧ w'.cell? ⟨w5.heap.size, 0, none⟩ = some (.bool false) ∧ w'.cell? ⟨w5.heap.size, 1, none⟩ = some (.string ⟨#[49]⟩) ∧ w'.cell? ⟨w5.heap.size, 2, none⟩ = some (.int .i64 0) ∧ HeldL w [(w5.heap.size, #[.bool false, .string ⟨#[49]⟩, .int .i64 0]), (w4.heap.size, #[.bool d.neg, S d.l, .int .i64 d.e]), (w3.heap.size, #[.bool n, S (dgs L), .int .i64 e]), (w.heap.size, #[.bool n, .slice a len cap, .int .i64 e])] w') → Tab w') := Lib.hid (fun w' h => HT.out.below (h.2.2.2.2.2.2.2.2.2).bel)
  go_region_held3 (fun w' => w'.cell? ⟨w3.heap.size, 0, none⟩ = some (.bool n) ∧ w'.cell? ⟨w3.heap.size, 1, none⟩ = some (S (dgs L)) ∧ w'.cell? ⟨w3.heap.size, 2, none⟩ = some (.int .i64 e) ∧ w'.cell? ⟨w4.heap.size, 0, none⟩ = some (.bool d.neg) ∧ w'.cell? ⟨w4.heap.size, 1, none⟩ = some (S d.l) ∧ w'.cell? ⟨w4.heap.size, 2, none⟩ = some (.int .i64 d.e) ∧ w'.cell? ⟨w5.heap.size, 0, none⟩ = some (.bool false) ∧ w'.cell? ⟨w5.heap.size, 1, none⟩ = some (.string ⟨#[49]⟩) ∧ w'.cell? ⟨w5.heap.size, 2, none⟩ = some (.int .i64 0) ∧ HeldL w [(w5.heap.size, #[.bool false, .string ⟨#[49]⟩, .int .i64 0]), (w4.heap.size, #[.bool d.neg, S d.l, .int .i64 d.e]), (w3.heap.size, #[.bool n, S (dgs L), .int .i64 e]), (w.heap.size, #[.bool n, .slice a len cap, .int .i64 e])] w')
    (first | exact ALL1.out _ (HeldL.drew HS1.out) | exact KEEP1.out _ _ (by assumption) hb | assumption)
    (first | (go_at_call 15; (with_reducible refine (at_T ⟨n, dgs L, e⟩ pl mo d _ LL HA.out (by first | exact HT.out.below HS1.out.bel.drew | exact TAB1.out _ (by assumption))).mono ?_); rintro x wA ⟨rfl, hb⟩) | (go_at_call 16; (with_reducible refine (sig_T ⟨n, dgs L, e⟩ pl mo d _ LL HS.out (by first | exact HT.out.below HS1.out.bel.drew | exact TAB1.out _ (by assumption))).mono ?_); rintro x wB ⟨rfl, hb⟩) | (go_at_call 17; (with_reducible refine (stepT_one ⟨n, dgs L, e⟩ mo d _ LL HO.out (by first | exact HT.out.below HS1.out.bel.drew | exact TAB1.out _ (by assumption))).mono ?_); rintro x wC ⟨rfl, hb⟩))
  have HH : HeldL w [(w5.heap.size, #[.bool false, .string ⟨#[49]⟩, .int .i64 0]), (w4.heap.size, #[.bool d.neg, S d.l, .int .i64 d.e]), (w3.heap.size, #[.bool n, S (dgs L), .int .i64 e]), (w.heap.size, #[.bool n, .slice a len cap, .int .i64 e])] wC := (‹wC.cell? ⟨w3.heap.size, 0, none⟩ = some (.bool n) ∧ wC.cell? ⟨w3.heap.size, 1, none⟩ = some (S (dgs L)) ∧ wC.cell? ⟨w3.heap.size, 2, none⟩ = some (.int .i64 e) ∧ wC.cell? ⟨w4.heap.size, 0, none⟩ = some (.bool d.neg) ∧ wC.cell? ⟨w4.heap.size, 1, none⟩ = some (S d.l) ∧ wC.cell? ⟨w4.heap.size, 2, none⟩ = some (.int .i64 d.e) ∧ wC.cell? ⟨w5.heap.size, 0, none⟩ = some (.bool false) ∧ wC.cell? ⟨w5.heap.size, 1, none⟩ = some (.string ⟨#[49]⟩) ∧ wC.cell? ⟨w5.heap.size, 2, none⟩ = some (.int .i64 0) ∧ HeldL w [(w5.heap.size, #[.bool false, .string ⟨#[49]⟩, .int .i64 0]), (w4.heap.size, #[.bool d.neg, S d.l, .int .i64 d.e]), (w3.heap.size, #[.bool n, S (dgs L), .int .i64 e]), (w.heap.size, #[.bool n, .slice a len cap, .int .i64 e])] wC›).2.2.2.2.2.2.2.2.2
  clear x0 x1 x2 xl d0 d1 d2 dl
  have H6 : Hid (HeldL w [(w5.heap.size, #[.bool false, .string ⟨#[49]⟩, .int .i64 0]), (w4.heap.size, #[.bool d.neg, S d.l, .int .i64 d.e]), (w3.heap.size, #[.bool n, S (dgs L), .int .i64 e]), (w.heap.size, #[.bool n, .slice a len cap, .int .i64 e])] wC) := Lib.hid HH
  clear HH ALL1 KEEP1 HS1 TAB1 H5
  go_wp2
  go_ret
  exact ⟨rfl, H6.out.bel⟩

set_option maxRecDepth 100000 in
set_option maxHeartbeats 6400000 in
theorem bounds_ok (n : Bool) (a : Option Addr) (len cap : Nat) (L : List UInt8) (e : Int) (mo pl : Int) (w : World) (hin : InB w a len cap L) (htab : Tab w) (h1 : len ≤ 40) (h2 : -40 ≤ e) (h3 : e ≤ 40)
    (d : Tri) (hd : made n (dgs L) e = d) (g h : Tri) (ha : mulT (made n (dgs L) e) 1 (hld pl) mo = g) (hb : mulT (made n (dgs L) e) 1 (hld (hld pl)) mo = g) (ho : mulT (made n (dgs L) e) 1 0 mo = h) (he : mulT (made n (dgs L) e) 1 (hld (-50)) mo = d) (m0 : 0 ≤ mo) (m6 : mo ≤ 6) :
    Calls Tryd.prog 3 #[RV n a len cap e, .int .i64 mo, .int .i64 pl] w fun x w' => x = .returned (.bool true) ∧ Below w.heap.size w w' := by
  have m1 : decide (0 ≤ mo) = true := by simp; omega
  have m2 : decide (mo ≤ 6) = true := by simp; omega
  have HO2 : Hid (mulT (made n (dgs L) e) 1 (hld 0) mo = h) := Lib.hid ho
  have LL : (dgs L).length ≤ 100000 := by rw [dgs_length, hin.1]; omega
  have hcA := hin.2.1
  have hmA := hin.2.2.1
  have HD := Lib.hid hd
  have HT := Lib.hid htab
  have HIN := Lib.hid hin
  have HA := Lib.hid ha
  have HB := Lib.hid hb
  have HO := Lib.hid ho
  have HE := Lib.hid he
  clear hd htab hin ha hb ho he
  go_enter Tryd.func3, Tryd.ntmps3
  go_wp2_with fail
  with_reducible refine (head3 _ (HT.out.below (HeldL.alloc (HeldL.refl w) (w.heap.size) #[.bool n, .slice a len cap, .int .i64 e] 24 (by simp)).bel)).mono ?_
  rintro x w1 ⟨rfl, hb⟩
  have H1 : Hid (HeldL w [(w.heap.size, #[.bool n, .slice a len cap, .int .i64 e])] w1) := Lib.hid (HeldL.keep (HeldL.alloc (HeldL.refl w) (w.heap.size) #[.bool n, .slice a len cap, .int .i64 e] 24 (by simp)) hb)
  clear hb
  have r0 : w1.cell? ⟨w.heap.size, 0, none⟩ = some (.bool n) := (H1.out.f (List.Mem.head _)).cell 0
  have r1 : w1.cell? ⟨w.heap.size, 1, none⟩ = some (.slice a len cap) := (H1.out.f (List.Mem.head _)).cell 1
  have r2 : w1.cell? ⟨w.heap.size, 2, none⟩ = some (.int .i64 e) := (H1.out.f (List.Mem.head _)).cell 2
  have rl : w.heap.size < w1.heap.size := (H1.out.f (List.Mem.head _)).lt
  go_wp2_with fail
  with_reducible refine (few_yes n a len cap e 40 _ hcA hmA (by decide) (by decide) (by omega) h2 h3).mono ?_
  rintro x w2 ⟨rfl, hb⟩
  clear r0 r1 r2 rl
  have H2 : Hid (HeldL w [(w.heap.size, #[.bool n, .slice a len cap, .int .i64 e])] w2) := Lib.hid (HeldL.keep H1.out hb)
  clear H1
  clear hb
  have r0 : w2.cell? ⟨w.heap.size, 0, none⟩ = some (.bool n) := (H2.out.f (List.Mem.head _)).cell 0
  have r1 : w2.cell? ⟨w.heap.size, 1, none⟩ = some (.slice a len cap) := (H2.out.f (List.Mem.head _)).cell 1
  have r2 : w2.cell? ⟨w.heap.size, 2, none⟩ = some (.int .i64 e) := (H2.out.f (List.Mem.head _)).cell 2
  have rl : w.heap.size < w2.heap.size := (H2.out.f (List.Mem.head _)).lt
  go_wp2_with fail
  with_reducible refine (make_as n a len cap L e _ (HIN.out.below H2.out.bel) (by omega)).mono ?_
  rintro x w3 ⟨rfl, hb⟩
  clear r0 r1 r2 rl
  have H3 : Hid (HeldL w [(w.heap.size, #[.bool n, .slice a len cap, .int .i64 e])] w3) := Lib.hid (HeldL.keep H2.out hb)
  clear H2
  clear hb
  go_wp2_with fail
  with_reducible refine (norm_T ⟨n, dgs L, e⟩ d _ LL HD.out).mono ?_
  rintro x w4 ⟨rfl, hb⟩
  have H4 : Hid (HeldL w [(w3.heap.size, #[.bool n, S (dgs L), .int .i64 e]), (w.heap.size, #[.bool n, .slice a len cap, .int .i64 e])] w4) := Lib.hid (HeldL.keep (HeldL.alloc H3.out (w3.heap.size) #[.bool n, S (dgs L), .int .i64 e] 28 (by simp)) hb)
  clear H3
  clear hb
  have x0 : w4.cell? ⟨w3.heap.size, 0, none⟩ = some (.bool n) := (H4.out.f (List.Mem.head _)).cell 0
  have x1 : w4.cell? ⟨w3.heap.size, 1, none⟩ = some (S (dgs L)) := (H4.out.f (List.Mem.head _)).cell 1
  have x2 : w4.cell? ⟨w3.heap.size, 2, none⟩ = some (.int .i64 e) := (H4.out.f (List.Mem.head _)).cell 2
  have xl : w3.heap.size < w4.heap.size := (H4.out.f (List.Mem.head _)).lt
  go_wp2_with fail
  with_reducible refine (made_as false ⟨#[49]⟩ 0 _ (by decide) ⟨false, [49], 0⟩ (by decide)).mono ?_
  rintro x w5 ⟨rfl, hb⟩
  clear x0 x1 x2 xl
  have H5 : Hid (HeldL w [(w4.heap.size, #[.bool d.neg, S d.l, .int .i64 d.e]), (w3.heap.size, #[.bool n, S (dgs L), .int .i64 e]), (w.heap.size, #[.bool n, .slice a len cap, .int .i64 e])] w5) := Lib.hid (HeldL.keep (HeldL.alloc H4.out (w4.heap.size) #[.bool d.neg, S d.l, .int .i64 d.e] 28 (by simp)) hb)
  clear H4
  clear hb
  have x0 : w5.cell? ⟨w3.heap.size, 0, none⟩ = some (.bool n) := (H5.out.f (List.Mem.tail _ (List.Mem.head _))).cell 0
  have x1 : w5.cell? ⟨w3.heap.size, 1, none⟩ = some (S (dgs L)) := (H5.out.f (List.Mem.tail _ (List.Mem.head _))).cell 1
  have x2 : w5.cell? ⟨w3.heap.size, 2, none⟩ = some (.int .i64 e) := (H5.out.f (List.Mem.tail _ (List.Mem.head _))).cell 2
  have xl : w3.heap.size < w5.heap.size := (H5.out.f (List.Mem.tail _ (List.Mem.head _))).lt
  have d0 : w5.cell? ⟨w4.heap.size, 0, none⟩ = some (.bool d.neg) := (H5.out.f (List.Mem.head _)).cell 0
  have d1 : w5.cell? ⟨w4.heap.size, 1, none⟩ = some (S d.l) := (H5.out.f (List.Mem.head _)).cell 1
  have d2 : w5.cell? ⟨w4.heap.size, 2, none⟩ = some (.int .i64 d.e) := (H5.out.f (List.Mem.head _)).cell 2
  have dl : w4.heap.size < w5.heap.size := (H5.out.f (List.Mem.head _)).lt
  go_wp2_with fail
  with_reducible refine (modeValid_yes mo _ m0 m6).mono ?_
  rintro x wz ⟨rfl, rfl⟩
  go_wp2_with fail
  with_reducible refine (modeValid_yes mo _ m0 m6).mono ?_
  rintro x wz ⟨rfl, rfl⟩
  go_wp2_with fail
  try rw [show min (max pl (-30000)) 30000 = hld pl from rfl]
  have ALL1 : Hid (∀ w' : World, HeldL w [(w5.heap.size, #[.bool false, .string ⟨#[49]⟩, .int .i64 0]), (w4.heap.size, #[.bool d.neg, S d.l, .int .i64 d.e]), (w3.heap.size, #[.bool n, S (dgs L), .int .i64 e]), (w.heap.size, #[.bool n, .slice a len cap, .int .i64 e])] w' → w'.cell? ⟨w3.heap.size, 0, none⟩ = some (.bool n) ∧ w'.cell? ⟨w3.heap.size, 1, none⟩ = some (S (dgs L)) ∧ w'.cell? ⟨w3.heap.size, 2, none⟩ = some (.int .i64 e) ∧ w'.cell? ⟨w4.heap.size, 0, none⟩ = some (.bool d.neg) ∧ w'.cell? ⟨w4.heap.size, 1, none⟩ = some (S d.l) ∧ w'.cell? ⟨w4.heap.size, 2, none⟩ = some (.int .i64 d.e) ∧ w'.cell? ⟨w5.heap.size, 0, none⟩ = some (.bool false) ∧ w'.cell? ⟨w5.heap.size, 1, none⟩ = some (.string ⟨#[49]⟩) ∧ w'.cell? ⟨w5.heap.size, 2, none⟩ = some (.int .i64 0) ∧ HeldL w [(w5.heap.size, #[.bool false, .string ⟨#[49]⟩, .int .i64 0]), (w4.heap.size, #[.bool d.neg, S d.l, .int .i64 d.e]), (w3.heap.size, #[.bool n, S (dgs L), .int .i64 e]), (w.heap.size, #[.bool n, .slice a len cap, .int .i64 e])] w') := Lib.hid (fun w' h => ⟨(h.f (List.Mem.tail _ (List.Mem.tail _ (List.Mem.head _)))).cell 0, (h.f (List.Mem.tail _ (List.Mem.tail _ (List.Mem.head _)))).cell 1, (h.f (List.Mem.tail _ (List.Mem.tail _ (List.Mem.head _)))).cell 2, (h.f (List.Mem.tail _ (List.Mem.head _))).cell 0, (h.f (List.Mem.tail _ (List.Mem.head _))).cell 1, (h.f (List.Mem.tail _ (List.Mem.head _))).cell 2, (h.f (List.Mem.head _)).cell 0, (h.f (List.Mem.head _)).cell 1, (h.f (List.Mem.head _)).cell 2, h⟩)
  have KEEP1 : Hid (∀ w' w'' : World, (w'.cell? ⟨w3.heap.size, 0, none⟩ = some (.bool n) ∧ w'.cell? ⟨w3.heap.size, 1, none⟩ = some (S (dgs L)) ∧ w'.cell? ⟨w3.heap.size, 2, none⟩ = some (.int .i64 e) ∧ w'.cell? ⟨w4.heap.size, 0, none⟩ = some (.bool d.neg) ∧ w'.cell? ⟨w4.heap.size, 1, none⟩ = some (S d.l) ∧ w'.cell? ⟨w4.heap.size, 2, none⟩ = some (.int .i64 d.e) ∧ w'.cell? ⟨w5.heap.size, 0, none⟩ = some (.bool false) ∧ w'.cell? ⟨w5.heap.size, 1, none⟩ = some (.string ⟨#[49]⟩) ∧ w'.cell? ⟨w5.heap.size, 2, none⟩ = some (.int .i64 0) ∧ HeldL w [(w5.heap.size, #[.bool false, .string ⟨#[49]⟩, .int .i64 0]), (w4.heap.size, #[.bool d.neg, S d.l, .int .i64 d.e]), (w3.heap.size, #[.bool n, S (dgs L), .int .i64 e]), (w.heap.size, #[.bool n, .slice a len cap, .int .i64 e])] w') → Below w'.heap.size w' w'' → (w''.cell? ⟨w3.heap.size, 0, none⟩ = some (.bool n) ∧ w''.cell? ⟨w3.heap.size, 1, none⟩ = some (S (dgs L)) ∧ w''.cell? ⟨w3.heap.size, 2, none⟩ = some (.int .i64 e) ∧ w''.cell? ⟨w4.heap.size, 0, none⟩ = some (.bool d.neg) ∧ w''.cell? ⟨w4.heap.size, 1, none⟩ = some (S d.l) ∧ w''.cell? ⟨w4.heap.size, 2, none⟩ = some (.int .i64 d.e) ∧ w''.cell? ⟨w5.heap.size, 0, none⟩ = some (.bool false) ∧ w''.cell? ⟨w5.heap.size, 1, none⟩ = some (.string ⟨#[49]⟩) ∧ w''.cell? ⟨w5.heap.size, 2, none⟩ = some (.int .i64 0) ∧ HeldL w [(w5.heap.size, #[.bool false, .string ⟨#[49]⟩, .int .i64 0]), (w4.heap.size, #[.bool d.neg, S d.l, .int .i64 d.e]), (w3.heap.size, #[.bool n, S (dgs L), .int .i64 e]), (w.heap.size, #[.bool n, .slice a len cap, .int .i64 e])] w'')) := Lib.hid (fun w' w'' h hb => ALL1.out _ (HeldL.keep (h.2.2.2.2.2.2.2.2.2) hb))
  have HS1 : Hid (HeldL w [(w5.heap.size, #[.bool false, .string ⟨#[49]⟩, .int .i64 0]), (w4.heap.size, #[.bool d.neg, S d.l, .int .i64 d.e]), (w3.heap.size, #[.bool n, S (dgs L), .int .i64 e]), (w.heap.size, #[.bool n, .slice a len cap, .int .i64 e])] _) := Lib.hid (HeldL.alloc H5.out (w5.heap.size) #[.bool false, .string ⟨#[49]⟩, .int .i64 0] 28 (by simp))
  have TAB1 : Hid (∀ w' : World, (w'.cell? ⟨w3.heap.size, 0, none⟩ = some (.bool n) ∧ w'.cell? ⟨w3.heap.size, 1, none⟩ = some (S (dgs L)) ∧ w'.cell? ⟨w3.heap.size, 2, none⟩ = some (.int .i64 e) ∧ w'.cell? ⟨w4.heap.size, 0, none⟩ = some (.bool d.neg) ∧ w'.cell? ⟨w4.heap.size, 1, none⟩ = some (S d.l) ∧ w'.cell? ⟨w4.heap.size, 2, none⟩ = some (.int .i64 d.e) ∧ w'.cell? ⟨w5.heap.size, 0, none⟩ = some (.bool false) ∧ w'.cell? ⟨w5.heap.size, 1, none⟩ = some (.string ⟨#[49]⟩) ∧ w'.cell? ⟨w5.heap.size, 2, none⟩ = some (.int .i64 0) ∧ HeldL w [(w5.heap.size, #[.bool false, .string ⟨#[49]⟩, .int .i64 0]), (w4.heap.size, #[.bool d.neg, S d.l, .int .i64 d.e]), (w3.heap.size, #[.bool n, S (dgs L), .int .i64 e]), (w.heap.size, #[.bool n, .slice a len cap, .int .i64 e])] w') → Tab w') := Lib.hid (fun w' h => HT.out.below (h.2.2.2.2.2.2.2.2.2).bel)
  go_region_held3 (fun w' => w'.cell? ⟨w3.heap.size, 0, none⟩ = some (.bool n) ∧ w'.cell? ⟨w3.heap.size, 1, none⟩ = some (S (dgs L)) ∧ w'.cell? ⟨w3.heap.size, 2, none⟩ = some (.int .i64 e) ∧ w'.cell? ⟨w4.heap.size, 0, none⟩ = some (.bool d.neg) ∧ w'.cell? ⟨w4.heap.size, 1, none⟩ = some (S d.l) ∧ w'.cell? ⟨w4.heap.size, 2, none⟩ = some (.int .i64 d.e) ∧ w'.cell? ⟨w5.heap.size, 0, none⟩ = some (.bool false) ∧ w'.cell? ⟨w5.heap.size, 1, none⟩ = some (.string ⟨#[49]⟩) ∧ w'.cell? ⟨w5.heap.size, 2, none⟩ = some (.int .i64 0) ∧ HeldL w [(w5.heap.size, #[.bool false, .string ⟨#[49]⟩, .int .i64 0]), (w4.heap.size, #[.bool d.neg, S d.l, .int .i64 d.e]), (w3.heap.size, #[.bool n, S (dgs L), .int .i64 e]), (w.heap.size, #[.bool n, .slice a len cap, .int .i64 e])] w')
    (first | exact ALL1.out _ (HeldL.drew HS1.out) | exact KEEP1.out _ _ (by assumption) hb | assumption)
    (first | (go_at_call 15; (with_reducible refine (at_T ⟨n, dgs L, e⟩ pl mo g _ LL HA.out (by first | exact HT.out.below HS1.out.bel.drew | exact TAB1.out _ (by assumption))).mono ?_); rintro x wA ⟨rfl, hb⟩) | (go_at_call 15; (with_reducible refine (at_T ⟨n, dgs L, e⟩ (hld pl) mo g _ LL HB.out (by first | exact HT.out.below HS1.out.bel.drew | exact TAB1.out _ (by assumption))).mono ?_); rintro x wB ⟨rfl, hb⟩) | (go_at_call 17; (with_reducible refine (stepT_zero ⟨n, dgs L, e⟩ mo d _ LL HD.out).mono ?_); rintro x wC ⟨rfl, hb⟩) | (go_at_call 18; (with_reducible refine (minus_T ⟨false, [49], 0⟩ ⟨true, [49], 0⟩ _ (by decide) (by decide)).mono ?_); rintro x wD ⟨rfl, hb⟩) | (go_at_call 17; (with_reducible refine (stepT_neg ⟨n, dgs L, e⟩ mo d _ LL HD.out).mono ?_); rintro x wE ⟨rfl, hb⟩) | (go_at_call 13; (with_reducible refine (made_as false ⟨#[49, 48, 48, 48, 48, 48, 48, 48, 48, 49]⟩ 0 _ (by decide) ⟨false, [49, 48, 48, 48, 48, 48, 48, 48, 48, 49], 0⟩ (by decide)).mono ?_); rintro x wF ⟨rfl, hb⟩) | (go_at_call 17; (with_reducible refine (stepT_big ⟨n, dgs L, e⟩ mo d _ LL HD.out).mono ?_); rintro x wG ⟨rfl, hb⟩) | (go_at_call 17; (with_reducible refine (stepT_one ⟨n, dgs L, e⟩ mo h _ LL HO.out (by first | exact HT.out.below HS1.out.bel.drew | exact TAB1.out _ (by assumption))).mono ?_); rintro x wH ⟨rfl, hb⟩) | (go_at_call 15; (with_reducible refine (at_T ⟨n, dgs L, e⟩ 0 mo h _ LL HO2.out (by first | exact HT.out.below HS1.out.bel.drew | exact TAB1.out _ (by assumption))).mono ?_); rintro x wI ⟨rfl, hb⟩) | (go_at_call 15; (with_reducible refine (at_T ⟨n, dgs L, e⟩ (-50) mo d _ LL HE.out (by first | exact HT.out.below HS1.out.bel.drew | exact TAB1.out _ (by assumption))).mono ?_); rintro x wJ ⟨rfl, hb⟩))
  have HH : HeldL w [(w5.heap.size, #[.bool false, .string ⟨#[49]⟩, .int .i64 0]), (w4.heap.size, #[.bool d.neg, S d.l, .int .i64 d.e]), (w3.heap.size, #[.bool n, S (dgs L), .int .i64 e]), (w.heap.size, #[.bool n, .slice a len cap, .int .i64 e])] wJ := (‹wJ.cell? ⟨w3.heap.size, 0, none⟩ = some (.bool n) ∧ wJ.cell? ⟨w3.heap.size, 1, none⟩ = some (S (dgs L)) ∧ wJ.cell? ⟨w3.heap.size, 2, none⟩ = some (.int .i64 e) ∧ wJ.cell? ⟨w4.heap.size, 0, none⟩ = some (.bool d.neg) ∧ wJ.cell? ⟨w4.heap.size, 1, none⟩ = some (S d.l) ∧ wJ.cell? ⟨w4.heap.size, 2, none⟩ = some (.int .i64 d.e) ∧ wJ.cell? ⟨w5.heap.size, 0, none⟩ = some (.bool false) ∧ wJ.cell? ⟨w5.heap.size, 1, none⟩ = some (.string ⟨#[49]⟩) ∧ wJ.cell? ⟨w5.heap.size, 2, none⟩ = some (.int .i64 0) ∧ HeldL w [(w5.heap.size, #[.bool false, .string ⟨#[49]⟩, .int .i64 0]), (w4.heap.size, #[.bool d.neg, S d.l, .int .i64 d.e]), (w3.heap.size, #[.bool n, S (dgs L), .int .i64 e]), (w.heap.size, #[.bool n, .slice a len cap, .int .i64 e])] wJ›).2.2.2.2.2.2.2.2.2
  clear x0 x1 x2 xl d0 d1 d2 dl
  have H6 : Hid (HeldL w [(w5.heap.size, #[.bool false, .string ⟨#[49]⟩, .int .i64 0]), (w4.heap.size, #[.bool d.neg, S d.l, .int .i64 d.e]), (w3.heap.size, #[.bool n, S (dgs L), .int .i64 e]), (w.heap.size, #[.bool n, .slice a len cap, .int .i64 e])] wJ) := Lib.hid HH
  clear HH ALL1 KEEP1 HS1 TAB1 H5
  go_wp2
  go_ret
  exact ⟨rfl, H6.out.bel⟩

set_option maxRecDepth 100000 in
set_option maxHeartbeats 1600000 in
theorem bounds_no (n0 : Bool) (a0 : Option Addr) (len0 cap0 : Nat) (e0 : Int) (mo pl : Int) (w : World) (hc0 : len0 ≤ cap0) (hm0 : cap0 ≤ maxLen) (htab : Tab w) (h : ¬ ((len0 : Int) ≤ 40 ∧ -40 ≤ e0 ∧ e0 ≤ 40)) :
    Calls Tryd.prog 3 #[RV n0 a0 len0 cap0 e0, .int .i64 mo, .int .i64 pl] w fun x w' => x = .returned (.bool true) ∧ Below w.heap.size w w' := by
  have HT := Lib.hid htab
  have H := Lib.hid h
  clear htab h
  go_enter Tryd.func3, Tryd.ntmps3
  go_wp2_with fail
  with_reducible refine (head3 _ (HT.out.below (HeldL.alloc (HeldL.refl w) (w.heap.size) #[.bool n0, .slice a0 len0 cap0, .int .i64 e0] 24 (by simp)).bel)).mono ?_
  rintro x w1 ⟨rfl, hb⟩
  have H1 : Hid (HeldL w [(w.heap.size, #[.bool n0, .slice a0 len0 cap0, .int .i64 e0])] w1) := Lib.hid (HeldL.keep (HeldL.alloc (HeldL.refl w) (w.heap.size) #[.bool n0, .slice a0 len0 cap0, .int .i64 e0] 24 (by simp)) hb)
  clear hb
  have r0 : w1.cell? ⟨w.heap.size, 0, none⟩ = some (.bool n0) := (H1.out.f (List.Mem.head _)).cell 0
  have r1 : w1.cell? ⟨w.heap.size, 1, none⟩ = some (.slice a0 len0 cap0) := (H1.out.f (List.Mem.head _)).cell 1
  have r2 : w1.cell? ⟨w.heap.size, 2, none⟩ = some (.int .i64 e0) := (H1.out.f (List.Mem.head _)).cell 2
  have rl : w.heap.size < w1.heap.size := (H1.out.f (List.Mem.head _)).lt
  go_wp2_with fail
  with_reducible refine (few_no n0 a0 len0 cap0 e0 40 _ hc0 hm0 (by decide) (by decide) H.out).mono ?_
  rintro x w2 ⟨rfl, hb⟩
  clear r0 r1 r2 rl
  have H2 : Hid (HeldL w [(w.heap.size, #[.bool n0, .slice a0 len0 cap0, .int .i64 e0])] w2) := Lib.hid (HeldL.keep H1.out hb)
  clear H1
  clear hb
  go_wp2
  go_ret
  exact ⟨rfl, H2.out.bel⟩
theorem roundBounds_walk (n : Bool) (a : Option Addr) (len cap : Nat) (e : Int) (L : List UInt8) (mo pl : Int) (w : World) (hin : InB w a len cap L) (_ : (Lit.int .i64 mo).wf = true) (_ : (Lit.int .i64 pl).wf = true) (htab : Tab w) :
    Calls Tryd.prog 3 #[RV n a len cap e, .int .i64 mo, .int .i64 pl] w fun x w' => x = .returned (.bool true) ∧ Below w.heap.size w w' := by
  by_cases hf : (len : Int) ≤ 40 ∧ -40 ≤ e ∧ e ≤ 40
  · obtain ⟨h1, h2, h3⟩ := hf
    have hbad : ¬ (0 ≤ mo ∧ mo ≤ 6) → ∀ F p, mulT (made n (dgs L) e) F p mo = made n (dgs L) e := by
      intro h F p; unfold mulT; rw [if_neg h]
    have hsig : ¬ (0 ≤ mo ∧ mo ≤ 6) → sigT (made n (dgs L) e) pl mo = made n (dgs L) e := by
      intro h; unfold sigT; split
      · rename_i hz
        rcases made_nrm n (dgs L) e with h | h
        · exact h.symm
        · exact absurd hz h.ne
      · exact hbad h _ _
    by_cases m0 : 0 ≤ mo
    · by_cases m6 : mo ≤ 6
      · have hb := made_e_le n (dgs L) e (by omega) (by omega) (by rw [dgs_length, hin.1]; omega)
        refine bounds_ok n a len cap L e mo pl w hin htab (by omega) h2 h3 _ rfl _ _ rfl (by rw [show hld (hld pl) = hld pl from hld_of (le_hld pl) (hld_le pl)]) rfl ?_ m0 m6
        unfold mulT
        rw [if_pos ⟨m0, m6⟩, if_pos ?_]
        unfold uU
        rw [show (hld (-50) - (made n (dgs L) e).e).toNat = 0 by rw [show hld (-50) = -50 from rfl]; omega]
        simp [Nat.mod_one]
      · exact bounds_hi n a len cap L e mo pl w hin htab (by omega) h2 h3 _ rfl (hbad (by omega) _ _) (hsig (by omega)) (hbad (by omega) _ _) (by omega)
    · exact bounds_lo n a len cap L e mo pl w hin htab (by omega) h2 h3 _ rfl (hbad (by omega) _ _) (hsig (by omega)) (hbad (by omega) _ _) (by omega)
  · exact bounds_no n a len cap e mo pl w hin.2.1 hin.2.2.1 htab hf
end Go.Proofs.YtfbfjkacaadbpaaDoor
