/- RddA, RddB, RddC, LawQ3, LawQ3w, in one text. -/
import Derived.Test.YtfbfjkacaadbpaaGreatDoorRndP
namespace Go.Proofs.YtfbfjkacaadbpaaGreatDoor
open Go.RowKit Florin
set_option linter.unusedVariables false
set_option linter.unusedSimpArgs false
attribute [local go_sem ↓] Go.wp_at_zero Go.wp_at_succ eq_V ne_V

/-- Is a decimal a whole multiple of another one? As the law reckons it. -/
def LMul (x u : Tri) (b : Bool) : Prop := ∃ (n : Nat) (y : Tri) (wh pt : List UInt8), isDig u.l = true ∧ val u.l = n ∧ 1 ≤ n ∧ n ≤ 1000000000 ∧ -60000 ≤ x.e - u.e ∧ x.e - u.e ≤ 60000 ∧ made false x.l (x.e - u.e) = y ∧ partsT y = (wh, pt) ∧ isDig wh = true ∧ wh.length ≤ 1000000 ∧ (pt.isEmpty && decide (val wh % n = 0)) = b
theorem parts_T (d : Tri) (a b : List UInt8) (w : World) (h1 : d.l.length ≤ 100000) (h : partsT (made d.neg d.l d.e) = (a, b)) :
    Calls Tryz.prog 47 #[V d] w fun z w' => z = .returned (.tuple #[S a, S b]) ∧ Below w.heap.size w w' :=
  parts_as d.neg ⟨d.l.toArray⟩ d.e w (by rw [arr_size]; omega) _ (by rw [arr_list]) a b h
theorem scale_T (d : Tri) (k : Int) (g : Tri) (w : World) (h1 : d.l.length ≤ 100000) (h : made (made d.neg d.l d.e).neg (made d.neg d.l d.e).l ((made d.neg d.l d.e).e + clampS k) = g) :
    Calls Tryz.prog 59 #[V d, .int .i64 k] w fun z w' => z = .returned (V g) ∧ Below w.heap.size w w' :=
  scale_as d.neg ⟨d.l.toArray⟩ d.e k w (by rw [arr_size]; omega) _ g (by rw [arr_list]) h
set_option maxRecDepth 100000 in
set_option maxHeartbeats 3200000 in
theorem lmul_e (x u : Tri) (b : Bool) (w : World) (h1 : x.l.length ≤ 100000) (h2 : u.l.length ≤ 100000) (n : Nat) (y : Tri) (wh pt : List UInt8) (hdu : isDig u.l = true) (hn : val u.l = n) (n1 : 1 ≤ n) (n2 : n ≤ 1000000000) (e1 : -60000 ≤ x.e - u.e) (e2 : x.e - u.e ≤ 60000) (hy : made false x.l (x.e - u.e) = y) (hp : partsT y = (wh, [])) (hdw : isDig wh = true) (wl : wh.length ≤ 1000000) (hb : decide (val wh % n = 0) = b) (xe1 : -40000 ≤ x.e) (xe2 : x.e ≤ 40000) :
    Calls Tryz.prog 35 #[V x, V u] w fun z w' => z = .returned (.bool b) ∧ Below w.heap.size w w' := by
  have HL : Hid ((dig (val u.l)).length ≤ 18) := Lib.hid (by rw [hn]; exact (dig_length_le _ _).2 (Nat.lt_of_le_of_lt n2 (by decide)))
  have HV : Hid (((val u.l : Nat) : Int) = (n : Int)) := Lib.hid (by rw [hn])
  have HI : Hid (partsT (made y.neg y.l y.e) = (wh, [])) := Lib.hid (by rw [idem_of hy]; exact hp)
  obtain ⟨r, hr⟩ : ∃ r : Nat, val wh % n = r := ⟨_, rfl⟩
  have HR := Lib.hid hr
  have HBB : ((r : Int) == 0) = b := by rw [hr] at hb; rw [← hb]; by_cases h : r = 0 <;> simp [h]
  have HN := Lib.hid hn
  have HDU := Lib.hid hdu
  have HY := Lib.hid hy
  have HP := Lib.hid hp
  have HDW := Lib.hid hdw
  have yl : y.l.length ≤ 100000 := by rw [← hy]; have := made_length false x.l (x.e - u.e); omega
  have n1i : ¬ (n : Int) < 1 := by omega
  clear hn hdu hy hp hdw hr hb
  go_enter Tryz.func35, Tryz.ntmps35
  go_wp2_with fail
  with_reducible refine (intS u.l _ (by omega) HDU.out HL.out).mono ?_
  rintro x wz ⟨rfl, rfl⟩
  rw [HV.out]
  go_wp2_with fail
  with_reducible refine (made_as false ⟨x.l.toArray⟩ (x.e - u.e) _ (by rw [arr_size]; omega) y (by rw [arr_list]; exact HY.out)).mono ?_
  rintro x w1 ⟨rfl, hb⟩
  have H1 : Hid (HeldL w [(w.heap.size + 1, #[.bool u.neg, S u.l, .int .i64 u.e]), (w.heap.size, #[.bool x.neg, S x.l, .int .i64 x.e])] w1) := Lib.hid (HeldL.keep (HeldL.alloc (HeldL.alloc (HeldL.refl w) (w.heap.size) #[.bool x.neg, S x.l, .int .i64 x.e] 31 (by simp)) (w.heap.size + 1) #[.bool u.neg, S u.l, .int .i64 u.e] 31 (by simp)) hb)
  clear hb
  go_wp2_with fail
  with_reducible refine (parts_T y wh [] _ yl HI.out).mono ?_
  rintro x w2 ⟨rfl, hb⟩
  have H2 : Hid (HeldL w [(w1.heap.size, #[.bool y.neg, S y.l, .int .i64 y.e]), (w.heap.size + 1, #[.bool u.neg, S u.l, .int .i64 u.e]), (w.heap.size, #[.bool x.neg, S x.l, .int .i64 x.e])] w2) := Lib.hid (HeldL.keep (HeldL.alloc H1.out (w1.heap.size) #[.bool y.neg, S y.l, .int .i64 y.e] 31 (by simp)) hb)
  clear H1
  clear hb
  go_wp2_with fail
  with_reducible refine (divS wh n _ wl HDW.out n1 n2).mono ?_
  rintro x w3 ⟨rfl, hb⟩
  have H3 : Hid (HeldL w [(w1.heap.size, #[.bool y.neg, S y.l, .int .i64 y.e]), (w.heap.size + 1, #[.bool u.neg, S u.l, .int .i64 u.e]), (w.heap.size, #[.bool x.neg, S x.l, .int .i64 x.e])] w3) := Lib.hid (HeldL.keep H2.out hb)
  clear H2
  clear hb
  rw [HR.out]
  go_wp2
  go_ret
  exact ⟨rfl, H3.out.bel⟩

set_option maxRecDepth 100000 in
set_option maxHeartbeats 3200000 in
theorem lmul_n (x u : Tri) (b : Bool) (w : World) (h1 : x.l.length ≤ 100000) (h2 : u.l.length ≤ 100000) (n : Nat) (y : Tri) (wh pt : List UInt8) (hdu : isDig u.l = true) (hn : val u.l = n) (n1 : 1 ≤ n) (n2 : n ≤ 1000000000) (e1 : -60000 ≤ x.e - u.e) (e2 : x.e - u.e ≤ 60000) (hy : made false x.l (x.e - u.e) = y) (hp : partsT y = (wh, pt)) (hdw : isDig wh = true) (wl : wh.length ≤ 1000000) (hne : pt.isEmpty = false) (xe1 : -40000 ≤ x.e) (xe2 : x.e ≤ 40000) :
    Calls Tryz.prog 35 #[V x, V u] w fun z w' => z = .returned (.bool false) ∧ Below w.heap.size w w' := by
  have HL : Hid ((dig (val u.l)).length ≤ 18) := Lib.hid (by rw [hn]; exact (dig_length_le _ _).2 (Nat.lt_of_le_of_lt n2 (by decide)))
  have HV : Hid (((val u.l : Nat) : Int) = (n : Int)) := Lib.hid (by rw [hn])
  have HI : Hid (partsT (made y.neg y.l y.e) = (wh, pt)) := Lib.hid (by rw [idem_of hy]; exact hp)
  obtain ⟨r, hr⟩ : ∃ r : Nat, val wh % n = r := ⟨_, rfl⟩
  have HR := Lib.hid hr
  have hpe := empty_of hne
  have hpn : ¬ pt = [] := by intro h; rw [h] at hne; cases hne
  have hpz := hne
  have HN := Lib.hid hn
  have HDU := Lib.hid hdu
  have HY := Lib.hid hy
  have HP := Lib.hid hp
  have HDW := Lib.hid hdw
  have yl : y.l.length ≤ 100000 := by rw [← hy]; have := made_length false x.l (x.e - u.e); omega
  have n1i : ¬ (n : Int) < 1 := by omega
  clear hn hdu hy hp hdw hr hne
  go_enter Tryz.func35, Tryz.ntmps35
  go_wp2_with fail
  with_reducible refine (intS u.l _ (by omega) HDU.out HL.out).mono ?_
  rintro x wz ⟨rfl, rfl⟩
  rw [HV.out]
  go_wp2_with fail
  with_reducible refine (made_as false ⟨x.l.toArray⟩ (x.e - u.e) _ (by rw [arr_size]; omega) y (by rw [arr_list]; exact HY.out)).mono ?_
  rintro x w1 ⟨rfl, hb⟩
  have H1 : Hid (HeldL w [(w.heap.size + 1, #[.bool u.neg, S u.l, .int .i64 u.e]), (w.heap.size, #[.bool x.neg, S x.l, .int .i64 x.e])] w1) := Lib.hid (HeldL.keep (HeldL.alloc (HeldL.alloc (HeldL.refl w) (w.heap.size) #[.bool x.neg, S x.l, .int .i64 x.e] 31 (by simp)) (w.heap.size + 1) #[.bool u.neg, S u.l, .int .i64 u.e] 31 (by simp)) hb)
  clear hb
  go_wp2_with fail
  with_reducible refine (parts_T y wh pt _ yl HI.out).mono ?_
  rintro x w2 ⟨rfl, hb⟩
  have H2 : Hid (HeldL w [(w1.heap.size, #[.bool y.neg, S y.l, .int .i64 y.e]), (w.heap.size + 1, #[.bool u.neg, S u.l, .int .i64 u.e]), (w.heap.size, #[.bool x.neg, S x.l, .int .i64 x.e])] w2) := Lib.hid (HeldL.keep (HeldL.alloc H1.out (w1.heap.size) #[.bool y.neg, S y.l, .int .i64 y.e] 31 (by simp)) hb)
  clear H1
  clear hb
  go_wp2_with fail
  with_reducible refine (divS wh n _ wl HDW.out n1 n2).mono ?_
  rintro x w3 ⟨rfl, hb⟩
  have H3 : Hid (HeldL w [(w1.heap.size, #[.bool y.neg, S y.l, .int .i64 y.e]), (w.heap.size + 1, #[.bool u.neg, S u.l, .int .i64 u.e]), (w.heap.size, #[.bool x.neg, S x.l, .int .i64 x.e])] w3) := Lib.hid (HeldL.keep H2.out hb)
  clear H2
  clear hb
  rw [HR.out]
  go_wp2
  go_ret
  exact ⟨rfl, H3.out.bel⟩

theorem lmul_T (x u : Tri) (b : Bool) (w : World) (h1 : x.l.length ≤ 100000) (h2 : u.l.length ≤ 100000) (xe1 : -40000 ≤ x.e) (xe2 : x.e ≤ 40000) (h : LMul x u b) :
    Calls Tryz.prog 35 #[V x, V u] w fun z w' => z = .returned (.bool b) ∧ Below w.heap.size w w' := by
  obtain ⟨n, y, wh, pt, q1, q2, q3, q4, q5, q6, q7, q8, q9, q10, q11⟩ := h
  cases hpt : pt.isEmpty with
  | true =>
    have : pt = [] := by simpa using hpt
    subst this
    exact lmul_e x u b w h1 h2 n y wh [] q1 q2 q3 q4 q5 q6 q7 q8 q9 q10 (by simpa using q11) xe1 xe2
  | false =>
    rw [hpt] at q11
    simp only [Bool.false_and] at q11
    subst q11
    exact lmul_n x u false w h1 h2 n y wh pt q1 q2 q3 q4 q5 q6 q7 q8 q9 q10 hpt xe1 xe2

set_option maxRecDepth 100000 in
set_option maxHeartbeats 3200000 in
theorem even_T (r u : Tri) (w : World) (rl : r.l.length ≤ 100000) (ul : u.l.length ≤ 100000) (f : Nat → Tri) (hf0 : f 0 = r) (ha : ∀ i, i < 4 → AddIs (f i) r (f (i + 1))) (fl : ∀ i, i ≤ 4 → (f i).l.length ≤ 100000) (g : Tri) (gl : g.l.length ≤ 100000) (g1 : -40000 ≤ g.e) (g2 : g.e ≤ 40000)
    (hsc : made (made (f 4).neg (f 4).l (f 4).e).neg (made (f 4).neg (f 4).l (f 4).e).l ((made (f 4).neg (f 4).l (f 4).e).e + clampS (-1)) = g) (hm : LMul g u true) :
    Calls Tryz.prog 39 #[V r, V u] w fun z w' => z = .returned (.bool true) ∧ Below w.heap.size w w' := by
  have HA := Lib.hid ha
  have HF := Lib.hid hf0
  have HSC := Lib.hid hsc
  have HM := Lib.hid hm
  clear ha hf0 hsc hm
  go_enter Tryz.func39, Tryz.ntmps39
  go_wp2_with fail
  go_loopw [6] (fun v wr => ∃ i : Nat, i ≤ 4 ∧ v = .int .i64 i ∧ HeldL w [(w.heap.size + 1 + 1, #[.bool (f i).neg, S (f i).l, .int .i64 (f i).e]), (w.heap.size + 1, #[.bool u.neg, S u.l, .int .i64 u.e]), (w.heap.size, #[.bool r.neg, S r.l, .int .i64 r.e])] wr) (fun v _ => 4 - (intOf v).toNat)
  case atStart => exact ⟨0, by decide, rfl, by rw [HF.out]; exact (HeldL.alloc (HeldL.alloc (HeldL.alloc (HeldL.refl w) (w.heap.size) #[.bool r.neg, S r.l, .int .i64 r.e] 31 (by simp)) (w.heap.size + 1) #[.bool u.neg, S u.l, .int .i64 u.e] 31 (by simp)) (w.heap.size + 1 + 1) #[.bool r.neg, S r.l, .int .i64 r.e] 31 (by simp))⟩
  case round =>
    obtain ⟨i, hi, rfl, hh⟩ := hrel
    have H5 : Hid (HeldL w [(w.heap.size + 1 + 1, #[.bool (f i).neg, S (f i).l, .int .i64 (f i).e]), (w.heap.size + 1, #[.bool u.neg, S u.l, .int .i64 u.e]), (w.heap.size, #[.bool r.neg, S r.l, .int .i64 r.e])] _) := Lib.hid hh
    clear hh
    by_cases h4 : i = 4
    · subst h4
      have bh0 : wr.cell? ⟨w.heap.size + 1 + 1, 0, none⟩ = some (.bool (f 4).neg) := (H5.out.f (List.Mem.head _)).cell 0
      have bhz0 : wr.frozen? ⟨w.heap.size + 1 + 1, 0, none⟩ = false := (H5.out.f (List.Mem.head _)).frozen 0
      have bh1 : wr.cell? ⟨w.heap.size + 1 + 1, 1, none⟩ = some (S (f 4).l) := (H5.out.f (List.Mem.head _)).cell 1
      have bhz1 : wr.frozen? ⟨w.heap.size + 1 + 1, 1, none⟩ = false := (H5.out.f (List.Mem.head _)).frozen 1
      have bh2 : wr.cell? ⟨w.heap.size + 1 + 1, 2, none⟩ = some (.int .i64 (f 4).e) := (H5.out.f (List.Mem.head _)).cell 2
      have bhz2 : wr.frozen? ⟨w.heap.size + 1 + 1, 2, none⟩ = false := (H5.out.f (List.Mem.head _)).frozen 2
      have bhl : w.heap.size + 1 + 1 < wr.heap.size := (H5.out.f (List.Mem.head _)).lt
      have bu0 : wr.cell? ⟨w.heap.size + 1, 0, none⟩ = some (.bool u.neg) := (H5.out.f (List.Mem.tail _ (List.Mem.head _))).cell 0
      have bu1 : wr.cell? ⟨w.heap.size + 1, 1, none⟩ = some (S u.l) := (H5.out.f (List.Mem.tail _ (List.Mem.head _))).cell 1
      have bu2 : wr.cell? ⟨w.heap.size + 1, 2, none⟩ = some (.int .i64 u.e) := (H5.out.f (List.Mem.tail _ (List.Mem.head _))).cell 2
      have bul : w.heap.size + 1 < wr.heap.size := (H5.out.f (List.Mem.tail _ (List.Mem.head _))).lt
      go_wp2_with fail
      with_reducible refine (scale_T (f 4) (-1) g _ (fl 4 (by decide)) HSC.out).mono ?_
      rintro x w6 ⟨rfl, hb⟩
      clear bh0 bhz0 bh1 bhz1 bh2 bhz2 bhl bu0 bu1 bu2 bul
      have H6 : Hid (HeldL w [(w.heap.size + 1 + 1, #[.bool (f 4).neg, S (f 4).l, .int .i64 (f 4).e]), (w.heap.size + 1, #[.bool u.neg, S u.l, .int .i64 u.e]), (w.heap.size, #[.bool r.neg, S r.l, .int .i64 r.e])] w6) := Lib.hid (HeldL.keep H5.out hb)
      clear H5
      clear hb
      have bh0 : w6.cell? ⟨w.heap.size + 1 + 1, 0, none⟩ = some (.bool (f 4).neg) := (H6.out.f (List.Mem.head _)).cell 0
      have bhz0 : w6.frozen? ⟨w.heap.size + 1 + 1, 0, none⟩ = false := (H6.out.f (List.Mem.head _)).frozen 0
      have bh1 : w6.cell? ⟨w.heap.size + 1 + 1, 1, none⟩ = some (S (f 4).l) := (H6.out.f (List.Mem.head _)).cell 1
      have bhz1 : w6.frozen? ⟨w.heap.size + 1 + 1, 1, none⟩ = false := (H6.out.f (List.Mem.head _)).frozen 1
      have bh2 : w6.cell? ⟨w.heap.size + 1 + 1, 2, none⟩ = some (.int .i64 (f 4).e) := (H6.out.f (List.Mem.head _)).cell 2
      have bhz2 : w6.frozen? ⟨w.heap.size + 1 + 1, 2, none⟩ = false := (H6.out.f (List.Mem.head _)).frozen 2
      have bhl : w.heap.size + 1 + 1 < w6.heap.size := (H6.out.f (List.Mem.head _)).lt
      have bu0 : w6.cell? ⟨w.heap.size + 1, 0, none⟩ = some (.bool u.neg) := (H6.out.f (List.Mem.tail _ (List.Mem.head _))).cell 0
      have bu1 : w6.cell? ⟨w.heap.size + 1, 1, none⟩ = some (S u.l) := (H6.out.f (List.Mem.tail _ (List.Mem.head _))).cell 1
      have bu2 : w6.cell? ⟨w.heap.size + 1, 2, none⟩ = some (.int .i64 u.e) := (H6.out.f (List.Mem.tail _ (List.Mem.head _))).cell 2
      have bul : w.heap.size + 1 < w6.heap.size := (H6.out.f (List.Mem.tail _ (List.Mem.head _))).lt
      go_wp2_with fail
      clear bh0 bhz0 bh1 bhz1 bh2 bhz2 bhl bu0 bu1 bu2 bul
      have H7 : Hid (HeldL w [(w.heap.size + 1 + 1, #[.bool g.neg, S g.l, .int .i64 g.e]), (w.heap.size + 1, #[.bool u.neg, S u.l, .int .i64 u.e]), (w.heap.size, #[.bool r.neg, S r.l, .int .i64 r.e])] (((w6.setCell ⟨w.heap.size + 1 + 1, 0, none⟩ (.bool g.neg)).setCell ⟨w.heap.size + 1 + 1, 1, none⟩ (S g.l)).setCell ⟨w.heap.size + 1 + 1, 2, none⟩ (.int .i64 g.e))) := Lib.hid (HeldL.store3 [] [(w.heap.size + 1, #[.bool u.neg, S u.l, .int .i64 u.e]), (w.heap.size, #[.bool r.neg, S r.l, .int .i64 r.e])] (H6.out) (.bool g.neg) (S g.l) (.int .i64 g.e))
      generalize (((w6.setCell ⟨w.heap.size + 1 + 1, 0, none⟩ (.bool g.neg)).setCell ⟨w.heap.size + 1 + 1, 1, none⟩ (S g.l)).setCell ⟨w.heap.size + 1 + 1, 2, none⟩ (.int .i64 g.e)) = w7 at *
      clear H6
      have bh0 : w7.cell? ⟨w.heap.size + 1 + 1, 0, none⟩ = some (.bool g.neg) := (H7.out.f (List.Mem.head _)).cell 0
      have bh1 : w7.cell? ⟨w.heap.size + 1 + 1, 1, none⟩ = some (S g.l) := (H7.out.f (List.Mem.head _)).cell 1
      have bh2 : w7.cell? ⟨w.heap.size + 1 + 1, 2, none⟩ = some (.int .i64 g.e) := (H7.out.f (List.Mem.head _)).cell 2
      have bhl : w.heap.size + 1 + 1 < w7.heap.size := (H7.out.f (List.Mem.head _)).lt
      have bu0 : w7.cell? ⟨w.heap.size + 1, 0, none⟩ = some (.bool u.neg) := (H7.out.f (List.Mem.tail _ (List.Mem.head _))).cell 0
      have bu1 : w7.cell? ⟨w.heap.size + 1, 1, none⟩ = some (S u.l) := (H7.out.f (List.Mem.tail _ (List.Mem.head _))).cell 1
      have bu2 : w7.cell? ⟨w.heap.size + 1, 2, none⟩ = some (.int .i64 u.e) := (H7.out.f (List.Mem.tail _ (List.Mem.head _))).cell 2
      have bul : w.heap.size + 1 < w7.heap.size := (H7.out.f (List.Mem.tail _ (List.Mem.head _))).lt
      with_reducible refine (lmul_T g u true _ gl ul g1 g2 HM.out).mono ?_
      rintro x w8 ⟨rfl, hb⟩
      clear bh0 bh1 bh2 bhl bu0 bu1 bu2 bul
      have H8 : Hid (HeldL w [(w.heap.size + 1 + 1, #[.bool g.neg, S g.l, .int .i64 g.e]), (w.heap.size + 1, #[.bool u.neg, S u.l, .int .i64 u.e]), (w.heap.size, #[.bool r.neg, S r.l, .int .i64 r.e])] w8) := Lib.hid (HeldL.keep H7.out hb)
      clear H7
      clear hb
      go_wp2
      go_ret
      exact ⟨rfl, H8.out.bel⟩
    · have i4 : (i : Int) < 4 := by omega
      have bh0 : wr.cell? ⟨w.heap.size + 1 + 1, 0, none⟩ = some (.bool (f i).neg) := (H5.out.f (List.Mem.head _)).cell 0
      have bhz0 : wr.frozen? ⟨w.heap.size + 1 + 1, 0, none⟩ = false := (H5.out.f (List.Mem.head _)).frozen 0
      have bh1 : wr.cell? ⟨w.heap.size + 1 + 1, 1, none⟩ = some (S (f i).l) := (H5.out.f (List.Mem.head _)).cell 1
      have bhz1 : wr.frozen? ⟨w.heap.size + 1 + 1, 1, none⟩ = false := (H5.out.f (List.Mem.head _)).frozen 1
      have bh2 : wr.cell? ⟨w.heap.size + 1 + 1, 2, none⟩ = some (.int .i64 (f i).e) := (H5.out.f (List.Mem.head _)).cell 2
      have bhz2 : wr.frozen? ⟨w.heap.size + 1 + 1, 2, none⟩ = false := (H5.out.f (List.Mem.head _)).frozen 2
      have bhl : w.heap.size + 1 + 1 < wr.heap.size := (H5.out.f (List.Mem.head _)).lt
      have bx0 : wr.cell? ⟨w.heap.size, 0, none⟩ = some (.bool r.neg) := (H5.out.f (List.Mem.tail _ (List.Mem.tail _ (List.Mem.head _)))).cell 0
      have bx1 : wr.cell? ⟨w.heap.size, 1, none⟩ = some (S r.l) := (H5.out.f (List.Mem.tail _ (List.Mem.tail _ (List.Mem.head _)))).cell 1
      have bx2 : wr.cell? ⟨w.heap.size, 2, none⟩ = some (.int .i64 r.e) := (H5.out.f (List.Mem.tail _ (List.Mem.tail _ (List.Mem.head _)))).cell 2
      have bxl : w.heap.size < wr.heap.size := (H5.out.f (List.Mem.tail _ (List.Mem.tail _ (List.Mem.head _)))).lt
      go_wp2_with fail
      with_reducible refine (add_T (f i) r (f (i + 1)) _ (fl i hi) rl (HA.out i (by omega))).mono ?_
      rintro x w6 ⟨rfl, hb⟩
      clear bh0 bhz0 bh1 bhz1 bh2 bhz2 bhl bx0 bx1 bx2 bxl
      have H6 : Hid (HeldL w [(w.heap.size + 1 + 1, #[.bool (f i).neg, S (f i).l, .int .i64 (f i).e]), (w.heap.size + 1, #[.bool u.neg, S u.l, .int .i64 u.e]), (w.heap.size, #[.bool r.neg, S r.l, .int .i64 r.e])] w6) := Lib.hid (HeldL.keep H5.out hb)
      clear H5
      clear hb
      have bh0 : w6.cell? ⟨w.heap.size + 1 + 1, 0, none⟩ = some (.bool (f i).neg) := (H6.out.f (List.Mem.head _)).cell 0
      have bhz0 : w6.frozen? ⟨w.heap.size + 1 + 1, 0, none⟩ = false := (H6.out.f (List.Mem.head _)).frozen 0
      have bh1 : w6.cell? ⟨w.heap.size + 1 + 1, 1, none⟩ = some (S (f i).l) := (H6.out.f (List.Mem.head _)).cell 1
      have bhz1 : w6.frozen? ⟨w.heap.size + 1 + 1, 1, none⟩ = false := (H6.out.f (List.Mem.head _)).frozen 1
      have bh2 : w6.cell? ⟨w.heap.size + 1 + 1, 2, none⟩ = some (.int .i64 (f i).e) := (H6.out.f (List.Mem.head _)).cell 2
      have bhz2 : w6.frozen? ⟨w.heap.size + 1 + 1, 2, none⟩ = false := (H6.out.f (List.Mem.head _)).frozen 2
      have bhl : w.heap.size + 1 + 1 < w6.heap.size := (H6.out.f (List.Mem.head _)).lt
      have bx0 : w6.cell? ⟨w.heap.size, 0, none⟩ = some (.bool r.neg) := (H6.out.f (List.Mem.tail _ (List.Mem.tail _ (List.Mem.head _)))).cell 0
      have bx1 : w6.cell? ⟨w.heap.size, 1, none⟩ = some (S r.l) := (H6.out.f (List.Mem.tail _ (List.Mem.tail _ (List.Mem.head _)))).cell 1
      have bx2 : w6.cell? ⟨w.heap.size, 2, none⟩ = some (.int .i64 r.e) := (H6.out.f (List.Mem.tail _ (List.Mem.tail _ (List.Mem.head _)))).cell 2
      have bxl : w.heap.size < w6.heap.size := (H6.out.f (List.Mem.tail _ (List.Mem.tail _ (List.Mem.head _)))).lt
      go_wp2
      go_roundw
      case rel => exact ⟨i + 1, by omega, by go_num, HeldL.store3 [] [(w.heap.size + 1, #[.bool u.neg, S u.l, .int .i64 u.e]), (w.heap.size, #[.bool r.neg, S r.l, .int .i64 r.e])] H6.out _ _ _⟩
      case measure => simp [intOf]; omega

end Go.Proofs.YtfbfjkacaadbpaaGreatDoor

namespace Go.Proofs.YtfbfjkacaadbpaaGreatDoor
open Go.RowKit Florin
set_option linter.unusedVariables false
set_option linter.unusedSimpArgs false
attribute [local go_sem ↓] Go.wp_at_zero Go.wp_at_succ eq_V ne_V

set_option maxRecDepth 100000 in
set_option maxHeartbeats 3200000 in
theorem rounded_eq (x r u x2 : Tri) (m : Int) (w : World) (xl : x.l.length ≤ 100000) (rl : r.l.length ≤ 100000) (ul : u.l.length ≤ 100000) (x2l : x2.l.length ≤ 100000) (re1 : -40000 ≤ r.e) (re2 : r.e ≤ 40000) (hx : made x.neg x.l x.e = x2) (hm : LMul r u true) (d : Tri) (dl : d.l.length ≤ 100000) (hd : SubIs x2 r d) (hz : (made d.neg d.l d.e).l.isEmpty = true) (he : r = x2) :
    Calls Tryz.prog 12 #[V x, V r, V u, .int .i64 m] w fun z w' => z = .returned (.bool true) ∧ Below w.heap.size w w' := by
  have HX := Lib.hid hx
  have HM := Lib.hid hm
  have HD := Lib.hid hd
  have HZ := Lib.hid hz
  have eb : decide (r = x2) = true := by simp [he]
  clear hx hm hd hz he
  go_enter Tryz.func12, Tryz.ntmps12
  go_wp2_with fail
  with_reducible refine (norm_T x x2 _ xl HX.out).mono ?_
  rintro x w1 ⟨rfl, hb⟩
  have H1 : Hid (HeldL w [(w.heap.size + 1 + 1, #[.bool u.neg, S u.l, .int .i64 u.e]), (w.heap.size + 1, #[.bool r.neg, S r.l, .int .i64 r.e]), (w.heap.size, #[.bool x.neg, S x.l, .int .i64 x.e])] w1) := Lib.hid (HeldL.keep (HeldL.alloc (HeldL.alloc (HeldL.alloc (HeldL.refl w) (w.heap.size) #[.bool x.neg, S x.l, .int .i64 x.e] 31 (by simp)) (w.heap.size + 1) #[.bool r.neg, S r.l, .int .i64 r.e] 31 (by simp)) (w.heap.size + 1 + 1) #[.bool u.neg, S u.l, .int .i64 u.e] 31 (by simp)) hb)
  clear hb
  have bx0 : w1.cell? ⟨w.heap.size, 0, none⟩ = some (.bool x.neg) := (H1.out.f (List.Mem.tail _ (List.Mem.tail _ (List.Mem.head _)))).cell 0
  have bxz0 : w1.frozen? ⟨w.heap.size, 0, none⟩ = false := (H1.out.f (List.Mem.tail _ (List.Mem.tail _ (List.Mem.head _)))).frozen 0
  have bx1 : w1.cell? ⟨w.heap.size, 1, none⟩ = some (S x.l) := (H1.out.f (List.Mem.tail _ (List.Mem.tail _ (List.Mem.head _)))).cell 1
  have bxz1 : w1.frozen? ⟨w.heap.size, 1, none⟩ = false := (H1.out.f (List.Mem.tail _ (List.Mem.tail _ (List.Mem.head _)))).frozen 1
  have bx2 : w1.cell? ⟨w.heap.size, 2, none⟩ = some (.int .i64 x.e) := (H1.out.f (List.Mem.tail _ (List.Mem.tail _ (List.Mem.head _)))).cell 2
  have bxz2 : w1.frozen? ⟨w.heap.size, 2, none⟩ = false := (H1.out.f (List.Mem.tail _ (List.Mem.tail _ (List.Mem.head _)))).frozen 2
  have bxl : w.heap.size < w1.heap.size := (H1.out.f (List.Mem.tail _ (List.Mem.tail _ (List.Mem.head _)))).lt
  have br0 : w1.cell? ⟨w.heap.size + 1, 0, none⟩ = some (.bool r.neg) := (H1.out.f (List.Mem.tail _ (List.Mem.head _))).cell 0
  have br1 : w1.cell? ⟨w.heap.size + 1, 1, none⟩ = some (S r.l) := (H1.out.f (List.Mem.tail _ (List.Mem.head _))).cell 1
  have br2 : w1.cell? ⟨w.heap.size + 1, 2, none⟩ = some (.int .i64 r.e) := (H1.out.f (List.Mem.tail _ (List.Mem.head _))).cell 2
  have brl : w.heap.size + 1 < w1.heap.size := (H1.out.f (List.Mem.tail _ (List.Mem.head _))).lt
  have bu0 : w1.cell? ⟨w.heap.size + 1 + 1, 0, none⟩ = some (.bool u.neg) := (H1.out.f (List.Mem.head _)).cell 0
  have bu1 : w1.cell? ⟨w.heap.size + 1 + 1, 1, none⟩ = some (S u.l) := (H1.out.f (List.Mem.head _)).cell 1
  have bu2 : w1.cell? ⟨w.heap.size + 1 + 1, 2, none⟩ = some (.int .i64 u.e) := (H1.out.f (List.Mem.head _)).cell 2
  have bul : w.heap.size + 1 + 1 < w1.heap.size := (H1.out.f (List.Mem.head _)).lt
  go_wp2_with fail
  clear bx0 bxz0 bx1 bxz1 bx2 bxz2 bxl br0 br1 br2 brl bu0 bu1 bu2 bul
  have H2 : Hid (HeldL w [(w.heap.size + 1 + 1, #[.bool u.neg, S u.l, .int .i64 u.e]), (w.heap.size + 1, #[.bool r.neg, S r.l, .int .i64 r.e]), (w.heap.size, #[.bool x2.neg, S x2.l, .int .i64 x2.e])] (((w1.setCell ⟨w.heap.size, 0, none⟩ (.bool x2.neg)).setCell ⟨w.heap.size, 1, none⟩ (S x2.l)).setCell ⟨w.heap.size, 2, none⟩ (.int .i64 x2.e))) := Lib.hid (HeldL.store3 [(w.heap.size + 1 + 1, #[.bool u.neg, S u.l, .int .i64 u.e]), (w.heap.size + 1, #[.bool r.neg, S r.l, .int .i64 r.e])] [] (H1.out) (.bool x2.neg) (S x2.l) (.int .i64 x2.e))
  generalize (((w1.setCell ⟨w.heap.size, 0, none⟩ (.bool x2.neg)).setCell ⟨w.heap.size, 1, none⟩ (S x2.l)).setCell ⟨w.heap.size, 2, none⟩ (.int .i64 x2.e)) = w2 at *
  clear H1
  have bx0 : w2.cell? ⟨w.heap.size, 0, none⟩ = some (.bool x2.neg) := (H2.out.f (List.Mem.tail _ (List.Mem.tail _ (List.Mem.head _)))).cell 0
  have bx1 : w2.cell? ⟨w.heap.size, 1, none⟩ = some (S x2.l) := (H2.out.f (List.Mem.tail _ (List.Mem.tail _ (List.Mem.head _)))).cell 1
  have bx2 : w2.cell? ⟨w.heap.size, 2, none⟩ = some (.int .i64 x2.e) := (H2.out.f (List.Mem.tail _ (List.Mem.tail _ (List.Mem.head _)))).cell 2
  have bxl : w.heap.size < w2.heap.size := (H2.out.f (List.Mem.tail _ (List.Mem.tail _ (List.Mem.head _)))).lt
  have br0 : w2.cell? ⟨w.heap.size + 1, 0, none⟩ = some (.bool r.neg) := (H2.out.f (List.Mem.tail _ (List.Mem.head _))).cell 0
  have br1 : w2.cell? ⟨w.heap.size + 1, 1, none⟩ = some (S r.l) := (H2.out.f (List.Mem.tail _ (List.Mem.head _))).cell 1
  have br2 : w2.cell? ⟨w.heap.size + 1, 2, none⟩ = some (.int .i64 r.e) := (H2.out.f (List.Mem.tail _ (List.Mem.head _))).cell 2
  have brl : w.heap.size + 1 < w2.heap.size := (H2.out.f (List.Mem.tail _ (List.Mem.head _))).lt
  have bu0 : w2.cell? ⟨w.heap.size + 1 + 1, 0, none⟩ = some (.bool u.neg) := (H2.out.f (List.Mem.head _)).cell 0
  have bu1 : w2.cell? ⟨w.heap.size + 1 + 1, 1, none⟩ = some (S u.l) := (H2.out.f (List.Mem.head _)).cell 1
  have bu2 : w2.cell? ⟨w.heap.size + 1 + 1, 2, none⟩ = some (.int .i64 u.e) := (H2.out.f (List.Mem.head _)).cell 2
  have bul : w.heap.size + 1 + 1 < w2.heap.size := (H2.out.f (List.Mem.head _)).lt
  with_reducible refine (lmul_T r u true _ rl ul re1 re2 HM.out).mono ?_
  rintro x w3 ⟨rfl, hb⟩
  clear bx0 bx1 bx2 bxl br0 br1 br2 brl bu0 bu1 bu2 bul
  have H3 : Hid (HeldL w [(w.heap.size + 1 + 1, #[.bool u.neg, S u.l, .int .i64 u.e]), (w.heap.size + 1, #[.bool r.neg, S r.l, .int .i64 r.e]), (w.heap.size, #[.bool x2.neg, S x2.l, .int .i64 x2.e])] w3) := Lib.hid (HeldL.keep H2.out hb)
  clear H2
  clear hb
  have bx0 : w3.cell? ⟨w.heap.size, 0, none⟩ = some (.bool x2.neg) := (H3.out.f (List.Mem.tail _ (List.Mem.tail _ (List.Mem.head _)))).cell 0
  have bx1 : w3.cell? ⟨w.heap.size, 1, none⟩ = some (S x2.l) := (H3.out.f (List.Mem.tail _ (List.Mem.tail _ (List.Mem.head _)))).cell 1
  have bx2 : w3.cell? ⟨w.heap.size, 2, none⟩ = some (.int .i64 x2.e) := (H3.out.f (List.Mem.tail _ (List.Mem.tail _ (List.Mem.head _)))).cell 2
  have bxl : w.heap.size < w3.heap.size := (H3.out.f (List.Mem.tail _ (List.Mem.tail _ (List.Mem.head _)))).lt
  have br0 : w3.cell? ⟨w.heap.size + 1, 0, none⟩ = some (.bool r.neg) := (H3.out.f (List.Mem.tail _ (List.Mem.head _))).cell 0
  have br1 : w3.cell? ⟨w.heap.size + 1, 1, none⟩ = some (S r.l) := (H3.out.f (List.Mem.tail _ (List.Mem.head _))).cell 1
  have br2 : w3.cell? ⟨w.heap.size + 1, 2, none⟩ = some (.int .i64 r.e) := (H3.out.f (List.Mem.tail _ (List.Mem.head _))).cell 2
  have brl : w.heap.size + 1 < w3.heap.size := (H3.out.f (List.Mem.tail _ (List.Mem.head _))).lt
  have bu0 : w3.cell? ⟨w.heap.size + 1 + 1, 0, none⟩ = some (.bool u.neg) := (H3.out.f (List.Mem.head _)).cell 0
  have bu1 : w3.cell? ⟨w.heap.size + 1 + 1, 1, none⟩ = some (S u.l) := (H3.out.f (List.Mem.head _)).cell 1
  have bu2 : w3.cell? ⟨w.heap.size + 1 + 1, 2, none⟩ = some (.int .i64 u.e) := (H3.out.f (List.Mem.head _)).cell 2
  have bul : w.heap.size + 1 + 1 < w3.heap.size := (H3.out.f (List.Mem.head _)).lt
  go_wp2_with fail
  with_reducible refine (sub_T x2 r d _ x2l rl HD.out).mono ?_
  rintro x w4 ⟨rfl, hb⟩
  clear bx0 bx1 bx2 bxl br0 br1 br2 brl bu0 bu1 bu2 bul
  have H4 : Hid (HeldL w [(w.heap.size + 1 + 1, #[.bool u.neg, S u.l, .int .i64 u.e]), (w.heap.size + 1, #[.bool r.neg, S r.l, .int .i64 r.e]), (w.heap.size, #[.bool x2.neg, S x2.l, .int .i64 x2.e])] w4) := Lib.hid (HeldL.keep H3.out hb)
  clear H3
  clear hb
  have bx0 : w4.cell? ⟨w.heap.size, 0, none⟩ = some (.bool x2.neg) := (H4.out.f (List.Mem.tail _ (List.Mem.tail _ (List.Mem.head _)))).cell 0
  have bx1 : w4.cell? ⟨w.heap.size, 1, none⟩ = some (S x2.l) := (H4.out.f (List.Mem.tail _ (List.Mem.tail _ (List.Mem.head _)))).cell 1
  have bx2 : w4.cell? ⟨w.heap.size, 2, none⟩ = some (.int .i64 x2.e) := (H4.out.f (List.Mem.tail _ (List.Mem.tail _ (List.Mem.head _)))).cell 2
  have bxl : w.heap.size < w4.heap.size := (H4.out.f (List.Mem.tail _ (List.Mem.tail _ (List.Mem.head _)))).lt
  have br0 : w4.cell? ⟨w.heap.size + 1, 0, none⟩ = some (.bool r.neg) := (H4.out.f (List.Mem.tail _ (List.Mem.head _))).cell 0
  have br1 : w4.cell? ⟨w.heap.size + 1, 1, none⟩ = some (S r.l) := (H4.out.f (List.Mem.tail _ (List.Mem.head _))).cell 1
  have br2 : w4.cell? ⟨w.heap.size + 1, 2, none⟩ = some (.int .i64 r.e) := (H4.out.f (List.Mem.tail _ (List.Mem.head _))).cell 2
  have brl : w.heap.size + 1 < w4.heap.size := (H4.out.f (List.Mem.tail _ (List.Mem.head _))).lt
  have bu0 : w4.cell? ⟨w.heap.size + 1 + 1, 0, none⟩ = some (.bool u.neg) := (H4.out.f (List.Mem.head _)).cell 0
  have bu1 : w4.cell? ⟨w.heap.size + 1 + 1, 1, none⟩ = some (S u.l) := (H4.out.f (List.Mem.head _)).cell 1
  have bu2 : w4.cell? ⟨w.heap.size + 1 + 1, 2, none⟩ = some (.int .i64 u.e) := (H4.out.f (List.Mem.head _)).cell 2
  have bul : w.heap.size + 1 + 1 < w4.heap.size := (H4.out.f (List.Mem.head _)).lt
  go_wp2_with fail
  with_reducible refine (zero_T d true _ dl HZ.out).mono ?_
  rintro x w5 ⟨rfl, hb⟩
  clear bx0 bx1 bx2 bxl br0 br1 br2 brl bu0 bu1 bu2 bul
  have H5 : Hid (HeldL w [(w4.heap.size, #[.bool d.neg, S d.l, .int .i64 d.e]), (w.heap.size + 1 + 1, #[.bool u.neg, S u.l, .int .i64 u.e]), (w.heap.size + 1, #[.bool r.neg, S r.l, .int .i64 r.e]), (w.heap.size, #[.bool x2.neg, S x2.l, .int .i64 x2.e])] w5) := Lib.hid (HeldL.keep (HeldL.alloc H4.out (w4.heap.size) #[.bool d.neg, S d.l, .int .i64 d.e] 31 (by simp)) hb)
  clear H4
  clear hb
  have bx0 : w5.cell? ⟨w.heap.size, 0, none⟩ = some (.bool x2.neg) := (H5.out.f (List.Mem.tail _ (List.Mem.tail _ (List.Mem.tail _ (List.Mem.head _))))).cell 0
  have bx1 : w5.cell? ⟨w.heap.size, 1, none⟩ = some (S x2.l) := (H5.out.f (List.Mem.tail _ (List.Mem.tail _ (List.Mem.tail _ (List.Mem.head _))))).cell 1
  have bx2 : w5.cell? ⟨w.heap.size, 2, none⟩ = some (.int .i64 x2.e) := (H5.out.f (List.Mem.tail _ (List.Mem.tail _ (List.Mem.tail _ (List.Mem.head _))))).cell 2
  have bxl : w.heap.size < w5.heap.size := (H5.out.f (List.Mem.tail _ (List.Mem.tail _ (List.Mem.tail _ (List.Mem.head _))))).lt
  have br0 : w5.cell? ⟨w.heap.size + 1, 0, none⟩ = some (.bool r.neg) := (H5.out.f (List.Mem.tail _ (List.Mem.tail _ (List.Mem.head _)))).cell 0
  have br1 : w5.cell? ⟨w.heap.size + 1, 1, none⟩ = some (S r.l) := (H5.out.f (List.Mem.tail _ (List.Mem.tail _ (List.Mem.head _)))).cell 1
  have br2 : w5.cell? ⟨w.heap.size + 1, 2, none⟩ = some (.int .i64 r.e) := (H5.out.f (List.Mem.tail _ (List.Mem.tail _ (List.Mem.head _)))).cell 2
  have brl : w.heap.size + 1 < w5.heap.size := (H5.out.f (List.Mem.tail _ (List.Mem.tail _ (List.Mem.head _)))).lt
  go_wp2
  go_ret
  exact ⟨rfl, H5.out.bel⟩

set_option maxRecDepth 100000 in
set_option maxHeartbeats 6400000 in
theorem rounded_ne (x r u x2 : Tri) (m : Int) (w : World) (xl : x.l.length ≤ 100000) (rl : r.l.length ≤ 100000) (ul : u.l.length ≤ 100000) (x2l : x2.l.length ≤ 100000) (re1 : -40000 ≤ r.e) (re2 : r.e ≤ 40000) (hx : made x.neg x.l x.e = x2) (hm : LMul r u true) (d ad ar ax tw : Tri) (dl : d.l.length ≤ 100000) (adl : ad.l.length ≤ 100000) (arl : ar.l.length ≤ 100000) (axl : ax.l.length ≤ 100000) (twl : tw.l.length ≤ 100000) (xe1 : -40000 ≤ x2.e) (xe2 : x2.e ≤ 40000) (hd : SubIs x2 r d) (hz : (made d.neg d.l d.e).l.isEmpty = false) (hn : LMul x2 u false)
    (had : made false d.l d.e = ad) (har : made false r.l r.e = ar) (hax : made false x2.l x2.e = ax) (c0 co c : Int) (hc0 : CmpIs ad u c0) (c0n : c0 < 0) (hco : CmpIs ar ax co) (htw : AddIs ad ad tw) (hc : CmpIs tw u c) (o : Bool) (ho : decide (0 < co) = o) (ev : Prop) (hev : ev → ∀ w : World, Calls Tryz.prog 39 #[V r, V u] w fun z w' => z = .returned (.bool true) ∧ Below w.heap.size w w')
    (hans : (m = 3 ∧ o = true) ∨ (m = 4 ∧ o = false) ∨ (m = 5 ∧ d.neg = true) ∨ (m = 6 ∧ d.neg = false) ∨ ((m = 0 ∨ m = 1 ∨ m = 2) ∧ c < 0) ∨ (m = 1 ∧ c = 0 ∧ o = true) ∨ (m = 2 ∧ c = 0 ∧ o = false) ∨ (m = 0 ∧ c = 0 ∧ ev)) :
    Calls Tryz.prog 12 #[V x, V r, V u, .int .i64 m] w fun z w' => z = .returned (.bool true) ∧ Below w.heap.size w w' := by
  have HX := Lib.hid hx
  have HM := Lib.hid hm
  have HD := Lib.hid hd
  have HZ := Lib.hid hz
  have HN := Lib.hid hn
  have HAD := Lib.hid had
  have HAR := Lib.hid har
  have HAX := Lib.hid hax
  have HC0 := Lib.hid hc0
  have HCO := Lib.hid hco
  have HTW := Lib.hid htw
  have HC := Lib.hid hc
  have HEV := Lib.hid hev
  have HANS := Lib.hid hans
  have cb0 : decide (0 ≤ c0) = false := by simp; omega
  have cbo : decide (0 < co) = o := ho
  clear hx hm hd hz hn had har hax hc0 hco htw hc hev hans ho
  go_enter Tryz.func12, Tryz.ntmps12
  go_wp2_with fail
  with_reducible refine (norm_T x x2 _ xl HX.out).mono ?_
  rintro x w1 ⟨rfl, hb⟩
  have H1 : Hid (HeldL w [(w.heap.size + 1 + 1, #[.bool u.neg, S u.l, .int .i64 u.e]), (w.heap.size + 1, #[.bool r.neg, S r.l, .int .i64 r.e]), (w.heap.size, #[.bool x.neg, S x.l, .int .i64 x.e])] w1) := Lib.hid (HeldL.keep (HeldL.alloc (HeldL.alloc (HeldL.alloc (HeldL.refl w) (w.heap.size) #[.bool x.neg, S x.l, .int .i64 x.e] 31 (by simp)) (w.heap.size + 1) #[.bool r.neg, S r.l, .int .i64 r.e] 31 (by simp)) (w.heap.size + 1 + 1) #[.bool u.neg, S u.l, .int .i64 u.e] 31 (by simp)) hb)
  clear hb
  have bx0 : w1.cell? ⟨w.heap.size, 0, none⟩ = some (.bool x.neg) := (H1.out.f (List.Mem.tail _ (List.Mem.tail _ (List.Mem.head _)))).cell 0
  have bxz0 : w1.frozen? ⟨w.heap.size, 0, none⟩ = false := (H1.out.f (List.Mem.tail _ (List.Mem.tail _ (List.Mem.head _)))).frozen 0
  have bx1 : w1.cell? ⟨w.heap.size, 1, none⟩ = some (S x.l) := (H1.out.f (List.Mem.tail _ (List.Mem.tail _ (List.Mem.head _)))).cell 1
  have bxz1 : w1.frozen? ⟨w.heap.size, 1, none⟩ = false := (H1.out.f (List.Mem.tail _ (List.Mem.tail _ (List.Mem.head _)))).frozen 1
  have bx2 : w1.cell? ⟨w.heap.size, 2, none⟩ = some (.int .i64 x.e) := (H1.out.f (List.Mem.tail _ (List.Mem.tail _ (List.Mem.head _)))).cell 2
  have bxz2 : w1.frozen? ⟨w.heap.size, 2, none⟩ = false := (H1.out.f (List.Mem.tail _ (List.Mem.tail _ (List.Mem.head _)))).frozen 2
  have bxl : w.heap.size < w1.heap.size := (H1.out.f (List.Mem.tail _ (List.Mem.tail _ (List.Mem.head _)))).lt
  have br0 : w1.cell? ⟨w.heap.size + 1, 0, none⟩ = some (.bool r.neg) := (H1.out.f (List.Mem.tail _ (List.Mem.head _))).cell 0
  have br1 : w1.cell? ⟨w.heap.size + 1, 1, none⟩ = some (S r.l) := (H1.out.f (List.Mem.tail _ (List.Mem.head _))).cell 1
  have br2 : w1.cell? ⟨w.heap.size + 1, 2, none⟩ = some (.int .i64 r.e) := (H1.out.f (List.Mem.tail _ (List.Mem.head _))).cell 2
  have brl : w.heap.size + 1 < w1.heap.size := (H1.out.f (List.Mem.tail _ (List.Mem.head _))).lt
  have bu0 : w1.cell? ⟨w.heap.size + 1 + 1, 0, none⟩ = some (.bool u.neg) := (H1.out.f (List.Mem.head _)).cell 0
  have bu1 : w1.cell? ⟨w.heap.size + 1 + 1, 1, none⟩ = some (S u.l) := (H1.out.f (List.Mem.head _)).cell 1
  have bu2 : w1.cell? ⟨w.heap.size + 1 + 1, 2, none⟩ = some (.int .i64 u.e) := (H1.out.f (List.Mem.head _)).cell 2
  have bul : w.heap.size + 1 + 1 < w1.heap.size := (H1.out.f (List.Mem.head _)).lt
  go_wp2_with fail
  clear bx0 bxz0 bx1 bxz1 bx2 bxz2 bxl br0 br1 br2 brl bu0 bu1 bu2 bul
  have H2 : Hid (HeldL w [(w.heap.size + 1 + 1, #[.bool u.neg, S u.l, .int .i64 u.e]), (w.heap.size + 1, #[.bool r.neg, S r.l, .int .i64 r.e]), (w.heap.size, #[.bool x2.neg, S x2.l, .int .i64 x2.e])] (((w1.setCell ⟨w.heap.size, 0, none⟩ (.bool x2.neg)).setCell ⟨w.heap.size, 1, none⟩ (S x2.l)).setCell ⟨w.heap.size, 2, none⟩ (.int .i64 x2.e))) := Lib.hid (HeldL.store3 [(w.heap.size + 1 + 1, #[.bool u.neg, S u.l, .int .i64 u.e]), (w.heap.size + 1, #[.bool r.neg, S r.l, .int .i64 r.e])] [] (H1.out) (.bool x2.neg) (S x2.l) (.int .i64 x2.e))
  generalize (((w1.setCell ⟨w.heap.size, 0, none⟩ (.bool x2.neg)).setCell ⟨w.heap.size, 1, none⟩ (S x2.l)).setCell ⟨w.heap.size, 2, none⟩ (.int .i64 x2.e)) = w2 at *
  clear H1
  have bx0 : w2.cell? ⟨w.heap.size, 0, none⟩ = some (.bool x2.neg) := (H2.out.f (List.Mem.tail _ (List.Mem.tail _ (List.Mem.head _)))).cell 0
  have bx1 : w2.cell? ⟨w.heap.size, 1, none⟩ = some (S x2.l) := (H2.out.f (List.Mem.tail _ (List.Mem.tail _ (List.Mem.head _)))).cell 1
  have bx2 : w2.cell? ⟨w.heap.size, 2, none⟩ = some (.int .i64 x2.e) := (H2.out.f (List.Mem.tail _ (List.Mem.tail _ (List.Mem.head _)))).cell 2
  have bxl : w.heap.size < w2.heap.size := (H2.out.f (List.Mem.tail _ (List.Mem.tail _ (List.Mem.head _)))).lt
  have br0 : w2.cell? ⟨w.heap.size + 1, 0, none⟩ = some (.bool r.neg) := (H2.out.f (List.Mem.tail _ (List.Mem.head _))).cell 0
  have br1 : w2.cell? ⟨w.heap.size + 1, 1, none⟩ = some (S r.l) := (H2.out.f (List.Mem.tail _ (List.Mem.head _))).cell 1
  have br2 : w2.cell? ⟨w.heap.size + 1, 2, none⟩ = some (.int .i64 r.e) := (H2.out.f (List.Mem.tail _ (List.Mem.head _))).cell 2
  have brl : w.heap.size + 1 < w2.heap.size := (H2.out.f (List.Mem.tail _ (List.Mem.head _))).lt
  have bu0 : w2.cell? ⟨w.heap.size + 1 + 1, 0, none⟩ = some (.bool u.neg) := (H2.out.f (List.Mem.head _)).cell 0
  have bu1 : w2.cell? ⟨w.heap.size + 1 + 1, 1, none⟩ = some (S u.l) := (H2.out.f (List.Mem.head _)).cell 1
  have bu2 : w2.cell? ⟨w.heap.size + 1 + 1, 2, none⟩ = some (.int .i64 u.e) := (H2.out.f (List.Mem.head _)).cell 2
  have bul : w.heap.size + 1 + 1 < w2.heap.size := (H2.out.f (List.Mem.head _)).lt
  with_reducible refine (lmul_T r u true _ rl ul re1 re2 HM.out).mono ?_
  rintro x w3 ⟨rfl, hb⟩
  clear bx0 bx1 bx2 bxl br0 br1 br2 brl bu0 bu1 bu2 bul
  have H3 : Hid (HeldL w [(w.heap.size + 1 + 1, #[.bool u.neg, S u.l, .int .i64 u.e]), (w.heap.size + 1, #[.bool r.neg, S r.l, .int .i64 r.e]), (w.heap.size, #[.bool x2.neg, S x2.l, .int .i64 x2.e])] w3) := Lib.hid (HeldL.keep H2.out hb)
  clear H2
  clear hb
  have bx0 : w3.cell? ⟨w.heap.size, 0, none⟩ = some (.bool x2.neg) := (H3.out.f (List.Mem.tail _ (List.Mem.tail _ (List.Mem.head _)))).cell 0
  have bx1 : w3.cell? ⟨w.heap.size, 1, none⟩ = some (S x2.l) := (H3.out.f (List.Mem.tail _ (List.Mem.tail _ (List.Mem.head _)))).cell 1
  have bx2 : w3.cell? ⟨w.heap.size, 2, none⟩ = some (.int .i64 x2.e) := (H3.out.f (List.Mem.tail _ (List.Mem.tail _ (List.Mem.head _)))).cell 2
  have bxl : w.heap.size < w3.heap.size := (H3.out.f (List.Mem.tail _ (List.Mem.tail _ (List.Mem.head _)))).lt
  have br0 : w3.cell? ⟨w.heap.size + 1, 0, none⟩ = some (.bool r.neg) := (H3.out.f (List.Mem.tail _ (List.Mem.head _))).cell 0
  have br1 : w3.cell? ⟨w.heap.size + 1, 1, none⟩ = some (S r.l) := (H3.out.f (List.Mem.tail _ (List.Mem.head _))).cell 1
  have br2 : w3.cell? ⟨w.heap.size + 1, 2, none⟩ = some (.int .i64 r.e) := (H3.out.f (List.Mem.tail _ (List.Mem.head _))).cell 2
  have brl : w.heap.size + 1 < w3.heap.size := (H3.out.f (List.Mem.tail _ (List.Mem.head _))).lt
  have bu0 : w3.cell? ⟨w.heap.size + 1 + 1, 0, none⟩ = some (.bool u.neg) := (H3.out.f (List.Mem.head _)).cell 0
  have bu1 : w3.cell? ⟨w.heap.size + 1 + 1, 1, none⟩ = some (S u.l) := (H3.out.f (List.Mem.head _)).cell 1
  have bu2 : w3.cell? ⟨w.heap.size + 1 + 1, 2, none⟩ = some (.int .i64 u.e) := (H3.out.f (List.Mem.head _)).cell 2
  have bul : w.heap.size + 1 + 1 < w3.heap.size := (H3.out.f (List.Mem.head _)).lt
  go_wp2_with fail
  with_reducible refine (sub_T x2 r d _ x2l rl HD.out).mono ?_
  rintro x w4 ⟨rfl, hb⟩
  clear bx0 bx1 bx2 bxl br0 br1 br2 brl bu0 bu1 bu2 bul
  have H4 : Hid (HeldL w [(w.heap.size + 1 + 1, #[.bool u.neg, S u.l, .int .i64 u.e]), (w.heap.size + 1, #[.bool r.neg, S r.l, .int .i64 r.e]), (w.heap.size, #[.bool x2.neg, S x2.l, .int .i64 x2.e])] w4) := Lib.hid (HeldL.keep H3.out hb)
  clear H3
  clear hb
  have bx0 : w4.cell? ⟨w.heap.size, 0, none⟩ = some (.bool x2.neg) := (H4.out.f (List.Mem.tail _ (List.Mem.tail _ (List.Mem.head _)))).cell 0
  have bx1 : w4.cell? ⟨w.heap.size, 1, none⟩ = some (S x2.l) := (H4.out.f (List.Mem.tail _ (List.Mem.tail _ (List.Mem.head _)))).cell 1
  have bx2 : w4.cell? ⟨w.heap.size, 2, none⟩ = some (.int .i64 x2.e) := (H4.out.f (List.Mem.tail _ (List.Mem.tail _ (List.Mem.head _)))).cell 2
  have bxl : w.heap.size < w4.heap.size := (H4.out.f (List.Mem.tail _ (List.Mem.tail _ (List.Mem.head _)))).lt
  have br0 : w4.cell? ⟨w.heap.size + 1, 0, none⟩ = some (.bool r.neg) := (H4.out.f (List.Mem.tail _ (List.Mem.head _))).cell 0
  have br1 : w4.cell? ⟨w.heap.size + 1, 1, none⟩ = some (S r.l) := (H4.out.f (List.Mem.tail _ (List.Mem.head _))).cell 1
  have br2 : w4.cell? ⟨w.heap.size + 1, 2, none⟩ = some (.int .i64 r.e) := (H4.out.f (List.Mem.tail _ (List.Mem.head _))).cell 2
  have brl : w.heap.size + 1 < w4.heap.size := (H4.out.f (List.Mem.tail _ (List.Mem.head _))).lt
  have bu0 : w4.cell? ⟨w.heap.size + 1 + 1, 0, none⟩ = some (.bool u.neg) := (H4.out.f (List.Mem.head _)).cell 0
  have bu1 : w4.cell? ⟨w.heap.size + 1 + 1, 1, none⟩ = some (S u.l) := (H4.out.f (List.Mem.head _)).cell 1
  have bu2 : w4.cell? ⟨w.heap.size + 1 + 1, 2, none⟩ = some (.int .i64 u.e) := (H4.out.f (List.Mem.head _)).cell 2
  have bul : w.heap.size + 1 + 1 < w4.heap.size := (H4.out.f (List.Mem.head _)).lt
  go_wp2_with fail
  with_reducible refine (zero_T d false _ dl HZ.out).mono ?_
  rintro x w5 ⟨rfl, hb⟩
  clear bx0 bx1 bx2 bxl br0 br1 br2 brl bu0 bu1 bu2 bul
  have H5 : Hid (HeldL w [(w4.heap.size, #[.bool d.neg, S d.l, .int .i64 d.e]), (w.heap.size + 1 + 1, #[.bool u.neg, S u.l, .int .i64 u.e]), (w.heap.size + 1, #[.bool r.neg, S r.l, .int .i64 r.e]), (w.heap.size, #[.bool x2.neg, S x2.l, .int .i64 x2.e])] w5) := Lib.hid (HeldL.keep (HeldL.alloc H4.out (w4.heap.size) #[.bool d.neg, S d.l, .int .i64 d.e] 31 (by simp)) hb)
  clear H4
  clear hb
  have bx0 : w5.cell? ⟨w.heap.size, 0, none⟩ = some (.bool x2.neg) := (H5.out.f (List.Mem.tail _ (List.Mem.tail _ (List.Mem.tail _ (List.Mem.head _))))).cell 0
  have bx1 : w5.cell? ⟨w.heap.size, 1, none⟩ = some (S x2.l) := (H5.out.f (List.Mem.tail _ (List.Mem.tail _ (List.Mem.tail _ (List.Mem.head _))))).cell 1
  have bx2 : w5.cell? ⟨w.heap.size, 2, none⟩ = some (.int .i64 x2.e) := (H5.out.f (List.Mem.tail _ (List.Mem.tail _ (List.Mem.tail _ (List.Mem.head _))))).cell 2
  have bxl : w.heap.size < w5.heap.size := (H5.out.f (List.Mem.tail _ (List.Mem.tail _ (List.Mem.tail _ (List.Mem.head _))))).lt
  have br0 : w5.cell? ⟨w.heap.size + 1, 0, none⟩ = some (.bool r.neg) := (H5.out.f (List.Mem.tail _ (List.Mem.tail _ (List.Mem.head _)))).cell 0
  have br1 : w5.cell? ⟨w.heap.size + 1, 1, none⟩ = some (S r.l) := (H5.out.f (List.Mem.tail _ (List.Mem.tail _ (List.Mem.head _)))).cell 1
  have br2 : w5.cell? ⟨w.heap.size + 1, 2, none⟩ = some (.int .i64 r.e) := (H5.out.f (List.Mem.tail _ (List.Mem.tail _ (List.Mem.head _)))).cell 2
  have brl : w.heap.size + 1 < w5.heap.size := (H5.out.f (List.Mem.tail _ (List.Mem.tail _ (List.Mem.head _)))).lt
  have bu0 : w5.cell? ⟨w.heap.size + 1 + 1, 0, none⟩ = some (.bool u.neg) := (H5.out.f (List.Mem.tail _ (List.Mem.head _))).cell 0
  have bu1 : w5.cell? ⟨w.heap.size + 1 + 1, 1, none⟩ = some (S u.l) := (H5.out.f (List.Mem.tail _ (List.Mem.head _))).cell 1
  have bu2 : w5.cell? ⟨w.heap.size + 1 + 1, 2, none⟩ = some (.int .i64 u.e) := (H5.out.f (List.Mem.tail _ (List.Mem.head _))).cell 2
  have bul : w.heap.size + 1 + 1 < w5.heap.size := (H5.out.f (List.Mem.tail _ (List.Mem.head _))).lt
  have bd0 : w5.cell? ⟨w4.heap.size, 0, none⟩ = some (.bool d.neg) := (H5.out.f (List.Mem.head _)).cell 0
  have bd1 : w5.cell? ⟨w4.heap.size, 1, none⟩ = some (S d.l) := (H5.out.f (List.Mem.head _)).cell 1
  have bd2 : w5.cell? ⟨w4.heap.size, 2, none⟩ = some (.int .i64 d.e) := (H5.out.f (List.Mem.head _)).cell 2
  have bdl : w4.heap.size < w5.heap.size := (H5.out.f (List.Mem.head _)).lt
  go_wp2_with fail
  have ALL1 : Hid (∀ w' : World, HeldL w [(w4.heap.size, #[.bool d.neg, S d.l, .int .i64 d.e]), (w.heap.size + 1 + 1, #[.bool u.neg, S u.l, .int .i64 u.e]), (w.heap.size + 1, #[.bool r.neg, S r.l, .int .i64 r.e]), (w.heap.size, #[.bool x2.neg, S x2.l, .int .i64 x2.e])] w' → w'.cell? ⟨w.heap.size, 0, none⟩ = some (.bool x2.neg) ∧ w'.cell? ⟨w.heap.size, 1, none⟩ = some (S x2.l) ∧ w'.cell? ⟨w.heap.size, 2, none⟩ = some (.int .i64 x2.e) ∧ w'.cell? ⟨w4.heap.size, 0, none⟩ = some (.bool d.neg) ∧ w'.cell? ⟨w4.heap.size, 1, none⟩ = some (S d.l) ∧ w'.cell? ⟨w4.heap.size, 2, none⟩ = some (.int .i64 d.e) ∧ w'.cell? ⟨w.heap.size + 1 + 1, 0, none⟩ = some (.bool u.neg) ∧ w'.cell? ⟨w.heap.size + 1 + 1, 1, none⟩ = some (S u.l) ∧ w'.cell? ⟨w.heap.size + 1 + 1, 2, none⟩ = some (.int .i64 u.e) ∧ HeldL w [(w4.heap.size, #[.bool d.neg, S d.l, .int .i64 d.e]), (w.heap.size + 1 + 1, #[.bool u.neg, S u.l, .int .i64 u.e]), (w.heap.size + 1, #[.bool r.neg, S r.l, .int .i64 r.e]), (w.heap.size, #[.bool x2.neg, S x2.l, .int .i64 x2.e])] w') := Lib.hid (fun w' h => ⟨(h.f (List.Mem.tail _ (List.Mem.tail _ (List.Mem.tail _ (List.Mem.head _))))).cell 0, (h.f (List.Mem.tail _ (List.Mem.tail _ (List.Mem.tail _ (List.Mem.head _))))).cell 1, (h.f (List.Mem.tail _ (List.Mem.tail _ (List.Mem.tail _ (List.Mem.head _))))).cell 2, (h.f (List.Mem.head _)).cell 0, (h.f (List.Mem.head _)).cell 1, (h.f (List.Mem.head _)).cell 2, (h.f (List.Mem.tail _ (List.Mem.head _))).cell 0, (h.f (List.Mem.tail _ (List.Mem.head _))).cell 1, (h.f (List.Mem.tail _ (List.Mem.head _))).cell 2, h⟩)
  have KEEP1 : Hid (∀ w' w'' : World, (w'.cell? ⟨w.heap.size, 0, none⟩ = some (.bool x2.neg) ∧ w'.cell? ⟨w.heap.size, 1, none⟩ = some (S x2.l) ∧ w'.cell? ⟨w.heap.size, 2, none⟩ = some (.int .i64 x2.e) ∧ w'.cell? ⟨w4.heap.size, 0, none⟩ = some (.bool d.neg) ∧ w'.cell? ⟨w4.heap.size, 1, none⟩ = some (S d.l) ∧ w'.cell? ⟨w4.heap.size, 2, none⟩ = some (.int .i64 d.e) ∧ w'.cell? ⟨w.heap.size + 1 + 1, 0, none⟩ = some (.bool u.neg) ∧ w'.cell? ⟨w.heap.size + 1 + 1, 1, none⟩ = some (S u.l) ∧ w'.cell? ⟨w.heap.size + 1 + 1, 2, none⟩ = some (.int .i64 u.e) ∧ HeldL w [(w4.heap.size, #[.bool d.neg, S d.l, .int .i64 d.e]), (w.heap.size + 1 + 1, #[.bool u.neg, S u.l, .int .i64 u.e]), (w.heap.size + 1, #[.bool r.neg, S r.l, .int .i64 r.e]), (w.heap.size, #[.bool x2.neg, S x2.l, .int .i64 x2.e])] w') → Below w'.heap.size w' w'' → (w''.cell? ⟨w.heap.size, 0, none⟩ = some (.bool x2.neg) ∧ w''.cell? ⟨w.heap.size, 1, none⟩ = some (S x2.l) ∧ w''.cell? ⟨w.heap.size, 2, none⟩ = some (.int .i64 x2.e) ∧ w''.cell? ⟨w4.heap.size, 0, none⟩ = some (.bool d.neg) ∧ w''.cell? ⟨w4.heap.size, 1, none⟩ = some (S d.l) ∧ w''.cell? ⟨w4.heap.size, 2, none⟩ = some (.int .i64 d.e) ∧ w''.cell? ⟨w.heap.size + 1 + 1, 0, none⟩ = some (.bool u.neg) ∧ w''.cell? ⟨w.heap.size + 1 + 1, 1, none⟩ = some (S u.l) ∧ w''.cell? ⟨w.heap.size + 1 + 1, 2, none⟩ = some (.int .i64 u.e) ∧ HeldL w [(w4.heap.size, #[.bool d.neg, S d.l, .int .i64 d.e]), (w.heap.size + 1 + 1, #[.bool u.neg, S u.l, .int .i64 u.e]), (w.heap.size + 1, #[.bool r.neg, S r.l, .int .i64 r.e]), (w.heap.size, #[.bool x2.neg, S x2.l, .int .i64 x2.e])] w'')) := Lib.hid (fun w' w'' h hb => ALL1.out _ (HeldL.keep (h.2.2.2.2.2.2.2.2.2) hb))
  have HS1 : Hid (HeldL w [(w4.heap.size, #[.bool d.neg, S d.l, .int .i64 d.e]), (w.heap.size + 1 + 1, #[.bool u.neg, S u.l, .int .i64 u.e]), (w.heap.size + 1, #[.bool r.neg, S r.l, .int .i64 r.e]), (w.heap.size, #[.bool x2.neg, S x2.l, .int .i64 x2.e])] _) := Lib.hid H5.out
  go_region_held3 (fun w' => w'.cell? ⟨w.heap.size, 0, none⟩ = some (.bool x2.neg) ∧ w'.cell? ⟨w.heap.size, 1, none⟩ = some (S x2.l) ∧ w'.cell? ⟨w.heap.size, 2, none⟩ = some (.int .i64 x2.e) ∧ w'.cell? ⟨w4.heap.size, 0, none⟩ = some (.bool d.neg) ∧ w'.cell? ⟨w4.heap.size, 1, none⟩ = some (S d.l) ∧ w'.cell? ⟨w4.heap.size, 2, none⟩ = some (.int .i64 d.e) ∧ w'.cell? ⟨w.heap.size + 1 + 1, 0, none⟩ = some (.bool u.neg) ∧ w'.cell? ⟨w.heap.size + 1 + 1, 1, none⟩ = some (S u.l) ∧ w'.cell? ⟨w.heap.size + 1 + 1, 2, none⟩ = some (.int .i64 u.e) ∧ HeldL w [(w4.heap.size, #[.bool d.neg, S d.l, .int .i64 d.e]), (w.heap.size + 1 + 1, #[.bool u.neg, S u.l, .int .i64 u.e]), (w.heap.size + 1, #[.bool r.neg, S r.l, .int .i64 r.e]), (w.heap.size, #[.bool x2.neg, S x2.l, .int .i64 x2.e])] w')
    (first | exact ALL1.out _ (HeldL.drew HS1.out) | exact KEEP1.out _ _ (by assumption) hb | assumption)
    (first | (go_at_call 35; (with_reducible refine (lmul_T x2 u false _ x2l ul xe1 xe2 HN.out).mono ?_); rintro x wA ⟨rfl, hb⟩) | (go_at_call 37; (with_reducible refine (abs_T d ad _ dl HAD.out).mono ?_); rintro x wB ⟨rfl, hb⟩) | (go_at_call 32; (with_reducible refine (cmp_T ad u c0 _ adl ul HC0.out).mono ?_); rintro x wC ⟨rfl, hb⟩))
  have HH : HeldL w [(w4.heap.size, #[.bool d.neg, S d.l, .int .i64 d.e]), (w.heap.size + 1 + 1, #[.bool u.neg, S u.l, .int .i64 u.e]), (w.heap.size + 1, #[.bool r.neg, S r.l, .int .i64 r.e]), (w.heap.size, #[.bool x2.neg, S x2.l, .int .i64 x2.e])] wC := (‹wC.cell? ⟨w.heap.size, 0, none⟩ = some (.bool x2.neg) ∧ wC.cell? ⟨w.heap.size, 1, none⟩ = some (S x2.l) ∧ wC.cell? ⟨w.heap.size, 2, none⟩ = some (.int .i64 x2.e) ∧ wC.cell? ⟨w4.heap.size, 0, none⟩ = some (.bool d.neg) ∧ wC.cell? ⟨w4.heap.size, 1, none⟩ = some (S d.l) ∧ wC.cell? ⟨w4.heap.size, 2, none⟩ = some (.int .i64 d.e) ∧ wC.cell? ⟨w.heap.size + 1 + 1, 0, none⟩ = some (.bool u.neg) ∧ wC.cell? ⟨w.heap.size + 1 + 1, 1, none⟩ = some (S u.l) ∧ wC.cell? ⟨w.heap.size + 1 + 1, 2, none⟩ = some (.int .i64 u.e) ∧ HeldL w [(w4.heap.size, #[.bool d.neg, S d.l, .int .i64 d.e]), (w.heap.size + 1 + 1, #[.bool u.neg, S u.l, .int .i64 u.e]), (w.heap.size + 1, #[.bool r.neg, S r.l, .int .i64 r.e]), (w.heap.size, #[.bool x2.neg, S x2.l, .int .i64 x2.e])] wC›).2.2.2.2.2.2.2.2.2
  clear bx0 bx1 bx2 bxl br0 br1 br2 brl bu0 bu1 bu2 bul bd0 bd1 bd2 bdl
  have H6 : Hid (HeldL w [(w4.heap.size, #[.bool d.neg, S d.l, .int .i64 d.e]), (w.heap.size + 1 + 1, #[.bool u.neg, S u.l, .int .i64 u.e]), (w.heap.size + 1, #[.bool r.neg, S r.l, .int .i64 r.e]), (w.heap.size, #[.bool x2.neg, S x2.l, .int .i64 x2.e])] wC) := Lib.hid HH
  clear HH ALL1 KEEP1 HS1 H5
  have bx0 : wC.cell? ⟨w.heap.size, 0, none⟩ = some (.bool x2.neg) := (H6.out.f (List.Mem.tail _ (List.Mem.tail _ (List.Mem.tail _ (List.Mem.head _))))).cell 0
  have bx1 : wC.cell? ⟨w.heap.size, 1, none⟩ = some (S x2.l) := (H6.out.f (List.Mem.tail _ (List.Mem.tail _ (List.Mem.tail _ (List.Mem.head _))))).cell 1
  have bx2 : wC.cell? ⟨w.heap.size, 2, none⟩ = some (.int .i64 x2.e) := (H6.out.f (List.Mem.tail _ (List.Mem.tail _ (List.Mem.tail _ (List.Mem.head _))))).cell 2
  have bxl : w.heap.size < wC.heap.size := (H6.out.f (List.Mem.tail _ (List.Mem.tail _ (List.Mem.tail _ (List.Mem.head _))))).lt
  have br0 : wC.cell? ⟨w.heap.size + 1, 0, none⟩ = some (.bool r.neg) := (H6.out.f (List.Mem.tail _ (List.Mem.tail _ (List.Mem.head _)))).cell 0
  have br1 : wC.cell? ⟨w.heap.size + 1, 1, none⟩ = some (S r.l) := (H6.out.f (List.Mem.tail _ (List.Mem.tail _ (List.Mem.head _)))).cell 1
  have br2 : wC.cell? ⟨w.heap.size + 1, 2, none⟩ = some (.int .i64 r.e) := (H6.out.f (List.Mem.tail _ (List.Mem.tail _ (List.Mem.head _)))).cell 2
  have brl : w.heap.size + 1 < wC.heap.size := (H6.out.f (List.Mem.tail _ (List.Mem.tail _ (List.Mem.head _)))).lt
  have bd0 : wC.cell? ⟨w4.heap.size, 0, none⟩ = some (.bool d.neg) := (H6.out.f (List.Mem.head _)).cell 0
  have bd1 : wC.cell? ⟨w4.heap.size, 1, none⟩ = some (S d.l) := (H6.out.f (List.Mem.head _)).cell 1
  have bd2 : wC.cell? ⟨w4.heap.size, 2, none⟩ = some (.int .i64 d.e) := (H6.out.f (List.Mem.head _)).cell 2
  have bdl : w4.heap.size < wC.heap.size := (H6.out.f (List.Mem.head _)).lt
  have bu0 : wC.cell? ⟨w.heap.size + 1 + 1, 0, none⟩ = some (.bool u.neg) := (H6.out.f (List.Mem.tail _ (List.Mem.head _))).cell 0
  have bu1 : wC.cell? ⟨w.heap.size + 1 + 1, 1, none⟩ = some (S u.l) := (H6.out.f (List.Mem.tail _ (List.Mem.head _))).cell 1
  have bu2 : wC.cell? ⟨w.heap.size + 1 + 1, 2, none⟩ = some (.int .i64 u.e) := (H6.out.f (List.Mem.tail _ (List.Mem.head _))).cell 2
  have bul : w.heap.size + 1 + 1 < wC.heap.size := (H6.out.f (List.Mem.tail _ (List.Mem.head _))).lt
  go_wp2_with fail
  have ALL2 : Hid (∀ w' : World, HeldL w [(w4.heap.size, #[.bool d.neg, S d.l, .int .i64 d.e]), (w.heap.size + 1 + 1, #[.bool u.neg, S u.l, .int .i64 u.e]), (w.heap.size + 1, #[.bool r.neg, S r.l, .int .i64 r.e]), (w.heap.size, #[.bool x2.neg, S x2.l, .int .i64 x2.e])] w' → w'.cell? ⟨w.heap.size, 0, none⟩ = some (.bool x2.neg) ∧ w'.cell? ⟨w.heap.size, 1, none⟩ = some (S x2.l) ∧ w'.cell? ⟨w.heap.size, 2, none⟩ = some (.int .i64 x2.e) ∧ w'.cell? ⟨w.heap.size + 1, 0, none⟩ = some (.bool r.neg) ∧ w'.cell? ⟨w.heap.size + 1, 1, none⟩ = some (S r.l) ∧ w'.cell? ⟨w.heap.size + 1, 2, none⟩ = some (.int .i64 r.e) ∧ HeldL w [(w4.heap.size, #[.bool d.neg, S d.l, .int .i64 d.e]), (w.heap.size + 1 + 1, #[.bool u.neg, S u.l, .int .i64 u.e]), (w.heap.size + 1, #[.bool r.neg, S r.l, .int .i64 r.e]), (w.heap.size, #[.bool x2.neg, S x2.l, .int .i64 x2.e])] w') := Lib.hid (fun w' h => ⟨(h.f (List.Mem.tail _ (List.Mem.tail _ (List.Mem.tail _ (List.Mem.head _))))).cell 0, (h.f (List.Mem.tail _ (List.Mem.tail _ (List.Mem.tail _ (List.Mem.head _))))).cell 1, (h.f (List.Mem.tail _ (List.Mem.tail _ (List.Mem.tail _ (List.Mem.head _))))).cell 2, (h.f (List.Mem.tail _ (List.Mem.tail _ (List.Mem.head _)))).cell 0, (h.f (List.Mem.tail _ (List.Mem.tail _ (List.Mem.head _)))).cell 1, (h.f (List.Mem.tail _ (List.Mem.tail _ (List.Mem.head _)))).cell 2, h⟩)
  have KEEP2 : Hid (∀ w' w'' : World, (w'.cell? ⟨w.heap.size, 0, none⟩ = some (.bool x2.neg) ∧ w'.cell? ⟨w.heap.size, 1, none⟩ = some (S x2.l) ∧ w'.cell? ⟨w.heap.size, 2, none⟩ = some (.int .i64 x2.e) ∧ w'.cell? ⟨w.heap.size + 1, 0, none⟩ = some (.bool r.neg) ∧ w'.cell? ⟨w.heap.size + 1, 1, none⟩ = some (S r.l) ∧ w'.cell? ⟨w.heap.size + 1, 2, none⟩ = some (.int .i64 r.e) ∧ HeldL w [(w4.heap.size, #[.bool d.neg, S d.l, .int .i64 d.e]), (w.heap.size + 1 + 1, #[.bool u.neg, S u.l, .int .i64 u.e]), (w.heap.size + 1, #[.bool r.neg, S r.l, .int .i64 r.e]), (w.heap.size, #[.bool x2.neg, S x2.l, .int .i64 x2.e])] w') → Below w'.heap.size w' w'' → (w''.cell? ⟨w.heap.size, 0, none⟩ = some (.bool x2.neg) ∧ w''.cell? ⟨w.heap.size, 1, none⟩ = some (S x2.l) ∧ w''.cell? ⟨w.heap.size, 2, none⟩ = some (.int .i64 x2.e) ∧ w''.cell? ⟨w.heap.size + 1, 0, none⟩ = some (.bool r.neg) ∧ w''.cell? ⟨w.heap.size + 1, 1, none⟩ = some (S r.l) ∧ w''.cell? ⟨w.heap.size + 1, 2, none⟩ = some (.int .i64 r.e) ∧ HeldL w [(w4.heap.size, #[.bool d.neg, S d.l, .int .i64 d.e]), (w.heap.size + 1 + 1, #[.bool u.neg, S u.l, .int .i64 u.e]), (w.heap.size + 1, #[.bool r.neg, S r.l, .int .i64 r.e]), (w.heap.size, #[.bool x2.neg, S x2.l, .int .i64 x2.e])] w'')) := Lib.hid (fun w' w'' h hb => ALL2.out _ (HeldL.keep (h.2.2.2.2.2.2) hb))
  have HS2 : Hid (HeldL w [(w4.heap.size, #[.bool d.neg, S d.l, .int .i64 d.e]), (w.heap.size + 1 + 1, #[.bool u.neg, S u.l, .int .i64 u.e]), (w.heap.size + 1, #[.bool r.neg, S r.l, .int .i64 r.e]), (w.heap.size, #[.bool x2.neg, S x2.l, .int .i64 x2.e])] _) := Lib.hid H6.out
  go_region_held3 (fun w' => w'.cell? ⟨w.heap.size, 0, none⟩ = some (.bool x2.neg) ∧ w'.cell? ⟨w.heap.size, 1, none⟩ = some (S x2.l) ∧ w'.cell? ⟨w.heap.size, 2, none⟩ = some (.int .i64 x2.e) ∧ w'.cell? ⟨w.heap.size + 1, 0, none⟩ = some (.bool r.neg) ∧ w'.cell? ⟨w.heap.size + 1, 1, none⟩ = some (S r.l) ∧ w'.cell? ⟨w.heap.size + 1, 2, none⟩ = some (.int .i64 r.e) ∧ HeldL w [(w4.heap.size, #[.bool d.neg, S d.l, .int .i64 d.e]), (w.heap.size + 1 + 1, #[.bool u.neg, S u.l, .int .i64 u.e]), (w.heap.size + 1, #[.bool r.neg, S r.l, .int .i64 r.e]), (w.heap.size, #[.bool x2.neg, S x2.l, .int .i64 x2.e])] w')
    (first | exact ALL2.out _ (HeldL.drew HS2.out) | exact KEEP2.out _ _ (by assumption) hb | assumption)
    (first | (go_at_call 37; (with_reducible refine (abs_T r ar _ rl HAR.out).mono ?_); rintro x wD ⟨rfl, hb⟩) | (go_at_call 37; (with_reducible refine (abs_T x2 ax _ x2l HAX.out).mono ?_); rintro x wE ⟨rfl, hb⟩) | (go_at_call 32; (with_reducible refine (cmp_T ar ax co _ arl axl HCO.out).mono ?_); rintro x wF ⟨rfl, hb⟩))
  have HH : HeldL w [(w4.heap.size, #[.bool d.neg, S d.l, .int .i64 d.e]), (w.heap.size + 1 + 1, #[.bool u.neg, S u.l, .int .i64 u.e]), (w.heap.size + 1, #[.bool r.neg, S r.l, .int .i64 r.e]), (w.heap.size, #[.bool x2.neg, S x2.l, .int .i64 x2.e])] wF := (‹wF.cell? ⟨w.heap.size, 0, none⟩ = some (.bool x2.neg) ∧ wF.cell? ⟨w.heap.size, 1, none⟩ = some (S x2.l) ∧ wF.cell? ⟨w.heap.size, 2, none⟩ = some (.int .i64 x2.e) ∧ wF.cell? ⟨w.heap.size + 1, 0, none⟩ = some (.bool r.neg) ∧ wF.cell? ⟨w.heap.size + 1, 1, none⟩ = some (S r.l) ∧ wF.cell? ⟨w.heap.size + 1, 2, none⟩ = some (.int .i64 r.e) ∧ HeldL w [(w4.heap.size, #[.bool d.neg, S d.l, .int .i64 d.e]), (w.heap.size + 1 + 1, #[.bool u.neg, S u.l, .int .i64 u.e]), (w.heap.size + 1, #[.bool r.neg, S r.l, .int .i64 r.e]), (w.heap.size, #[.bool x2.neg, S x2.l, .int .i64 x2.e])] wF›).2.2.2.2.2.2
  clear bx0 bx1 bx2 bxl br0 br1 br2 brl bd0 bd1 bd2 bdl bu0 bu1 bu2 bul
  have H7 : Hid (HeldL w [(w4.heap.size, #[.bool d.neg, S d.l, .int .i64 d.e]), (w.heap.size + 1 + 1, #[.bool u.neg, S u.l, .int .i64 u.e]), (w.heap.size + 1, #[.bool r.neg, S r.l, .int .i64 r.e]), (w.heap.size, #[.bool x2.neg, S x2.l, .int .i64 x2.e])] wF) := Lib.hid HH
  clear HH ALL2 KEEP2 HS2 H6
  have bx0 : wF.cell? ⟨w.heap.size, 0, none⟩ = some (.bool x2.neg) := (H7.out.f (List.Mem.tail _ (List.Mem.tail _ (List.Mem.tail _ (List.Mem.head _))))).cell 0
  have bx1 : wF.cell? ⟨w.heap.size, 1, none⟩ = some (S x2.l) := (H7.out.f (List.Mem.tail _ (List.Mem.tail _ (List.Mem.tail _ (List.Mem.head _))))).cell 1
  have bx2 : wF.cell? ⟨w.heap.size, 2, none⟩ = some (.int .i64 x2.e) := (H7.out.f (List.Mem.tail _ (List.Mem.tail _ (List.Mem.tail _ (List.Mem.head _))))).cell 2
  have bxl : w.heap.size < wF.heap.size := (H7.out.f (List.Mem.tail _ (List.Mem.tail _ (List.Mem.tail _ (List.Mem.head _))))).lt
  have br0 : wF.cell? ⟨w.heap.size + 1, 0, none⟩ = some (.bool r.neg) := (H7.out.f (List.Mem.tail _ (List.Mem.tail _ (List.Mem.head _)))).cell 0
  have br1 : wF.cell? ⟨w.heap.size + 1, 1, none⟩ = some (S r.l) := (H7.out.f (List.Mem.tail _ (List.Mem.tail _ (List.Mem.head _)))).cell 1
  have br2 : wF.cell? ⟨w.heap.size + 1, 2, none⟩ = some (.int .i64 r.e) := (H7.out.f (List.Mem.tail _ (List.Mem.tail _ (List.Mem.head _)))).cell 2
  have brl : w.heap.size + 1 < wF.heap.size := (H7.out.f (List.Mem.tail _ (List.Mem.tail _ (List.Mem.head _)))).lt
  have bd0 : wF.cell? ⟨w4.heap.size, 0, none⟩ = some (.bool d.neg) := (H7.out.f (List.Mem.head _)).cell 0
  have bd1 : wF.cell? ⟨w4.heap.size, 1, none⟩ = some (S d.l) := (H7.out.f (List.Mem.head _)).cell 1
  have bd2 : wF.cell? ⟨w4.heap.size, 2, none⟩ = some (.int .i64 d.e) := (H7.out.f (List.Mem.head _)).cell 2
  have bdl : w4.heap.size < wF.heap.size := (H7.out.f (List.Mem.head _)).lt
  have bu0 : wF.cell? ⟨w.heap.size + 1 + 1, 0, none⟩ = some (.bool u.neg) := (H7.out.f (List.Mem.tail _ (List.Mem.head _))).cell 0
  have bu1 : wF.cell? ⟨w.heap.size + 1 + 1, 1, none⟩ = some (S u.l) := (H7.out.f (List.Mem.tail _ (List.Mem.head _))).cell 1
  have bu2 : wF.cell? ⟨w.heap.size + 1 + 1, 2, none⟩ = some (.int .i64 u.e) := (H7.out.f (List.Mem.tail _ (List.Mem.head _))).cell 2
  have bul : w.heap.size + 1 + 1 < wF.heap.size := (H7.out.f (List.Mem.tail _ (List.Mem.head _))).lt
  go_wp2_with fail
  have ALL3 : Hid (∀ w' : World, HeldL w [(w4.heap.size, #[.bool d.neg, S d.l, .int .i64 d.e]), (w.heap.size + 1 + 1, #[.bool u.neg, S u.l, .int .i64 u.e]), (w.heap.size + 1, #[.bool r.neg, S r.l, .int .i64 r.e]), (w.heap.size, #[.bool x2.neg, S x2.l, .int .i64 x2.e])] w' → w'.cell? ⟨w4.heap.size, 0, none⟩ = some (.bool d.neg) ∧ w'.cell? ⟨w4.heap.size, 1, none⟩ = some (S d.l) ∧ w'.cell? ⟨w4.heap.size, 2, none⟩ = some (.int .i64 d.e) ∧ w'.cell? ⟨w.heap.size + 1 + 1, 0, none⟩ = some (.bool u.neg) ∧ w'.cell? ⟨w.heap.size + 1 + 1, 1, none⟩ = some (S u.l) ∧ w'.cell? ⟨w.heap.size + 1 + 1, 2, none⟩ = some (.int .i64 u.e) ∧ HeldL w [(w4.heap.size, #[.bool d.neg, S d.l, .int .i64 d.e]), (w.heap.size + 1 + 1, #[.bool u.neg, S u.l, .int .i64 u.e]), (w.heap.size + 1, #[.bool r.neg, S r.l, .int .i64 r.e]), (w.heap.size, #[.bool x2.neg, S x2.l, .int .i64 x2.e])] w') := Lib.hid (fun w' h => ⟨(h.f (List.Mem.head _)).cell 0, (h.f (List.Mem.head _)).cell 1, (h.f (List.Mem.head _)).cell 2, (h.f (List.Mem.tail _ (List.Mem.head _))).cell 0, (h.f (List.Mem.tail _ (List.Mem.head _))).cell 1, (h.f (List.Mem.tail _ (List.Mem.head _))).cell 2, h⟩)
  have KEEP3 : Hid (∀ w' w'' : World, (w'.cell? ⟨w4.heap.size, 0, none⟩ = some (.bool d.neg) ∧ w'.cell? ⟨w4.heap.size, 1, none⟩ = some (S d.l) ∧ w'.cell? ⟨w4.heap.size, 2, none⟩ = some (.int .i64 d.e) ∧ w'.cell? ⟨w.heap.size + 1 + 1, 0, none⟩ = some (.bool u.neg) ∧ w'.cell? ⟨w.heap.size + 1 + 1, 1, none⟩ = some (S u.l) ∧ w'.cell? ⟨w.heap.size + 1 + 1, 2, none⟩ = some (.int .i64 u.e) ∧ HeldL w [(w4.heap.size, #[.bool d.neg, S d.l, .int .i64 d.e]), (w.heap.size + 1 + 1, #[.bool u.neg, S u.l, .int .i64 u.e]), (w.heap.size + 1, #[.bool r.neg, S r.l, .int .i64 r.e]), (w.heap.size, #[.bool x2.neg, S x2.l, .int .i64 x2.e])] w') → Below w'.heap.size w' w'' → (w''.cell? ⟨w4.heap.size, 0, none⟩ = some (.bool d.neg) ∧ w''.cell? ⟨w4.heap.size, 1, none⟩ = some (S d.l) ∧ w''.cell? ⟨w4.heap.size, 2, none⟩ = some (.int .i64 d.e) ∧ w''.cell? ⟨w.heap.size + 1 + 1, 0, none⟩ = some (.bool u.neg) ∧ w''.cell? ⟨w.heap.size + 1 + 1, 1, none⟩ = some (S u.l) ∧ w''.cell? ⟨w.heap.size + 1 + 1, 2, none⟩ = some (.int .i64 u.e) ∧ HeldL w [(w4.heap.size, #[.bool d.neg, S d.l, .int .i64 d.e]), (w.heap.size + 1 + 1, #[.bool u.neg, S u.l, .int .i64 u.e]), (w.heap.size + 1, #[.bool r.neg, S r.l, .int .i64 r.e]), (w.heap.size, #[.bool x2.neg, S x2.l, .int .i64 x2.e])] w'')) := Lib.hid (fun w' w'' h hb => ALL3.out _ (HeldL.keep (h.2.2.2.2.2.2) hb))
  have HS3 : Hid (HeldL w [(w4.heap.size, #[.bool d.neg, S d.l, .int .i64 d.e]), (w.heap.size + 1 + 1, #[.bool u.neg, S u.l, .int .i64 u.e]), (w.heap.size + 1, #[.bool r.neg, S r.l, .int .i64 r.e]), (w.heap.size, #[.bool x2.neg, S x2.l, .int .i64 x2.e])] _) := Lib.hid H7.out
  go_region_held3 (fun w' => w'.cell? ⟨w4.heap.size, 0, none⟩ = some (.bool d.neg) ∧ w'.cell? ⟨w4.heap.size, 1, none⟩ = some (S d.l) ∧ w'.cell? ⟨w4.heap.size, 2, none⟩ = some (.int .i64 d.e) ∧ w'.cell? ⟨w.heap.size + 1 + 1, 0, none⟩ = some (.bool u.neg) ∧ w'.cell? ⟨w.heap.size + 1 + 1, 1, none⟩ = some (S u.l) ∧ w'.cell? ⟨w.heap.size + 1 + 1, 2, none⟩ = some (.int .i64 u.e) ∧ HeldL w [(w4.heap.size, #[.bool d.neg, S d.l, .int .i64 d.e]), (w.heap.size + 1 + 1, #[.bool u.neg, S u.l, .int .i64 u.e]), (w.heap.size + 1, #[.bool r.neg, S r.l, .int .i64 r.e]), (w.heap.size, #[.bool x2.neg, S x2.l, .int .i64 x2.e])] w')
    (first | exact ALL3.out _ (HeldL.drew HS3.out) | exact KEEP3.out _ _ (by assumption) hb | assumption)
    (first | (go_at_call 37; (with_reducible refine (abs_T d ad _ dl HAD.out).mono ?_); rintro x wG ⟨rfl, hb⟩) | (go_at_call 38; (with_reducible refine (twice_as ad tw _ adl HTW.out).mono ?_); rintro x wH ⟨rfl, hb⟩) | (go_at_call 32; (with_reducible refine (cmp_T tw u c _ twl ul HC.out).mono ?_); rintro x wI ⟨rfl, hb⟩))
  have HH : HeldL w [(w4.heap.size, #[.bool d.neg, S d.l, .int .i64 d.e]), (w.heap.size + 1 + 1, #[.bool u.neg, S u.l, .int .i64 u.e]), (w.heap.size + 1, #[.bool r.neg, S r.l, .int .i64 r.e]), (w.heap.size, #[.bool x2.neg, S x2.l, .int .i64 x2.e])] wI := (‹wI.cell? ⟨w4.heap.size, 0, none⟩ = some (.bool d.neg) ∧ wI.cell? ⟨w4.heap.size, 1, none⟩ = some (S d.l) ∧ wI.cell? ⟨w4.heap.size, 2, none⟩ = some (.int .i64 d.e) ∧ wI.cell? ⟨w.heap.size + 1 + 1, 0, none⟩ = some (.bool u.neg) ∧ wI.cell? ⟨w.heap.size + 1 + 1, 1, none⟩ = some (S u.l) ∧ wI.cell? ⟨w.heap.size + 1 + 1, 2, none⟩ = some (.int .i64 u.e) ∧ HeldL w [(w4.heap.size, #[.bool d.neg, S d.l, .int .i64 d.e]), (w.heap.size + 1 + 1, #[.bool u.neg, S u.l, .int .i64 u.e]), (w.heap.size + 1, #[.bool r.neg, S r.l, .int .i64 r.e]), (w.heap.size, #[.bool x2.neg, S x2.l, .int .i64 x2.e])] wI›).2.2.2.2.2.2
  clear bx0 bx1 bx2 bxl br0 br1 br2 brl bd0 bd1 bd2 bdl bu0 bu1 bu2 bul
  have H8 : Hid (HeldL w [(w4.heap.size, #[.bool d.neg, S d.l, .int .i64 d.e]), (w.heap.size + 1 + 1, #[.bool u.neg, S u.l, .int .i64 u.e]), (w.heap.size + 1, #[.bool r.neg, S r.l, .int .i64 r.e]), (w.heap.size, #[.bool x2.neg, S x2.l, .int .i64 x2.e])] wI) := Lib.hid HH
  clear HH ALL3 KEEP3 HS3 H7
  have bx0 : wI.cell? ⟨w.heap.size, 0, none⟩ = some (.bool x2.neg) := (H8.out.f (List.Mem.tail _ (List.Mem.tail _ (List.Mem.tail _ (List.Mem.head _))))).cell 0
  have bx1 : wI.cell? ⟨w.heap.size, 1, none⟩ = some (S x2.l) := (H8.out.f (List.Mem.tail _ (List.Mem.tail _ (List.Mem.tail _ (List.Mem.head _))))).cell 1
  have bx2 : wI.cell? ⟨w.heap.size, 2, none⟩ = some (.int .i64 x2.e) := (H8.out.f (List.Mem.tail _ (List.Mem.tail _ (List.Mem.tail _ (List.Mem.head _))))).cell 2
  have bxl : w.heap.size < wI.heap.size := (H8.out.f (List.Mem.tail _ (List.Mem.tail _ (List.Mem.tail _ (List.Mem.head _))))).lt
  have br0 : wI.cell? ⟨w.heap.size + 1, 0, none⟩ = some (.bool r.neg) := (H8.out.f (List.Mem.tail _ (List.Mem.tail _ (List.Mem.head _)))).cell 0
  have br1 : wI.cell? ⟨w.heap.size + 1, 1, none⟩ = some (S r.l) := (H8.out.f (List.Mem.tail _ (List.Mem.tail _ (List.Mem.head _)))).cell 1
  have br2 : wI.cell? ⟨w.heap.size + 1, 2, none⟩ = some (.int .i64 r.e) := (H8.out.f (List.Mem.tail _ (List.Mem.tail _ (List.Mem.head _)))).cell 2
  have brl : w.heap.size + 1 < wI.heap.size := (H8.out.f (List.Mem.tail _ (List.Mem.tail _ (List.Mem.head _)))).lt
  have bd0 : wI.cell? ⟨w4.heap.size, 0, none⟩ = some (.bool d.neg) := (H8.out.f (List.Mem.head _)).cell 0
  have bd1 : wI.cell? ⟨w4.heap.size, 1, none⟩ = some (S d.l) := (H8.out.f (List.Mem.head _)).cell 1
  have bd2 : wI.cell? ⟨w4.heap.size, 2, none⟩ = some (.int .i64 d.e) := (H8.out.f (List.Mem.head _)).cell 2
  have bdl : w4.heap.size < wI.heap.size := (H8.out.f (List.Mem.head _)).lt
  have bu0 : wI.cell? ⟨w.heap.size + 1 + 1, 0, none⟩ = some (.bool u.neg) := (H8.out.f (List.Mem.tail _ (List.Mem.head _))).cell 0
  have bu1 : wI.cell? ⟨w.heap.size + 1 + 1, 1, none⟩ = some (S u.l) := (H8.out.f (List.Mem.tail _ (List.Mem.head _))).cell 1
  have bu2 : wI.cell? ⟨w.heap.size + 1 + 1, 2, none⟩ = some (.int .i64 u.e) := (H8.out.f (List.Mem.tail _ (List.Mem.head _))).cell 2
  have bul : w.heap.size + 1 + 1 < wI.heap.size := (H8.out.f (List.Mem.tail _ (List.Mem.head _))).lt
  have HA := HANS.out
  clear HANS
  rcases HA with ⟨rfl, rfl⟩ | ⟨rfl, rfl⟩ | ⟨rfl, hn5⟩ | ⟨rfl, hn6⟩ | ⟨hm3, cn⟩ | ⟨rfl, rfl, rfl⟩ | ⟨rfl, rfl, rfl⟩ | ⟨rfl, rfl, he⟩
  · go_wp2
    go_ret
    exact ⟨rfl, H8.out.bel⟩
  · go_wp2
    go_ret
    exact ⟨rfl, H8.out.bel⟩
  · rw [hn5] at bd0
    go_wp2
    go_ret
    exact ⟨rfl, H8.out.bel⟩
  · rw [hn6] at bd0
    go_wp2
    go_ret
    exact ⟨rfl, H8.out.bel⟩
  · have cn1 : decide (c < 0) = true := by simp; omega
    rcases hm3 with rfl | rfl | rfl
    all_goals
      go_wp2
      go_ret
      exact ⟨rfl, H8.out.bel⟩
  · go_wp2
    go_ret
    exact ⟨rfl, H8.out.bel⟩
  · go_wp2
    go_ret
    exact ⟨rfl, H8.out.bel⟩
  · have HEV2 := Lib.hid (HEV.out he)
    go_wp2_with fail
    with_reducible refine (HEV2.out _).mono ?_
    rintro x w9 ⟨rfl, hb⟩
    clear bx0 bx1 bx2 bxl br0 br1 br2 brl bd0 bd1 bd2 bdl bu0 bu1 bu2 bul
    have H9 : Hid (HeldL w [(w4.heap.size, #[.bool d.neg, S d.l, .int .i64 d.e]), (w.heap.size + 1 + 1, #[.bool u.neg, S u.l, .int .i64 u.e]), (w.heap.size + 1, #[.bool r.neg, S r.l, .int .i64 r.e]), (w.heap.size, #[.bool x2.neg, S x2.l, .int .i64 x2.e])] w9) := Lib.hid (HeldL.keep H8.out hb)
    clear H8
    clear hb
    go_wp2
    go_ret
    exact ⟨rfl, H9.out.bel⟩

end Go.Proofs.YtfbfjkacaadbpaaGreatDoor

namespace Go.Proofs.YtfbfjkacaadbpaaGreatDoor
open Go.RowKit Florin
set_option linter.unusedVariables false

theorem fitN {k M : Nat} {z : Int} (hk : k ≤ 5000) (hM : M ≤ 20000) (h : z.natAbs < 10 ^ M) : Fit k z := Fit.of (m := M) (by omega) h (by omega)
theorem nf_e_le {k M : Nat} {z : Int} (hk : k ≤ 5000) (hM : M ≤ 20000) (h : z.natAbs < 10 ^ M) : -(k : Int) ≤ (nf k z).e ∧ (nf k z).e ≤ M := by
  have hf := fitN hk hM h
  refine ⟨(nf_dv hf).lo, ?_⟩
  by_cases h0 : z = 0
  · subst h0; rw [nf_zero]; simp only [zero]; omega
  · obtain ⟨t, h1, h2, h3, h4⟩ := nf_pos hf h0
    have := tz_lt (n := z.natAbs) (by omega) h2 h
    rw [h1]; simp only; omega
theorem nf_nrm {k : Nat} {z : Int} (hf : Fit k z) (h : z ≠ 0) : Nrm (nf k z) := by
  unfold nf
  rcases made_nrm (decide (z < 0)) (dig z.natAbs) (-(k : Int)) with h1 | h1
  · exact absurd ((nf_l_nil hf).1 (by unfold nf; rw [h1]; rfl)) h
  · exact h1
theorem lmul_nf {k M : Nat} (hk : k ≤ 5000) (hM : M ≤ 10000) {R U : Int} (hR : R.natAbs < 10 ^ M) (hU : U.natAbs < 10 ^ M) (hU0 : 0 < U) (hn : val (nf k U).l ≤ 1000000000) (b : Bool) (hb : decide (R % U = 0) = b) : LMul (nf k R) (nf k U) b := by
  have fR := fitN (k := k) hk (by omega) hR
  have fU := fitN (k := k) hk (by omega) hU
  have eU := nf_e_le (k := k) hk (by omega) hU
  have eR := nf_e_le (k := k) hk (by omega) hR
  have n1 := (nf_split fU (by omega)).2
  by_cases h0 : R = 0
  · subst h0
    rw [nf_zero]
    refine ⟨val (nf k U).l, zero, [], [], nf_isDig _ _, rfl, by omega, hn, by simp only [zero]; omega, by simp only [zero]; omega, ?_, by decide, rfl, by decide, ?_⟩
    · exact made_zero _ _ (by decide)
    · rw [← hb]; simp [val_nil]
  · have nr := nf_nrm fR h0
    have hm := mult_nf fR fU h0
    have hl := nf_length (k := k) hR
    obtain ⟨d, hd⟩ : ∃ d, nf k R = d := ⟨_, rfl⟩
    rw [hd] at nr hm eR hl ⊢
    have nr2 : Nrm ⟨false, d.l, d.e - (nf k U).e⟩ := ⟨nr.dg, nr.ne, nr.hd, nr.lst, by simp only; omega, by simp only; omega⟩
    have hpt : partsT ⟨false, d.l, d.e - (nf k U).e⟩ = ((partsT ⟨false, d.l, d.e - (nf k U).e⟩).1, (partsT ⟨false, d.l, d.e - (nf k U).e⟩).2) := rfl
    refine ⟨val (nf k U).l, ⟨false, d.l, d.e - (nf k U).e⟩, _, _, nf_isDig _ _, rfl, by omega, hn, by omega, by omega, nr2.made, hpt, ?_, ?_, ?_⟩
    · unfold partsT
      simp only
      split
      · rw [isDig_append, nr.dg, isDig_zs]; rfl
      · split
        · rfl
        · have hs : d.l = d.l.take ((d.l.length : Int) + (d.e - (nf k U).e)).toNat ++ d.l.drop ((d.l.length : Int) + (d.e - (nf k U).e)).toNat := (List.take_append_drop _ _).symm
          have h2 := nr.dg
          rw [hs, isDig_append] at h2
          simp only [Bool.and_eq_true] at h2
          exact h2.1
    · have := (partsT_len ⟨false, d.l, d.e - (nf k U).e⟩ (by simp only; omega) (by simp only; omega) (by simp only; omega)).1
      unfold partsT at this ⊢
      simp only at this ⊢
      split
      · rw [List.length_append, zs_length]; omega
      · split
        · simp
        · rw [List.length_take]; omega
    · rw [← hb]
      unfold partsT
      simp only
      split
      · rename_i he
        simp only [List.isEmpty_nil, Bool.true_and]
        rw [val_app_zs]
        by_cases hz : R % U = 0
        · have := (hm.2 hz).2
          rw [this, decide_eq_true hz]; simp
        · have : ¬ val d.l * 10 ^ (d.e - (nf k U).e).toNat % val (nf k U).l = 0 := fun h => hz (hm.1 ⟨by omega, h⟩)
          rw [decide_eq_false this, decide_eq_false hz]
      · rename_i he
        have hz : ¬ R % U = 0 := fun h => by have := (hm.2 h).1; omega
        rw [decide_eq_false hz]
        split
        · have : (zs (-((d.l.length : Int) + (d.e - (nf k U).e))).toNat ++ d.l).isEmpty = false := by
            have := nr.ne; cases hdl : d.l with
            | nil => exact absurd hdl this
            | cons a t => simp
          rw [this]; rfl
        · have : (d.l.drop ((d.l.length : Int) + (d.e - (nf k U).e)).toNat).isEmpty = false := by
            cases hdr : d.l.drop ((d.l.length : Int) + (d.e - (nf k U).e)).toNat with
            | nil =>
              have h5 := congrArg List.length hdr
              rw [List.length_drop, List.length_nil] at h5
              omega
            | cons a t => rfl
          rw [this]; rfl
theorem nf_len' {k M : Nat} {z : Int} (h : z.natAbs < 10 ^ M) (hM : M ≤ 20000) : (nf k z).l.length ≤ 100000 := Nat.le_trans (nf_length h) (by omega)
theorem ci_pos_iff (x y : Int) : 0 < Lib.compareInt x y ↔ y < x := by rcases ci_cases x y with ⟨a, b⟩ | ⟨a, b⟩ | ⟨a, b⟩ <;> rw [b] <;> omega
/-- A decimal at k places and what it is rounded to. -/
theorem rounded_nf (k N : Nat) (hk : k ≤ 5000) (hN : N ≤ 5000) (X U m : Int) (x : Tri) (w : World) (xl : x.l.length ≤ 100000) (hx : made x.neg x.l x.e = nf k X) (hX : X.natAbs < 10 ^ N) (hU0 : 0 < U) (hU : U.natAbs ≤ 10 ^ N) (hn : val (nf k U).l ≤ 1000000000) (m0 : 0 ≤ m) (m6 : m ≤ 6) :
    Calls Tryz.prog 12 #[V x, V (nf k (rz m U X)), V (nf k U), .int .i64 m] w fun z w' => z = .returned (.bool true) ∧ Below w.heap.size w w' := by
  have p1 : 10 ^ (N + 5) = 100000 * 10 ^ N := by rw [Nat.pow_add, Nat.mul_comm]
  have pp := pow_pos' N
  have hR := rz_abs m U X hU0
  have near := rz_near m U X hU0
  have hdv := rz_dvd m U X hU0
  have hrd := rz_rd m U X hU0
  have hself := @rz_self m U X
  have hR1 : (rz m U X).natAbs < 10 ^ (N + 5) := by omega
  generalize rz m U X = R at *
  have hX5 : X.natAbs < 10 ^ (N + 5) := by omega
  have hU5 : U.natAbs < 10 ^ (N + 5) := by omega
  have fX := fitN (k := k) hk (by omega) hX5
  have fU := fitN (k := k) hk (by omega) hU5
  have fR := fitN (k := k) hk (by omega) hR1
  have eX := nf_e_le (k := k) hk (by omega) hX5
  have eR := nf_e_le (k := k) hk (by omega) hR1
  have hD5 : (X - R).natAbs < 10 ^ (N + 5) := by omega
  have fD := fitN (k := k) hk (by omega) hD5
  have lX := nf_len' (k := k) hX5 (by omega)
  have lU := nf_len' (k := k) hU5 (by omega)
  have lR := nf_len' (k := k) hR1 (by omega)
  have lD := nf_len' (k := k) hD5 (by omega)
  have hm1 : LMul (nf k R) (nf k U) true := lmul_nf (M := N + 5) hk (by omega) hR1 hU5 hU0 hn true (by simpa using hdv)
  have hsub : SubIs (nf k X) (nf k R) (nf k (X - R)) := ⟨k, X, R, fX, fR, fD, nf_made fX, nf_dv fR, rfl⟩
  by_cases hz : X % U = 0
  · have hRX : R = X := hself hz
    subst hRX
    refine rounded_eq x (nf k R) (nf k U) (nf k R) m w xl lR lU lR (by omega) (by omega) hx hm1 (nf k (R - R)) lD hsub ?_ rfl
    rw [nf_made fD, Int.sub_self, nf_zero]; rfl
  · have hne : X ≠ R := by
      rintro rfl; exact hz hdv
    have rd := hrd hz
    have fDa := fit_abs fD
    have hDa : ((X - R).natAbs : Int).natAbs < 10 ^ (N + 5) := by rw [Int.natAbs_natCast]; exact hD5
    have hD2 : (((X - R).natAbs : Int) + ((X - R).natAbs : Int)).natAbs < 10 ^ (N + 5) := by omega
    have fD2 := fitN (k := k) hk (by omega) hD2
    have lDa := nf_len' (k := k) hDa (by omega)
    have lD2 := nf_len' (k := k) hD2 (by omega)
    have hRa : (R.natAbs : Int).natAbs < 10 ^ (N + 5) := by rw [Int.natAbs_natCast]; exact hR1
    have hXa : (X.natAbs : Int).natAbs < 10 ^ (N + 5) := by rw [Int.natAbs_natCast]; exact hX5
    have hm2 : LMul (nf k X) (nf k U) false := lmul_nf (M := N + 5) hk (by omega) hX5 hU5 hU0 hn false (by simpa using hz)
    have hdneg : (nf k (X - R)).neg = decide (X - R < 0) := nf_neg fD
    refine rounded_ne x (nf k R) (nf k U) (nf k X) m w xl lR lU lX (by omega) (by omega) hx hm1 (nf k (X - R)) (nf k ((X - R).natAbs : Int)) (nf k (R.natAbs : Int)) (nf k (X.natAbs : Int)) (nf k (((X - R).natAbs : Int) + ((X - R).natAbs : Int))) lD lDa (nf_len' hRa (by omega)) (nf_len' hXa (by omega)) lD2 (by omega) (by omega) hsub ?_ hm2
      (nf_abs (nf_dv fD) fD) (nf_abs (nf_dv fR) fR) (nf_abs (nf_dv fX) fX) (Lib.compareInt ((X - R).natAbs : Int) U) (Lib.compareInt (R.natAbs : Int) (X.natAbs : Int)) (Lib.compareInt (((X - R).natAbs : Int) + ((X - R).natAbs : Int)) U)
      ⟨k, _, _, fDa, fU, nf_made fDa, nf_made fU, rfl⟩ ?_ ⟨k, _, _, fit_abs fR, fit_abs fX, nf_made (fit_abs fR), nf_made (fit_abs fX), rfl⟩ ⟨k, _, _, fDa, fDa, fD2, nf_made fDa, nf_made fDa, rfl⟩ ⟨k, _, _, fD2, fU, nf_made fD2, nf_made fU, rfl⟩ _ rfl (∃ g : Int, R = 2 * (g * U)) ?_ ?_
    · rw [nf_made fD]
      cases hl : (nf k (X - R)).l with
      | nil => exact absurd ((nf_l_nil fD).1 hl) (by omega)
      | cons a t => rfl
    · rw [ci_lt (by omega)]; decide
    · -- the even multiple
      rintro ⟨g, hg⟩ w'
      obtain ⟨G, hG⟩ : ∃ G : Int, g * U = G := ⟨_, rfl⟩
      rw [hG] at hg
      have hf : ∀ i : Nat, i ≤ 4 → (((i : Int) + 1) * R).natAbs < 10 ^ (N + 6) := by
        intro i hi
        rw [Int.natAbs_mul]
        have h1 : ((i : Int) + 1).natAbs ≤ 5 := by omega
        have h2 : ((i : Int) + 1).natAbs * R.natAbs ≤ 5 * R.natAbs := Nat.mul_le_mul_right _ h1
        have h3 : 10 ^ (N + 6) = 10 * 10 ^ (N + 5) := by rw [Nat.pow_succ, Nat.mul_comm]
        omega
      have ff : ∀ i : Nat, i ≤ 4 → Fit k (((i : Int) + 1) * R) := fun i hi => fitN hk (by omega) (hf i hi)
      have hG5 : G.natAbs < 10 ^ (N + 5) := by omega
      have fG := fitN (k := k) hk (by omega) hG5
      have eG := nf_e_le (k := k) hk (by omega) hG5
      have h54 : ((4 : Nat) : Int) + 1 = 5 := by decide
      have h10 : (((4 : Nat) : Int) + 1) * R = 10 * G := by rw [h54, hg]; omega
      refine even_T (nf k R) (nf k U) w' lR lU (fun i => nf k (((i : Int) + 1) * R)) ?_ ?_ ?_ (nf k G) (nf_len' hG5 (by omega)) (by omega) (by omega) ?_ ?_
      · show nf k ((((0 : Nat) : Int) + 1) * R) = nf k R
        rw [show (((0 : Nat) : Int) + 1) * R = R by rw [show ((0 : Nat) : Int) + 1 = 1 from rfl, Int.one_mul]]
      · intro i hi
        refine ⟨k, ((i : Int) + 1) * R, R, ff i (by omega), fR, ?_, nf_made (ff i (by omega)), nf_made fR, ?_⟩
        · have := ff (i + 1) (by omega)
          rw [show ((i : Int) + 1) * R + R = (((i + 1 : Nat) : Int) + 1) * R by rw [Int.add_mul (((i + 1 : Nat) : Int)), Int.one_mul]; rfl]
          exact this
        · show _ = nf k ((((i + 1 : Nat) : Int) + 1) * R)
          rw [show ((i : Int) + 1) * R + R = (((i + 1 : Nat) : Int) + 1) * R by rw [Int.add_mul (((i + 1 : Nat) : Int)), Int.one_mul]; rfl]
      · intro i hi; exact nf_len' (hf i hi) (by omega)
      · show made (made (nf k ((((4 : Nat) : Int) + 1) * R)).neg (nf k ((((4 : Nat) : Int) + 1) * R)).l (nf k ((((4 : Nat) : Int) + 1) * R)).e).neg _ _ = _
        rw [h10, nf_made (by rw [← h10]; exact ff 4 (by decide))]
        exact nf_tenth (by rw [← h10]; exact ff 4 (by decide)) fG
      · refine lmul_nf (M := N + 5) hk (by omega) hG5 hU5 hU0 hn true ?_
        rw [← hG, Int.mul_emod_left]; rfl
    · have o1 : decide (0 < Lib.compareInt (R.natAbs : Int) (X.natAbs : Int)) = decide (X.natAbs < R.natAbs) := by
        by_cases h : X.natAbs < R.natAbs
        · rw [decide_eq_true h, decide_eq_true ((ci_pos_iff _ _).2 (by omega))]
        · rw [decide_eq_false h, decide_eq_false (fun h' => h (by have := (ci_pos_iff _ _).1 h'; omega))]
      rw [o1, hdneg]
      have hm : m = 0 ∨ m = 1 ∨ m = 2 ∨ m = 3 ∨ m = 4 ∨ m = 5 ∨ m = 6 := by omega
      have cl : 2 * ((X - R).natAbs : Int) < U → Lib.compareInt (((X - R).natAbs : Int) + ((X - R).natAbs : Int)) U < 0 := fun h => by rw [ci_lt (by omega)]; decide
      have ce : 2 * ((X - R).natAbs : Int) = U → Lib.compareInt (((X - R).natAbs : Int) + ((X - R).natAbs : Int)) U = 0 := fun h => ci_eq (by omega)
      rcases hm with h | h | h | h | h | h | h
      · rcases rd.h0 h with q | ⟨q, g⟩
        · exact .inr (.inr (.inr (.inr (.inl ⟨.inl h, cl q⟩))))
        · exact .inr (.inr (.inr (.inr (.inr (.inr (.inr ⟨h, ce q, g⟩))))))
      · rcases rd.h1 h with q | ⟨q, g⟩
        · exact .inr (.inr (.inr (.inr (.inl ⟨.inr (.inl h), cl q⟩))))
        · exact .inr (.inr (.inr (.inr (.inr (.inl ⟨h, ce q, by simpa using g⟩)))))
      · rcases rd.h2 h with q | ⟨q, g⟩
        · exact .inr (.inr (.inr (.inr (.inl ⟨.inr (.inr h), cl q⟩))))
        · exact .inr (.inr (.inr (.inr (.inr (.inr (.inl ⟨h, ce q, by simp; omega⟩))))))
      · exact .inl ⟨h, by simpa using rd.up3 h⟩
      · exact .inr (.inl ⟨h, by have := rd.dn4 h; simp; omega⟩)
      · exact .inr (.inr (.inl ⟨h, by have := rd.up5 h; simp; omega⟩))
      · exact .inr (.inr (.inr (.inl ⟨h, by have := rd.dn6 h; simp; omega⟩)))
end Go.Proofs.YtfbfjkacaadbpaaGreatDoor

namespace Go.Proofs.YtfbfjkacaadbpaaGreatDoor
open Go.RowKit Florin
set_option linter.unusedVariables false
set_option linter.unusedSimpArgs false
attribute [local go_sem ↓] Go.wp_at_zero Go.wp_at_succ eq_V ne_V

set_option maxRecDepth 100000 in
set_option maxHeartbeats 6400000 in
theorem step_w (n : Bool) (a : Option Addr) (len cap : Nat) (L : List UInt8) (e : Int) (w : World) (hin : InB w a len cap L) (htab : Tab w) (h1 : len ≤ 30) (h2 : -30 ≤ e) (h3 : e ≤ 30) (ic ex mo E : Int) (hE : wrap64 (ex.tmod 20 - wrap64 ((ex.tmod 20).tdiv 2)) = E) (M : Int) (hM : ∀ w : World, Calls Tryz.prog 11 #[.int .i64 mo] w fun x w' => x = .returned (.int .i64 M) ∧ w = w') (j : Nat) (hj : bits .and .i64 ic 16777215 = (j : Int)) (hj2 : j ≤ 16777215) (jl : (dig (j + 1)).length ≤ 1000000) (r u : Tri) (hu : made false (dig (j + 1)) E = u) (hst : (∀ w : World, Tab w → Calls Tryz.prog 20 #[V ⟨n, dgs L, e⟩, V u, .int .i64 M] w fun z w' => z = .returned (V r) ∧ Below w.heap.size w w')) (hrd : (∀ w : World, Tab w → Calls Tryz.prog 12 #[V ⟨n, dgs L, e⟩, V r, V u, .int .i64 M] w fun z w' => z = .returned (.bool true) ∧ Below w.heap.size w w')) :
    Calls Tryz.prog 5 #[RV n a len cap e, .int .i64 ic, .int .i64 ex, .int .i64 mo] w fun x w' => x = .returned (.bool true) ∧ Below w.heap.size w w' := by
  have LL : (dgs L).length ≤ 100000 := by rw [dgs_length, hin.1]; omega
  have hcA := hin.2.1
  have hmA := hin.2.2.1
  have HT := Lib.hid htab
  have HIN := Lib.hid hin
  have HMO := Lib.hid hM
  have HE := Lib.hid hE
  have HU := Lib.hid hu
  have HRD := Lib.hid hrd
  have HJ := Lib.hid hj
  have HST := Lib.hid hst
  clear htab hin hM hE hu hrd hj hst
  go_enter Tryz.func5, Tryz.ntmps5
  go_wp2_with fail
  with_reducible refine (head3 _ (HT.out.below (HeldL.alloc (HeldL.refl w) (w.heap.size) #[.bool n, .slice a len cap, .int .i64 e] 24 (by simp)).bel)).mono ?_
  rintro x w1 ⟨rfl, hb⟩
  have H1 : Hid (HeldL w [(w.heap.size, #[.bool n, .slice a len cap, .int .i64 e])] w1) := Lib.hid (HeldL.keep (HeldL.alloc (HeldL.refl w) (w.heap.size) #[.bool n, .slice a len cap, .int .i64 e] 24 (by simp)) hb)
  clear hb
  have q0 : w1.cell? ⟨w.heap.size, 0, none⟩ = some (.bool n) := (H1.out.f (List.Mem.head _)).cell 0
  have q1 : w1.cell? ⟨w.heap.size, 1, none⟩ = some (.slice a len cap) := (H1.out.f (List.Mem.head _)).cell 1
  have q2 : w1.cell? ⟨w.heap.size, 2, none⟩ = some (.int .i64 e) := (H1.out.f (List.Mem.head _)).cell 2
  have ql : w.heap.size < w1.heap.size := (H1.out.f (List.Mem.head _)).lt
  go_wp2_with fail
  with_reducible refine (few_yes n a len cap e 30 _ hcA hmA (by decide) (by decide) (by omega) h2 h3).mono ?_
  rintro x w2 ⟨rfl, hb⟩
  clear q0 q1 q2 ql
  have H2 : Hid (HeldL w [(w.heap.size, #[.bool n, .slice a len cap, .int .i64 e])] w2) := Lib.hid (HeldL.keep H1.out hb)
  clear H1
  clear hb
  have q0 : w2.cell? ⟨w.heap.size, 0, none⟩ = some (.bool n) := (H2.out.f (List.Mem.head _)).cell 0
  have q1 : w2.cell? ⟨w.heap.size, 1, none⟩ = some (.slice a len cap) := (H2.out.f (List.Mem.head _)).cell 1
  have q2 : w2.cell? ⟨w.heap.size, 2, none⟩ = some (.int .i64 e) := (H2.out.f (List.Mem.head _)).cell 2
  have ql : w.heap.size < w2.heap.size := (H2.out.f (List.Mem.head _)).lt
  go_wp2_with fail
  rw [HE.out]
  with_reducible refine (HMO.out _).mono ?_
  rintro x wz ⟨rfl, rfl⟩
  go_wp2_with fail
  rw [HJ.out]
  rw [show wrap64 ((1 : Int) + (j : Int)) = ((j + 1 : Nat) : Int) by unfold wrap64; omega]
  with_reducible refine (ofN (j + 1) _ (by omega) (HT.out.below H2.out.bel)).mono ?_
  rintro x w3 ⟨rfl, hb⟩
  clear q0 q1 q2 ql
  have H3 : Hid (HeldL w [(w.heap.size, #[.bool n, .slice a len cap, .int .i64 e])] w3) := Lib.hid (HeldL.keep H2.out hb)
  clear H2
  clear hb
  have q0 : w3.cell? ⟨w.heap.size, 0, none⟩ = some (.bool n) := (H3.out.f (List.Mem.head _)).cell 0
  have q1 : w3.cell? ⟨w.heap.size, 1, none⟩ = some (.slice a len cap) := (H3.out.f (List.Mem.head _)).cell 1
  have q2 : w3.cell? ⟨w.heap.size, 2, none⟩ = some (.int .i64 e) := (H3.out.f (List.Mem.head _)).cell 2
  have ql : w.heap.size < w3.heap.size := (H3.out.f (List.Mem.head _)).lt
  go_wp2_with fail
  with_reducible refine (made_as false ⟨(dig (j + 1)).toArray⟩ E _ (by rw [arr_size]; exact jl) u (by rw [arr_list]; exact HU.out)).mono ?_
  rintro x w4 ⟨rfl, hb⟩
  clear q0 q1 q2 ql
  have H4 : Hid (HeldL w [(w.heap.size, #[.bool n, .slice a len cap, .int .i64 e])] w4) := Lib.hid (HeldL.keep H3.out hb)
  clear H3
  clear hb
  have q0 : w4.cell? ⟨w.heap.size, 0, none⟩ = some (.bool n) := (H4.out.f (List.Mem.head _)).cell 0
  have q1 : w4.cell? ⟨w.heap.size, 1, none⟩ = some (.slice a len cap) := (H4.out.f (List.Mem.head _)).cell 1
  have q2 : w4.cell? ⟨w.heap.size, 2, none⟩ = some (.int .i64 e) := (H4.out.f (List.Mem.head _)).cell 2
  have ql : w.heap.size < w4.heap.size := (H4.out.f (List.Mem.head _)).lt
  go_wp2_with fail
  have ALL1 : Hid (∀ w' : World, HeldL w [(w4.heap.size, #[.bool u.neg, S u.l, .int .i64 u.e]), (w.heap.size, #[.bool n, .slice a len cap, .int .i64 e])] w' → w'.cell? ⟨w.heap.size, 0, none⟩ = some (.bool n) ∧ w'.cell? ⟨w.heap.size, 1, none⟩ = some (.slice a len cap) ∧ w'.cell? ⟨w.heap.size, 2, none⟩ = some (.int .i64 e) ∧ w'.cell? ⟨w4.heap.size, 0, none⟩ = some (.bool u.neg) ∧ w'.cell? ⟨w4.heap.size, 1, none⟩ = some (S u.l) ∧ w'.cell? ⟨w4.heap.size, 2, none⟩ = some (.int .i64 u.e) ∧ HeldL w [(w4.heap.size, #[.bool u.neg, S u.l, .int .i64 u.e]), (w.heap.size, #[.bool n, .slice a len cap, .int .i64 e])] w') := Lib.hid (fun w' h => ⟨(h.f (List.Mem.tail _ (List.Mem.head _))).cell 0, (h.f (List.Mem.tail _ (List.Mem.head _))).cell 1, (h.f (List.Mem.tail _ (List.Mem.head _))).cell 2, (h.f (List.Mem.head _)).cell 0, (h.f (List.Mem.head _)).cell 1, (h.f (List.Mem.head _)).cell 2, h⟩)
  have KEEP1 : Hid (∀ w' w'' : World, (w'.cell? ⟨w.heap.size, 0, none⟩ = some (.bool n) ∧ w'.cell? ⟨w.heap.size, 1, none⟩ = some (.slice a len cap) ∧ w'.cell? ⟨w.heap.size, 2, none⟩ = some (.int .i64 e) ∧ w'.cell? ⟨w4.heap.size, 0, none⟩ = some (.bool u.neg) ∧ w'.cell? ⟨w4.heap.size, 1, none⟩ = some (S u.l) ∧ w'.cell? ⟨w4.heap.size, 2, none⟩ = some (.int .i64 u.e) ∧ HeldL w [(w4.heap.size, #[.bool u.neg, S u.l, .int .i64 u.e]), (w.heap.size, #[.bool n, .slice a len cap, .int .i64 e])] w') → Below w'.heap.size w' w'' → (w''.cell? ⟨w.heap.size, 0, none⟩ = some (.bool n) ∧ w''.cell? ⟨w.heap.size, 1, none⟩ = some (.slice a len cap) ∧ w''.cell? ⟨w.heap.size, 2, none⟩ = some (.int .i64 e) ∧ w''.cell? ⟨w4.heap.size, 0, none⟩ = some (.bool u.neg) ∧ w''.cell? ⟨w4.heap.size, 1, none⟩ = some (S u.l) ∧ w''.cell? ⟨w4.heap.size, 2, none⟩ = some (.int .i64 u.e) ∧ HeldL w [(w4.heap.size, #[.bool u.neg, S u.l, .int .i64 u.e]), (w.heap.size, #[.bool n, .slice a len cap, .int .i64 e])] w'')) := Lib.hid (fun w' w'' h hb => ALL1.out _ (HeldL.keep (h.2.2.2.2.2.2) hb))
  have HS1 : Hid (HeldL w [(w4.heap.size, #[.bool u.neg, S u.l, .int .i64 u.e]), (w.heap.size, #[.bool n, .slice a len cap, .int .i64 e])] _) := Lib.hid (HeldL.alloc H4.out (w4.heap.size) #[.bool u.neg, S u.l, .int .i64 u.e] 31 (by simp))
  have TAB1 : Hid (∀ w' : World, (w'.cell? ⟨w.heap.size, 0, none⟩ = some (.bool n) ∧ w'.cell? ⟨w.heap.size, 1, none⟩ = some (.slice a len cap) ∧ w'.cell? ⟨w.heap.size, 2, none⟩ = some (.int .i64 e) ∧ w'.cell? ⟨w4.heap.size, 0, none⟩ = some (.bool u.neg) ∧ w'.cell? ⟨w4.heap.size, 1, none⟩ = some (S u.l) ∧ w'.cell? ⟨w4.heap.size, 2, none⟩ = some (.int .i64 u.e) ∧ HeldL w [(w4.heap.size, #[.bool u.neg, S u.l, .int .i64 u.e]), (w.heap.size, #[.bool n, .slice a len cap, .int .i64 e])] w') → Tab w') := Lib.hid (fun w' h => HT.out.below (h.2.2.2.2.2.2).bel)
  have INB1 : Hid (∀ w' : World, (w'.cell? ⟨w.heap.size, 0, none⟩ = some (.bool n) ∧ w'.cell? ⟨w.heap.size, 1, none⟩ = some (.slice a len cap) ∧ w'.cell? ⟨w.heap.size, 2, none⟩ = some (.int .i64 e) ∧ w'.cell? ⟨w4.heap.size, 0, none⟩ = some (.bool u.neg) ∧ w'.cell? ⟨w4.heap.size, 1, none⟩ = some (S u.l) ∧ w'.cell? ⟨w4.heap.size, 2, none⟩ = some (.int .i64 u.e) ∧ HeldL w [(w4.heap.size, #[.bool u.neg, S u.l, .int .i64 u.e]), (w.heap.size, #[.bool n, .slice a len cap, .int .i64 e])] w') → InB w' a len cap L) := Lib.hid (fun w' h => HIN.out.below (h.2.2.2.2.2.2).bel)
  go_region_held3 (fun w' => w'.cell? ⟨w.heap.size, 0, none⟩ = some (.bool n) ∧ w'.cell? ⟨w.heap.size, 1, none⟩ = some (.slice a len cap) ∧ w'.cell? ⟨w.heap.size, 2, none⟩ = some (.int .i64 e) ∧ w'.cell? ⟨w4.heap.size, 0, none⟩ = some (.bool u.neg) ∧ w'.cell? ⟨w4.heap.size, 1, none⟩ = some (S u.l) ∧ w'.cell? ⟨w4.heap.size, 2, none⟩ = some (.int .i64 u.e) ∧ HeldL w [(w4.heap.size, #[.bool u.neg, S u.l, .int .i64 u.e]), (w.heap.size, #[.bool n, .slice a len cap, .int .i64 e])] w')
    (first | exact ALL1.out _ (HeldL.drew HS1.out) | exact KEEP1.out _ _ (by assumption) hb | assumption)
    (first | (go_at_call 13; (with_reducible refine (make_as n a len cap L e _ (by first | exact HIN.out.below HS1.out.bel.drew | exact INB1.out _ (by assumption)) (by omega)).mono ?_); rintro x wA ⟨rfl, hb⟩) | (go_at_call 13; (with_reducible refine (make_as n a len cap L e _ (by first | exact HIN.out.below HS1.out.bel.drew | exact INB1.out _ (by assumption)) (by omega)).mono ?_); rintro x wB ⟨rfl, hb⟩) | (go_at_call 20; (with_reducible refine (HST.out _ (by first | exact HT.out.below HS1.out.bel.drew | exact TAB1.out _ (by assumption))).mono ?_); rintro x wC ⟨rfl, hb⟩) | (go_at_call 12; (with_reducible refine (HRD.out _ (by first | exact HT.out.below HS1.out.bel.drew | exact TAB1.out _ (by assumption))).mono ?_); rintro x wD ⟨rfl, hb⟩))
  have HH : HeldL w [(w4.heap.size, #[.bool u.neg, S u.l, .int .i64 u.e]), (w.heap.size, #[.bool n, .slice a len cap, .int .i64 e])] wD := (‹wD.cell? ⟨w.heap.size, 0, none⟩ = some (.bool n) ∧ wD.cell? ⟨w.heap.size, 1, none⟩ = some (.slice a len cap) ∧ wD.cell? ⟨w.heap.size, 2, none⟩ = some (.int .i64 e) ∧ wD.cell? ⟨w4.heap.size, 0, none⟩ = some (.bool u.neg) ∧ wD.cell? ⟨w4.heap.size, 1, none⟩ = some (S u.l) ∧ wD.cell? ⟨w4.heap.size, 2, none⟩ = some (.int .i64 u.e) ∧ HeldL w [(w4.heap.size, #[.bool u.neg, S u.l, .int .i64 u.e]), (w.heap.size, #[.bool n, .slice a len cap, .int .i64 e])] wD›).2.2.2.2.2.2
  clear q0 q1 q2 ql
  have H5 : Hid (HeldL w [(w4.heap.size, #[.bool u.neg, S u.l, .int .i64 u.e]), (w.heap.size, #[.bool n, .slice a len cap, .int .i64 e])] wD) := Lib.hid HH
  clear HH ALL1 KEEP1 HS1 TAB1 H4
  go_wp2
  go_ret
  exact ⟨rfl, H5.out.bel⟩

set_option maxRecDepth 100000 in
set_option maxHeartbeats 1600000 in
theorem step_no (n0 : Bool) (a0 : Option Addr) (len0 cap0 : Nat) (e0 : Int) (ic ex mo : Int) (w : World) (hc0 : len0 ≤ cap0) (hm0 : cap0 ≤ maxLen) (htab : Tab w) (h : ¬ ((len0 : Int) ≤ 30 ∧ -30 ≤ e0 ∧ e0 ≤ 30)) :
    Calls Tryz.prog 5 #[RV n0 a0 len0 cap0 e0, .int .i64 ic, .int .i64 ex, .int .i64 mo] w fun x w' => x = .returned (.bool true) ∧ Below w.heap.size w w' := by
  have HT := Lib.hid htab
  have H := Lib.hid h
  clear htab h
  go_enter Tryz.func5, Tryz.ntmps5
  go_wp2_with fail
  with_reducible refine (head3 _ (HT.out.below (HeldL.alloc (HeldL.refl w) (w.heap.size) #[.bool n0, .slice a0 len0 cap0, .int .i64 e0] 24 (by simp)).bel)).mono ?_
  rintro x w1 ⟨rfl, hb⟩
  have H1 : Hid (HeldL w [(w.heap.size, #[.bool n0, .slice a0 len0 cap0, .int .i64 e0])] w1) := Lib.hid (HeldL.keep (HeldL.alloc (HeldL.refl w) (w.heap.size) #[.bool n0, .slice a0 len0 cap0, .int .i64 e0] 24 (by simp)) hb)
  clear hb
  have r0 : w1.cell? ⟨w.heap.size, 0, none⟩ = some (.bool n0) := (H1.out.f (List.Mem.head _)).cell 0
  have r1 : w1.cell? ⟨w.heap.size, 1, none⟩ = some (.slice a0 len0 cap0) := (H1.out.f (List.Mem.head _)).cell 1
  have r2 : w1.cell? ⟨w.heap.size, 2, none⟩ = some (.int .i64 e0) := (H1.out.f (List.Mem.head _)).cell 2
  have rl : w.heap.size < w1.heap.size := (H1.out.f (List.Mem.head _)).lt
  go_wp2_with fail
  with_reducible refine (few_no n0 a0 len0 cap0 e0 30 _ hc0 hm0 (by decide) (by decide) H.out).mono ?_
  rintro x w2 ⟨rfl, hb⟩
  clear r0 r1 r2 rl
  have H2 : Hid (HeldL w [(w.heap.size, #[.bool n0, .slice a0 len0 cap0, .int .i64 e0])] w2) := Lib.hid (HeldL.keep H1.out hb)
  clear H1
  clear hb
  go_wp2
  go_ret
  exact ⟨rfl, H2.out.bel⟩
end Go.Proofs.YtfbfjkacaadbpaaGreatDoor

namespace Go.Proofs.YtfbfjkacaadbpaaGreatDoor
open Go.RowKit Florin
set_option linter.unusedVariables false

theorem exp20 (k : Int) : -10 ≤ wrap64 (k.tmod 20 - wrap64 ((k.tmod 20).tdiv 2)) ∧ wrap64 (k.tmod 20 - wrap64 ((k.tmod 20).tdiv 2)) ≤ 10 := by
  have t1 := Int.tmod_lt_of_pos k (show (0 : Int) < 20 by decide)
  have t2 := Int.lt_tmod_of_pos k (show (0 : Int) < 20 by decide)
  generalize k.tmod 20 = t at *
  have t3 := Int.tdiv_eq_ediv (a := t) (b := 2)
  have t4 : (0 ≤ t → t.tdiv 2 = t / 2) ∧ (t < 0 → 2 * t.tdiv 2 ≥ t ∧ 2 * t.tdiv 2 ≤ t + 1) := by
    refine ⟨fun h => ?_, fun h => ?_⟩
    · rw [t3, if_pos (.inl h)]; omega
    · rw [t3]; split
      · omega
      · rw [show Int.sign 2 = 1 from rfl]; omega
  clear t3
  generalize t.tdiv 2 = u at *
  unfold wrap64
  omega
theorem roundStep_walk (n : Bool) (a : Option Addr) (len cap : Nat) (e : Int) (L : List UInt8) (ic ex mo : Int) (w : World) (hin : InB w a len cap L) (_ : (Lit.int .i64 ic).wf = true) (_ : (Lit.int .i64 ex).wf = true) (_ : (Lit.int .i64 mo).wf = true) (htab : Tab w) :
    Calls Tryz.prog 5 #[RV n a len cap e, .int .i64 ic, .int .i64 ex, .int .i64 mo] w fun x w' => x = .returned (.bool true) ∧ Below w.heap.size w w' := by
  by_cases hf : (len : Int) ≤ 30 ∧ -30 ≤ e ∧ e ≤ 30
  · obtain ⟨h1, h2, h3⟩ := hf
    obtain ⟨X, x1, x2, x3⟩ := raw60 n L e (by rw [hin.1]; omega) (by omega) (by omega)
    have hE := exp20 ex
    obtain ⟨E, hEE⟩ : ∃ P, wrap64 (ex.tmod 20 - wrap64 ((ex.tmod 20).tdiv 2)) = P := ⟨_, rfl⟩
    rw [hEE] at hE
    obtain ⟨M, m0, m6, hM⟩ := mode_as mo
    obtain ⟨j, hj2, hj⟩ := and_mask ic 16777215 (by decide)
    have hfx : Fit 60 X := fit60 (Nat.lt_trans x2 (by decide))
    have hd : made n (dgs L) e = nf 60 X := x1.made hfx
    -- the increment
    have hvl : val (dig (j + 1)) = j + 1 := val_dig _
    obtain ⟨U, hU⟩ : ∃ U : Nat, U = (j + 1) * 10 ^ (E + 60).toNat := ⟨_, rfl⟩
    have hUb : U ≤ 10 ^ 200 := by
      rw [hU]
      have a1 : 10 ^ (E + 60).toNat ≤ 10 ^ 70 := Nat.pow_le_pow_right (by decide) (by omega)
      have a2 : (j + 1) * 10 ^ (E + 60).toNat ≤ 16777216 * 10 ^ 70 := Nat.mul_le_mul (by omega) a1
      have a3 : 16777216 * 10 ^ 70 ≤ 10 ^ 200 := by decide
      omega
    have hU0 : 0 < U := by rw [hU]; exact Nat.mul_pos (by omega) (pow_pos' _)
    have fU : Fit 60 (U : Int) := fit60 (by rw [Int.natAbs_natCast]; exact Nat.lt_of_le_of_lt hUb (by decide))
    have hdu : Dv 60 (U : Int) ⟨false, dig (j + 1), E⟩ := ⟨isDig_dig _, by simp only; omega, by
      simp only
      rw [hvl, hU]; rfl⟩
    have hu : made false (dig (j + 1)) E = nf 60 (U : Int) := hdu.made fU
    have jl : (dig (j + 1)).length ≤ 8 := (dig_length_le _ _).2 (Nat.lt_of_le_of_lt (show j + 1 ≤ 16777216 by omega) (by decide))
    have ul : (nf 60 (U : Int)).l.length ≤ 8 := by rw [← hu]; exact Nat.le_trans (made_length _ _ _) jl
    have udg := nf_isDig 60 (U : Int)
    have uv := val_lt _ udg
    have uv8 : val (nf 60 (U : Int)).l < 10 ^ 8 := Nat.lt_of_lt_of_le uv (Nat.pow_le_pow_right (by decide) ul)
    have uv9 : val (nf 60 (U : Int)).l ≤ 1000000000 := Nat.le_of_lt (Nat.lt_of_lt_of_le uv8 (by decide))
    have un1 := (nf_split fU (by omega)).2
    have ub := (nf_bounds fU)
    have ua := nf_natAbs fU
    rw [Int.natAbs_natCast] at ua
    have uneg : (nf 60 (U : Int)).neg = false := by rw [nf_neg fU]; simp
    obtain ⟨s1, s2, s3, s4, s5⟩ := step60 (X := X) (m := M) (F := val (nf 60 (U : Int)).l) (p := (nf 60 (U : Int)).e) 200 (by decide) x2 (by omega) (by have := ub.1; omega) U ua hUb m0 m6
    have ll : (dgs L).length ≤ 100000 := by rw [dgs_length, hin.1]; omega
    refine step_w n a len cap L e w hin htab (by omega) h2 h3 ic ex mo E hEE M hM j hj hj2 (by omega) (nf 60 (rz M U X)) (nf 60 (U : Int)) hu (fun w' ht => ?_) (fun w' ht => ?_)
    · refine stepT_yes ⟨n, dgs L, e⟩ (nf 60 (U : Int)) M _ w' ll (by omega) (nf 60 (U : Int)).l (nf 60 (U : Int)).e ?_ (by omega) uv9 ?_ ht
      · rw [nf_made fU]
        cases hq : nf 60 (U : Int) with
        | mk b l q => rw [hq] at uneg; simp only at uneg; subst uneg; rfl
      · show mulT (made n (dgs L) e) _ _ _ = _
        rw [hd]; exact s1
    · exact rounded_nf 60 200 (by decide) (by decide) X U M ⟨n, dgs L, e⟩ w' ll hd x2 (by omega) (by rw [Int.natAbs_natCast]; exact hUb) uv9 m0 m6
  · exact step_no n a len cap e ic ex mo w hin.2.1 hin.2.2.1 htab hf

end Go.Proofs.YtfbfjkacaadbpaaGreatDoor
