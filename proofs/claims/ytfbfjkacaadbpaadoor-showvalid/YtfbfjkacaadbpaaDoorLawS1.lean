/- The walk of the law ShowValid. -/
import Derived.Test.YtfbfjkacaadbpaaDoorMShw
import Derived.Deep.Cut
namespace Go.Proofs.YtfbfjkacaadbpaaDoor
open Go.RowKit Florin
set_option linter.unusedVariables false
set_option linter.unusedSimpArgs false
attribute [local go_sem ↓] Go.wp_at_zero Go.wp_at_succ eq_V ne_V eq_VV

theorem validP_no {p : Prc} (h : (vm p.mode && (wi p.mi 0 100 && wi p.mn 0 100)) = false) : validP p = false := by
  unfold validP
  cases h1 : vm p.mode <;> cases h2 : wi p.mi 0 100 <;> cases h3 : wi p.mn 0 100 <;> simp [h1, h2, h3] at h ⊢
theorem validP_go {p : Prc} (h : (vm p.mode && (wi p.mi 0 100 && wi p.mn 0 100)) = true) : validP p = (if p.kind = 0 then wi p.mx p.mn 100 else if p.kind = 1 then decide (1 ≤ p.mn) && wi p.mx p.mn 100 else if p.kind = 2 then vinc (made p.inc.neg p.inc.l p.inc.e) else false) := by
  simp only [Bool.and_eq_true] at h
  unfold validP
  rw [h.1, h.2.1, h.2.2]; simp
set_option maxRecDepth 100000 in
set_option maxHeartbeats 12800000 in
theorem valid_w (kd mn mx mo mi : Int) (n : Bool) (a : Option Addr) (len cap : Nat) (L : List UInt8) (e : Int) (w : World) (hin : InB w a len cap L) (htab : Tab w) (h1 : len ≤ 30) (d : Tri) (hd : made n (dgs L) e = d) (dl : d.l.length ≤ 1000) (b0 : Bool) (hb0 : (vm mo && (wi mi 0 100 && wi mn 0 100)) = b0) (v : Vs)
    (hap : validP ⟨kd, mn, mx, ⟨n, dgs L, e⟩, mo, mi⟩ = true → ∀ w : World, Tab w → Calls Tryd.prog 28 #[PV ⟨kd, mn, mx, ⟨n, dgs L, e⟩, mo, mi⟩, V ⟨false, [55], 0⟩] w fun z w' => z = .returned (.tuple #[VV v, .int .i64 0]) ∧ Below w.heap.size w w') :
    Calls Tryd.prog 8 #[.int .i64 kd, .int .i64 mn, .int .i64 mx, .int .i64 mo, .int .i64 mi, RV n a len cap e] w fun x w' => x = .returned (.bool true) ∧ Below w.heap.size w w' := by
  have LL : (dgs L).length ≤ 100000 := by rw [dgs_length, hin.1]; omega
  have hcA := hin.2.1
  have hmA := hin.2.2.1
  have hl30 : ¬ (len : Int) > 30 := by omega
  have hl31 : decide (30 < (len : Int)) = false := by simp; omega
  have HT := Lib.hid htab
  have HIN := Lib.hid hin
  have HD := Lib.hid hd
  have HB0 := Lib.hid hb0
  have HAP := Lib.hid hap
  clear htab hin hd hb0 hap
  go_enter Tryd.func8, Tryd.ntmps8
  go_wp2_with fail
  with_reducible refine (head4 _ (HT.out.below (HeldL.alloc (HeldL.refl w) (w.heap.size) #[.bool n, .slice a len cap, .int .i64 e] 24 (by simp)).bel)).mono ?_
  rintro x w1 ⟨rfl, hb⟩
  have H1 : Hid (HeldL w [(w.heap.size, #[.bool n, .slice a len cap, .int .i64 e])] w1) := Lib.hid (HeldL.keep (HeldL.alloc (HeldL.refl w) (w.heap.size) #[.bool n, .slice a len cap, .int .i64 e] 24 (by simp)) hb)
  clear hb
  have q0 : w1.cell? ⟨w.heap.size, 0, none⟩ = some (.bool n) := (H1.out.f (List.Mem.head _)).cell 0
  have q1 : w1.cell? ⟨w.heap.size, 1, none⟩ = some (.slice a len cap) := (H1.out.f (List.Mem.head _)).cell 1
  have q2 : w1.cell? ⟨w.heap.size, 2, none⟩ = some (.int .i64 e) := (H1.out.f (List.Mem.head _)).cell 2
  have ql : w.heap.size < w1.heap.size := (H1.out.f (List.Mem.head _)).lt
  go_wp2_with fail
  with_reducible refine (make_as n a len cap L e _ (HIN.out.below H1.out.bel) (by omega)).mono ?_
  rintro x w2 ⟨rfl, hb⟩
  clear q0 q1 q2 ql
  have H2 : Hid (HeldL w [(w.heap.size, #[.bool n, .slice a len cap, .int .i64 e])] w2) := Lib.hid (HeldL.keep H1.out hb)
  clear H1
  clear hb
  have q0 : w2.cell? ⟨w.heap.size, 0, none⟩ = some (.bool n) := (H2.out.f (List.Mem.head _)).cell 0
  have q1 : w2.cell? ⟨w.heap.size, 1, none⟩ = some (.slice a len cap) := (H2.out.f (List.Mem.head _)).cell 1
  have q2 : w2.cell? ⟨w.heap.size, 2, none⟩ = some (.int .i64 e) := (H2.out.f (List.Mem.head _)).cell 2
  have ql : w.heap.size < w2.heap.size := (H2.out.f (List.Mem.head _)).lt
  go_wp2_with fail
  with_reducible refine (make_as n a len cap L e _ (HIN.out.below (HeldL.alloc H2.out (w2.heap.size) #[.int .i64 kd, .int .i64 mn, .int .i64 mx, .bool n, S (dgs L), .int .i64 e, .int .i64 mo, .int .i64 mi] 48 (by simp)).bel) (by omega)).mono ?_
  rintro x w3 ⟨rfl, hb⟩
  clear q0 q1 q2 ql
  have H3 : Hid (HeldL w [(w2.heap.size, #[.int .i64 kd, .int .i64 mn, .int .i64 mx, .bool n, S (dgs L), .int .i64 e, .int .i64 mo, .int .i64 mi]), (w.heap.size, #[.bool n, .slice a len cap, .int .i64 e])] w3) := Lib.hid (HeldL.keep (HeldL.alloc H2.out (w2.heap.size) #[.int .i64 kd, .int .i64 mn, .int .i64 mx, .bool n, S (dgs L), .int .i64 e, .int .i64 mo, .int .i64 mi] 48 (by simp)) hb)
  clear H2
  clear hb
  go_wp2_with fail
  with_reducible refine (norm_T ⟨n, dgs L, e⟩ d _ LL HD.out).mono ?_
  rintro x w4 ⟨rfl, hb⟩
  have H4 : Hid (HeldL w [(w2.heap.size, #[.int .i64 kd, .int .i64 mn, .int .i64 mx, .bool n, S (dgs L), .int .i64 e, .int .i64 mo, .int .i64 mi]), (w.heap.size, #[.bool n, .slice a len cap, .int .i64 e])] w4) := Lib.hid (HeldL.keep H3.out hb)
  clear H3
  clear hb
  go_upto_region 7 with fail
  go_cut [15] from 19 (fun v15 w' => v15 = .bool b0 ∧ HeldL w [(w4.heap.size, #[.bool d.neg, S d.l, .int .i64 d.e]), (w2.heap.size, #[.int .i64 kd, .int .i64 mn, .int .i64 mx, .bool n, S (dgs L), .int .i64 e, .int .i64 mo, .int .i64 mi]), (w.heap.size, #[.bool n, .slice a len cap, .int .i64 e])] w')
  case first =>
    by_cases q0 : 0 ≤ mo
    case neg =>
      have hb : b0 = false := by rw [← HB0.out]; simp [vm, wi, q0]
      subst hb
      go_wp2
      go_meet
      case rel => exact ⟨rfl, (HeldL.alloc H4.out (w4.heap.size) #[.bool d.neg, S d.l, .int .i64 d.e] 28 (by simp))⟩
    by_cases q1 : mo ≤ 6
    case neg =>
      have hb : b0 = false := by rw [← HB0.out]; simp [vm, wi, q0, q1]
      subst hb
      go_wp2
      go_meet
      case rel => exact ⟨rfl, (HeldL.alloc H4.out (w4.heap.size) #[.bool d.neg, S d.l, .int .i64 d.e] 28 (by simp))⟩
    by_cases q2 : 0 ≤ mi
    case neg =>
      have hb : b0 = false := by rw [← HB0.out]; simp [vm, wi, q0, q1, q2]
      subst hb
      go_wp2
      go_meet
      case rel => exact ⟨rfl, (HeldL.alloc H4.out (w4.heap.size) #[.bool d.neg, S d.l, .int .i64 d.e] 28 (by simp))⟩
    by_cases q3 : mi ≤ 100
    case neg =>
      have hb : b0 = false := by rw [← HB0.out]; simp [vm, wi, q0, q1, q2, q3]
      subst hb
      go_wp2
      go_meet
      case rel => exact ⟨rfl, (HeldL.alloc H4.out (w4.heap.size) #[.bool d.neg, S d.l, .int .i64 d.e] 28 (by simp))⟩
    by_cases q4 : 0 ≤ mn
    case neg =>
      have hb : b0 = false := by rw [← HB0.out]; simp [vm, wi, q0, q1, q2, q3, q4]
      subst hb
      go_wp2
      go_meet
      case rel => exact ⟨rfl, (HeldL.alloc H4.out (w4.heap.size) #[.bool d.neg, S d.l, .int .i64 d.e] 28 (by simp))⟩
    by_cases q5 : mn ≤ 100
    case neg =>
      have hb : b0 = false := by rw [← HB0.out]; simp [vm, wi, q0, q1, q2, q3, q4, q5]
      subst hb
      go_wp2
      go_meet
      case rel => exact ⟨rfl, (HeldL.alloc H4.out (w4.heap.size) #[.bool d.neg, S d.l, .int .i64 d.e] 28 (by simp))⟩
    have hb : b0 = true := by rw [← HB0.out]; simp [vm, wi, q0, q1, q2, q3, q4, q5]
    subst hb
    go_wp2
    go_meet
    case rel => exact ⟨rfl, (HeldL.alloc H4.out (w4.heap.size) #[.bool d.neg, S d.l, .int .i64 d.e] 28 (by simp))⟩
  case rest =>
  obtain ⟨hv15, hh⟩ := hcut
  subst hv15
  have HR : Hid (HeldL w [(w4.heap.size, #[.bool d.neg, S d.l, .int .i64 d.e]), (w2.heap.size, #[.int .i64 kd, .int .i64 mn, .int .i64 mx, .bool n, S (dgs L), .int .i64 e, .int .i64 mo, .int .i64 mi]), (w.heap.size, #[.bool n, .slice a len cap, .int .i64 e])] wc) := Lib.hid hh
  clear hh H4
  cases b0 with
  | false =>
    cases hk0 : (kd == 0) with
    | true =>
      have HV : Hid (validP ⟨kd, mn, mx, ⟨n, dgs L, e⟩, mo, mi⟩ = false) := Lib.hid (validP_no HB0.out)
      have H9 : Hid (HeldL w [(w4.heap.size, #[.bool d.neg, S d.l, .int .i64 d.e]), (w2.heap.size, #[.int .i64 kd, .int .i64 mn, .int .i64 mx, .bool n, S (dgs L), .int .i64 e, .int .i64 mo, .int .i64 mi]), (w.heap.size, #[.bool n, .slice a len cap, .int .i64 e])] wc) := HR
      have bp0 : wc.cell? ⟨w2.heap.size, 0, none⟩ = some (.int .i64 kd) := (H9.out.f (List.Mem.tail _ (List.Mem.head _))).cell 0
      have bp1 : wc.cell? ⟨w2.heap.size, 1, none⟩ = some (.int .i64 mn) := (H9.out.f (List.Mem.tail _ (List.Mem.head _))).cell 1
      have bp2 : wc.cell? ⟨w2.heap.size, 2, none⟩ = some (.int .i64 mx) := (H9.out.f (List.Mem.tail _ (List.Mem.head _))).cell 2
      have bp3 : wc.cell? ⟨w2.heap.size, 3, none⟩ = some (.bool n) := (H9.out.f (List.Mem.tail _ (List.Mem.head _))).cell 3
      have bp4 : wc.cell? ⟨w2.heap.size, 4, none⟩ = some (S (dgs L)) := (H9.out.f (List.Mem.tail _ (List.Mem.head _))).cell 4
      have bp5 : wc.cell? ⟨w2.heap.size, 5, none⟩ = some (.int .i64 e) := (H9.out.f (List.Mem.tail _ (List.Mem.head _))).cell 5
      have bp6 : wc.cell? ⟨w2.heap.size, 6, none⟩ = some (.int .i64 mo) := (H9.out.f (List.Mem.tail _ (List.Mem.head _))).cell 6
      have bp7 : wc.cell? ⟨w2.heap.size, 7, none⟩ = some (.int .i64 mi) := (H9.out.f (List.Mem.tail _ (List.Mem.head _))).cell 7
      have bpl : w2.heap.size < wc.heap.size := (H9.out.f (List.Mem.tail _ (List.Mem.head _))).lt
      have bd0 : wc.cell? ⟨w4.heap.size, 0, none⟩ = some (.bool d.neg) := (H9.out.f (List.Mem.head _)).cell 0
      have bd1 : wc.cell? ⟨w4.heap.size, 1, none⟩ = some (S d.l) := (H9.out.f (List.Mem.head _)).cell 1
      have bd2 : wc.cell? ⟨w4.heap.size, 2, none⟩ = some (.int .i64 d.e) := (H9.out.f (List.Mem.head _)).cell 2
      have bdl : w4.heap.size < wc.heap.size := (H9.out.f (List.Mem.head _)).lt
      go_wp2_with fail
      with_reducible refine (valid_as ⟨kd, mn, mx, ⟨n, dgs L, e⟩, mo, mi⟩ _ LL false HV.out).mono ?_
      rintro x w10 ⟨rfl, hb⟩
      clear bp0 bp1 bp2 bp3 bp4 bp5 bp6 bp7 bpl bd0 bd1 bd2 bdl
      have H10 : Hid (HeldL w [(w4.heap.size, #[.bool d.neg, S d.l, .int .i64 d.e]), (w2.heap.size, #[.int .i64 kd, .int .i64 mn, .int .i64 mx, .bool n, S (dgs L), .int .i64 e, .int .i64 mo, .int .i64 mi]), (w.heap.size, #[.bool n, .slice a len cap, .int .i64 e])] w10) := Lib.hid (HeldL.keep H9.out hb)
      clear H9
      clear hb
      have bp0 : w10.cell? ⟨w2.heap.size, 0, none⟩ = some (.int .i64 kd) := (H10.out.f (List.Mem.tail _ (List.Mem.head _))).cell 0
      have bp1 : w10.cell? ⟨w2.heap.size, 1, none⟩ = some (.int .i64 mn) := (H10.out.f (List.Mem.tail _ (List.Mem.head _))).cell 1
      have bp2 : w10.cell? ⟨w2.heap.size, 2, none⟩ = some (.int .i64 mx) := (H10.out.f (List.Mem.tail _ (List.Mem.head _))).cell 2
      have bp3 : w10.cell? ⟨w2.heap.size, 3, none⟩ = some (.bool n) := (H10.out.f (List.Mem.tail _ (List.Mem.head _))).cell 3
      have bp4 : w10.cell? ⟨w2.heap.size, 4, none⟩ = some (S (dgs L)) := (H10.out.f (List.Mem.tail _ (List.Mem.head _))).cell 4
      have bp5 : w10.cell? ⟨w2.heap.size, 5, none⟩ = some (.int .i64 e) := (H10.out.f (List.Mem.tail _ (List.Mem.head _))).cell 5
      have bp6 : w10.cell? ⟨w2.heap.size, 6, none⟩ = some (.int .i64 mo) := (H10.out.f (List.Mem.tail _ (List.Mem.head _))).cell 6
      have bp7 : w10.cell? ⟨w2.heap.size, 7, none⟩ = some (.int .i64 mi) := (H10.out.f (List.Mem.tail _ (List.Mem.head _))).cell 7
      have bpl : w2.heap.size < w10.heap.size := (H10.out.f (List.Mem.tail _ (List.Mem.head _))).lt
      go_wp2_with fail
      with_reducible refine (made_as false ⟨#[55]⟩ 0 _ (by decide) ⟨false, [55], 0⟩ (by decide)).mono ?_
      rintro x w11 ⟨rfl, hb⟩
      clear bp0 bp1 bp2 bp3 bp4 bp5 bp6 bp7 bpl
      have H11 : Hid (HeldL w [(w4.heap.size, #[.bool d.neg, S d.l, .int .i64 d.e]), (w2.heap.size, #[.int .i64 kd, .int .i64 mn, .int .i64 mx, .bool n, S (dgs L), .int .i64 e, .int .i64 mo, .int .i64 mi]), (w.heap.size, #[.bool n, .slice a len cap, .int .i64 e])] w11) := Lib.hid (HeldL.keep H10.out hb)
      clear H10
      clear hb
      have bp0 : w11.cell? ⟨w2.heap.size, 0, none⟩ = some (.int .i64 kd) := (H11.out.f (List.Mem.tail _ (List.Mem.head _))).cell 0
      have bp1 : w11.cell? ⟨w2.heap.size, 1, none⟩ = some (.int .i64 mn) := (H11.out.f (List.Mem.tail _ (List.Mem.head _))).cell 1
      have bp2 : w11.cell? ⟨w2.heap.size, 2, none⟩ = some (.int .i64 mx) := (H11.out.f (List.Mem.tail _ (List.Mem.head _))).cell 2
      have bp3 : w11.cell? ⟨w2.heap.size, 3, none⟩ = some (.bool n) := (H11.out.f (List.Mem.tail _ (List.Mem.head _))).cell 3
      have bp4 : w11.cell? ⟨w2.heap.size, 4, none⟩ = some (S (dgs L)) := (H11.out.f (List.Mem.tail _ (List.Mem.head _))).cell 4
      have bp5 : w11.cell? ⟨w2.heap.size, 5, none⟩ = some (.int .i64 e) := (H11.out.f (List.Mem.tail _ (List.Mem.head _))).cell 5
      have bp6 : w11.cell? ⟨w2.heap.size, 6, none⟩ = some (.int .i64 mo) := (H11.out.f (List.Mem.tail _ (List.Mem.head _))).cell 6
      have bp7 : w11.cell? ⟨w2.heap.size, 7, none⟩ = some (.int .i64 mi) := (H11.out.f (List.Mem.tail _ (List.Mem.head _))).cell 7
      have bpl : w2.heap.size < w11.heap.size := (H11.out.f (List.Mem.tail _ (List.Mem.head _))).lt
      go_wp2_with fail
      with_reducible refine (apply_b ⟨kd, mn, mx, ⟨n, dgs L, e⟩, mo, mi⟩ ⟨false, [55], 0⟩ _ LL HV.out).mono ?_
      rintro x w12 ⟨rfl, hb⟩
      clear bp0 bp1 bp2 bp3 bp4 bp5 bp6 bp7 bpl
      have H12 : Hid (HeldL w [(w11.heap.size, #[.bool false, .string ⟨#[55]⟩, .int .i64 0]), (w4.heap.size, #[.bool d.neg, S d.l, .int .i64 d.e]), (w2.heap.size, #[.int .i64 kd, .int .i64 mn, .int .i64 mx, .bool n, S (dgs L), .int .i64 e, .int .i64 mo, .int .i64 mi]), (w.heap.size, #[.bool n, .slice a len cap, .int .i64 e])] w12) := Lib.hid (HeldL.keep (HeldL.alloc H11.out (w11.heap.size) #[.bool false, .string ⟨#[55]⟩, .int .i64 0] 28 (by simp)) hb)
      clear H11
      clear hb
      have bp0 : w12.cell? ⟨w2.heap.size, 0, none⟩ = some (.int .i64 kd) := (H12.out.f (List.Mem.tail _ (List.Mem.tail _ (List.Mem.head _)))).cell 0
      have bp1 : w12.cell? ⟨w2.heap.size, 1, none⟩ = some (.int .i64 mn) := (H12.out.f (List.Mem.tail _ (List.Mem.tail _ (List.Mem.head _)))).cell 1
      have bp2 : w12.cell? ⟨w2.heap.size, 2, none⟩ = some (.int .i64 mx) := (H12.out.f (List.Mem.tail _ (List.Mem.tail _ (List.Mem.head _)))).cell 2
      have bp3 : w12.cell? ⟨w2.heap.size, 3, none⟩ = some (.bool n) := (H12.out.f (List.Mem.tail _ (List.Mem.tail _ (List.Mem.head _)))).cell 3
      have bp4 : w12.cell? ⟨w2.heap.size, 4, none⟩ = some (S (dgs L)) := (H12.out.f (List.Mem.tail _ (List.Mem.tail _ (List.Mem.head _)))).cell 4
      have bp5 : w12.cell? ⟨w2.heap.size, 5, none⟩ = some (.int .i64 e) := (H12.out.f (List.Mem.tail _ (List.Mem.tail _ (List.Mem.head _)))).cell 5
      have bp6 : w12.cell? ⟨w2.heap.size, 6, none⟩ = some (.int .i64 mo) := (H12.out.f (List.Mem.tail _ (List.Mem.tail _ (List.Mem.head _)))).cell 6
      have bp7 : w12.cell? ⟨w2.heap.size, 7, none⟩ = some (.int .i64 mi) := (H12.out.f (List.Mem.tail _ (List.Mem.tail _ (List.Mem.head _)))).cell 7
      have bpl : w2.heap.size < w12.heap.size := (H12.out.f (List.Mem.tail _ (List.Mem.tail _ (List.Mem.head _)))).lt
      have b70 : w12.cell? ⟨w11.heap.size, 0, none⟩ = some (.bool false) := (H12.out.f (List.Mem.head _)).cell 0
      have b71 : w12.cell? ⟨w11.heap.size, 1, none⟩ = some (.string ⟨#[55]⟩) := (H12.out.f (List.Mem.head _)).cell 1
      have b72 : w12.cell? ⟨w11.heap.size, 2, none⟩ = some (.int .i64 0) := (H12.out.f (List.Mem.head _)).cell 2
      have b7l : w11.heap.size < w12.heap.size := (H12.out.f (List.Mem.head _)).lt
      go_wp2_with fail
      with_reducible refine (roundP_b ⟨kd, mn, mx, ⟨n, dgs L, e⟩, mo, mi⟩ ⟨false, [55], 0⟩ _ LL (by decide) HV.out).mono ?_
      rintro x w13 ⟨rfl, hb⟩
      clear bp0 bp1 bp2 bp3 bp4 bp5 bp6 bp7 bpl b70 b71 b72 b7l
      have H13 : Hid (HeldL w [(w12.heap.size, #[.bool false, .string ⟨#[]⟩, .string ⟨#[]⟩]), (w11.heap.size, #[.bool false, .string ⟨#[55]⟩, .int .i64 0]), (w4.heap.size, #[.bool d.neg, S d.l, .int .i64 d.e]), (w2.heap.size, #[.int .i64 kd, .int .i64 mn, .int .i64 mx, .bool n, S (dgs L), .int .i64 e, .int .i64 mo, .int .i64 mi]), (w.heap.size, #[.bool n, .slice a len cap, .int .i64 e])] w13) := Lib.hid (HeldL.keep (HeldL.alloc H12.out (w12.heap.size) #[.bool false, .string ⟨#[]⟩, .string ⟨#[]⟩] 51 (by simp)) hb)
      clear H12
      clear hb
      go_wp2
      go_ret
      exact ⟨rfl, H13.out.bel⟩
    | false =>
      cases hk1 : (kd == 1) with
      | true =>
        have HV : Hid (validP ⟨kd, mn, mx, ⟨n, dgs L, e⟩, mo, mi⟩ = false) := Lib.hid (validP_no HB0.out)
        have H9 : Hid (HeldL w [(w4.heap.size, #[.bool d.neg, S d.l, .int .i64 d.e]), (w2.heap.size, #[.int .i64 kd, .int .i64 mn, .int .i64 mx, .bool n, S (dgs L), .int .i64 e, .int .i64 mo, .int .i64 mi]), (w.heap.size, #[.bool n, .slice a len cap, .int .i64 e])] wc) := HR
        have bp0 : wc.cell? ⟨w2.heap.size, 0, none⟩ = some (.int .i64 kd) := (H9.out.f (List.Mem.tail _ (List.Mem.head _))).cell 0
        have bp1 : wc.cell? ⟨w2.heap.size, 1, none⟩ = some (.int .i64 mn) := (H9.out.f (List.Mem.tail _ (List.Mem.head _))).cell 1
        have bp2 : wc.cell? ⟨w2.heap.size, 2, none⟩ = some (.int .i64 mx) := (H9.out.f (List.Mem.tail _ (List.Mem.head _))).cell 2
        have bp3 : wc.cell? ⟨w2.heap.size, 3, none⟩ = some (.bool n) := (H9.out.f (List.Mem.tail _ (List.Mem.head _))).cell 3
        have bp4 : wc.cell? ⟨w2.heap.size, 4, none⟩ = some (S (dgs L)) := (H9.out.f (List.Mem.tail _ (List.Mem.head _))).cell 4
        have bp5 : wc.cell? ⟨w2.heap.size, 5, none⟩ = some (.int .i64 e) := (H9.out.f (List.Mem.tail _ (List.Mem.head _))).cell 5
        have bp6 : wc.cell? ⟨w2.heap.size, 6, none⟩ = some (.int .i64 mo) := (H9.out.f (List.Mem.tail _ (List.Mem.head _))).cell 6
        have bp7 : wc.cell? ⟨w2.heap.size, 7, none⟩ = some (.int .i64 mi) := (H9.out.f (List.Mem.tail _ (List.Mem.head _))).cell 7
        have bpl : w2.heap.size < wc.heap.size := (H9.out.f (List.Mem.tail _ (List.Mem.head _))).lt
        have bd0 : wc.cell? ⟨w4.heap.size, 0, none⟩ = some (.bool d.neg) := (H9.out.f (List.Mem.head _)).cell 0
        have bd1 : wc.cell? ⟨w4.heap.size, 1, none⟩ = some (S d.l) := (H9.out.f (List.Mem.head _)).cell 1
        have bd2 : wc.cell? ⟨w4.heap.size, 2, none⟩ = some (.int .i64 d.e) := (H9.out.f (List.Mem.head _)).cell 2
        have bdl : w4.heap.size < wc.heap.size := (H9.out.f (List.Mem.head _)).lt
        go_wp2_with fail
        with_reducible refine (valid_as ⟨kd, mn, mx, ⟨n, dgs L, e⟩, mo, mi⟩ _ LL false HV.out).mono ?_
        rintro x w10 ⟨rfl, hb⟩
        clear bp0 bp1 bp2 bp3 bp4 bp5 bp6 bp7 bpl bd0 bd1 bd2 bdl
        have H10 : Hid (HeldL w [(w4.heap.size, #[.bool d.neg, S d.l, .int .i64 d.e]), (w2.heap.size, #[.int .i64 kd, .int .i64 mn, .int .i64 mx, .bool n, S (dgs L), .int .i64 e, .int .i64 mo, .int .i64 mi]), (w.heap.size, #[.bool n, .slice a len cap, .int .i64 e])] w10) := Lib.hid (HeldL.keep H9.out hb)
        clear H9
        clear hb
        have bp0 : w10.cell? ⟨w2.heap.size, 0, none⟩ = some (.int .i64 kd) := (H10.out.f (List.Mem.tail _ (List.Mem.head _))).cell 0
        have bp1 : w10.cell? ⟨w2.heap.size, 1, none⟩ = some (.int .i64 mn) := (H10.out.f (List.Mem.tail _ (List.Mem.head _))).cell 1
        have bp2 : w10.cell? ⟨w2.heap.size, 2, none⟩ = some (.int .i64 mx) := (H10.out.f (List.Mem.tail _ (List.Mem.head _))).cell 2
        have bp3 : w10.cell? ⟨w2.heap.size, 3, none⟩ = some (.bool n) := (H10.out.f (List.Mem.tail _ (List.Mem.head _))).cell 3
        have bp4 : w10.cell? ⟨w2.heap.size, 4, none⟩ = some (S (dgs L)) := (H10.out.f (List.Mem.tail _ (List.Mem.head _))).cell 4
        have bp5 : w10.cell? ⟨w2.heap.size, 5, none⟩ = some (.int .i64 e) := (H10.out.f (List.Mem.tail _ (List.Mem.head _))).cell 5
        have bp6 : w10.cell? ⟨w2.heap.size, 6, none⟩ = some (.int .i64 mo) := (H10.out.f (List.Mem.tail _ (List.Mem.head _))).cell 6
        have bp7 : w10.cell? ⟨w2.heap.size, 7, none⟩ = some (.int .i64 mi) := (H10.out.f (List.Mem.tail _ (List.Mem.head _))).cell 7
        have bpl : w2.heap.size < w10.heap.size := (H10.out.f (List.Mem.tail _ (List.Mem.head _))).lt
        go_wp2_with fail
        with_reducible refine (made_as false ⟨#[55]⟩ 0 _ (by decide) ⟨false, [55], 0⟩ (by decide)).mono ?_
        rintro x w11 ⟨rfl, hb⟩
        clear bp0 bp1 bp2 bp3 bp4 bp5 bp6 bp7 bpl
        have H11 : Hid (HeldL w [(w4.heap.size, #[.bool d.neg, S d.l, .int .i64 d.e]), (w2.heap.size, #[.int .i64 kd, .int .i64 mn, .int .i64 mx, .bool n, S (dgs L), .int .i64 e, .int .i64 mo, .int .i64 mi]), (w.heap.size, #[.bool n, .slice a len cap, .int .i64 e])] w11) := Lib.hid (HeldL.keep H10.out hb)
        clear H10
        clear hb
        have bp0 : w11.cell? ⟨w2.heap.size, 0, none⟩ = some (.int .i64 kd) := (H11.out.f (List.Mem.tail _ (List.Mem.head _))).cell 0
        have bp1 : w11.cell? ⟨w2.heap.size, 1, none⟩ = some (.int .i64 mn) := (H11.out.f (List.Mem.tail _ (List.Mem.head _))).cell 1
        have bp2 : w11.cell? ⟨w2.heap.size, 2, none⟩ = some (.int .i64 mx) := (H11.out.f (List.Mem.tail _ (List.Mem.head _))).cell 2
        have bp3 : w11.cell? ⟨w2.heap.size, 3, none⟩ = some (.bool n) := (H11.out.f (List.Mem.tail _ (List.Mem.head _))).cell 3
        have bp4 : w11.cell? ⟨w2.heap.size, 4, none⟩ = some (S (dgs L)) := (H11.out.f (List.Mem.tail _ (List.Mem.head _))).cell 4
        have bp5 : w11.cell? ⟨w2.heap.size, 5, none⟩ = some (.int .i64 e) := (H11.out.f (List.Mem.tail _ (List.Mem.head _))).cell 5
        have bp6 : w11.cell? ⟨w2.heap.size, 6, none⟩ = some (.int .i64 mo) := (H11.out.f (List.Mem.tail _ (List.Mem.head _))).cell 6
        have bp7 : w11.cell? ⟨w2.heap.size, 7, none⟩ = some (.int .i64 mi) := (H11.out.f (List.Mem.tail _ (List.Mem.head _))).cell 7
        have bpl : w2.heap.size < w11.heap.size := (H11.out.f (List.Mem.tail _ (List.Mem.head _))).lt
        go_wp2_with fail
        with_reducible refine (apply_b ⟨kd, mn, mx, ⟨n, dgs L, e⟩, mo, mi⟩ ⟨false, [55], 0⟩ _ LL HV.out).mono ?_
        rintro x w12 ⟨rfl, hb⟩
        clear bp0 bp1 bp2 bp3 bp4 bp5 bp6 bp7 bpl
        have H12 : Hid (HeldL w [(w11.heap.size, #[.bool false, .string ⟨#[55]⟩, .int .i64 0]), (w4.heap.size, #[.bool d.neg, S d.l, .int .i64 d.e]), (w2.heap.size, #[.int .i64 kd, .int .i64 mn, .int .i64 mx, .bool n, S (dgs L), .int .i64 e, .int .i64 mo, .int .i64 mi]), (w.heap.size, #[.bool n, .slice a len cap, .int .i64 e])] w12) := Lib.hid (HeldL.keep (HeldL.alloc H11.out (w11.heap.size) #[.bool false, .string ⟨#[55]⟩, .int .i64 0] 28 (by simp)) hb)
        clear H11
        clear hb
        have bp0 : w12.cell? ⟨w2.heap.size, 0, none⟩ = some (.int .i64 kd) := (H12.out.f (List.Mem.tail _ (List.Mem.tail _ (List.Mem.head _)))).cell 0
        have bp1 : w12.cell? ⟨w2.heap.size, 1, none⟩ = some (.int .i64 mn) := (H12.out.f (List.Mem.tail _ (List.Mem.tail _ (List.Mem.head _)))).cell 1
        have bp2 : w12.cell? ⟨w2.heap.size, 2, none⟩ = some (.int .i64 mx) := (H12.out.f (List.Mem.tail _ (List.Mem.tail _ (List.Mem.head _)))).cell 2
        have bp3 : w12.cell? ⟨w2.heap.size, 3, none⟩ = some (.bool n) := (H12.out.f (List.Mem.tail _ (List.Mem.tail _ (List.Mem.head _)))).cell 3
        have bp4 : w12.cell? ⟨w2.heap.size, 4, none⟩ = some (S (dgs L)) := (H12.out.f (List.Mem.tail _ (List.Mem.tail _ (List.Mem.head _)))).cell 4
        have bp5 : w12.cell? ⟨w2.heap.size, 5, none⟩ = some (.int .i64 e) := (H12.out.f (List.Mem.tail _ (List.Mem.tail _ (List.Mem.head _)))).cell 5
        have bp6 : w12.cell? ⟨w2.heap.size, 6, none⟩ = some (.int .i64 mo) := (H12.out.f (List.Mem.tail _ (List.Mem.tail _ (List.Mem.head _)))).cell 6
        have bp7 : w12.cell? ⟨w2.heap.size, 7, none⟩ = some (.int .i64 mi) := (H12.out.f (List.Mem.tail _ (List.Mem.tail _ (List.Mem.head _)))).cell 7
        have bpl : w2.heap.size < w12.heap.size := (H12.out.f (List.Mem.tail _ (List.Mem.tail _ (List.Mem.head _)))).lt
        have b70 : w12.cell? ⟨w11.heap.size, 0, none⟩ = some (.bool false) := (H12.out.f (List.Mem.head _)).cell 0
        have b71 : w12.cell? ⟨w11.heap.size, 1, none⟩ = some (.string ⟨#[55]⟩) := (H12.out.f (List.Mem.head _)).cell 1
        have b72 : w12.cell? ⟨w11.heap.size, 2, none⟩ = some (.int .i64 0) := (H12.out.f (List.Mem.head _)).cell 2
        have b7l : w11.heap.size < w12.heap.size := (H12.out.f (List.Mem.head _)).lt
        go_wp2_with fail
        with_reducible refine (roundP_b ⟨kd, mn, mx, ⟨n, dgs L, e⟩, mo, mi⟩ ⟨false, [55], 0⟩ _ LL (by decide) HV.out).mono ?_
        rintro x w13 ⟨rfl, hb⟩
        clear bp0 bp1 bp2 bp3 bp4 bp5 bp6 bp7 bpl b70 b71 b72 b7l
        have H13 : Hid (HeldL w [(w12.heap.size, #[.bool false, .string ⟨#[]⟩, .string ⟨#[]⟩]), (w11.heap.size, #[.bool false, .string ⟨#[55]⟩, .int .i64 0]), (w4.heap.size, #[.bool d.neg, S d.l, .int .i64 d.e]), (w2.heap.size, #[.int .i64 kd, .int .i64 mn, .int .i64 mx, .bool n, S (dgs L), .int .i64 e, .int .i64 mo, .int .i64 mi]), (w.heap.size, #[.bool n, .slice a len cap, .int .i64 e])] w13) := Lib.hid (HeldL.keep (HeldL.alloc H12.out (w12.heap.size) #[.bool false, .string ⟨#[]⟩, .string ⟨#[]⟩] 51 (by simp)) hb)
        clear H12
        clear hb
        go_wp2
        go_ret
        exact ⟨rfl, H13.out.bel⟩
      | false =>
        cases hk2 : (kd == 2) with
        | true =>
          have HV : Hid (validP ⟨kd, mn, mx, ⟨n, dgs L, e⟩, mo, mi⟩ = false) := Lib.hid (validP_no HB0.out)
          have H9 : Hid (HeldL w [(w4.heap.size, #[.bool d.neg, S d.l, .int .i64 d.e]), (w2.heap.size, #[.int .i64 kd, .int .i64 mn, .int .i64 mx, .bool n, S (dgs L), .int .i64 e, .int .i64 mo, .int .i64 mi]), (w.heap.size, #[.bool n, .slice a len cap, .int .i64 e])] wc) := HR
          have bp0 : wc.cell? ⟨w2.heap.size, 0, none⟩ = some (.int .i64 kd) := (H9.out.f (List.Mem.tail _ (List.Mem.head _))).cell 0
          have bp1 : wc.cell? ⟨w2.heap.size, 1, none⟩ = some (.int .i64 mn) := (H9.out.f (List.Mem.tail _ (List.Mem.head _))).cell 1
          have bp2 : wc.cell? ⟨w2.heap.size, 2, none⟩ = some (.int .i64 mx) := (H9.out.f (List.Mem.tail _ (List.Mem.head _))).cell 2
          have bp3 : wc.cell? ⟨w2.heap.size, 3, none⟩ = some (.bool n) := (H9.out.f (List.Mem.tail _ (List.Mem.head _))).cell 3
          have bp4 : wc.cell? ⟨w2.heap.size, 4, none⟩ = some (S (dgs L)) := (H9.out.f (List.Mem.tail _ (List.Mem.head _))).cell 4
          have bp5 : wc.cell? ⟨w2.heap.size, 5, none⟩ = some (.int .i64 e) := (H9.out.f (List.Mem.tail _ (List.Mem.head _))).cell 5
          have bp6 : wc.cell? ⟨w2.heap.size, 6, none⟩ = some (.int .i64 mo) := (H9.out.f (List.Mem.tail _ (List.Mem.head _))).cell 6
          have bp7 : wc.cell? ⟨w2.heap.size, 7, none⟩ = some (.int .i64 mi) := (H9.out.f (List.Mem.tail _ (List.Mem.head _))).cell 7
          have bpl : w2.heap.size < wc.heap.size := (H9.out.f (List.Mem.tail _ (List.Mem.head _))).lt
          have bd0 : wc.cell? ⟨w4.heap.size, 0, none⟩ = some (.bool d.neg) := (H9.out.f (List.Mem.head _)).cell 0
          have bd1 : wc.cell? ⟨w4.heap.size, 1, none⟩ = some (S d.l) := (H9.out.f (List.Mem.head _)).cell 1
          have bd2 : wc.cell? ⟨w4.heap.size, 2, none⟩ = some (.int .i64 d.e) := (H9.out.f (List.Mem.head _)).cell 2
          have bdl : w4.heap.size < wc.heap.size := (H9.out.f (List.Mem.head _)).lt
          go_wp2_with fail
          with_reducible refine (valid_as ⟨kd, mn, mx, ⟨n, dgs L, e⟩, mo, mi⟩ _ LL false HV.out).mono ?_
          rintro x w10 ⟨rfl, hb⟩
          clear bp0 bp1 bp2 bp3 bp4 bp5 bp6 bp7 bpl bd0 bd1 bd2 bdl
          have H10 : Hid (HeldL w [(w4.heap.size, #[.bool d.neg, S d.l, .int .i64 d.e]), (w2.heap.size, #[.int .i64 kd, .int .i64 mn, .int .i64 mx, .bool n, S (dgs L), .int .i64 e, .int .i64 mo, .int .i64 mi]), (w.heap.size, #[.bool n, .slice a len cap, .int .i64 e])] w10) := Lib.hid (HeldL.keep H9.out hb)
          clear H9
          clear hb
          have bp0 : w10.cell? ⟨w2.heap.size, 0, none⟩ = some (.int .i64 kd) := (H10.out.f (List.Mem.tail _ (List.Mem.head _))).cell 0
          have bp1 : w10.cell? ⟨w2.heap.size, 1, none⟩ = some (.int .i64 mn) := (H10.out.f (List.Mem.tail _ (List.Mem.head _))).cell 1
          have bp2 : w10.cell? ⟨w2.heap.size, 2, none⟩ = some (.int .i64 mx) := (H10.out.f (List.Mem.tail _ (List.Mem.head _))).cell 2
          have bp3 : w10.cell? ⟨w2.heap.size, 3, none⟩ = some (.bool n) := (H10.out.f (List.Mem.tail _ (List.Mem.head _))).cell 3
          have bp4 : w10.cell? ⟨w2.heap.size, 4, none⟩ = some (S (dgs L)) := (H10.out.f (List.Mem.tail _ (List.Mem.head _))).cell 4
          have bp5 : w10.cell? ⟨w2.heap.size, 5, none⟩ = some (.int .i64 e) := (H10.out.f (List.Mem.tail _ (List.Mem.head _))).cell 5
          have bp6 : w10.cell? ⟨w2.heap.size, 6, none⟩ = some (.int .i64 mo) := (H10.out.f (List.Mem.tail _ (List.Mem.head _))).cell 6
          have bp7 : w10.cell? ⟨w2.heap.size, 7, none⟩ = some (.int .i64 mi) := (H10.out.f (List.Mem.tail _ (List.Mem.head _))).cell 7
          have bpl : w2.heap.size < w10.heap.size := (H10.out.f (List.Mem.tail _ (List.Mem.head _))).lt
          go_wp2_with fail
          with_reducible refine (made_as false ⟨#[55]⟩ 0 _ (by decide) ⟨false, [55], 0⟩ (by decide)).mono ?_
          rintro x w11 ⟨rfl, hb⟩
          clear bp0 bp1 bp2 bp3 bp4 bp5 bp6 bp7 bpl
          have H11 : Hid (HeldL w [(w4.heap.size, #[.bool d.neg, S d.l, .int .i64 d.e]), (w2.heap.size, #[.int .i64 kd, .int .i64 mn, .int .i64 mx, .bool n, S (dgs L), .int .i64 e, .int .i64 mo, .int .i64 mi]), (w.heap.size, #[.bool n, .slice a len cap, .int .i64 e])] w11) := Lib.hid (HeldL.keep H10.out hb)
          clear H10
          clear hb
          have bp0 : w11.cell? ⟨w2.heap.size, 0, none⟩ = some (.int .i64 kd) := (H11.out.f (List.Mem.tail _ (List.Mem.head _))).cell 0
          have bp1 : w11.cell? ⟨w2.heap.size, 1, none⟩ = some (.int .i64 mn) := (H11.out.f (List.Mem.tail _ (List.Mem.head _))).cell 1
          have bp2 : w11.cell? ⟨w2.heap.size, 2, none⟩ = some (.int .i64 mx) := (H11.out.f (List.Mem.tail _ (List.Mem.head _))).cell 2
          have bp3 : w11.cell? ⟨w2.heap.size, 3, none⟩ = some (.bool n) := (H11.out.f (List.Mem.tail _ (List.Mem.head _))).cell 3
          have bp4 : w11.cell? ⟨w2.heap.size, 4, none⟩ = some (S (dgs L)) := (H11.out.f (List.Mem.tail _ (List.Mem.head _))).cell 4
          have bp5 : w11.cell? ⟨w2.heap.size, 5, none⟩ = some (.int .i64 e) := (H11.out.f (List.Mem.tail _ (List.Mem.head _))).cell 5
          have bp6 : w11.cell? ⟨w2.heap.size, 6, none⟩ = some (.int .i64 mo) := (H11.out.f (List.Mem.tail _ (List.Mem.head _))).cell 6
          have bp7 : w11.cell? ⟨w2.heap.size, 7, none⟩ = some (.int .i64 mi) := (H11.out.f (List.Mem.tail _ (List.Mem.head _))).cell 7
          have bpl : w2.heap.size < w11.heap.size := (H11.out.f (List.Mem.tail _ (List.Mem.head _))).lt
          go_wp2_with fail
          with_reducible refine (apply_b ⟨kd, mn, mx, ⟨n, dgs L, e⟩, mo, mi⟩ ⟨false, [55], 0⟩ _ LL HV.out).mono ?_
          rintro x w12 ⟨rfl, hb⟩
          clear bp0 bp1 bp2 bp3 bp4 bp5 bp6 bp7 bpl
          have H12 : Hid (HeldL w [(w11.heap.size, #[.bool false, .string ⟨#[55]⟩, .int .i64 0]), (w4.heap.size, #[.bool d.neg, S d.l, .int .i64 d.e]), (w2.heap.size, #[.int .i64 kd, .int .i64 mn, .int .i64 mx, .bool n, S (dgs L), .int .i64 e, .int .i64 mo, .int .i64 mi]), (w.heap.size, #[.bool n, .slice a len cap, .int .i64 e])] w12) := Lib.hid (HeldL.keep (HeldL.alloc H11.out (w11.heap.size) #[.bool false, .string ⟨#[55]⟩, .int .i64 0] 28 (by simp)) hb)
          clear H11
          clear hb
          have bp0 : w12.cell? ⟨w2.heap.size, 0, none⟩ = some (.int .i64 kd) := (H12.out.f (List.Mem.tail _ (List.Mem.tail _ (List.Mem.head _)))).cell 0
          have bp1 : w12.cell? ⟨w2.heap.size, 1, none⟩ = some (.int .i64 mn) := (H12.out.f (List.Mem.tail _ (List.Mem.tail _ (List.Mem.head _)))).cell 1
          have bp2 : w12.cell? ⟨w2.heap.size, 2, none⟩ = some (.int .i64 mx) := (H12.out.f (List.Mem.tail _ (List.Mem.tail _ (List.Mem.head _)))).cell 2
          have bp3 : w12.cell? ⟨w2.heap.size, 3, none⟩ = some (.bool n) := (H12.out.f (List.Mem.tail _ (List.Mem.tail _ (List.Mem.head _)))).cell 3
          have bp4 : w12.cell? ⟨w2.heap.size, 4, none⟩ = some (S (dgs L)) := (H12.out.f (List.Mem.tail _ (List.Mem.tail _ (List.Mem.head _)))).cell 4
          have bp5 : w12.cell? ⟨w2.heap.size, 5, none⟩ = some (.int .i64 e) := (H12.out.f (List.Mem.tail _ (List.Mem.tail _ (List.Mem.head _)))).cell 5
          have bp6 : w12.cell? ⟨w2.heap.size, 6, none⟩ = some (.int .i64 mo) := (H12.out.f (List.Mem.tail _ (List.Mem.tail _ (List.Mem.head _)))).cell 6
          have bp7 : w12.cell? ⟨w2.heap.size, 7, none⟩ = some (.int .i64 mi) := (H12.out.f (List.Mem.tail _ (List.Mem.tail _ (List.Mem.head _)))).cell 7
          have bpl : w2.heap.size < w12.heap.size := (H12.out.f (List.Mem.tail _ (List.Mem.tail _ (List.Mem.head _)))).lt
          have b70 : w12.cell? ⟨w11.heap.size, 0, none⟩ = some (.bool false) := (H12.out.f (List.Mem.head _)).cell 0
          have b71 : w12.cell? ⟨w11.heap.size, 1, none⟩ = some (.string ⟨#[55]⟩) := (H12.out.f (List.Mem.head _)).cell 1
          have b72 : w12.cell? ⟨w11.heap.size, 2, none⟩ = some (.int .i64 0) := (H12.out.f (List.Mem.head _)).cell 2
          have b7l : w11.heap.size < w12.heap.size := (H12.out.f (List.Mem.head _)).lt
          go_wp2_with fail
          with_reducible refine (roundP_b ⟨kd, mn, mx, ⟨n, dgs L, e⟩, mo, mi⟩ ⟨false, [55], 0⟩ _ LL (by decide) HV.out).mono ?_
          rintro x w13 ⟨rfl, hb⟩
          clear bp0 bp1 bp2 bp3 bp4 bp5 bp6 bp7 bpl b70 b71 b72 b7l
          have H13 : Hid (HeldL w [(w12.heap.size, #[.bool false, .string ⟨#[]⟩, .string ⟨#[]⟩]), (w11.heap.size, #[.bool false, .string ⟨#[55]⟩, .int .i64 0]), (w4.heap.size, #[.bool d.neg, S d.l, .int .i64 d.e]), (w2.heap.size, #[.int .i64 kd, .int .i64 mn, .int .i64 mx, .bool n, S (dgs L), .int .i64 e, .int .i64 mo, .int .i64 mi]), (w.heap.size, #[.bool n, .slice a len cap, .int .i64 e])] w13) := Lib.hid (HeldL.keep (HeldL.alloc H12.out (w12.heap.size) #[.bool false, .string ⟨#[]⟩, .string ⟨#[]⟩] 51 (by simp)) hb)
          clear H12
          clear hb
          go_wp2
          go_ret
          exact ⟨rfl, H13.out.bel⟩
        | false =>
          have HV : Hid (validP ⟨kd, mn, mx, ⟨n, dgs L, e⟩, mo, mi⟩ = false) := Lib.hid (validP_no HB0.out)
          have H9 : Hid (HeldL w [(w4.heap.size, #[.bool d.neg, S d.l, .int .i64 d.e]), (w2.heap.size, #[.int .i64 kd, .int .i64 mn, .int .i64 mx, .bool n, S (dgs L), .int .i64 e, .int .i64 mo, .int .i64 mi]), (w.heap.size, #[.bool n, .slice a len cap, .int .i64 e])] wc) := HR
          have bp0 : wc.cell? ⟨w2.heap.size, 0, none⟩ = some (.int .i64 kd) := (H9.out.f (List.Mem.tail _ (List.Mem.head _))).cell 0
          have bp1 : wc.cell? ⟨w2.heap.size, 1, none⟩ = some (.int .i64 mn) := (H9.out.f (List.Mem.tail _ (List.Mem.head _))).cell 1
          have bp2 : wc.cell? ⟨w2.heap.size, 2, none⟩ = some (.int .i64 mx) := (H9.out.f (List.Mem.tail _ (List.Mem.head _))).cell 2
          have bp3 : wc.cell? ⟨w2.heap.size, 3, none⟩ = some (.bool n) := (H9.out.f (List.Mem.tail _ (List.Mem.head _))).cell 3
          have bp4 : wc.cell? ⟨w2.heap.size, 4, none⟩ = some (S (dgs L)) := (H9.out.f (List.Mem.tail _ (List.Mem.head _))).cell 4
          have bp5 : wc.cell? ⟨w2.heap.size, 5, none⟩ = some (.int .i64 e) := (H9.out.f (List.Mem.tail _ (List.Mem.head _))).cell 5
          have bp6 : wc.cell? ⟨w2.heap.size, 6, none⟩ = some (.int .i64 mo) := (H9.out.f (List.Mem.tail _ (List.Mem.head _))).cell 6
          have bp7 : wc.cell? ⟨w2.heap.size, 7, none⟩ = some (.int .i64 mi) := (H9.out.f (List.Mem.tail _ (List.Mem.head _))).cell 7
          have bpl : w2.heap.size < wc.heap.size := (H9.out.f (List.Mem.tail _ (List.Mem.head _))).lt
          have bd0 : wc.cell? ⟨w4.heap.size, 0, none⟩ = some (.bool d.neg) := (H9.out.f (List.Mem.head _)).cell 0
          have bd1 : wc.cell? ⟨w4.heap.size, 1, none⟩ = some (S d.l) := (H9.out.f (List.Mem.head _)).cell 1
          have bd2 : wc.cell? ⟨w4.heap.size, 2, none⟩ = some (.int .i64 d.e) := (H9.out.f (List.Mem.head _)).cell 2
          have bdl : w4.heap.size < wc.heap.size := (H9.out.f (List.Mem.head _)).lt
          go_wp2_with fail
          with_reducible refine (valid_as ⟨kd, mn, mx, ⟨n, dgs L, e⟩, mo, mi⟩ _ LL false HV.out).mono ?_
          rintro x w10 ⟨rfl, hb⟩
          clear bp0 bp1 bp2 bp3 bp4 bp5 bp6 bp7 bpl bd0 bd1 bd2 bdl
          have H10 : Hid (HeldL w [(w4.heap.size, #[.bool d.neg, S d.l, .int .i64 d.e]), (w2.heap.size, #[.int .i64 kd, .int .i64 mn, .int .i64 mx, .bool n, S (dgs L), .int .i64 e, .int .i64 mo, .int .i64 mi]), (w.heap.size, #[.bool n, .slice a len cap, .int .i64 e])] w10) := Lib.hid (HeldL.keep H9.out hb)
          clear H9
          clear hb
          have bp0 : w10.cell? ⟨w2.heap.size, 0, none⟩ = some (.int .i64 kd) := (H10.out.f (List.Mem.tail _ (List.Mem.head _))).cell 0
          have bp1 : w10.cell? ⟨w2.heap.size, 1, none⟩ = some (.int .i64 mn) := (H10.out.f (List.Mem.tail _ (List.Mem.head _))).cell 1
          have bp2 : w10.cell? ⟨w2.heap.size, 2, none⟩ = some (.int .i64 mx) := (H10.out.f (List.Mem.tail _ (List.Mem.head _))).cell 2
          have bp3 : w10.cell? ⟨w2.heap.size, 3, none⟩ = some (.bool n) := (H10.out.f (List.Mem.tail _ (List.Mem.head _))).cell 3
          have bp4 : w10.cell? ⟨w2.heap.size, 4, none⟩ = some (S (dgs L)) := (H10.out.f (List.Mem.tail _ (List.Mem.head _))).cell 4
          have bp5 : w10.cell? ⟨w2.heap.size, 5, none⟩ = some (.int .i64 e) := (H10.out.f (List.Mem.tail _ (List.Mem.head _))).cell 5
          have bp6 : w10.cell? ⟨w2.heap.size, 6, none⟩ = some (.int .i64 mo) := (H10.out.f (List.Mem.tail _ (List.Mem.head _))).cell 6
          have bp7 : w10.cell? ⟨w2.heap.size, 7, none⟩ = some (.int .i64 mi) := (H10.out.f (List.Mem.tail _ (List.Mem.head _))).cell 7
          have bpl : w2.heap.size < w10.heap.size := (H10.out.f (List.Mem.tail _ (List.Mem.head _))).lt
          go_wp2_with fail
          with_reducible refine (made_as false ⟨#[55]⟩ 0 _ (by decide) ⟨false, [55], 0⟩ (by decide)).mono ?_
          rintro x w11 ⟨rfl, hb⟩
          clear bp0 bp1 bp2 bp3 bp4 bp5 bp6 bp7 bpl
          have H11 : Hid (HeldL w [(w4.heap.size, #[.bool d.neg, S d.l, .int .i64 d.e]), (w2.heap.size, #[.int .i64 kd, .int .i64 mn, .int .i64 mx, .bool n, S (dgs L), .int .i64 e, .int .i64 mo, .int .i64 mi]), (w.heap.size, #[.bool n, .slice a len cap, .int .i64 e])] w11) := Lib.hid (HeldL.keep H10.out hb)
          clear H10
          clear hb
          have bp0 : w11.cell? ⟨w2.heap.size, 0, none⟩ = some (.int .i64 kd) := (H11.out.f (List.Mem.tail _ (List.Mem.head _))).cell 0
          have bp1 : w11.cell? ⟨w2.heap.size, 1, none⟩ = some (.int .i64 mn) := (H11.out.f (List.Mem.tail _ (List.Mem.head _))).cell 1
          have bp2 : w11.cell? ⟨w2.heap.size, 2, none⟩ = some (.int .i64 mx) := (H11.out.f (List.Mem.tail _ (List.Mem.head _))).cell 2
          have bp3 : w11.cell? ⟨w2.heap.size, 3, none⟩ = some (.bool n) := (H11.out.f (List.Mem.tail _ (List.Mem.head _))).cell 3
          have bp4 : w11.cell? ⟨w2.heap.size, 4, none⟩ = some (S (dgs L)) := (H11.out.f (List.Mem.tail _ (List.Mem.head _))).cell 4
          have bp5 : w11.cell? ⟨w2.heap.size, 5, none⟩ = some (.int .i64 e) := (H11.out.f (List.Mem.tail _ (List.Mem.head _))).cell 5
          have bp6 : w11.cell? ⟨w2.heap.size, 6, none⟩ = some (.int .i64 mo) := (H11.out.f (List.Mem.tail _ (List.Mem.head _))).cell 6
          have bp7 : w11.cell? ⟨w2.heap.size, 7, none⟩ = some (.int .i64 mi) := (H11.out.f (List.Mem.tail _ (List.Mem.head _))).cell 7
          have bpl : w2.heap.size < w11.heap.size := (H11.out.f (List.Mem.tail _ (List.Mem.head _))).lt
          go_wp2_with fail
          with_reducible refine (apply_b ⟨kd, mn, mx, ⟨n, dgs L, e⟩, mo, mi⟩ ⟨false, [55], 0⟩ _ LL HV.out).mono ?_
          rintro x w12 ⟨rfl, hb⟩
          clear bp0 bp1 bp2 bp3 bp4 bp5 bp6 bp7 bpl
          have H12 : Hid (HeldL w [(w11.heap.size, #[.bool false, .string ⟨#[55]⟩, .int .i64 0]), (w4.heap.size, #[.bool d.neg, S d.l, .int .i64 d.e]), (w2.heap.size, #[.int .i64 kd, .int .i64 mn, .int .i64 mx, .bool n, S (dgs L), .int .i64 e, .int .i64 mo, .int .i64 mi]), (w.heap.size, #[.bool n, .slice a len cap, .int .i64 e])] w12) := Lib.hid (HeldL.keep (HeldL.alloc H11.out (w11.heap.size) #[.bool false, .string ⟨#[55]⟩, .int .i64 0] 28 (by simp)) hb)
          clear H11
          clear hb
          have bp0 : w12.cell? ⟨w2.heap.size, 0, none⟩ = some (.int .i64 kd) := (H12.out.f (List.Mem.tail _ (List.Mem.tail _ (List.Mem.head _)))).cell 0
          have bp1 : w12.cell? ⟨w2.heap.size, 1, none⟩ = some (.int .i64 mn) := (H12.out.f (List.Mem.tail _ (List.Mem.tail _ (List.Mem.head _)))).cell 1
          have bp2 : w12.cell? ⟨w2.heap.size, 2, none⟩ = some (.int .i64 mx) := (H12.out.f (List.Mem.tail _ (List.Mem.tail _ (List.Mem.head _)))).cell 2
          have bp3 : w12.cell? ⟨w2.heap.size, 3, none⟩ = some (.bool n) := (H12.out.f (List.Mem.tail _ (List.Mem.tail _ (List.Mem.head _)))).cell 3
          have bp4 : w12.cell? ⟨w2.heap.size, 4, none⟩ = some (S (dgs L)) := (H12.out.f (List.Mem.tail _ (List.Mem.tail _ (List.Mem.head _)))).cell 4
          have bp5 : w12.cell? ⟨w2.heap.size, 5, none⟩ = some (.int .i64 e) := (H12.out.f (List.Mem.tail _ (List.Mem.tail _ (List.Mem.head _)))).cell 5
          have bp6 : w12.cell? ⟨w2.heap.size, 6, none⟩ = some (.int .i64 mo) := (H12.out.f (List.Mem.tail _ (List.Mem.tail _ (List.Mem.head _)))).cell 6
          have bp7 : w12.cell? ⟨w2.heap.size, 7, none⟩ = some (.int .i64 mi) := (H12.out.f (List.Mem.tail _ (List.Mem.tail _ (List.Mem.head _)))).cell 7
          have bpl : w2.heap.size < w12.heap.size := (H12.out.f (List.Mem.tail _ (List.Mem.tail _ (List.Mem.head _)))).lt
          have b70 : w12.cell? ⟨w11.heap.size, 0, none⟩ = some (.bool false) := (H12.out.f (List.Mem.head _)).cell 0
          have b71 : w12.cell? ⟨w11.heap.size, 1, none⟩ = some (.string ⟨#[55]⟩) := (H12.out.f (List.Mem.head _)).cell 1
          have b72 : w12.cell? ⟨w11.heap.size, 2, none⟩ = some (.int .i64 0) := (H12.out.f (List.Mem.head _)).cell 2
          have b7l : w11.heap.size < w12.heap.size := (H12.out.f (List.Mem.head _)).lt
          go_wp2_with fail
          with_reducible refine (roundP_b ⟨kd, mn, mx, ⟨n, dgs L, e⟩, mo, mi⟩ ⟨false, [55], 0⟩ _ LL (by decide) HV.out).mono ?_
          rintro x w13 ⟨rfl, hb⟩
          clear bp0 bp1 bp2 bp3 bp4 bp5 bp6 bp7 bpl b70 b71 b72 b7l
          have H13 : Hid (HeldL w [(w12.heap.size, #[.bool false, .string ⟨#[]⟩, .string ⟨#[]⟩]), (w11.heap.size, #[.bool false, .string ⟨#[55]⟩, .int .i64 0]), (w4.heap.size, #[.bool d.neg, S d.l, .int .i64 d.e]), (w2.heap.size, #[.int .i64 kd, .int .i64 mn, .int .i64 mx, .bool n, S (dgs L), .int .i64 e, .int .i64 mo, .int .i64 mi]), (w.heap.size, #[.bool n, .slice a len cap, .int .i64 e])] w13) := Lib.hid (HeldL.keep (HeldL.alloc H12.out (w12.heap.size) #[.bool false, .string ⟨#[]⟩, .string ⟨#[]⟩] 51 (by simp)) hb)
          clear H12
          clear hb
          go_wp2
          go_ret
          exact ⟨rfl, H13.out.bel⟩
  | true =>
    have VG := Lib.hid (validP_go (p := ⟨kd, mn, mx, ⟨n, dgs L, e⟩, mo, mi⟩) HB0.out)
    cases hk0 : (kd == 0) with
    | true =>
      have K0 : Hid (kd = 0) := Lib.hid (by simpa using hk0)
      by_cases r0 : mn ≤ mx
      case neg =>
        have HV : Hid (validP ⟨kd, mn, mx, ⟨n, dgs L, e⟩, mo, mi⟩ = false) := Lib.hid (by rw [VG.out, if_pos K0.out]; simp [wi, r0])
        have H9 : Hid (HeldL w [(w4.heap.size, #[.bool d.neg, S d.l, .int .i64 d.e]), (w2.heap.size, #[.int .i64 kd, .int .i64 mn, .int .i64 mx, .bool n, S (dgs L), .int .i64 e, .int .i64 mo, .int .i64 mi]), (w.heap.size, #[.bool n, .slice a len cap, .int .i64 e])] wc) := HR
        have bp0 : wc.cell? ⟨w2.heap.size, 0, none⟩ = some (.int .i64 kd) := (H9.out.f (List.Mem.tail _ (List.Mem.head _))).cell 0
        have bp1 : wc.cell? ⟨w2.heap.size, 1, none⟩ = some (.int .i64 mn) := (H9.out.f (List.Mem.tail _ (List.Mem.head _))).cell 1
        have bp2 : wc.cell? ⟨w2.heap.size, 2, none⟩ = some (.int .i64 mx) := (H9.out.f (List.Mem.tail _ (List.Mem.head _))).cell 2
        have bp3 : wc.cell? ⟨w2.heap.size, 3, none⟩ = some (.bool n) := (H9.out.f (List.Mem.tail _ (List.Mem.head _))).cell 3
        have bp4 : wc.cell? ⟨w2.heap.size, 4, none⟩ = some (S (dgs L)) := (H9.out.f (List.Mem.tail _ (List.Mem.head _))).cell 4
        have bp5 : wc.cell? ⟨w2.heap.size, 5, none⟩ = some (.int .i64 e) := (H9.out.f (List.Mem.tail _ (List.Mem.head _))).cell 5
        have bp6 : wc.cell? ⟨w2.heap.size, 6, none⟩ = some (.int .i64 mo) := (H9.out.f (List.Mem.tail _ (List.Mem.head _))).cell 6
        have bp7 : wc.cell? ⟨w2.heap.size, 7, none⟩ = some (.int .i64 mi) := (H9.out.f (List.Mem.tail _ (List.Mem.head _))).cell 7
        have bpl : w2.heap.size < wc.heap.size := (H9.out.f (List.Mem.tail _ (List.Mem.head _))).lt
        have bd0 : wc.cell? ⟨w4.heap.size, 0, none⟩ = some (.bool d.neg) := (H9.out.f (List.Mem.head _)).cell 0
        have bd1 : wc.cell? ⟨w4.heap.size, 1, none⟩ = some (S d.l) := (H9.out.f (List.Mem.head _)).cell 1
        have bd2 : wc.cell? ⟨w4.heap.size, 2, none⟩ = some (.int .i64 d.e) := (H9.out.f (List.Mem.head _)).cell 2
        have bdl : w4.heap.size < wc.heap.size := (H9.out.f (List.Mem.head _)).lt
        go_wp2_with fail
        with_reducible refine (valid_as ⟨kd, mn, mx, ⟨n, dgs L, e⟩, mo, mi⟩ _ LL false HV.out).mono ?_
        rintro x w10 ⟨rfl, hb⟩
        clear bp0 bp1 bp2 bp3 bp4 bp5 bp6 bp7 bpl bd0 bd1 bd2 bdl
        have H10 : Hid (HeldL w [(w4.heap.size, #[.bool d.neg, S d.l, .int .i64 d.e]), (w2.heap.size, #[.int .i64 kd, .int .i64 mn, .int .i64 mx, .bool n, S (dgs L), .int .i64 e, .int .i64 mo, .int .i64 mi]), (w.heap.size, #[.bool n, .slice a len cap, .int .i64 e])] w10) := Lib.hid (HeldL.keep H9.out hb)
        clear H9
        clear hb
        have bp0 : w10.cell? ⟨w2.heap.size, 0, none⟩ = some (.int .i64 kd) := (H10.out.f (List.Mem.tail _ (List.Mem.head _))).cell 0
        have bp1 : w10.cell? ⟨w2.heap.size, 1, none⟩ = some (.int .i64 mn) := (H10.out.f (List.Mem.tail _ (List.Mem.head _))).cell 1
        have bp2 : w10.cell? ⟨w2.heap.size, 2, none⟩ = some (.int .i64 mx) := (H10.out.f (List.Mem.tail _ (List.Mem.head _))).cell 2
        have bp3 : w10.cell? ⟨w2.heap.size, 3, none⟩ = some (.bool n) := (H10.out.f (List.Mem.tail _ (List.Mem.head _))).cell 3
        have bp4 : w10.cell? ⟨w2.heap.size, 4, none⟩ = some (S (dgs L)) := (H10.out.f (List.Mem.tail _ (List.Mem.head _))).cell 4
        have bp5 : w10.cell? ⟨w2.heap.size, 5, none⟩ = some (.int .i64 e) := (H10.out.f (List.Mem.tail _ (List.Mem.head _))).cell 5
        have bp6 : w10.cell? ⟨w2.heap.size, 6, none⟩ = some (.int .i64 mo) := (H10.out.f (List.Mem.tail _ (List.Mem.head _))).cell 6
        have bp7 : w10.cell? ⟨w2.heap.size, 7, none⟩ = some (.int .i64 mi) := (H10.out.f (List.Mem.tail _ (List.Mem.head _))).cell 7
        have bpl : w2.heap.size < w10.heap.size := (H10.out.f (List.Mem.tail _ (List.Mem.head _))).lt
        go_wp2_with fail
        with_reducible refine (made_as false ⟨#[55]⟩ 0 _ (by decide) ⟨false, [55], 0⟩ (by decide)).mono ?_
        rintro x w11 ⟨rfl, hb⟩
        clear bp0 bp1 bp2 bp3 bp4 bp5 bp6 bp7 bpl
        have H11 : Hid (HeldL w [(w4.heap.size, #[.bool d.neg, S d.l, .int .i64 d.e]), (w2.heap.size, #[.int .i64 kd, .int .i64 mn, .int .i64 mx, .bool n, S (dgs L), .int .i64 e, .int .i64 mo, .int .i64 mi]), (w.heap.size, #[.bool n, .slice a len cap, .int .i64 e])] w11) := Lib.hid (HeldL.keep H10.out hb)
        clear H10
        clear hb
        have bp0 : w11.cell? ⟨w2.heap.size, 0, none⟩ = some (.int .i64 kd) := (H11.out.f (List.Mem.tail _ (List.Mem.head _))).cell 0
        have bp1 : w11.cell? ⟨w2.heap.size, 1, none⟩ = some (.int .i64 mn) := (H11.out.f (List.Mem.tail _ (List.Mem.head _))).cell 1
        have bp2 : w11.cell? ⟨w2.heap.size, 2, none⟩ = some (.int .i64 mx) := (H11.out.f (List.Mem.tail _ (List.Mem.head _))).cell 2
        have bp3 : w11.cell? ⟨w2.heap.size, 3, none⟩ = some (.bool n) := (H11.out.f (List.Mem.tail _ (List.Mem.head _))).cell 3
        have bp4 : w11.cell? ⟨w2.heap.size, 4, none⟩ = some (S (dgs L)) := (H11.out.f (List.Mem.tail _ (List.Mem.head _))).cell 4
        have bp5 : w11.cell? ⟨w2.heap.size, 5, none⟩ = some (.int .i64 e) := (H11.out.f (List.Mem.tail _ (List.Mem.head _))).cell 5
        have bp6 : w11.cell? ⟨w2.heap.size, 6, none⟩ = some (.int .i64 mo) := (H11.out.f (List.Mem.tail _ (List.Mem.head _))).cell 6
        have bp7 : w11.cell? ⟨w2.heap.size, 7, none⟩ = some (.int .i64 mi) := (H11.out.f (List.Mem.tail _ (List.Mem.head _))).cell 7
        have bpl : w2.heap.size < w11.heap.size := (H11.out.f (List.Mem.tail _ (List.Mem.head _))).lt
        go_wp2_with fail
        with_reducible refine (apply_b ⟨kd, mn, mx, ⟨n, dgs L, e⟩, mo, mi⟩ ⟨false, [55], 0⟩ _ LL HV.out).mono ?_
        rintro x w12 ⟨rfl, hb⟩
        clear bp0 bp1 bp2 bp3 bp4 bp5 bp6 bp7 bpl
        have H12 : Hid (HeldL w [(w11.heap.size, #[.bool false, .string ⟨#[55]⟩, .int .i64 0]), (w4.heap.size, #[.bool d.neg, S d.l, .int .i64 d.e]), (w2.heap.size, #[.int .i64 kd, .int .i64 mn, .int .i64 mx, .bool n, S (dgs L), .int .i64 e, .int .i64 mo, .int .i64 mi]), (w.heap.size, #[.bool n, .slice a len cap, .int .i64 e])] w12) := Lib.hid (HeldL.keep (HeldL.alloc H11.out (w11.heap.size) #[.bool false, .string ⟨#[55]⟩, .int .i64 0] 28 (by simp)) hb)
        clear H11
        clear hb
        have bp0 : w12.cell? ⟨w2.heap.size, 0, none⟩ = some (.int .i64 kd) := (H12.out.f (List.Mem.tail _ (List.Mem.tail _ (List.Mem.head _)))).cell 0
        have bp1 : w12.cell? ⟨w2.heap.size, 1, none⟩ = some (.int .i64 mn) := (H12.out.f (List.Mem.tail _ (List.Mem.tail _ (List.Mem.head _)))).cell 1
        have bp2 : w12.cell? ⟨w2.heap.size, 2, none⟩ = some (.int .i64 mx) := (H12.out.f (List.Mem.tail _ (List.Mem.tail _ (List.Mem.head _)))).cell 2
        have bp3 : w12.cell? ⟨w2.heap.size, 3, none⟩ = some (.bool n) := (H12.out.f (List.Mem.tail _ (List.Mem.tail _ (List.Mem.head _)))).cell 3
        have bp4 : w12.cell? ⟨w2.heap.size, 4, none⟩ = some (S (dgs L)) := (H12.out.f (List.Mem.tail _ (List.Mem.tail _ (List.Mem.head _)))).cell 4
        have bp5 : w12.cell? ⟨w2.heap.size, 5, none⟩ = some (.int .i64 e) := (H12.out.f (List.Mem.tail _ (List.Mem.tail _ (List.Mem.head _)))).cell 5
        have bp6 : w12.cell? ⟨w2.heap.size, 6, none⟩ = some (.int .i64 mo) := (H12.out.f (List.Mem.tail _ (List.Mem.tail _ (List.Mem.head _)))).cell 6
        have bp7 : w12.cell? ⟨w2.heap.size, 7, none⟩ = some (.int .i64 mi) := (H12.out.f (List.Mem.tail _ (List.Mem.tail _ (List.Mem.head _)))).cell 7
        have bpl : w2.heap.size < w12.heap.size := (H12.out.f (List.Mem.tail _ (List.Mem.tail _ (List.Mem.head _)))).lt
        have b70 : w12.cell? ⟨w11.heap.size, 0, none⟩ = some (.bool false) := (H12.out.f (List.Mem.head _)).cell 0
        have b71 : w12.cell? ⟨w11.heap.size, 1, none⟩ = some (.string ⟨#[55]⟩) := (H12.out.f (List.Mem.head _)).cell 1
        have b72 : w12.cell? ⟨w11.heap.size, 2, none⟩ = some (.int .i64 0) := (H12.out.f (List.Mem.head _)).cell 2
        have b7l : w11.heap.size < w12.heap.size := (H12.out.f (List.Mem.head _)).lt
        go_wp2_with fail
        with_reducible refine (roundP_b ⟨kd, mn, mx, ⟨n, dgs L, e⟩, mo, mi⟩ ⟨false, [55], 0⟩ _ LL (by decide) HV.out).mono ?_
        rintro x w13 ⟨rfl, hb⟩
        clear bp0 bp1 bp2 bp3 bp4 bp5 bp6 bp7 bpl b70 b71 b72 b7l
        have H13 : Hid (HeldL w [(w12.heap.size, #[.bool false, .string ⟨#[]⟩, .string ⟨#[]⟩]), (w11.heap.size, #[.bool false, .string ⟨#[55]⟩, .int .i64 0]), (w4.heap.size, #[.bool d.neg, S d.l, .int .i64 d.e]), (w2.heap.size, #[.int .i64 kd, .int .i64 mn, .int .i64 mx, .bool n, S (dgs L), .int .i64 e, .int .i64 mo, .int .i64 mi]), (w.heap.size, #[.bool n, .slice a len cap, .int .i64 e])] w13) := Lib.hid (HeldL.keep (HeldL.alloc H12.out (w12.heap.size) #[.bool false, .string ⟨#[]⟩, .string ⟨#[]⟩] 51 (by simp)) hb)
        clear H12
        clear hb
        go_wp2
        go_ret
        exact ⟨rfl, H13.out.bel⟩
      by_cases r1 : mx ≤ 100
      case neg =>
        have HV : Hid (validP ⟨kd, mn, mx, ⟨n, dgs L, e⟩, mo, mi⟩ = false) := Lib.hid (by rw [VG.out, if_pos K0.out]; simp [wi, r0, r1])
        have H9 : Hid (HeldL w [(w4.heap.size, #[.bool d.neg, S d.l, .int .i64 d.e]), (w2.heap.size, #[.int .i64 kd, .int .i64 mn, .int .i64 mx, .bool n, S (dgs L), .int .i64 e, .int .i64 mo, .int .i64 mi]), (w.heap.size, #[.bool n, .slice a len cap, .int .i64 e])] wc) := HR
        have bp0 : wc.cell? ⟨w2.heap.size, 0, none⟩ = some (.int .i64 kd) := (H9.out.f (List.Mem.tail _ (List.Mem.head _))).cell 0
        have bp1 : wc.cell? ⟨w2.heap.size, 1, none⟩ = some (.int .i64 mn) := (H9.out.f (List.Mem.tail _ (List.Mem.head _))).cell 1
        have bp2 : wc.cell? ⟨w2.heap.size, 2, none⟩ = some (.int .i64 mx) := (H9.out.f (List.Mem.tail _ (List.Mem.head _))).cell 2
        have bp3 : wc.cell? ⟨w2.heap.size, 3, none⟩ = some (.bool n) := (H9.out.f (List.Mem.tail _ (List.Mem.head _))).cell 3
        have bp4 : wc.cell? ⟨w2.heap.size, 4, none⟩ = some (S (dgs L)) := (H9.out.f (List.Mem.tail _ (List.Mem.head _))).cell 4
        have bp5 : wc.cell? ⟨w2.heap.size, 5, none⟩ = some (.int .i64 e) := (H9.out.f (List.Mem.tail _ (List.Mem.head _))).cell 5
        have bp6 : wc.cell? ⟨w2.heap.size, 6, none⟩ = some (.int .i64 mo) := (H9.out.f (List.Mem.tail _ (List.Mem.head _))).cell 6
        have bp7 : wc.cell? ⟨w2.heap.size, 7, none⟩ = some (.int .i64 mi) := (H9.out.f (List.Mem.tail _ (List.Mem.head _))).cell 7
        have bpl : w2.heap.size < wc.heap.size := (H9.out.f (List.Mem.tail _ (List.Mem.head _))).lt
        have bd0 : wc.cell? ⟨w4.heap.size, 0, none⟩ = some (.bool d.neg) := (H9.out.f (List.Mem.head _)).cell 0
        have bd1 : wc.cell? ⟨w4.heap.size, 1, none⟩ = some (S d.l) := (H9.out.f (List.Mem.head _)).cell 1
        have bd2 : wc.cell? ⟨w4.heap.size, 2, none⟩ = some (.int .i64 d.e) := (H9.out.f (List.Mem.head _)).cell 2
        have bdl : w4.heap.size < wc.heap.size := (H9.out.f (List.Mem.head _)).lt
        go_wp2_with fail
        with_reducible refine (valid_as ⟨kd, mn, mx, ⟨n, dgs L, e⟩, mo, mi⟩ _ LL false HV.out).mono ?_
        rintro x w10 ⟨rfl, hb⟩
        clear bp0 bp1 bp2 bp3 bp4 bp5 bp6 bp7 bpl bd0 bd1 bd2 bdl
        have H10 : Hid (HeldL w [(w4.heap.size, #[.bool d.neg, S d.l, .int .i64 d.e]), (w2.heap.size, #[.int .i64 kd, .int .i64 mn, .int .i64 mx, .bool n, S (dgs L), .int .i64 e, .int .i64 mo, .int .i64 mi]), (w.heap.size, #[.bool n, .slice a len cap, .int .i64 e])] w10) := Lib.hid (HeldL.keep H9.out hb)
        clear H9
        clear hb
        have bp0 : w10.cell? ⟨w2.heap.size, 0, none⟩ = some (.int .i64 kd) := (H10.out.f (List.Mem.tail _ (List.Mem.head _))).cell 0
        have bp1 : w10.cell? ⟨w2.heap.size, 1, none⟩ = some (.int .i64 mn) := (H10.out.f (List.Mem.tail _ (List.Mem.head _))).cell 1
        have bp2 : w10.cell? ⟨w2.heap.size, 2, none⟩ = some (.int .i64 mx) := (H10.out.f (List.Mem.tail _ (List.Mem.head _))).cell 2
        have bp3 : w10.cell? ⟨w2.heap.size, 3, none⟩ = some (.bool n) := (H10.out.f (List.Mem.tail _ (List.Mem.head _))).cell 3
        have bp4 : w10.cell? ⟨w2.heap.size, 4, none⟩ = some (S (dgs L)) := (H10.out.f (List.Mem.tail _ (List.Mem.head _))).cell 4
        have bp5 : w10.cell? ⟨w2.heap.size, 5, none⟩ = some (.int .i64 e) := (H10.out.f (List.Mem.tail _ (List.Mem.head _))).cell 5
        have bp6 : w10.cell? ⟨w2.heap.size, 6, none⟩ = some (.int .i64 mo) := (H10.out.f (List.Mem.tail _ (List.Mem.head _))).cell 6
        have bp7 : w10.cell? ⟨w2.heap.size, 7, none⟩ = some (.int .i64 mi) := (H10.out.f (List.Mem.tail _ (List.Mem.head _))).cell 7
        have bpl : w2.heap.size < w10.heap.size := (H10.out.f (List.Mem.tail _ (List.Mem.head _))).lt
        go_wp2_with fail
        with_reducible refine (made_as false ⟨#[55]⟩ 0 _ (by decide) ⟨false, [55], 0⟩ (by decide)).mono ?_
        rintro x w11 ⟨rfl, hb⟩
        clear bp0 bp1 bp2 bp3 bp4 bp5 bp6 bp7 bpl
        have H11 : Hid (HeldL w [(w4.heap.size, #[.bool d.neg, S d.l, .int .i64 d.e]), (w2.heap.size, #[.int .i64 kd, .int .i64 mn, .int .i64 mx, .bool n, S (dgs L), .int .i64 e, .int .i64 mo, .int .i64 mi]), (w.heap.size, #[.bool n, .slice a len cap, .int .i64 e])] w11) := Lib.hid (HeldL.keep H10.out hb)
        clear H10
        clear hb
        have bp0 : w11.cell? ⟨w2.heap.size, 0, none⟩ = some (.int .i64 kd) := (H11.out.f (List.Mem.tail _ (List.Mem.head _))).cell 0
        have bp1 : w11.cell? ⟨w2.heap.size, 1, none⟩ = some (.int .i64 mn) := (H11.out.f (List.Mem.tail _ (List.Mem.head _))).cell 1
        have bp2 : w11.cell? ⟨w2.heap.size, 2, none⟩ = some (.int .i64 mx) := (H11.out.f (List.Mem.tail _ (List.Mem.head _))).cell 2
        have bp3 : w11.cell? ⟨w2.heap.size, 3, none⟩ = some (.bool n) := (H11.out.f (List.Mem.tail _ (List.Mem.head _))).cell 3
        have bp4 : w11.cell? ⟨w2.heap.size, 4, none⟩ = some (S (dgs L)) := (H11.out.f (List.Mem.tail _ (List.Mem.head _))).cell 4
        have bp5 : w11.cell? ⟨w2.heap.size, 5, none⟩ = some (.int .i64 e) := (H11.out.f (List.Mem.tail _ (List.Mem.head _))).cell 5
        have bp6 : w11.cell? ⟨w2.heap.size, 6, none⟩ = some (.int .i64 mo) := (H11.out.f (List.Mem.tail _ (List.Mem.head _))).cell 6
        have bp7 : w11.cell? ⟨w2.heap.size, 7, none⟩ = some (.int .i64 mi) := (H11.out.f (List.Mem.tail _ (List.Mem.head _))).cell 7
        have bpl : w2.heap.size < w11.heap.size := (H11.out.f (List.Mem.tail _ (List.Mem.head _))).lt
        go_wp2_with fail
        with_reducible refine (apply_b ⟨kd, mn, mx, ⟨n, dgs L, e⟩, mo, mi⟩ ⟨false, [55], 0⟩ _ LL HV.out).mono ?_
        rintro x w12 ⟨rfl, hb⟩
        clear bp0 bp1 bp2 bp3 bp4 bp5 bp6 bp7 bpl
        have H12 : Hid (HeldL w [(w11.heap.size, #[.bool false, .string ⟨#[55]⟩, .int .i64 0]), (w4.heap.size, #[.bool d.neg, S d.l, .int .i64 d.e]), (w2.heap.size, #[.int .i64 kd, .int .i64 mn, .int .i64 mx, .bool n, S (dgs L), .int .i64 e, .int .i64 mo, .int .i64 mi]), (w.heap.size, #[.bool n, .slice a len cap, .int .i64 e])] w12) := Lib.hid (HeldL.keep (HeldL.alloc H11.out (w11.heap.size) #[.bool false, .string ⟨#[55]⟩, .int .i64 0] 28 (by simp)) hb)
        clear H11
        clear hb
        have bp0 : w12.cell? ⟨w2.heap.size, 0, none⟩ = some (.int .i64 kd) := (H12.out.f (List.Mem.tail _ (List.Mem.tail _ (List.Mem.head _)))).cell 0
        have bp1 : w12.cell? ⟨w2.heap.size, 1, none⟩ = some (.int .i64 mn) := (H12.out.f (List.Mem.tail _ (List.Mem.tail _ (List.Mem.head _)))).cell 1
        have bp2 : w12.cell? ⟨w2.heap.size, 2, none⟩ = some (.int .i64 mx) := (H12.out.f (List.Mem.tail _ (List.Mem.tail _ (List.Mem.head _)))).cell 2
        have bp3 : w12.cell? ⟨w2.heap.size, 3, none⟩ = some (.bool n) := (H12.out.f (List.Mem.tail _ (List.Mem.tail _ (List.Mem.head _)))).cell 3
        have bp4 : w12.cell? ⟨w2.heap.size, 4, none⟩ = some (S (dgs L)) := (H12.out.f (List.Mem.tail _ (List.Mem.tail _ (List.Mem.head _)))).cell 4
        have bp5 : w12.cell? ⟨w2.heap.size, 5, none⟩ = some (.int .i64 e) := (H12.out.f (List.Mem.tail _ (List.Mem.tail _ (List.Mem.head _)))).cell 5
        have bp6 : w12.cell? ⟨w2.heap.size, 6, none⟩ = some (.int .i64 mo) := (H12.out.f (List.Mem.tail _ (List.Mem.tail _ (List.Mem.head _)))).cell 6
        have bp7 : w12.cell? ⟨w2.heap.size, 7, none⟩ = some (.int .i64 mi) := (H12.out.f (List.Mem.tail _ (List.Mem.tail _ (List.Mem.head _)))).cell 7
        have bpl : w2.heap.size < w12.heap.size := (H12.out.f (List.Mem.tail _ (List.Mem.tail _ (List.Mem.head _)))).lt
        have b70 : w12.cell? ⟨w11.heap.size, 0, none⟩ = some (.bool false) := (H12.out.f (List.Mem.head _)).cell 0
        have b71 : w12.cell? ⟨w11.heap.size, 1, none⟩ = some (.string ⟨#[55]⟩) := (H12.out.f (List.Mem.head _)).cell 1
        have b72 : w12.cell? ⟨w11.heap.size, 2, none⟩ = some (.int .i64 0) := (H12.out.f (List.Mem.head _)).cell 2
        have b7l : w11.heap.size < w12.heap.size := (H12.out.f (List.Mem.head _)).lt
        go_wp2_with fail
        with_reducible refine (roundP_b ⟨kd, mn, mx, ⟨n, dgs L, e⟩, mo, mi⟩ ⟨false, [55], 0⟩ _ LL (by decide) HV.out).mono ?_
        rintro x w13 ⟨rfl, hb⟩
        clear bp0 bp1 bp2 bp3 bp4 bp5 bp6 bp7 bpl b70 b71 b72 b7l
        have H13 : Hid (HeldL w [(w12.heap.size, #[.bool false, .string ⟨#[]⟩, .string ⟨#[]⟩]), (w11.heap.size, #[.bool false, .string ⟨#[55]⟩, .int .i64 0]), (w4.heap.size, #[.bool d.neg, S d.l, .int .i64 d.e]), (w2.heap.size, #[.int .i64 kd, .int .i64 mn, .int .i64 mx, .bool n, S (dgs L), .int .i64 e, .int .i64 mo, .int .i64 mi]), (w.heap.size, #[.bool n, .slice a len cap, .int .i64 e])] w13) := Lib.hid (HeldL.keep (HeldL.alloc H12.out (w12.heap.size) #[.bool false, .string ⟨#[]⟩, .string ⟨#[]⟩] 51 (by simp)) hb)
        clear H12
        clear hb
        go_wp2
        go_ret
        exact ⟨rfl, H13.out.bel⟩
      have HV : Hid (validP ⟨kd, mn, mx, ⟨n, dgs L, e⟩, mo, mi⟩ = true) := Lib.hid (by rw [VG.out, if_pos K0.out]; simp [wi, r0, r1])
      have H9 : Hid (HeldL w [(w4.heap.size, #[.bool d.neg, S d.l, .int .i64 d.e]), (w2.heap.size, #[.int .i64 kd, .int .i64 mn, .int .i64 mx, .bool n, S (dgs L), .int .i64 e, .int .i64 mo, .int .i64 mi]), (w.heap.size, #[.bool n, .slice a len cap, .int .i64 e])] wc) := HR
      have bp0 : wc.cell? ⟨w2.heap.size, 0, none⟩ = some (.int .i64 kd) := (H9.out.f (List.Mem.tail _ (List.Mem.head _))).cell 0
      have bp1 : wc.cell? ⟨w2.heap.size, 1, none⟩ = some (.int .i64 mn) := (H9.out.f (List.Mem.tail _ (List.Mem.head _))).cell 1
      have bp2 : wc.cell? ⟨w2.heap.size, 2, none⟩ = some (.int .i64 mx) := (H9.out.f (List.Mem.tail _ (List.Mem.head _))).cell 2
      have bp3 : wc.cell? ⟨w2.heap.size, 3, none⟩ = some (.bool n) := (H9.out.f (List.Mem.tail _ (List.Mem.head _))).cell 3
      have bp4 : wc.cell? ⟨w2.heap.size, 4, none⟩ = some (S (dgs L)) := (H9.out.f (List.Mem.tail _ (List.Mem.head _))).cell 4
      have bp5 : wc.cell? ⟨w2.heap.size, 5, none⟩ = some (.int .i64 e) := (H9.out.f (List.Mem.tail _ (List.Mem.head _))).cell 5
      have bp6 : wc.cell? ⟨w2.heap.size, 6, none⟩ = some (.int .i64 mo) := (H9.out.f (List.Mem.tail _ (List.Mem.head _))).cell 6
      have bp7 : wc.cell? ⟨w2.heap.size, 7, none⟩ = some (.int .i64 mi) := (H9.out.f (List.Mem.tail _ (List.Mem.head _))).cell 7
      have bpl : w2.heap.size < wc.heap.size := (H9.out.f (List.Mem.tail _ (List.Mem.head _))).lt
      have bd0 : wc.cell? ⟨w4.heap.size, 0, none⟩ = some (.bool d.neg) := (H9.out.f (List.Mem.head _)).cell 0
      have bd1 : wc.cell? ⟨w4.heap.size, 1, none⟩ = some (S d.l) := (H9.out.f (List.Mem.head _)).cell 1
      have bd2 : wc.cell? ⟨w4.heap.size, 2, none⟩ = some (.int .i64 d.e) := (H9.out.f (List.Mem.head _)).cell 2
      have bdl : w4.heap.size < wc.heap.size := (H9.out.f (List.Mem.head _)).lt
      go_wp2_with fail
      with_reducible refine (valid_as ⟨kd, mn, mx, ⟨n, dgs L, e⟩, mo, mi⟩ _ LL true HV.out).mono ?_
      rintro x w10 ⟨rfl, hb⟩
      clear bp0 bp1 bp2 bp3 bp4 bp5 bp6 bp7 bpl bd0 bd1 bd2 bdl
      have H10 : Hid (HeldL w [(w4.heap.size, #[.bool d.neg, S d.l, .int .i64 d.e]), (w2.heap.size, #[.int .i64 kd, .int .i64 mn, .int .i64 mx, .bool n, S (dgs L), .int .i64 e, .int .i64 mo, .int .i64 mi]), (w.heap.size, #[.bool n, .slice a len cap, .int .i64 e])] w10) := Lib.hid (HeldL.keep H9.out hb)
      clear H9
      clear hb
      have bp0 : w10.cell? ⟨w2.heap.size, 0, none⟩ = some (.int .i64 kd) := (H10.out.f (List.Mem.tail _ (List.Mem.head _))).cell 0
      have bp1 : w10.cell? ⟨w2.heap.size, 1, none⟩ = some (.int .i64 mn) := (H10.out.f (List.Mem.tail _ (List.Mem.head _))).cell 1
      have bp2 : w10.cell? ⟨w2.heap.size, 2, none⟩ = some (.int .i64 mx) := (H10.out.f (List.Mem.tail _ (List.Mem.head _))).cell 2
      have bp3 : w10.cell? ⟨w2.heap.size, 3, none⟩ = some (.bool n) := (H10.out.f (List.Mem.tail _ (List.Mem.head _))).cell 3
      have bp4 : w10.cell? ⟨w2.heap.size, 4, none⟩ = some (S (dgs L)) := (H10.out.f (List.Mem.tail _ (List.Mem.head _))).cell 4
      have bp5 : w10.cell? ⟨w2.heap.size, 5, none⟩ = some (.int .i64 e) := (H10.out.f (List.Mem.tail _ (List.Mem.head _))).cell 5
      have bp6 : w10.cell? ⟨w2.heap.size, 6, none⟩ = some (.int .i64 mo) := (H10.out.f (List.Mem.tail _ (List.Mem.head _))).cell 6
      have bp7 : w10.cell? ⟨w2.heap.size, 7, none⟩ = some (.int .i64 mi) := (H10.out.f (List.Mem.tail _ (List.Mem.head _))).cell 7
      have bpl : w2.heap.size < w10.heap.size := (H10.out.f (List.Mem.tail _ (List.Mem.head _))).lt
      go_wp2_with fail
      with_reducible refine (made_as false ⟨#[55]⟩ 0 _ (by decide) ⟨false, [55], 0⟩ (by decide)).mono ?_
      rintro x w11 ⟨rfl, hb⟩
      clear bp0 bp1 bp2 bp3 bp4 bp5 bp6 bp7 bpl
      have H11 : Hid (HeldL w [(w4.heap.size, #[.bool d.neg, S d.l, .int .i64 d.e]), (w2.heap.size, #[.int .i64 kd, .int .i64 mn, .int .i64 mx, .bool n, S (dgs L), .int .i64 e, .int .i64 mo, .int .i64 mi]), (w.heap.size, #[.bool n, .slice a len cap, .int .i64 e])] w11) := Lib.hid (HeldL.keep H10.out hb)
      clear H10
      clear hb
      have bp0 : w11.cell? ⟨w2.heap.size, 0, none⟩ = some (.int .i64 kd) := (H11.out.f (List.Mem.tail _ (List.Mem.head _))).cell 0
      have bp1 : w11.cell? ⟨w2.heap.size, 1, none⟩ = some (.int .i64 mn) := (H11.out.f (List.Mem.tail _ (List.Mem.head _))).cell 1
      have bp2 : w11.cell? ⟨w2.heap.size, 2, none⟩ = some (.int .i64 mx) := (H11.out.f (List.Mem.tail _ (List.Mem.head _))).cell 2
      have bp3 : w11.cell? ⟨w2.heap.size, 3, none⟩ = some (.bool n) := (H11.out.f (List.Mem.tail _ (List.Mem.head _))).cell 3
      have bp4 : w11.cell? ⟨w2.heap.size, 4, none⟩ = some (S (dgs L)) := (H11.out.f (List.Mem.tail _ (List.Mem.head _))).cell 4
      have bp5 : w11.cell? ⟨w2.heap.size, 5, none⟩ = some (.int .i64 e) := (H11.out.f (List.Mem.tail _ (List.Mem.head _))).cell 5
      have bp6 : w11.cell? ⟨w2.heap.size, 6, none⟩ = some (.int .i64 mo) := (H11.out.f (List.Mem.tail _ (List.Mem.head _))).cell 6
      have bp7 : w11.cell? ⟨w2.heap.size, 7, none⟩ = some (.int .i64 mi) := (H11.out.f (List.Mem.tail _ (List.Mem.head _))).cell 7
      have bpl : w2.heap.size < w11.heap.size := (H11.out.f (List.Mem.tail _ (List.Mem.head _))).lt
      go_wp2_with fail
      with_reducible refine (HAP.out HV.out _ (HT.out.below (HeldL.alloc H11.out (w11.heap.size) #[.bool false, .string ⟨#[55]⟩, .int .i64 0] 28 (by simp)).bel)).mono ?_
      rintro x w12 ⟨rfl, hb⟩
      clear bp0 bp1 bp2 bp3 bp4 bp5 bp6 bp7 bpl
      have H12 : Hid (HeldL w [(w11.heap.size, #[.bool false, .string ⟨#[55]⟩, .int .i64 0]), (w4.heap.size, #[.bool d.neg, S d.l, .int .i64 d.e]), (w2.heap.size, #[.int .i64 kd, .int .i64 mn, .int .i64 mx, .bool n, S (dgs L), .int .i64 e, .int .i64 mo, .int .i64 mi]), (w.heap.size, #[.bool n, .slice a len cap, .int .i64 e])] w12) := Lib.hid (HeldL.keep (HeldL.alloc H11.out (w11.heap.size) #[.bool false, .string ⟨#[55]⟩, .int .i64 0] 28 (by simp)) hb)
      clear H11
      clear hb
      go_wp2
      go_ret
      exact ⟨rfl, (HeldL.alloc H12.out (w12.heap.size) #[.bool v.neg, S v.i, S v.f] 51 (by simp)).bel⟩
    | false =>
      have K0 : Hid (¬ kd = 0) := Lib.hid (by simpa using hk0)
      cases hk1 : (kd == 1) with
      | true =>
        have K1 : Hid (kd = 1) := Lib.hid (by simpa using hk1)
        by_cases r2 : 1 ≤ mn
        case neg =>
          have HV : Hid (validP ⟨kd, mn, mx, ⟨n, dgs L, e⟩, mo, mi⟩ = false) := Lib.hid (by rw [VG.out, if_neg K0.out, if_pos K1.out]; simp [r2])
          have H9 : Hid (HeldL w [(w4.heap.size, #[.bool d.neg, S d.l, .int .i64 d.e]), (w2.heap.size, #[.int .i64 kd, .int .i64 mn, .int .i64 mx, .bool n, S (dgs L), .int .i64 e, .int .i64 mo, .int .i64 mi]), (w.heap.size, #[.bool n, .slice a len cap, .int .i64 e])] wc) := HR
          have bp0 : wc.cell? ⟨w2.heap.size, 0, none⟩ = some (.int .i64 kd) := (H9.out.f (List.Mem.tail _ (List.Mem.head _))).cell 0
          have bp1 : wc.cell? ⟨w2.heap.size, 1, none⟩ = some (.int .i64 mn) := (H9.out.f (List.Mem.tail _ (List.Mem.head _))).cell 1
          have bp2 : wc.cell? ⟨w2.heap.size, 2, none⟩ = some (.int .i64 mx) := (H9.out.f (List.Mem.tail _ (List.Mem.head _))).cell 2
          have bp3 : wc.cell? ⟨w2.heap.size, 3, none⟩ = some (.bool n) := (H9.out.f (List.Mem.tail _ (List.Mem.head _))).cell 3
          have bp4 : wc.cell? ⟨w2.heap.size, 4, none⟩ = some (S (dgs L)) := (H9.out.f (List.Mem.tail _ (List.Mem.head _))).cell 4
          have bp5 : wc.cell? ⟨w2.heap.size, 5, none⟩ = some (.int .i64 e) := (H9.out.f (List.Mem.tail _ (List.Mem.head _))).cell 5
          have bp6 : wc.cell? ⟨w2.heap.size, 6, none⟩ = some (.int .i64 mo) := (H9.out.f (List.Mem.tail _ (List.Mem.head _))).cell 6
          have bp7 : wc.cell? ⟨w2.heap.size, 7, none⟩ = some (.int .i64 mi) := (H9.out.f (List.Mem.tail _ (List.Mem.head _))).cell 7
          have bpl : w2.heap.size < wc.heap.size := (H9.out.f (List.Mem.tail _ (List.Mem.head _))).lt
          have bd0 : wc.cell? ⟨w4.heap.size, 0, none⟩ = some (.bool d.neg) := (H9.out.f (List.Mem.head _)).cell 0
          have bd1 : wc.cell? ⟨w4.heap.size, 1, none⟩ = some (S d.l) := (H9.out.f (List.Mem.head _)).cell 1
          have bd2 : wc.cell? ⟨w4.heap.size, 2, none⟩ = some (.int .i64 d.e) := (H9.out.f (List.Mem.head _)).cell 2
          have bdl : w4.heap.size < wc.heap.size := (H9.out.f (List.Mem.head _)).lt
          go_wp2_with fail
          with_reducible refine (valid_as ⟨kd, mn, mx, ⟨n, dgs L, e⟩, mo, mi⟩ _ LL false HV.out).mono ?_
          rintro x w10 ⟨rfl, hb⟩
          clear bp0 bp1 bp2 bp3 bp4 bp5 bp6 bp7 bpl bd0 bd1 bd2 bdl
          have H10 : Hid (HeldL w [(w4.heap.size, #[.bool d.neg, S d.l, .int .i64 d.e]), (w2.heap.size, #[.int .i64 kd, .int .i64 mn, .int .i64 mx, .bool n, S (dgs L), .int .i64 e, .int .i64 mo, .int .i64 mi]), (w.heap.size, #[.bool n, .slice a len cap, .int .i64 e])] w10) := Lib.hid (HeldL.keep H9.out hb)
          clear H9
          clear hb
          have bp0 : w10.cell? ⟨w2.heap.size, 0, none⟩ = some (.int .i64 kd) := (H10.out.f (List.Mem.tail _ (List.Mem.head _))).cell 0
          have bp1 : w10.cell? ⟨w2.heap.size, 1, none⟩ = some (.int .i64 mn) := (H10.out.f (List.Mem.tail _ (List.Mem.head _))).cell 1
          have bp2 : w10.cell? ⟨w2.heap.size, 2, none⟩ = some (.int .i64 mx) := (H10.out.f (List.Mem.tail _ (List.Mem.head _))).cell 2
          have bp3 : w10.cell? ⟨w2.heap.size, 3, none⟩ = some (.bool n) := (H10.out.f (List.Mem.tail _ (List.Mem.head _))).cell 3
          have bp4 : w10.cell? ⟨w2.heap.size, 4, none⟩ = some (S (dgs L)) := (H10.out.f (List.Mem.tail _ (List.Mem.head _))).cell 4
          have bp5 : w10.cell? ⟨w2.heap.size, 5, none⟩ = some (.int .i64 e) := (H10.out.f (List.Mem.tail _ (List.Mem.head _))).cell 5
          have bp6 : w10.cell? ⟨w2.heap.size, 6, none⟩ = some (.int .i64 mo) := (H10.out.f (List.Mem.tail _ (List.Mem.head _))).cell 6
          have bp7 : w10.cell? ⟨w2.heap.size, 7, none⟩ = some (.int .i64 mi) := (H10.out.f (List.Mem.tail _ (List.Mem.head _))).cell 7
          have bpl : w2.heap.size < w10.heap.size := (H10.out.f (List.Mem.tail _ (List.Mem.head _))).lt
          go_wp2_with fail
          with_reducible refine (made_as false ⟨#[55]⟩ 0 _ (by decide) ⟨false, [55], 0⟩ (by decide)).mono ?_
          rintro x w11 ⟨rfl, hb⟩
          clear bp0 bp1 bp2 bp3 bp4 bp5 bp6 bp7 bpl
          have H11 : Hid (HeldL w [(w4.heap.size, #[.bool d.neg, S d.l, .int .i64 d.e]), (w2.heap.size, #[.int .i64 kd, .int .i64 mn, .int .i64 mx, .bool n, S (dgs L), .int .i64 e, .int .i64 mo, .int .i64 mi]), (w.heap.size, #[.bool n, .slice a len cap, .int .i64 e])] w11) := Lib.hid (HeldL.keep H10.out hb)
          clear H10
          clear hb
          have bp0 : w11.cell? ⟨w2.heap.size, 0, none⟩ = some (.int .i64 kd) := (H11.out.f (List.Mem.tail _ (List.Mem.head _))).cell 0
          have bp1 : w11.cell? ⟨w2.heap.size, 1, none⟩ = some (.int .i64 mn) := (H11.out.f (List.Mem.tail _ (List.Mem.head _))).cell 1
          have bp2 : w11.cell? ⟨w2.heap.size, 2, none⟩ = some (.int .i64 mx) := (H11.out.f (List.Mem.tail _ (List.Mem.head _))).cell 2
          have bp3 : w11.cell? ⟨w2.heap.size, 3, none⟩ = some (.bool n) := (H11.out.f (List.Mem.tail _ (List.Mem.head _))).cell 3
          have bp4 : w11.cell? ⟨w2.heap.size, 4, none⟩ = some (S (dgs L)) := (H11.out.f (List.Mem.tail _ (List.Mem.head _))).cell 4
          have bp5 : w11.cell? ⟨w2.heap.size, 5, none⟩ = some (.int .i64 e) := (H11.out.f (List.Mem.tail _ (List.Mem.head _))).cell 5
          have bp6 : w11.cell? ⟨w2.heap.size, 6, none⟩ = some (.int .i64 mo) := (H11.out.f (List.Mem.tail _ (List.Mem.head _))).cell 6
          have bp7 : w11.cell? ⟨w2.heap.size, 7, none⟩ = some (.int .i64 mi) := (H11.out.f (List.Mem.tail _ (List.Mem.head _))).cell 7
          have bpl : w2.heap.size < w11.heap.size := (H11.out.f (List.Mem.tail _ (List.Mem.head _))).lt
          go_wp2_with fail
          with_reducible refine (apply_b ⟨kd, mn, mx, ⟨n, dgs L, e⟩, mo, mi⟩ ⟨false, [55], 0⟩ _ LL HV.out).mono ?_
          rintro x w12 ⟨rfl, hb⟩
          clear bp0 bp1 bp2 bp3 bp4 bp5 bp6 bp7 bpl
          have H12 : Hid (HeldL w [(w11.heap.size, #[.bool false, .string ⟨#[55]⟩, .int .i64 0]), (w4.heap.size, #[.bool d.neg, S d.l, .int .i64 d.e]), (w2.heap.size, #[.int .i64 kd, .int .i64 mn, .int .i64 mx, .bool n, S (dgs L), .int .i64 e, .int .i64 mo, .int .i64 mi]), (w.heap.size, #[.bool n, .slice a len cap, .int .i64 e])] w12) := Lib.hid (HeldL.keep (HeldL.alloc H11.out (w11.heap.size) #[.bool false, .string ⟨#[55]⟩, .int .i64 0] 28 (by simp)) hb)
          clear H11
          clear hb
          have bp0 : w12.cell? ⟨w2.heap.size, 0, none⟩ = some (.int .i64 kd) := (H12.out.f (List.Mem.tail _ (List.Mem.tail _ (List.Mem.head _)))).cell 0
          have bp1 : w12.cell? ⟨w2.heap.size, 1, none⟩ = some (.int .i64 mn) := (H12.out.f (List.Mem.tail _ (List.Mem.tail _ (List.Mem.head _)))).cell 1
          have bp2 : w12.cell? ⟨w2.heap.size, 2, none⟩ = some (.int .i64 mx) := (H12.out.f (List.Mem.tail _ (List.Mem.tail _ (List.Mem.head _)))).cell 2
          have bp3 : w12.cell? ⟨w2.heap.size, 3, none⟩ = some (.bool n) := (H12.out.f (List.Mem.tail _ (List.Mem.tail _ (List.Mem.head _)))).cell 3
          have bp4 : w12.cell? ⟨w2.heap.size, 4, none⟩ = some (S (dgs L)) := (H12.out.f (List.Mem.tail _ (List.Mem.tail _ (List.Mem.head _)))).cell 4
          have bp5 : w12.cell? ⟨w2.heap.size, 5, none⟩ = some (.int .i64 e) := (H12.out.f (List.Mem.tail _ (List.Mem.tail _ (List.Mem.head _)))).cell 5
          have bp6 : w12.cell? ⟨w2.heap.size, 6, none⟩ = some (.int .i64 mo) := (H12.out.f (List.Mem.tail _ (List.Mem.tail _ (List.Mem.head _)))).cell 6
          have bp7 : w12.cell? ⟨w2.heap.size, 7, none⟩ = some (.int .i64 mi) := (H12.out.f (List.Mem.tail _ (List.Mem.tail _ (List.Mem.head _)))).cell 7
          have bpl : w2.heap.size < w12.heap.size := (H12.out.f (List.Mem.tail _ (List.Mem.tail _ (List.Mem.head _)))).lt
          have b70 : w12.cell? ⟨w11.heap.size, 0, none⟩ = some (.bool false) := (H12.out.f (List.Mem.head _)).cell 0
          have b71 : w12.cell? ⟨w11.heap.size, 1, none⟩ = some (.string ⟨#[55]⟩) := (H12.out.f (List.Mem.head _)).cell 1
          have b72 : w12.cell? ⟨w11.heap.size, 2, none⟩ = some (.int .i64 0) := (H12.out.f (List.Mem.head _)).cell 2
          have b7l : w11.heap.size < w12.heap.size := (H12.out.f (List.Mem.head _)).lt
          go_wp2_with fail
          with_reducible refine (roundP_b ⟨kd, mn, mx, ⟨n, dgs L, e⟩, mo, mi⟩ ⟨false, [55], 0⟩ _ LL (by decide) HV.out).mono ?_
          rintro x w13 ⟨rfl, hb⟩
          clear bp0 bp1 bp2 bp3 bp4 bp5 bp6 bp7 bpl b70 b71 b72 b7l
          have H13 : Hid (HeldL w [(w12.heap.size, #[.bool false, .string ⟨#[]⟩, .string ⟨#[]⟩]), (w11.heap.size, #[.bool false, .string ⟨#[55]⟩, .int .i64 0]), (w4.heap.size, #[.bool d.neg, S d.l, .int .i64 d.e]), (w2.heap.size, #[.int .i64 kd, .int .i64 mn, .int .i64 mx, .bool n, S (dgs L), .int .i64 e, .int .i64 mo, .int .i64 mi]), (w.heap.size, #[.bool n, .slice a len cap, .int .i64 e])] w13) := Lib.hid (HeldL.keep (HeldL.alloc H12.out (w12.heap.size) #[.bool false, .string ⟨#[]⟩, .string ⟨#[]⟩] 51 (by simp)) hb)
          clear H12
          clear hb
          go_wp2
          go_ret
          exact ⟨rfl, H13.out.bel⟩
        by_cases r0 : mn ≤ mx
        case neg =>
          have HV : Hid (validP ⟨kd, mn, mx, ⟨n, dgs L, e⟩, mo, mi⟩ = false) := Lib.hid (by rw [VG.out, if_neg K0.out, if_pos K1.out]; simp [wi, r0])
          have H9 : Hid (HeldL w [(w4.heap.size, #[.bool d.neg, S d.l, .int .i64 d.e]), (w2.heap.size, #[.int .i64 kd, .int .i64 mn, .int .i64 mx, .bool n, S (dgs L), .int .i64 e, .int .i64 mo, .int .i64 mi]), (w.heap.size, #[.bool n, .slice a len cap, .int .i64 e])] wc) := HR
          have bp0 : wc.cell? ⟨w2.heap.size, 0, none⟩ = some (.int .i64 kd) := (H9.out.f (List.Mem.tail _ (List.Mem.head _))).cell 0
          have bp1 : wc.cell? ⟨w2.heap.size, 1, none⟩ = some (.int .i64 mn) := (H9.out.f (List.Mem.tail _ (List.Mem.head _))).cell 1
          have bp2 : wc.cell? ⟨w2.heap.size, 2, none⟩ = some (.int .i64 mx) := (H9.out.f (List.Mem.tail _ (List.Mem.head _))).cell 2
          have bp3 : wc.cell? ⟨w2.heap.size, 3, none⟩ = some (.bool n) := (H9.out.f (List.Mem.tail _ (List.Mem.head _))).cell 3
          have bp4 : wc.cell? ⟨w2.heap.size, 4, none⟩ = some (S (dgs L)) := (H9.out.f (List.Mem.tail _ (List.Mem.head _))).cell 4
          have bp5 : wc.cell? ⟨w2.heap.size, 5, none⟩ = some (.int .i64 e) := (H9.out.f (List.Mem.tail _ (List.Mem.head _))).cell 5
          have bp6 : wc.cell? ⟨w2.heap.size, 6, none⟩ = some (.int .i64 mo) := (H9.out.f (List.Mem.tail _ (List.Mem.head _))).cell 6
          have bp7 : wc.cell? ⟨w2.heap.size, 7, none⟩ = some (.int .i64 mi) := (H9.out.f (List.Mem.tail _ (List.Mem.head _))).cell 7
          have bpl : w2.heap.size < wc.heap.size := (H9.out.f (List.Mem.tail _ (List.Mem.head _))).lt
          have bd0 : wc.cell? ⟨w4.heap.size, 0, none⟩ = some (.bool d.neg) := (H9.out.f (List.Mem.head _)).cell 0
          have bd1 : wc.cell? ⟨w4.heap.size, 1, none⟩ = some (S d.l) := (H9.out.f (List.Mem.head _)).cell 1
          have bd2 : wc.cell? ⟨w4.heap.size, 2, none⟩ = some (.int .i64 d.e) := (H9.out.f (List.Mem.head _)).cell 2
          have bdl : w4.heap.size < wc.heap.size := (H9.out.f (List.Mem.head _)).lt
          go_wp2_with fail
          with_reducible refine (valid_as ⟨kd, mn, mx, ⟨n, dgs L, e⟩, mo, mi⟩ _ LL false HV.out).mono ?_
          rintro x w10 ⟨rfl, hb⟩
          clear bp0 bp1 bp2 bp3 bp4 bp5 bp6 bp7 bpl bd0 bd1 bd2 bdl
          have H10 : Hid (HeldL w [(w4.heap.size, #[.bool d.neg, S d.l, .int .i64 d.e]), (w2.heap.size, #[.int .i64 kd, .int .i64 mn, .int .i64 mx, .bool n, S (dgs L), .int .i64 e, .int .i64 mo, .int .i64 mi]), (w.heap.size, #[.bool n, .slice a len cap, .int .i64 e])] w10) := Lib.hid (HeldL.keep H9.out hb)
          clear H9
          clear hb
          have bp0 : w10.cell? ⟨w2.heap.size, 0, none⟩ = some (.int .i64 kd) := (H10.out.f (List.Mem.tail _ (List.Mem.head _))).cell 0
          have bp1 : w10.cell? ⟨w2.heap.size, 1, none⟩ = some (.int .i64 mn) := (H10.out.f (List.Mem.tail _ (List.Mem.head _))).cell 1
          have bp2 : w10.cell? ⟨w2.heap.size, 2, none⟩ = some (.int .i64 mx) := (H10.out.f (List.Mem.tail _ (List.Mem.head _))).cell 2
          have bp3 : w10.cell? ⟨w2.heap.size, 3, none⟩ = some (.bool n) := (H10.out.f (List.Mem.tail _ (List.Mem.head _))).cell 3
          have bp4 : w10.cell? ⟨w2.heap.size, 4, none⟩ = some (S (dgs L)) := (H10.out.f (List.Mem.tail _ (List.Mem.head _))).cell 4
          have bp5 : w10.cell? ⟨w2.heap.size, 5, none⟩ = some (.int .i64 e) := (H10.out.f (List.Mem.tail _ (List.Mem.head _))).cell 5
          have bp6 : w10.cell? ⟨w2.heap.size, 6, none⟩ = some (.int .i64 mo) := (H10.out.f (List.Mem.tail _ (List.Mem.head _))).cell 6
          have bp7 : w10.cell? ⟨w2.heap.size, 7, none⟩ = some (.int .i64 mi) := (H10.out.f (List.Mem.tail _ (List.Mem.head _))).cell 7
          have bpl : w2.heap.size < w10.heap.size := (H10.out.f (List.Mem.tail _ (List.Mem.head _))).lt
          go_wp2_with fail
          with_reducible refine (made_as false ⟨#[55]⟩ 0 _ (by decide) ⟨false, [55], 0⟩ (by decide)).mono ?_
          rintro x w11 ⟨rfl, hb⟩
          clear bp0 bp1 bp2 bp3 bp4 bp5 bp6 bp7 bpl
          have H11 : Hid (HeldL w [(w4.heap.size, #[.bool d.neg, S d.l, .int .i64 d.e]), (w2.heap.size, #[.int .i64 kd, .int .i64 mn, .int .i64 mx, .bool n, S (dgs L), .int .i64 e, .int .i64 mo, .int .i64 mi]), (w.heap.size, #[.bool n, .slice a len cap, .int .i64 e])] w11) := Lib.hid (HeldL.keep H10.out hb)
          clear H10
          clear hb
          have bp0 : w11.cell? ⟨w2.heap.size, 0, none⟩ = some (.int .i64 kd) := (H11.out.f (List.Mem.tail _ (List.Mem.head _))).cell 0
          have bp1 : w11.cell? ⟨w2.heap.size, 1, none⟩ = some (.int .i64 mn) := (H11.out.f (List.Mem.tail _ (List.Mem.head _))).cell 1
          have bp2 : w11.cell? ⟨w2.heap.size, 2, none⟩ = some (.int .i64 mx) := (H11.out.f (List.Mem.tail _ (List.Mem.head _))).cell 2
          have bp3 : w11.cell? ⟨w2.heap.size, 3, none⟩ = some (.bool n) := (H11.out.f (List.Mem.tail _ (List.Mem.head _))).cell 3
          have bp4 : w11.cell? ⟨w2.heap.size, 4, none⟩ = some (S (dgs L)) := (H11.out.f (List.Mem.tail _ (List.Mem.head _))).cell 4
          have bp5 : w11.cell? ⟨w2.heap.size, 5, none⟩ = some (.int .i64 e) := (H11.out.f (List.Mem.tail _ (List.Mem.head _))).cell 5
          have bp6 : w11.cell? ⟨w2.heap.size, 6, none⟩ = some (.int .i64 mo) := (H11.out.f (List.Mem.tail _ (List.Mem.head _))).cell 6
          have bp7 : w11.cell? ⟨w2.heap.size, 7, none⟩ = some (.int .i64 mi) := (H11.out.f (List.Mem.tail _ (List.Mem.head _))).cell 7
          have bpl : w2.heap.size < w11.heap.size := (H11.out.f (List.Mem.tail _ (List.Mem.head _))).lt
          go_wp2_with fail
          with_reducible refine (apply_b ⟨kd, mn, mx, ⟨n, dgs L, e⟩, mo, mi⟩ ⟨false, [55], 0⟩ _ LL HV.out).mono ?_
          rintro x w12 ⟨rfl, hb⟩
          clear bp0 bp1 bp2 bp3 bp4 bp5 bp6 bp7 bpl
          have H12 : Hid (HeldL w [(w11.heap.size, #[.bool false, .string ⟨#[55]⟩, .int .i64 0]), (w4.heap.size, #[.bool d.neg, S d.l, .int .i64 d.e]), (w2.heap.size, #[.int .i64 kd, .int .i64 mn, .int .i64 mx, .bool n, S (dgs L), .int .i64 e, .int .i64 mo, .int .i64 mi]), (w.heap.size, #[.bool n, .slice a len cap, .int .i64 e])] w12) := Lib.hid (HeldL.keep (HeldL.alloc H11.out (w11.heap.size) #[.bool false, .string ⟨#[55]⟩, .int .i64 0] 28 (by simp)) hb)
          clear H11
          clear hb
          have bp0 : w12.cell? ⟨w2.heap.size, 0, none⟩ = some (.int .i64 kd) := (H12.out.f (List.Mem.tail _ (List.Mem.tail _ (List.Mem.head _)))).cell 0
          have bp1 : w12.cell? ⟨w2.heap.size, 1, none⟩ = some (.int .i64 mn) := (H12.out.f (List.Mem.tail _ (List.Mem.tail _ (List.Mem.head _)))).cell 1
          have bp2 : w12.cell? ⟨w2.heap.size, 2, none⟩ = some (.int .i64 mx) := (H12.out.f (List.Mem.tail _ (List.Mem.tail _ (List.Mem.head _)))).cell 2
          have bp3 : w12.cell? ⟨w2.heap.size, 3, none⟩ = some (.bool n) := (H12.out.f (List.Mem.tail _ (List.Mem.tail _ (List.Mem.head _)))).cell 3
          have bp4 : w12.cell? ⟨w2.heap.size, 4, none⟩ = some (S (dgs L)) := (H12.out.f (List.Mem.tail _ (List.Mem.tail _ (List.Mem.head _)))).cell 4
          have bp5 : w12.cell? ⟨w2.heap.size, 5, none⟩ = some (.int .i64 e) := (H12.out.f (List.Mem.tail _ (List.Mem.tail _ (List.Mem.head _)))).cell 5
          have bp6 : w12.cell? ⟨w2.heap.size, 6, none⟩ = some (.int .i64 mo) := (H12.out.f (List.Mem.tail _ (List.Mem.tail _ (List.Mem.head _)))).cell 6
          have bp7 : w12.cell? ⟨w2.heap.size, 7, none⟩ = some (.int .i64 mi) := (H12.out.f (List.Mem.tail _ (List.Mem.tail _ (List.Mem.head _)))).cell 7
          have bpl : w2.heap.size < w12.heap.size := (H12.out.f (List.Mem.tail _ (List.Mem.tail _ (List.Mem.head _)))).lt
          have b70 : w12.cell? ⟨w11.heap.size, 0, none⟩ = some (.bool false) := (H12.out.f (List.Mem.head _)).cell 0
          have b71 : w12.cell? ⟨w11.heap.size, 1, none⟩ = some (.string ⟨#[55]⟩) := (H12.out.f (List.Mem.head _)).cell 1
          have b72 : w12.cell? ⟨w11.heap.size, 2, none⟩ = some (.int .i64 0) := (H12.out.f (List.Mem.head _)).cell 2
          have b7l : w11.heap.size < w12.heap.size := (H12.out.f (List.Mem.head _)).lt
          go_wp2_with fail
          with_reducible refine (roundP_b ⟨kd, mn, mx, ⟨n, dgs L, e⟩, mo, mi⟩ ⟨false, [55], 0⟩ _ LL (by decide) HV.out).mono ?_
          rintro x w13 ⟨rfl, hb⟩
          clear bp0 bp1 bp2 bp3 bp4 bp5 bp6 bp7 bpl b70 b71 b72 b7l
          have H13 : Hid (HeldL w [(w12.heap.size, #[.bool false, .string ⟨#[]⟩, .string ⟨#[]⟩]), (w11.heap.size, #[.bool false, .string ⟨#[55]⟩, .int .i64 0]), (w4.heap.size, #[.bool d.neg, S d.l, .int .i64 d.e]), (w2.heap.size, #[.int .i64 kd, .int .i64 mn, .int .i64 mx, .bool n, S (dgs L), .int .i64 e, .int .i64 mo, .int .i64 mi]), (w.heap.size, #[.bool n, .slice a len cap, .int .i64 e])] w13) := Lib.hid (HeldL.keep (HeldL.alloc H12.out (w12.heap.size) #[.bool false, .string ⟨#[]⟩, .string ⟨#[]⟩] 51 (by simp)) hb)
          clear H12
          clear hb
          go_wp2
          go_ret
          exact ⟨rfl, H13.out.bel⟩
        by_cases r1 : mx ≤ 100
        case neg =>
          have HV : Hid (validP ⟨kd, mn, mx, ⟨n, dgs L, e⟩, mo, mi⟩ = false) := Lib.hid (by rw [VG.out, if_neg K0.out, if_pos K1.out]; simp [wi, r0, r1])
          have H9 : Hid (HeldL w [(w4.heap.size, #[.bool d.neg, S d.l, .int .i64 d.e]), (w2.heap.size, #[.int .i64 kd, .int .i64 mn, .int .i64 mx, .bool n, S (dgs L), .int .i64 e, .int .i64 mo, .int .i64 mi]), (w.heap.size, #[.bool n, .slice a len cap, .int .i64 e])] wc) := HR
          have bp0 : wc.cell? ⟨w2.heap.size, 0, none⟩ = some (.int .i64 kd) := (H9.out.f (List.Mem.tail _ (List.Mem.head _))).cell 0
          have bp1 : wc.cell? ⟨w2.heap.size, 1, none⟩ = some (.int .i64 mn) := (H9.out.f (List.Mem.tail _ (List.Mem.head _))).cell 1
          have bp2 : wc.cell? ⟨w2.heap.size, 2, none⟩ = some (.int .i64 mx) := (H9.out.f (List.Mem.tail _ (List.Mem.head _))).cell 2
          have bp3 : wc.cell? ⟨w2.heap.size, 3, none⟩ = some (.bool n) := (H9.out.f (List.Mem.tail _ (List.Mem.head _))).cell 3
          have bp4 : wc.cell? ⟨w2.heap.size, 4, none⟩ = some (S (dgs L)) := (H9.out.f (List.Mem.tail _ (List.Mem.head _))).cell 4
          have bp5 : wc.cell? ⟨w2.heap.size, 5, none⟩ = some (.int .i64 e) := (H9.out.f (List.Mem.tail _ (List.Mem.head _))).cell 5
          have bp6 : wc.cell? ⟨w2.heap.size, 6, none⟩ = some (.int .i64 mo) := (H9.out.f (List.Mem.tail _ (List.Mem.head _))).cell 6
          have bp7 : wc.cell? ⟨w2.heap.size, 7, none⟩ = some (.int .i64 mi) := (H9.out.f (List.Mem.tail _ (List.Mem.head _))).cell 7
          have bpl : w2.heap.size < wc.heap.size := (H9.out.f (List.Mem.tail _ (List.Mem.head _))).lt
          have bd0 : wc.cell? ⟨w4.heap.size, 0, none⟩ = some (.bool d.neg) := (H9.out.f (List.Mem.head _)).cell 0
          have bd1 : wc.cell? ⟨w4.heap.size, 1, none⟩ = some (S d.l) := (H9.out.f (List.Mem.head _)).cell 1
          have bd2 : wc.cell? ⟨w4.heap.size, 2, none⟩ = some (.int .i64 d.e) := (H9.out.f (List.Mem.head _)).cell 2
          have bdl : w4.heap.size < wc.heap.size := (H9.out.f (List.Mem.head _)).lt
          go_wp2_with fail
          with_reducible refine (valid_as ⟨kd, mn, mx, ⟨n, dgs L, e⟩, mo, mi⟩ _ LL false HV.out).mono ?_
          rintro x w10 ⟨rfl, hb⟩
          clear bp0 bp1 bp2 bp3 bp4 bp5 bp6 bp7 bpl bd0 bd1 bd2 bdl
          have H10 : Hid (HeldL w [(w4.heap.size, #[.bool d.neg, S d.l, .int .i64 d.e]), (w2.heap.size, #[.int .i64 kd, .int .i64 mn, .int .i64 mx, .bool n, S (dgs L), .int .i64 e, .int .i64 mo, .int .i64 mi]), (w.heap.size, #[.bool n, .slice a len cap, .int .i64 e])] w10) := Lib.hid (HeldL.keep H9.out hb)
          clear H9
          clear hb
          have bp0 : w10.cell? ⟨w2.heap.size, 0, none⟩ = some (.int .i64 kd) := (H10.out.f (List.Mem.tail _ (List.Mem.head _))).cell 0
          have bp1 : w10.cell? ⟨w2.heap.size, 1, none⟩ = some (.int .i64 mn) := (H10.out.f (List.Mem.tail _ (List.Mem.head _))).cell 1
          have bp2 : w10.cell? ⟨w2.heap.size, 2, none⟩ = some (.int .i64 mx) := (H10.out.f (List.Mem.tail _ (List.Mem.head _))).cell 2
          have bp3 : w10.cell? ⟨w2.heap.size, 3, none⟩ = some (.bool n) := (H10.out.f (List.Mem.tail _ (List.Mem.head _))).cell 3
          have bp4 : w10.cell? ⟨w2.heap.size, 4, none⟩ = some (S (dgs L)) := (H10.out.f (List.Mem.tail _ (List.Mem.head _))).cell 4
          have bp5 : w10.cell? ⟨w2.heap.size, 5, none⟩ = some (.int .i64 e) := (H10.out.f (List.Mem.tail _ (List.Mem.head _))).cell 5
          have bp6 : w10.cell? ⟨w2.heap.size, 6, none⟩ = some (.int .i64 mo) := (H10.out.f (List.Mem.tail _ (List.Mem.head _))).cell 6
          have bp7 : w10.cell? ⟨w2.heap.size, 7, none⟩ = some (.int .i64 mi) := (H10.out.f (List.Mem.tail _ (List.Mem.head _))).cell 7
          have bpl : w2.heap.size < w10.heap.size := (H10.out.f (List.Mem.tail _ (List.Mem.head _))).lt
          go_wp2_with fail
          with_reducible refine (made_as false ⟨#[55]⟩ 0 _ (by decide) ⟨false, [55], 0⟩ (by decide)).mono ?_
          rintro x w11 ⟨rfl, hb⟩
          clear bp0 bp1 bp2 bp3 bp4 bp5 bp6 bp7 bpl
          have H11 : Hid (HeldL w [(w4.heap.size, #[.bool d.neg, S d.l, .int .i64 d.e]), (w2.heap.size, #[.int .i64 kd, .int .i64 mn, .int .i64 mx, .bool n, S (dgs L), .int .i64 e, .int .i64 mo, .int .i64 mi]), (w.heap.size, #[.bool n, .slice a len cap, .int .i64 e])] w11) := Lib.hid (HeldL.keep H10.out hb)
          clear H10
          clear hb
          have bp0 : w11.cell? ⟨w2.heap.size, 0, none⟩ = some (.int .i64 kd) := (H11.out.f (List.Mem.tail _ (List.Mem.head _))).cell 0
          have bp1 : w11.cell? ⟨w2.heap.size, 1, none⟩ = some (.int .i64 mn) := (H11.out.f (List.Mem.tail _ (List.Mem.head _))).cell 1
          have bp2 : w11.cell? ⟨w2.heap.size, 2, none⟩ = some (.int .i64 mx) := (H11.out.f (List.Mem.tail _ (List.Mem.head _))).cell 2
          have bp3 : w11.cell? ⟨w2.heap.size, 3, none⟩ = some (.bool n) := (H11.out.f (List.Mem.tail _ (List.Mem.head _))).cell 3
          have bp4 : w11.cell? ⟨w2.heap.size, 4, none⟩ = some (S (dgs L)) := (H11.out.f (List.Mem.tail _ (List.Mem.head _))).cell 4
          have bp5 : w11.cell? ⟨w2.heap.size, 5, none⟩ = some (.int .i64 e) := (H11.out.f (List.Mem.tail _ (List.Mem.head _))).cell 5
          have bp6 : w11.cell? ⟨w2.heap.size, 6, none⟩ = some (.int .i64 mo) := (H11.out.f (List.Mem.tail _ (List.Mem.head _))).cell 6
          have bp7 : w11.cell? ⟨w2.heap.size, 7, none⟩ = some (.int .i64 mi) := (H11.out.f (List.Mem.tail _ (List.Mem.head _))).cell 7
          have bpl : w2.heap.size < w11.heap.size := (H11.out.f (List.Mem.tail _ (List.Mem.head _))).lt
          go_wp2_with fail
          with_reducible refine (apply_b ⟨kd, mn, mx, ⟨n, dgs L, e⟩, mo, mi⟩ ⟨false, [55], 0⟩ _ LL HV.out).mono ?_
          rintro x w12 ⟨rfl, hb⟩
          clear bp0 bp1 bp2 bp3 bp4 bp5 bp6 bp7 bpl
          have H12 : Hid (HeldL w [(w11.heap.size, #[.bool false, .string ⟨#[55]⟩, .int .i64 0]), (w4.heap.size, #[.bool d.neg, S d.l, .int .i64 d.e]), (w2.heap.size, #[.int .i64 kd, .int .i64 mn, .int .i64 mx, .bool n, S (dgs L), .int .i64 e, .int .i64 mo, .int .i64 mi]), (w.heap.size, #[.bool n, .slice a len cap, .int .i64 e])] w12) := Lib.hid (HeldL.keep (HeldL.alloc H11.out (w11.heap.size) #[.bool false, .string ⟨#[55]⟩, .int .i64 0] 28 (by simp)) hb)
          clear H11
          clear hb
          have bp0 : w12.cell? ⟨w2.heap.size, 0, none⟩ = some (.int .i64 kd) := (H12.out.f (List.Mem.tail _ (List.Mem.tail _ (List.Mem.head _)))).cell 0
          have bp1 : w12.cell? ⟨w2.heap.size, 1, none⟩ = some (.int .i64 mn) := (H12.out.f (List.Mem.tail _ (List.Mem.tail _ (List.Mem.head _)))).cell 1
          have bp2 : w12.cell? ⟨w2.heap.size, 2, none⟩ = some (.int .i64 mx) := (H12.out.f (List.Mem.tail _ (List.Mem.tail _ (List.Mem.head _)))).cell 2
          have bp3 : w12.cell? ⟨w2.heap.size, 3, none⟩ = some (.bool n) := (H12.out.f (List.Mem.tail _ (List.Mem.tail _ (List.Mem.head _)))).cell 3
          have bp4 : w12.cell? ⟨w2.heap.size, 4, none⟩ = some (S (dgs L)) := (H12.out.f (List.Mem.tail _ (List.Mem.tail _ (List.Mem.head _)))).cell 4
          have bp5 : w12.cell? ⟨w2.heap.size, 5, none⟩ = some (.int .i64 e) := (H12.out.f (List.Mem.tail _ (List.Mem.tail _ (List.Mem.head _)))).cell 5
          have bp6 : w12.cell? ⟨w2.heap.size, 6, none⟩ = some (.int .i64 mo) := (H12.out.f (List.Mem.tail _ (List.Mem.tail _ (List.Mem.head _)))).cell 6
          have bp7 : w12.cell? ⟨w2.heap.size, 7, none⟩ = some (.int .i64 mi) := (H12.out.f (List.Mem.tail _ (List.Mem.tail _ (List.Mem.head _)))).cell 7
          have bpl : w2.heap.size < w12.heap.size := (H12.out.f (List.Mem.tail _ (List.Mem.tail _ (List.Mem.head _)))).lt
          have b70 : w12.cell? ⟨w11.heap.size, 0, none⟩ = some (.bool false) := (H12.out.f (List.Mem.head _)).cell 0
          have b71 : w12.cell? ⟨w11.heap.size, 1, none⟩ = some (.string ⟨#[55]⟩) := (H12.out.f (List.Mem.head _)).cell 1
          have b72 : w12.cell? ⟨w11.heap.size, 2, none⟩ = some (.int .i64 0) := (H12.out.f (List.Mem.head _)).cell 2
          have b7l : w11.heap.size < w12.heap.size := (H12.out.f (List.Mem.head _)).lt
          go_wp2_with fail
          with_reducible refine (roundP_b ⟨kd, mn, mx, ⟨n, dgs L, e⟩, mo, mi⟩ ⟨false, [55], 0⟩ _ LL (by decide) HV.out).mono ?_
          rintro x w13 ⟨rfl, hb⟩
          clear bp0 bp1 bp2 bp3 bp4 bp5 bp6 bp7 bpl b70 b71 b72 b7l
          have H13 : Hid (HeldL w [(w12.heap.size, #[.bool false, .string ⟨#[]⟩, .string ⟨#[]⟩]), (w11.heap.size, #[.bool false, .string ⟨#[55]⟩, .int .i64 0]), (w4.heap.size, #[.bool d.neg, S d.l, .int .i64 d.e]), (w2.heap.size, #[.int .i64 kd, .int .i64 mn, .int .i64 mx, .bool n, S (dgs L), .int .i64 e, .int .i64 mo, .int .i64 mi]), (w.heap.size, #[.bool n, .slice a len cap, .int .i64 e])] w13) := Lib.hid (HeldL.keep (HeldL.alloc H12.out (w12.heap.size) #[.bool false, .string ⟨#[]⟩, .string ⟨#[]⟩] 51 (by simp)) hb)
          clear H12
          clear hb
          go_wp2
          go_ret
          exact ⟨rfl, H13.out.bel⟩
        have HV : Hid (validP ⟨kd, mn, mx, ⟨n, dgs L, e⟩, mo, mi⟩ = true) := Lib.hid (by rw [VG.out, if_neg K0.out, if_pos K1.out]; simp [wi, r0, r1, r2])
        have H9 : Hid (HeldL w [(w4.heap.size, #[.bool d.neg, S d.l, .int .i64 d.e]), (w2.heap.size, #[.int .i64 kd, .int .i64 mn, .int .i64 mx, .bool n, S (dgs L), .int .i64 e, .int .i64 mo, .int .i64 mi]), (w.heap.size, #[.bool n, .slice a len cap, .int .i64 e])] wc) := HR
        have bp0 : wc.cell? ⟨w2.heap.size, 0, none⟩ = some (.int .i64 kd) := (H9.out.f (List.Mem.tail _ (List.Mem.head _))).cell 0
        have bp1 : wc.cell? ⟨w2.heap.size, 1, none⟩ = some (.int .i64 mn) := (H9.out.f (List.Mem.tail _ (List.Mem.head _))).cell 1
        have bp2 : wc.cell? ⟨w2.heap.size, 2, none⟩ = some (.int .i64 mx) := (H9.out.f (List.Mem.tail _ (List.Mem.head _))).cell 2
        have bp3 : wc.cell? ⟨w2.heap.size, 3, none⟩ = some (.bool n) := (H9.out.f (List.Mem.tail _ (List.Mem.head _))).cell 3
        have bp4 : wc.cell? ⟨w2.heap.size, 4, none⟩ = some (S (dgs L)) := (H9.out.f (List.Mem.tail _ (List.Mem.head _))).cell 4
        have bp5 : wc.cell? ⟨w2.heap.size, 5, none⟩ = some (.int .i64 e) := (H9.out.f (List.Mem.tail _ (List.Mem.head _))).cell 5
        have bp6 : wc.cell? ⟨w2.heap.size, 6, none⟩ = some (.int .i64 mo) := (H9.out.f (List.Mem.tail _ (List.Mem.head _))).cell 6
        have bp7 : wc.cell? ⟨w2.heap.size, 7, none⟩ = some (.int .i64 mi) := (H9.out.f (List.Mem.tail _ (List.Mem.head _))).cell 7
        have bpl : w2.heap.size < wc.heap.size := (H9.out.f (List.Mem.tail _ (List.Mem.head _))).lt
        have bd0 : wc.cell? ⟨w4.heap.size, 0, none⟩ = some (.bool d.neg) := (H9.out.f (List.Mem.head _)).cell 0
        have bd1 : wc.cell? ⟨w4.heap.size, 1, none⟩ = some (S d.l) := (H9.out.f (List.Mem.head _)).cell 1
        have bd2 : wc.cell? ⟨w4.heap.size, 2, none⟩ = some (.int .i64 d.e) := (H9.out.f (List.Mem.head _)).cell 2
        have bdl : w4.heap.size < wc.heap.size := (H9.out.f (List.Mem.head _)).lt
        go_wp2_with fail
        with_reducible refine (valid_as ⟨kd, mn, mx, ⟨n, dgs L, e⟩, mo, mi⟩ _ LL true HV.out).mono ?_
        rintro x w10 ⟨rfl, hb⟩
        clear bp0 bp1 bp2 bp3 bp4 bp5 bp6 bp7 bpl bd0 bd1 bd2 bdl
        have H10 : Hid (HeldL w [(w4.heap.size, #[.bool d.neg, S d.l, .int .i64 d.e]), (w2.heap.size, #[.int .i64 kd, .int .i64 mn, .int .i64 mx, .bool n, S (dgs L), .int .i64 e, .int .i64 mo, .int .i64 mi]), (w.heap.size, #[.bool n, .slice a len cap, .int .i64 e])] w10) := Lib.hid (HeldL.keep H9.out hb)
        clear H9
        clear hb
        have bp0 : w10.cell? ⟨w2.heap.size, 0, none⟩ = some (.int .i64 kd) := (H10.out.f (List.Mem.tail _ (List.Mem.head _))).cell 0
        have bp1 : w10.cell? ⟨w2.heap.size, 1, none⟩ = some (.int .i64 mn) := (H10.out.f (List.Mem.tail _ (List.Mem.head _))).cell 1
        have bp2 : w10.cell? ⟨w2.heap.size, 2, none⟩ = some (.int .i64 mx) := (H10.out.f (List.Mem.tail _ (List.Mem.head _))).cell 2
        have bp3 : w10.cell? ⟨w2.heap.size, 3, none⟩ = some (.bool n) := (H10.out.f (List.Mem.tail _ (List.Mem.head _))).cell 3
        have bp4 : w10.cell? ⟨w2.heap.size, 4, none⟩ = some (S (dgs L)) := (H10.out.f (List.Mem.tail _ (List.Mem.head _))).cell 4
        have bp5 : w10.cell? ⟨w2.heap.size, 5, none⟩ = some (.int .i64 e) := (H10.out.f (List.Mem.tail _ (List.Mem.head _))).cell 5
        have bp6 : w10.cell? ⟨w2.heap.size, 6, none⟩ = some (.int .i64 mo) := (H10.out.f (List.Mem.tail _ (List.Mem.head _))).cell 6
        have bp7 : w10.cell? ⟨w2.heap.size, 7, none⟩ = some (.int .i64 mi) := (H10.out.f (List.Mem.tail _ (List.Mem.head _))).cell 7
        have bpl : w2.heap.size < w10.heap.size := (H10.out.f (List.Mem.tail _ (List.Mem.head _))).lt
        go_wp2_with fail
        with_reducible refine (made_as false ⟨#[55]⟩ 0 _ (by decide) ⟨false, [55], 0⟩ (by decide)).mono ?_
        rintro x w11 ⟨rfl, hb⟩
        clear bp0 bp1 bp2 bp3 bp4 bp5 bp6 bp7 bpl
        have H11 : Hid (HeldL w [(w4.heap.size, #[.bool d.neg, S d.l, .int .i64 d.e]), (w2.heap.size, #[.int .i64 kd, .int .i64 mn, .int .i64 mx, .bool n, S (dgs L), .int .i64 e, .int .i64 mo, .int .i64 mi]), (w.heap.size, #[.bool n, .slice a len cap, .int .i64 e])] w11) := Lib.hid (HeldL.keep H10.out hb)
        clear H10
        clear hb
        have bp0 : w11.cell? ⟨w2.heap.size, 0, none⟩ = some (.int .i64 kd) := (H11.out.f (List.Mem.tail _ (List.Mem.head _))).cell 0
        have bp1 : w11.cell? ⟨w2.heap.size, 1, none⟩ = some (.int .i64 mn) := (H11.out.f (List.Mem.tail _ (List.Mem.head _))).cell 1
        have bp2 : w11.cell? ⟨w2.heap.size, 2, none⟩ = some (.int .i64 mx) := (H11.out.f (List.Mem.tail _ (List.Mem.head _))).cell 2
        have bp3 : w11.cell? ⟨w2.heap.size, 3, none⟩ = some (.bool n) := (H11.out.f (List.Mem.tail _ (List.Mem.head _))).cell 3
        have bp4 : w11.cell? ⟨w2.heap.size, 4, none⟩ = some (S (dgs L)) := (H11.out.f (List.Mem.tail _ (List.Mem.head _))).cell 4
        have bp5 : w11.cell? ⟨w2.heap.size, 5, none⟩ = some (.int .i64 e) := (H11.out.f (List.Mem.tail _ (List.Mem.head _))).cell 5
        have bp6 : w11.cell? ⟨w2.heap.size, 6, none⟩ = some (.int .i64 mo) := (H11.out.f (List.Mem.tail _ (List.Mem.head _))).cell 6
        have bp7 : w11.cell? ⟨w2.heap.size, 7, none⟩ = some (.int .i64 mi) := (H11.out.f (List.Mem.tail _ (List.Mem.head _))).cell 7
        have bpl : w2.heap.size < w11.heap.size := (H11.out.f (List.Mem.tail _ (List.Mem.head _))).lt
        go_wp2_with fail
        with_reducible refine (HAP.out HV.out _ (HT.out.below (HeldL.alloc H11.out (w11.heap.size) #[.bool false, .string ⟨#[55]⟩, .int .i64 0] 28 (by simp)).bel)).mono ?_
        rintro x w12 ⟨rfl, hb⟩
        clear bp0 bp1 bp2 bp3 bp4 bp5 bp6 bp7 bpl
        have H12 : Hid (HeldL w [(w11.heap.size, #[.bool false, .string ⟨#[55]⟩, .int .i64 0]), (w4.heap.size, #[.bool d.neg, S d.l, .int .i64 d.e]), (w2.heap.size, #[.int .i64 kd, .int .i64 mn, .int .i64 mx, .bool n, S (dgs L), .int .i64 e, .int .i64 mo, .int .i64 mi]), (w.heap.size, #[.bool n, .slice a len cap, .int .i64 e])] w12) := Lib.hid (HeldL.keep (HeldL.alloc H11.out (w11.heap.size) #[.bool false, .string ⟨#[55]⟩, .int .i64 0] 28 (by simp)) hb)
        clear H11
        clear hb
        go_wp2
        go_ret
        exact ⟨rfl, (HeldL.alloc H12.out (w12.heap.size) #[.bool v.neg, S v.i, S v.f] 51 (by simp)).bel⟩
      | false =>
        have K1 : Hid (¬ kd = 1) := Lib.hid (by simpa using hk1)
        cases hk2 : (kd == 2) with
        | false =>
          have K2 : Hid (¬ kd = 2) := Lib.hid (by simpa using hk2)
          have HV : Hid (validP ⟨kd, mn, mx, ⟨n, dgs L, e⟩, mo, mi⟩ = false) := Lib.hid (by rw [VG.out, if_neg K0.out, if_neg K1.out, if_neg K2.out])
          have H9 : Hid (HeldL w [(w4.heap.size, #[.bool d.neg, S d.l, .int .i64 d.e]), (w2.heap.size, #[.int .i64 kd, .int .i64 mn, .int .i64 mx, .bool n, S (dgs L), .int .i64 e, .int .i64 mo, .int .i64 mi]), (w.heap.size, #[.bool n, .slice a len cap, .int .i64 e])] wc) := HR
          have bp0 : wc.cell? ⟨w2.heap.size, 0, none⟩ = some (.int .i64 kd) := (H9.out.f (List.Mem.tail _ (List.Mem.head _))).cell 0
          have bp1 : wc.cell? ⟨w2.heap.size, 1, none⟩ = some (.int .i64 mn) := (H9.out.f (List.Mem.tail _ (List.Mem.head _))).cell 1
          have bp2 : wc.cell? ⟨w2.heap.size, 2, none⟩ = some (.int .i64 mx) := (H9.out.f (List.Mem.tail _ (List.Mem.head _))).cell 2
          have bp3 : wc.cell? ⟨w2.heap.size, 3, none⟩ = some (.bool n) := (H9.out.f (List.Mem.tail _ (List.Mem.head _))).cell 3
          have bp4 : wc.cell? ⟨w2.heap.size, 4, none⟩ = some (S (dgs L)) := (H9.out.f (List.Mem.tail _ (List.Mem.head _))).cell 4
          have bp5 : wc.cell? ⟨w2.heap.size, 5, none⟩ = some (.int .i64 e) := (H9.out.f (List.Mem.tail _ (List.Mem.head _))).cell 5
          have bp6 : wc.cell? ⟨w2.heap.size, 6, none⟩ = some (.int .i64 mo) := (H9.out.f (List.Mem.tail _ (List.Mem.head _))).cell 6
          have bp7 : wc.cell? ⟨w2.heap.size, 7, none⟩ = some (.int .i64 mi) := (H9.out.f (List.Mem.tail _ (List.Mem.head _))).cell 7
          have bpl : w2.heap.size < wc.heap.size := (H9.out.f (List.Mem.tail _ (List.Mem.head _))).lt
          have bd0 : wc.cell? ⟨w4.heap.size, 0, none⟩ = some (.bool d.neg) := (H9.out.f (List.Mem.head _)).cell 0
          have bd1 : wc.cell? ⟨w4.heap.size, 1, none⟩ = some (S d.l) := (H9.out.f (List.Mem.head _)).cell 1
          have bd2 : wc.cell? ⟨w4.heap.size, 2, none⟩ = some (.int .i64 d.e) := (H9.out.f (List.Mem.head _)).cell 2
          have bdl : w4.heap.size < wc.heap.size := (H9.out.f (List.Mem.head _)).lt
          go_wp2_with fail
          with_reducible refine (valid_as ⟨kd, mn, mx, ⟨n, dgs L, e⟩, mo, mi⟩ _ LL false HV.out).mono ?_
          rintro x w10 ⟨rfl, hb⟩
          clear bp0 bp1 bp2 bp3 bp4 bp5 bp6 bp7 bpl bd0 bd1 bd2 bdl
          have H10 : Hid (HeldL w [(w4.heap.size, #[.bool d.neg, S d.l, .int .i64 d.e]), (w2.heap.size, #[.int .i64 kd, .int .i64 mn, .int .i64 mx, .bool n, S (dgs L), .int .i64 e, .int .i64 mo, .int .i64 mi]), (w.heap.size, #[.bool n, .slice a len cap, .int .i64 e])] w10) := Lib.hid (HeldL.keep H9.out hb)
          clear H9
          clear hb
          have bp0 : w10.cell? ⟨w2.heap.size, 0, none⟩ = some (.int .i64 kd) := (H10.out.f (List.Mem.tail _ (List.Mem.head _))).cell 0
          have bp1 : w10.cell? ⟨w2.heap.size, 1, none⟩ = some (.int .i64 mn) := (H10.out.f (List.Mem.tail _ (List.Mem.head _))).cell 1
          have bp2 : w10.cell? ⟨w2.heap.size, 2, none⟩ = some (.int .i64 mx) := (H10.out.f (List.Mem.tail _ (List.Mem.head _))).cell 2
          have bp3 : w10.cell? ⟨w2.heap.size, 3, none⟩ = some (.bool n) := (H10.out.f (List.Mem.tail _ (List.Mem.head _))).cell 3
          have bp4 : w10.cell? ⟨w2.heap.size, 4, none⟩ = some (S (dgs L)) := (H10.out.f (List.Mem.tail _ (List.Mem.head _))).cell 4
          have bp5 : w10.cell? ⟨w2.heap.size, 5, none⟩ = some (.int .i64 e) := (H10.out.f (List.Mem.tail _ (List.Mem.head _))).cell 5
          have bp6 : w10.cell? ⟨w2.heap.size, 6, none⟩ = some (.int .i64 mo) := (H10.out.f (List.Mem.tail _ (List.Mem.head _))).cell 6
          have bp7 : w10.cell? ⟨w2.heap.size, 7, none⟩ = some (.int .i64 mi) := (H10.out.f (List.Mem.tail _ (List.Mem.head _))).cell 7
          have bpl : w2.heap.size < w10.heap.size := (H10.out.f (List.Mem.tail _ (List.Mem.head _))).lt
          go_wp2_with fail
          with_reducible refine (made_as false ⟨#[55]⟩ 0 _ (by decide) ⟨false, [55], 0⟩ (by decide)).mono ?_
          rintro x w11 ⟨rfl, hb⟩
          clear bp0 bp1 bp2 bp3 bp4 bp5 bp6 bp7 bpl
          have H11 : Hid (HeldL w [(w4.heap.size, #[.bool d.neg, S d.l, .int .i64 d.e]), (w2.heap.size, #[.int .i64 kd, .int .i64 mn, .int .i64 mx, .bool n, S (dgs L), .int .i64 e, .int .i64 mo, .int .i64 mi]), (w.heap.size, #[.bool n, .slice a len cap, .int .i64 e])] w11) := Lib.hid (HeldL.keep H10.out hb)
          clear H10
          clear hb
          have bp0 : w11.cell? ⟨w2.heap.size, 0, none⟩ = some (.int .i64 kd) := (H11.out.f (List.Mem.tail _ (List.Mem.head _))).cell 0
          have bp1 : w11.cell? ⟨w2.heap.size, 1, none⟩ = some (.int .i64 mn) := (H11.out.f (List.Mem.tail _ (List.Mem.head _))).cell 1
          have bp2 : w11.cell? ⟨w2.heap.size, 2, none⟩ = some (.int .i64 mx) := (H11.out.f (List.Mem.tail _ (List.Mem.head _))).cell 2
          have bp3 : w11.cell? ⟨w2.heap.size, 3, none⟩ = some (.bool n) := (H11.out.f (List.Mem.tail _ (List.Mem.head _))).cell 3
          have bp4 : w11.cell? ⟨w2.heap.size, 4, none⟩ = some (S (dgs L)) := (H11.out.f (List.Mem.tail _ (List.Mem.head _))).cell 4
          have bp5 : w11.cell? ⟨w2.heap.size, 5, none⟩ = some (.int .i64 e) := (H11.out.f (List.Mem.tail _ (List.Mem.head _))).cell 5
          have bp6 : w11.cell? ⟨w2.heap.size, 6, none⟩ = some (.int .i64 mo) := (H11.out.f (List.Mem.tail _ (List.Mem.head _))).cell 6
          have bp7 : w11.cell? ⟨w2.heap.size, 7, none⟩ = some (.int .i64 mi) := (H11.out.f (List.Mem.tail _ (List.Mem.head _))).cell 7
          have bpl : w2.heap.size < w11.heap.size := (H11.out.f (List.Mem.tail _ (List.Mem.head _))).lt
          go_wp2_with fail
          with_reducible refine (apply_b ⟨kd, mn, mx, ⟨n, dgs L, e⟩, mo, mi⟩ ⟨false, [55], 0⟩ _ LL HV.out).mono ?_
          rintro x w12 ⟨rfl, hb⟩
          clear bp0 bp1 bp2 bp3 bp4 bp5 bp6 bp7 bpl
          have H12 : Hid (HeldL w [(w11.heap.size, #[.bool false, .string ⟨#[55]⟩, .int .i64 0]), (w4.heap.size, #[.bool d.neg, S d.l, .int .i64 d.e]), (w2.heap.size, #[.int .i64 kd, .int .i64 mn, .int .i64 mx, .bool n, S (dgs L), .int .i64 e, .int .i64 mo, .int .i64 mi]), (w.heap.size, #[.bool n, .slice a len cap, .int .i64 e])] w12) := Lib.hid (HeldL.keep (HeldL.alloc H11.out (w11.heap.size) #[.bool false, .string ⟨#[55]⟩, .int .i64 0] 28 (by simp)) hb)
          clear H11
          clear hb
          have bp0 : w12.cell? ⟨w2.heap.size, 0, none⟩ = some (.int .i64 kd) := (H12.out.f (List.Mem.tail _ (List.Mem.tail _ (List.Mem.head _)))).cell 0
          have bp1 : w12.cell? ⟨w2.heap.size, 1, none⟩ = some (.int .i64 mn) := (H12.out.f (List.Mem.tail _ (List.Mem.tail _ (List.Mem.head _)))).cell 1
          have bp2 : w12.cell? ⟨w2.heap.size, 2, none⟩ = some (.int .i64 mx) := (H12.out.f (List.Mem.tail _ (List.Mem.tail _ (List.Mem.head _)))).cell 2
          have bp3 : w12.cell? ⟨w2.heap.size, 3, none⟩ = some (.bool n) := (H12.out.f (List.Mem.tail _ (List.Mem.tail _ (List.Mem.head _)))).cell 3
          have bp4 : w12.cell? ⟨w2.heap.size, 4, none⟩ = some (S (dgs L)) := (H12.out.f (List.Mem.tail _ (List.Mem.tail _ (List.Mem.head _)))).cell 4
          have bp5 : w12.cell? ⟨w2.heap.size, 5, none⟩ = some (.int .i64 e) := (H12.out.f (List.Mem.tail _ (List.Mem.tail _ (List.Mem.head _)))).cell 5
          have bp6 : w12.cell? ⟨w2.heap.size, 6, none⟩ = some (.int .i64 mo) := (H12.out.f (List.Mem.tail _ (List.Mem.tail _ (List.Mem.head _)))).cell 6
          have bp7 : w12.cell? ⟨w2.heap.size, 7, none⟩ = some (.int .i64 mi) := (H12.out.f (List.Mem.tail _ (List.Mem.tail _ (List.Mem.head _)))).cell 7
          have bpl : w2.heap.size < w12.heap.size := (H12.out.f (List.Mem.tail _ (List.Mem.tail _ (List.Mem.head _)))).lt
          have b70 : w12.cell? ⟨w11.heap.size, 0, none⟩ = some (.bool false) := (H12.out.f (List.Mem.head _)).cell 0
          have b71 : w12.cell? ⟨w11.heap.size, 1, none⟩ = some (.string ⟨#[55]⟩) := (H12.out.f (List.Mem.head _)).cell 1
          have b72 : w12.cell? ⟨w11.heap.size, 2, none⟩ = some (.int .i64 0) := (H12.out.f (List.Mem.head _)).cell 2
          have b7l : w11.heap.size < w12.heap.size := (H12.out.f (List.Mem.head _)).lt
          go_wp2_with fail
          with_reducible refine (roundP_b ⟨kd, mn, mx, ⟨n, dgs L, e⟩, mo, mi⟩ ⟨false, [55], 0⟩ _ LL (by decide) HV.out).mono ?_
          rintro x w13 ⟨rfl, hb⟩
          clear bp0 bp1 bp2 bp3 bp4 bp5 bp6 bp7 bpl b70 b71 b72 b7l
          have H13 : Hid (HeldL w [(w12.heap.size, #[.bool false, .string ⟨#[]⟩, .string ⟨#[]⟩]), (w11.heap.size, #[.bool false, .string ⟨#[55]⟩, .int .i64 0]), (w4.heap.size, #[.bool d.neg, S d.l, .int .i64 d.e]), (w2.heap.size, #[.int .i64 kd, .int .i64 mn, .int .i64 mx, .bool n, S (dgs L), .int .i64 e, .int .i64 mo, .int .i64 mi]), (w.heap.size, #[.bool n, .slice a len cap, .int .i64 e])] w13) := Lib.hid (HeldL.keep (HeldL.alloc H12.out (w12.heap.size) #[.bool false, .string ⟨#[]⟩, .string ⟨#[]⟩] 51 (by simp)) hb)
          clear H12
          clear hb
          go_wp2
          go_ret
          exact ⟨rfl, H13.out.bel⟩
        | true =>
          have K2 : Hid (kd = 2) := Lib.hid (by simpa using hk2)
          have VI : Hid (validP ⟨kd, mn, mx, ⟨n, dgs L, e⟩, mo, mi⟩ = vinc d) := Lib.hid (by rw [VG.out, if_neg K0.out, if_neg K1.out, if_pos K2.out]; show vinc (made n (dgs L) e) = _; rw [HD.out])
          obtain ⟨dn, dli, de⟩ := d
          simp only at *
          cases dn with
          | true =>
            have HV : Hid (validP ⟨kd, mn, mx, ⟨n, dgs L, e⟩, mo, mi⟩ = false) := Lib.hid (by rw [VI.out]; simp [vinc, wi])
            have H9 : Hid (HeldL w [(w4.heap.size, #[.bool true, S dli, .int .i64 de]), (w2.heap.size, #[.int .i64 kd, .int .i64 mn, .int .i64 mx, .bool n, S (dgs L), .int .i64 e, .int .i64 mo, .int .i64 mi]), (w.heap.size, #[.bool n, .slice a len cap, .int .i64 e])] wc) := HR
            have bp0 : wc.cell? ⟨w2.heap.size, 0, none⟩ = some (.int .i64 kd) := (H9.out.f (List.Mem.tail _ (List.Mem.head _))).cell 0
            have bp1 : wc.cell? ⟨w2.heap.size, 1, none⟩ = some (.int .i64 mn) := (H9.out.f (List.Mem.tail _ (List.Mem.head _))).cell 1
            have bp2 : wc.cell? ⟨w2.heap.size, 2, none⟩ = some (.int .i64 mx) := (H9.out.f (List.Mem.tail _ (List.Mem.head _))).cell 2
            have bp3 : wc.cell? ⟨w2.heap.size, 3, none⟩ = some (.bool n) := (H9.out.f (List.Mem.tail _ (List.Mem.head _))).cell 3
            have bp4 : wc.cell? ⟨w2.heap.size, 4, none⟩ = some (S (dgs L)) := (H9.out.f (List.Mem.tail _ (List.Mem.head _))).cell 4
            have bp5 : wc.cell? ⟨w2.heap.size, 5, none⟩ = some (.int .i64 e) := (H9.out.f (List.Mem.tail _ (List.Mem.head _))).cell 5
            have bp6 : wc.cell? ⟨w2.heap.size, 6, none⟩ = some (.int .i64 mo) := (H9.out.f (List.Mem.tail _ (List.Mem.head _))).cell 6
            have bp7 : wc.cell? ⟨w2.heap.size, 7, none⟩ = some (.int .i64 mi) := (H9.out.f (List.Mem.tail _ (List.Mem.head _))).cell 7
            have bpl : w2.heap.size < wc.heap.size := (H9.out.f (List.Mem.tail _ (List.Mem.head _))).lt
            have bd0 : wc.cell? ⟨w4.heap.size, 0, none⟩ = some (.bool true) := (H9.out.f (List.Mem.head _)).cell 0
            have bd1 : wc.cell? ⟨w4.heap.size, 1, none⟩ = some (S dli) := (H9.out.f (List.Mem.head _)).cell 1
            have bd2 : wc.cell? ⟨w4.heap.size, 2, none⟩ = some (.int .i64 de) := (H9.out.f (List.Mem.head _)).cell 2
            have bdl : w4.heap.size < wc.heap.size := (H9.out.f (List.Mem.head _)).lt
            go_wp2_with fail
            with_reducible refine (valid_as ⟨kd, mn, mx, ⟨n, dgs L, e⟩, mo, mi⟩ _ LL false HV.out).mono ?_
            rintro x w10 ⟨rfl, hb⟩
            clear bp0 bp1 bp2 bp3 bp4 bp5 bp6 bp7 bpl bd0 bd1 bd2 bdl
            have H10 : Hid (HeldL w [(w4.heap.size, #[.bool true, S dli, .int .i64 de]), (w2.heap.size, #[.int .i64 kd, .int .i64 mn, .int .i64 mx, .bool n, S (dgs L), .int .i64 e, .int .i64 mo, .int .i64 mi]), (w.heap.size, #[.bool n, .slice a len cap, .int .i64 e])] w10) := Lib.hid (HeldL.keep H9.out hb)
            clear H9
            clear hb
            have bp0 : w10.cell? ⟨w2.heap.size, 0, none⟩ = some (.int .i64 kd) := (H10.out.f (List.Mem.tail _ (List.Mem.head _))).cell 0
            have bp1 : w10.cell? ⟨w2.heap.size, 1, none⟩ = some (.int .i64 mn) := (H10.out.f (List.Mem.tail _ (List.Mem.head _))).cell 1
            have bp2 : w10.cell? ⟨w2.heap.size, 2, none⟩ = some (.int .i64 mx) := (H10.out.f (List.Mem.tail _ (List.Mem.head _))).cell 2
            have bp3 : w10.cell? ⟨w2.heap.size, 3, none⟩ = some (.bool n) := (H10.out.f (List.Mem.tail _ (List.Mem.head _))).cell 3
            have bp4 : w10.cell? ⟨w2.heap.size, 4, none⟩ = some (S (dgs L)) := (H10.out.f (List.Mem.tail _ (List.Mem.head _))).cell 4
            have bp5 : w10.cell? ⟨w2.heap.size, 5, none⟩ = some (.int .i64 e) := (H10.out.f (List.Mem.tail _ (List.Mem.head _))).cell 5
            have bp6 : w10.cell? ⟨w2.heap.size, 6, none⟩ = some (.int .i64 mo) := (H10.out.f (List.Mem.tail _ (List.Mem.head _))).cell 6
            have bp7 : w10.cell? ⟨w2.heap.size, 7, none⟩ = some (.int .i64 mi) := (H10.out.f (List.Mem.tail _ (List.Mem.head _))).cell 7
            have bpl : w2.heap.size < w10.heap.size := (H10.out.f (List.Mem.tail _ (List.Mem.head _))).lt
            go_wp2_with fail
            with_reducible refine (made_as false ⟨#[55]⟩ 0 _ (by decide) ⟨false, [55], 0⟩ (by decide)).mono ?_
            rintro x w11 ⟨rfl, hb⟩
            clear bp0 bp1 bp2 bp3 bp4 bp5 bp6 bp7 bpl
            have H11 : Hid (HeldL w [(w4.heap.size, #[.bool true, S dli, .int .i64 de]), (w2.heap.size, #[.int .i64 kd, .int .i64 mn, .int .i64 mx, .bool n, S (dgs L), .int .i64 e, .int .i64 mo, .int .i64 mi]), (w.heap.size, #[.bool n, .slice a len cap, .int .i64 e])] w11) := Lib.hid (HeldL.keep H10.out hb)
            clear H10
            clear hb
            have bp0 : w11.cell? ⟨w2.heap.size, 0, none⟩ = some (.int .i64 kd) := (H11.out.f (List.Mem.tail _ (List.Mem.head _))).cell 0
            have bp1 : w11.cell? ⟨w2.heap.size, 1, none⟩ = some (.int .i64 mn) := (H11.out.f (List.Mem.tail _ (List.Mem.head _))).cell 1
            have bp2 : w11.cell? ⟨w2.heap.size, 2, none⟩ = some (.int .i64 mx) := (H11.out.f (List.Mem.tail _ (List.Mem.head _))).cell 2
            have bp3 : w11.cell? ⟨w2.heap.size, 3, none⟩ = some (.bool n) := (H11.out.f (List.Mem.tail _ (List.Mem.head _))).cell 3
            have bp4 : w11.cell? ⟨w2.heap.size, 4, none⟩ = some (S (dgs L)) := (H11.out.f (List.Mem.tail _ (List.Mem.head _))).cell 4
            have bp5 : w11.cell? ⟨w2.heap.size, 5, none⟩ = some (.int .i64 e) := (H11.out.f (List.Mem.tail _ (List.Mem.head _))).cell 5
            have bp6 : w11.cell? ⟨w2.heap.size, 6, none⟩ = some (.int .i64 mo) := (H11.out.f (List.Mem.tail _ (List.Mem.head _))).cell 6
            have bp7 : w11.cell? ⟨w2.heap.size, 7, none⟩ = some (.int .i64 mi) := (H11.out.f (List.Mem.tail _ (List.Mem.head _))).cell 7
            have bpl : w2.heap.size < w11.heap.size := (H11.out.f (List.Mem.tail _ (List.Mem.head _))).lt
            go_wp2_with fail
            with_reducible refine (apply_b ⟨kd, mn, mx, ⟨n, dgs L, e⟩, mo, mi⟩ ⟨false, [55], 0⟩ _ LL HV.out).mono ?_
            rintro x w12 ⟨rfl, hb⟩
            clear bp0 bp1 bp2 bp3 bp4 bp5 bp6 bp7 bpl
            have H12 : Hid (HeldL w [(w11.heap.size, #[.bool false, .string ⟨#[55]⟩, .int .i64 0]), (w4.heap.size, #[.bool true, S dli, .int .i64 de]), (w2.heap.size, #[.int .i64 kd, .int .i64 mn, .int .i64 mx, .bool n, S (dgs L), .int .i64 e, .int .i64 mo, .int .i64 mi]), (w.heap.size, #[.bool n, .slice a len cap, .int .i64 e])] w12) := Lib.hid (HeldL.keep (HeldL.alloc H11.out (w11.heap.size) #[.bool false, .string ⟨#[55]⟩, .int .i64 0] 28 (by simp)) hb)
            clear H11
            clear hb
            have bp0 : w12.cell? ⟨w2.heap.size, 0, none⟩ = some (.int .i64 kd) := (H12.out.f (List.Mem.tail _ (List.Mem.tail _ (List.Mem.head _)))).cell 0
            have bp1 : w12.cell? ⟨w2.heap.size, 1, none⟩ = some (.int .i64 mn) := (H12.out.f (List.Mem.tail _ (List.Mem.tail _ (List.Mem.head _)))).cell 1
            have bp2 : w12.cell? ⟨w2.heap.size, 2, none⟩ = some (.int .i64 mx) := (H12.out.f (List.Mem.tail _ (List.Mem.tail _ (List.Mem.head _)))).cell 2
            have bp3 : w12.cell? ⟨w2.heap.size, 3, none⟩ = some (.bool n) := (H12.out.f (List.Mem.tail _ (List.Mem.tail _ (List.Mem.head _)))).cell 3
            have bp4 : w12.cell? ⟨w2.heap.size, 4, none⟩ = some (S (dgs L)) := (H12.out.f (List.Mem.tail _ (List.Mem.tail _ (List.Mem.head _)))).cell 4
            have bp5 : w12.cell? ⟨w2.heap.size, 5, none⟩ = some (.int .i64 e) := (H12.out.f (List.Mem.tail _ (List.Mem.tail _ (List.Mem.head _)))).cell 5
            have bp6 : w12.cell? ⟨w2.heap.size, 6, none⟩ = some (.int .i64 mo) := (H12.out.f (List.Mem.tail _ (List.Mem.tail _ (List.Mem.head _)))).cell 6
            have bp7 : w12.cell? ⟨w2.heap.size, 7, none⟩ = some (.int .i64 mi) := (H12.out.f (List.Mem.tail _ (List.Mem.tail _ (List.Mem.head _)))).cell 7
            have bpl : w2.heap.size < w12.heap.size := (H12.out.f (List.Mem.tail _ (List.Mem.tail _ (List.Mem.head _)))).lt
            have b70 : w12.cell? ⟨w11.heap.size, 0, none⟩ = some (.bool false) := (H12.out.f (List.Mem.head _)).cell 0
            have b71 : w12.cell? ⟨w11.heap.size, 1, none⟩ = some (.string ⟨#[55]⟩) := (H12.out.f (List.Mem.head _)).cell 1
            have b72 : w12.cell? ⟨w11.heap.size, 2, none⟩ = some (.int .i64 0) := (H12.out.f (List.Mem.head _)).cell 2
            have b7l : w11.heap.size < w12.heap.size := (H12.out.f (List.Mem.head _)).lt
            go_wp2_with fail
            with_reducible refine (roundP_b ⟨kd, mn, mx, ⟨n, dgs L, e⟩, mo, mi⟩ ⟨false, [55], 0⟩ _ LL (by decide) HV.out).mono ?_
            rintro x w13 ⟨rfl, hb⟩
            clear bp0 bp1 bp2 bp3 bp4 bp5 bp6 bp7 bpl b70 b71 b72 b7l
            have H13 : Hid (HeldL w [(w12.heap.size, #[.bool false, .string ⟨#[]⟩, .string ⟨#[]⟩]), (w11.heap.size, #[.bool false, .string ⟨#[55]⟩, .int .i64 0]), (w4.heap.size, #[.bool true, S dli, .int .i64 de]), (w2.heap.size, #[.int .i64 kd, .int .i64 mn, .int .i64 mx, .bool n, S (dgs L), .int .i64 e, .int .i64 mo, .int .i64 mi]), (w.heap.size, #[.bool n, .slice a len cap, .int .i64 e])] w13) := Lib.hid (HeldL.keep (HeldL.alloc H12.out (w12.heap.size) #[.bool false, .string ⟨#[]⟩, .string ⟨#[]⟩] 51 (by simp)) hb)
            clear H12
            clear hb
            go_wp2
            go_ret
            exact ⟨rfl, H13.out.bel⟩
          | false =>
            have dl0 : (0 : Int) ≤ dli.length := by omega
            by_cases s1 : 1 ≤ (dli.length : Int)
            case neg =>
              have dnil : dli = [] := List.eq_nil_of_length_eq_zero (by omega)
              have DN := Lib.hid dnil
              clear dnil
              have HV : Hid (validP ⟨kd, mn, mx, ⟨n, dgs L, e⟩, mo, mi⟩ = false) := Lib.hid (by rw [VI.out]; simp [vinc, DN.out])
              have H9 : Hid (HeldL w [(w4.heap.size, #[.bool false, S dli, .int .i64 de]), (w2.heap.size, #[.int .i64 kd, .int .i64 mn, .int .i64 mx, .bool n, S (dgs L), .int .i64 e, .int .i64 mo, .int .i64 mi]), (w.heap.size, #[.bool n, .slice a len cap, .int .i64 e])] wc) := HR
              have bp0 : wc.cell? ⟨w2.heap.size, 0, none⟩ = some (.int .i64 kd) := (H9.out.f (List.Mem.tail _ (List.Mem.head _))).cell 0
              have bp1 : wc.cell? ⟨w2.heap.size, 1, none⟩ = some (.int .i64 mn) := (H9.out.f (List.Mem.tail _ (List.Mem.head _))).cell 1
              have bp2 : wc.cell? ⟨w2.heap.size, 2, none⟩ = some (.int .i64 mx) := (H9.out.f (List.Mem.tail _ (List.Mem.head _))).cell 2
              have bp3 : wc.cell? ⟨w2.heap.size, 3, none⟩ = some (.bool n) := (H9.out.f (List.Mem.tail _ (List.Mem.head _))).cell 3
              have bp4 : wc.cell? ⟨w2.heap.size, 4, none⟩ = some (S (dgs L)) := (H9.out.f (List.Mem.tail _ (List.Mem.head _))).cell 4
              have bp5 : wc.cell? ⟨w2.heap.size, 5, none⟩ = some (.int .i64 e) := (H9.out.f (List.Mem.tail _ (List.Mem.head _))).cell 5
              have bp6 : wc.cell? ⟨w2.heap.size, 6, none⟩ = some (.int .i64 mo) := (H9.out.f (List.Mem.tail _ (List.Mem.head _))).cell 6
              have bp7 : wc.cell? ⟨w2.heap.size, 7, none⟩ = some (.int .i64 mi) := (H9.out.f (List.Mem.tail _ (List.Mem.head _))).cell 7
              have bpl : w2.heap.size < wc.heap.size := (H9.out.f (List.Mem.tail _ (List.Mem.head _))).lt
              have bd0 : wc.cell? ⟨w4.heap.size, 0, none⟩ = some (.bool false) := (H9.out.f (List.Mem.head _)).cell 0
              have bd1 : wc.cell? ⟨w4.heap.size, 1, none⟩ = some (S dli) := (H9.out.f (List.Mem.head _)).cell 1
              have bd2 : wc.cell? ⟨w4.heap.size, 2, none⟩ = some (.int .i64 de) := (H9.out.f (List.Mem.head _)).cell 2
              have bdl : w4.heap.size < wc.heap.size := (H9.out.f (List.Mem.head _)).lt
              go_wp2_with fail
              with_reducible refine (valid_as ⟨kd, mn, mx, ⟨n, dgs L, e⟩, mo, mi⟩ _ LL false HV.out).mono ?_
              rintro x w10 ⟨rfl, hb⟩
              clear bp0 bp1 bp2 bp3 bp4 bp5 bp6 bp7 bpl bd0 bd1 bd2 bdl
              have H10 : Hid (HeldL w [(w4.heap.size, #[.bool false, S dli, .int .i64 de]), (w2.heap.size, #[.int .i64 kd, .int .i64 mn, .int .i64 mx, .bool n, S (dgs L), .int .i64 e, .int .i64 mo, .int .i64 mi]), (w.heap.size, #[.bool n, .slice a len cap, .int .i64 e])] w10) := Lib.hid (HeldL.keep H9.out hb)
              clear H9
              clear hb
              have bp0 : w10.cell? ⟨w2.heap.size, 0, none⟩ = some (.int .i64 kd) := (H10.out.f (List.Mem.tail _ (List.Mem.head _))).cell 0
              have bp1 : w10.cell? ⟨w2.heap.size, 1, none⟩ = some (.int .i64 mn) := (H10.out.f (List.Mem.tail _ (List.Mem.head _))).cell 1
              have bp2 : w10.cell? ⟨w2.heap.size, 2, none⟩ = some (.int .i64 mx) := (H10.out.f (List.Mem.tail _ (List.Mem.head _))).cell 2
              have bp3 : w10.cell? ⟨w2.heap.size, 3, none⟩ = some (.bool n) := (H10.out.f (List.Mem.tail _ (List.Mem.head _))).cell 3
              have bp4 : w10.cell? ⟨w2.heap.size, 4, none⟩ = some (S (dgs L)) := (H10.out.f (List.Mem.tail _ (List.Mem.head _))).cell 4
              have bp5 : w10.cell? ⟨w2.heap.size, 5, none⟩ = some (.int .i64 e) := (H10.out.f (List.Mem.tail _ (List.Mem.head _))).cell 5
              have bp6 : w10.cell? ⟨w2.heap.size, 6, none⟩ = some (.int .i64 mo) := (H10.out.f (List.Mem.tail _ (List.Mem.head _))).cell 6
              have bp7 : w10.cell? ⟨w2.heap.size, 7, none⟩ = some (.int .i64 mi) := (H10.out.f (List.Mem.tail _ (List.Mem.head _))).cell 7
              have bpl : w2.heap.size < w10.heap.size := (H10.out.f (List.Mem.tail _ (List.Mem.head _))).lt
              go_wp2_with fail
              with_reducible refine (made_as false ⟨#[55]⟩ 0 _ (by decide) ⟨false, [55], 0⟩ (by decide)).mono ?_
              rintro x w11 ⟨rfl, hb⟩
              clear bp0 bp1 bp2 bp3 bp4 bp5 bp6 bp7 bpl
              have H11 : Hid (HeldL w [(w4.heap.size, #[.bool false, S dli, .int .i64 de]), (w2.heap.size, #[.int .i64 kd, .int .i64 mn, .int .i64 mx, .bool n, S (dgs L), .int .i64 e, .int .i64 mo, .int .i64 mi]), (w.heap.size, #[.bool n, .slice a len cap, .int .i64 e])] w11) := Lib.hid (HeldL.keep H10.out hb)
              clear H10
              clear hb
              have bp0 : w11.cell? ⟨w2.heap.size, 0, none⟩ = some (.int .i64 kd) := (H11.out.f (List.Mem.tail _ (List.Mem.head _))).cell 0
              have bp1 : w11.cell? ⟨w2.heap.size, 1, none⟩ = some (.int .i64 mn) := (H11.out.f (List.Mem.tail _ (List.Mem.head _))).cell 1
              have bp2 : w11.cell? ⟨w2.heap.size, 2, none⟩ = some (.int .i64 mx) := (H11.out.f (List.Mem.tail _ (List.Mem.head _))).cell 2
              have bp3 : w11.cell? ⟨w2.heap.size, 3, none⟩ = some (.bool n) := (H11.out.f (List.Mem.tail _ (List.Mem.head _))).cell 3
              have bp4 : w11.cell? ⟨w2.heap.size, 4, none⟩ = some (S (dgs L)) := (H11.out.f (List.Mem.tail _ (List.Mem.head _))).cell 4
              have bp5 : w11.cell? ⟨w2.heap.size, 5, none⟩ = some (.int .i64 e) := (H11.out.f (List.Mem.tail _ (List.Mem.head _))).cell 5
              have bp6 : w11.cell? ⟨w2.heap.size, 6, none⟩ = some (.int .i64 mo) := (H11.out.f (List.Mem.tail _ (List.Mem.head _))).cell 6
              have bp7 : w11.cell? ⟨w2.heap.size, 7, none⟩ = some (.int .i64 mi) := (H11.out.f (List.Mem.tail _ (List.Mem.head _))).cell 7
              have bpl : w2.heap.size < w11.heap.size := (H11.out.f (List.Mem.tail _ (List.Mem.head _))).lt
              go_wp2_with fail
              with_reducible refine (apply_b ⟨kd, mn, mx, ⟨n, dgs L, e⟩, mo, mi⟩ ⟨false, [55], 0⟩ _ LL HV.out).mono ?_
              rintro x w12 ⟨rfl, hb⟩
              clear bp0 bp1 bp2 bp3 bp4 bp5 bp6 bp7 bpl
              have H12 : Hid (HeldL w [(w11.heap.size, #[.bool false, .string ⟨#[55]⟩, .int .i64 0]), (w4.heap.size, #[.bool false, S dli, .int .i64 de]), (w2.heap.size, #[.int .i64 kd, .int .i64 mn, .int .i64 mx, .bool n, S (dgs L), .int .i64 e, .int .i64 mo, .int .i64 mi]), (w.heap.size, #[.bool n, .slice a len cap, .int .i64 e])] w12) := Lib.hid (HeldL.keep (HeldL.alloc H11.out (w11.heap.size) #[.bool false, .string ⟨#[55]⟩, .int .i64 0] 28 (by simp)) hb)
              clear H11
              clear hb
              have bp0 : w12.cell? ⟨w2.heap.size, 0, none⟩ = some (.int .i64 kd) := (H12.out.f (List.Mem.tail _ (List.Mem.tail _ (List.Mem.head _)))).cell 0
              have bp1 : w12.cell? ⟨w2.heap.size, 1, none⟩ = some (.int .i64 mn) := (H12.out.f (List.Mem.tail _ (List.Mem.tail _ (List.Mem.head _)))).cell 1
              have bp2 : w12.cell? ⟨w2.heap.size, 2, none⟩ = some (.int .i64 mx) := (H12.out.f (List.Mem.tail _ (List.Mem.tail _ (List.Mem.head _)))).cell 2
              have bp3 : w12.cell? ⟨w2.heap.size, 3, none⟩ = some (.bool n) := (H12.out.f (List.Mem.tail _ (List.Mem.tail _ (List.Mem.head _)))).cell 3
              have bp4 : w12.cell? ⟨w2.heap.size, 4, none⟩ = some (S (dgs L)) := (H12.out.f (List.Mem.tail _ (List.Mem.tail _ (List.Mem.head _)))).cell 4
              have bp5 : w12.cell? ⟨w2.heap.size, 5, none⟩ = some (.int .i64 e) := (H12.out.f (List.Mem.tail _ (List.Mem.tail _ (List.Mem.head _)))).cell 5
              have bp6 : w12.cell? ⟨w2.heap.size, 6, none⟩ = some (.int .i64 mo) := (H12.out.f (List.Mem.tail _ (List.Mem.tail _ (List.Mem.head _)))).cell 6
              have bp7 : w12.cell? ⟨w2.heap.size, 7, none⟩ = some (.int .i64 mi) := (H12.out.f (List.Mem.tail _ (List.Mem.tail _ (List.Mem.head _)))).cell 7
              have bpl : w2.heap.size < w12.heap.size := (H12.out.f (List.Mem.tail _ (List.Mem.tail _ (List.Mem.head _)))).lt
              have b70 : w12.cell? ⟨w11.heap.size, 0, none⟩ = some (.bool false) := (H12.out.f (List.Mem.head _)).cell 0
              have b71 : w12.cell? ⟨w11.heap.size, 1, none⟩ = some (.string ⟨#[55]⟩) := (H12.out.f (List.Mem.head _)).cell 1
              have b72 : w12.cell? ⟨w11.heap.size, 2, none⟩ = some (.int .i64 0) := (H12.out.f (List.Mem.head _)).cell 2
              have b7l : w11.heap.size < w12.heap.size := (H12.out.f (List.Mem.head _)).lt
              go_wp2_with fail
              with_reducible refine (roundP_b ⟨kd, mn, mx, ⟨n, dgs L, e⟩, mo, mi⟩ ⟨false, [55], 0⟩ _ LL (by decide) HV.out).mono ?_
              rintro x w13 ⟨rfl, hb⟩
              clear bp0 bp1 bp2 bp3 bp4 bp5 bp6 bp7 bpl b70 b71 b72 b7l
              have H13 : Hid (HeldL w [(w12.heap.size, #[.bool false, .string ⟨#[]⟩, .string ⟨#[]⟩]), (w11.heap.size, #[.bool false, .string ⟨#[55]⟩, .int .i64 0]), (w4.heap.size, #[.bool false, S dli, .int .i64 de]), (w2.heap.size, #[.int .i64 kd, .int .i64 mn, .int .i64 mx, .bool n, S (dgs L), .int .i64 e, .int .i64 mo, .int .i64 mi]), (w.heap.size, #[.bool n, .slice a len cap, .int .i64 e])] w13) := Lib.hid (HeldL.keep (HeldL.alloc H12.out (w12.heap.size) #[.bool false, .string ⟨#[]⟩, .string ⟨#[]⟩] 51 (by simp)) hb)
              clear H12
              clear hb
              go_wp2
              go_ret
              exact ⟨rfl, H13.out.bel⟩
            have DNE : Hid (dli.isEmpty = false) := Lib.hid (by cases dli with | nil => simp at s1 | cons _ _ => rfl)
            by_cases s2 : (dli.length : Int) ≤ 9
            case neg =>
              have HV : Hid (validP ⟨kd, mn, mx, ⟨n, dgs L, e⟩, mo, mi⟩ = false) := Lib.hid (by rw [VI.out]; simp [vinc]; omega)
              have H9 : Hid (HeldL w [(w4.heap.size, #[.bool false, S dli, .int .i64 de]), (w2.heap.size, #[.int .i64 kd, .int .i64 mn, .int .i64 mx, .bool n, S (dgs L), .int .i64 e, .int .i64 mo, .int .i64 mi]), (w.heap.size, #[.bool n, .slice a len cap, .int .i64 e])] wc) := HR
              have bp0 : wc.cell? ⟨w2.heap.size, 0, none⟩ = some (.int .i64 kd) := (H9.out.f (List.Mem.tail _ (List.Mem.head _))).cell 0
              have bp1 : wc.cell? ⟨w2.heap.size, 1, none⟩ = some (.int .i64 mn) := (H9.out.f (List.Mem.tail _ (List.Mem.head _))).cell 1
              have bp2 : wc.cell? ⟨w2.heap.size, 2, none⟩ = some (.int .i64 mx) := (H9.out.f (List.Mem.tail _ (List.Mem.head _))).cell 2
              have bp3 : wc.cell? ⟨w2.heap.size, 3, none⟩ = some (.bool n) := (H9.out.f (List.Mem.tail _ (List.Mem.head _))).cell 3
              have bp4 : wc.cell? ⟨w2.heap.size, 4, none⟩ = some (S (dgs L)) := (H9.out.f (List.Mem.tail _ (List.Mem.head _))).cell 4
              have bp5 : wc.cell? ⟨w2.heap.size, 5, none⟩ = some (.int .i64 e) := (H9.out.f (List.Mem.tail _ (List.Mem.head _))).cell 5
              have bp6 : wc.cell? ⟨w2.heap.size, 6, none⟩ = some (.int .i64 mo) := (H9.out.f (List.Mem.tail _ (List.Mem.head _))).cell 6
              have bp7 : wc.cell? ⟨w2.heap.size, 7, none⟩ = some (.int .i64 mi) := (H9.out.f (List.Mem.tail _ (List.Mem.head _))).cell 7
              have bpl : w2.heap.size < wc.heap.size := (H9.out.f (List.Mem.tail _ (List.Mem.head _))).lt
              have bd0 : wc.cell? ⟨w4.heap.size, 0, none⟩ = some (.bool false) := (H9.out.f (List.Mem.head _)).cell 0
              have bd1 : wc.cell? ⟨w4.heap.size, 1, none⟩ = some (S dli) := (H9.out.f (List.Mem.head _)).cell 1
              have bd2 : wc.cell? ⟨w4.heap.size, 2, none⟩ = some (.int .i64 de) := (H9.out.f (List.Mem.head _)).cell 2
              have bdl : w4.heap.size < wc.heap.size := (H9.out.f (List.Mem.head _)).lt
              go_wp2_with fail
              with_reducible refine (valid_as ⟨kd, mn, mx, ⟨n, dgs L, e⟩, mo, mi⟩ _ LL false HV.out).mono ?_
              rintro x w10 ⟨rfl, hb⟩
              clear bp0 bp1 bp2 bp3 bp4 bp5 bp6 bp7 bpl bd0 bd1 bd2 bdl
              have H10 : Hid (HeldL w [(w4.heap.size, #[.bool false, S dli, .int .i64 de]), (w2.heap.size, #[.int .i64 kd, .int .i64 mn, .int .i64 mx, .bool n, S (dgs L), .int .i64 e, .int .i64 mo, .int .i64 mi]), (w.heap.size, #[.bool n, .slice a len cap, .int .i64 e])] w10) := Lib.hid (HeldL.keep H9.out hb)
              clear H9
              clear hb
              have bp0 : w10.cell? ⟨w2.heap.size, 0, none⟩ = some (.int .i64 kd) := (H10.out.f (List.Mem.tail _ (List.Mem.head _))).cell 0
              have bp1 : w10.cell? ⟨w2.heap.size, 1, none⟩ = some (.int .i64 mn) := (H10.out.f (List.Mem.tail _ (List.Mem.head _))).cell 1
              have bp2 : w10.cell? ⟨w2.heap.size, 2, none⟩ = some (.int .i64 mx) := (H10.out.f (List.Mem.tail _ (List.Mem.head _))).cell 2
              have bp3 : w10.cell? ⟨w2.heap.size, 3, none⟩ = some (.bool n) := (H10.out.f (List.Mem.tail _ (List.Mem.head _))).cell 3
              have bp4 : w10.cell? ⟨w2.heap.size, 4, none⟩ = some (S (dgs L)) := (H10.out.f (List.Mem.tail _ (List.Mem.head _))).cell 4
              have bp5 : w10.cell? ⟨w2.heap.size, 5, none⟩ = some (.int .i64 e) := (H10.out.f (List.Mem.tail _ (List.Mem.head _))).cell 5
              have bp6 : w10.cell? ⟨w2.heap.size, 6, none⟩ = some (.int .i64 mo) := (H10.out.f (List.Mem.tail _ (List.Mem.head _))).cell 6
              have bp7 : w10.cell? ⟨w2.heap.size, 7, none⟩ = some (.int .i64 mi) := (H10.out.f (List.Mem.tail _ (List.Mem.head _))).cell 7
              have bpl : w2.heap.size < w10.heap.size := (H10.out.f (List.Mem.tail _ (List.Mem.head _))).lt
              go_wp2_with fail
              with_reducible refine (made_as false ⟨#[55]⟩ 0 _ (by decide) ⟨false, [55], 0⟩ (by decide)).mono ?_
              rintro x w11 ⟨rfl, hb⟩
              clear bp0 bp1 bp2 bp3 bp4 bp5 bp6 bp7 bpl
              have H11 : Hid (HeldL w [(w4.heap.size, #[.bool false, S dli, .int .i64 de]), (w2.heap.size, #[.int .i64 kd, .int .i64 mn, .int .i64 mx, .bool n, S (dgs L), .int .i64 e, .int .i64 mo, .int .i64 mi]), (w.heap.size, #[.bool n, .slice a len cap, .int .i64 e])] w11) := Lib.hid (HeldL.keep H10.out hb)
              clear H10
              clear hb
              have bp0 : w11.cell? ⟨w2.heap.size, 0, none⟩ = some (.int .i64 kd) := (H11.out.f (List.Mem.tail _ (List.Mem.head _))).cell 0
              have bp1 : w11.cell? ⟨w2.heap.size, 1, none⟩ = some (.int .i64 mn) := (H11.out.f (List.Mem.tail _ (List.Mem.head _))).cell 1
              have bp2 : w11.cell? ⟨w2.heap.size, 2, none⟩ = some (.int .i64 mx) := (H11.out.f (List.Mem.tail _ (List.Mem.head _))).cell 2
              have bp3 : w11.cell? ⟨w2.heap.size, 3, none⟩ = some (.bool n) := (H11.out.f (List.Mem.tail _ (List.Mem.head _))).cell 3
              have bp4 : w11.cell? ⟨w2.heap.size, 4, none⟩ = some (S (dgs L)) := (H11.out.f (List.Mem.tail _ (List.Mem.head _))).cell 4
              have bp5 : w11.cell? ⟨w2.heap.size, 5, none⟩ = some (.int .i64 e) := (H11.out.f (List.Mem.tail _ (List.Mem.head _))).cell 5
              have bp6 : w11.cell? ⟨w2.heap.size, 6, none⟩ = some (.int .i64 mo) := (H11.out.f (List.Mem.tail _ (List.Mem.head _))).cell 6
              have bp7 : w11.cell? ⟨w2.heap.size, 7, none⟩ = some (.int .i64 mi) := (H11.out.f (List.Mem.tail _ (List.Mem.head _))).cell 7
              have bpl : w2.heap.size < w11.heap.size := (H11.out.f (List.Mem.tail _ (List.Mem.head _))).lt
              go_wp2_with fail
              with_reducible refine (apply_b ⟨kd, mn, mx, ⟨n, dgs L, e⟩, mo, mi⟩ ⟨false, [55], 0⟩ _ LL HV.out).mono ?_
              rintro x w12 ⟨rfl, hb⟩
              clear bp0 bp1 bp2 bp3 bp4 bp5 bp6 bp7 bpl
              have H12 : Hid (HeldL w [(w11.heap.size, #[.bool false, .string ⟨#[55]⟩, .int .i64 0]), (w4.heap.size, #[.bool false, S dli, .int .i64 de]), (w2.heap.size, #[.int .i64 kd, .int .i64 mn, .int .i64 mx, .bool n, S (dgs L), .int .i64 e, .int .i64 mo, .int .i64 mi]), (w.heap.size, #[.bool n, .slice a len cap, .int .i64 e])] w12) := Lib.hid (HeldL.keep (HeldL.alloc H11.out (w11.heap.size) #[.bool false, .string ⟨#[55]⟩, .int .i64 0] 28 (by simp)) hb)
              clear H11
              clear hb
              have bp0 : w12.cell? ⟨w2.heap.size, 0, none⟩ = some (.int .i64 kd) := (H12.out.f (List.Mem.tail _ (List.Mem.tail _ (List.Mem.head _)))).cell 0
              have bp1 : w12.cell? ⟨w2.heap.size, 1, none⟩ = some (.int .i64 mn) := (H12.out.f (List.Mem.tail _ (List.Mem.tail _ (List.Mem.head _)))).cell 1
              have bp2 : w12.cell? ⟨w2.heap.size, 2, none⟩ = some (.int .i64 mx) := (H12.out.f (List.Mem.tail _ (List.Mem.tail _ (List.Mem.head _)))).cell 2
              have bp3 : w12.cell? ⟨w2.heap.size, 3, none⟩ = some (.bool n) := (H12.out.f (List.Mem.tail _ (List.Mem.tail _ (List.Mem.head _)))).cell 3
              have bp4 : w12.cell? ⟨w2.heap.size, 4, none⟩ = some (S (dgs L)) := (H12.out.f (List.Mem.tail _ (List.Mem.tail _ (List.Mem.head _)))).cell 4
              have bp5 : w12.cell? ⟨w2.heap.size, 5, none⟩ = some (.int .i64 e) := (H12.out.f (List.Mem.tail _ (List.Mem.tail _ (List.Mem.head _)))).cell 5
              have bp6 : w12.cell? ⟨w2.heap.size, 6, none⟩ = some (.int .i64 mo) := (H12.out.f (List.Mem.tail _ (List.Mem.tail _ (List.Mem.head _)))).cell 6
              have bp7 : w12.cell? ⟨w2.heap.size, 7, none⟩ = some (.int .i64 mi) := (H12.out.f (List.Mem.tail _ (List.Mem.tail _ (List.Mem.head _)))).cell 7
              have bpl : w2.heap.size < w12.heap.size := (H12.out.f (List.Mem.tail _ (List.Mem.tail _ (List.Mem.head _)))).lt
              have b70 : w12.cell? ⟨w11.heap.size, 0, none⟩ = some (.bool false) := (H12.out.f (List.Mem.head _)).cell 0
              have b71 : w12.cell? ⟨w11.heap.size, 1, none⟩ = some (.string ⟨#[55]⟩) := (H12.out.f (List.Mem.head _)).cell 1
              have b72 : w12.cell? ⟨w11.heap.size, 2, none⟩ = some (.int .i64 0) := (H12.out.f (List.Mem.head _)).cell 2
              have b7l : w11.heap.size < w12.heap.size := (H12.out.f (List.Mem.head _)).lt
              go_wp2_with fail
              with_reducible refine (roundP_b ⟨kd, mn, mx, ⟨n, dgs L, e⟩, mo, mi⟩ ⟨false, [55], 0⟩ _ LL (by decide) HV.out).mono ?_
              rintro x w13 ⟨rfl, hb⟩
              clear bp0 bp1 bp2 bp3 bp4 bp5 bp6 bp7 bpl b70 b71 b72 b7l
              have H13 : Hid (HeldL w [(w12.heap.size, #[.bool false, .string ⟨#[]⟩, .string ⟨#[]⟩]), (w11.heap.size, #[.bool false, .string ⟨#[55]⟩, .int .i64 0]), (w4.heap.size, #[.bool false, S dli, .int .i64 de]), (w2.heap.size, #[.int .i64 kd, .int .i64 mn, .int .i64 mx, .bool n, S (dgs L), .int .i64 e, .int .i64 mo, .int .i64 mi]), (w.heap.size, #[.bool n, .slice a len cap, .int .i64 e])] w13) := Lib.hid (HeldL.keep (HeldL.alloc H12.out (w12.heap.size) #[.bool false, .string ⟨#[]⟩, .string ⟨#[]⟩] 51 (by simp)) hb)
              clear H12
              clear hb
              go_wp2
              go_ret
              exact ⟨rfl, H13.out.bel⟩
            by_cases s3 : -100 ≤ de
            case neg =>
              have HV : Hid (validP ⟨kd, mn, mx, ⟨n, dgs L, e⟩, mo, mi⟩ = false) := Lib.hid (by rw [VI.out]; simp [vinc, wi]; omega)
              have H9 : Hid (HeldL w [(w4.heap.size, #[.bool false, S dli, .int .i64 de]), (w2.heap.size, #[.int .i64 kd, .int .i64 mn, .int .i64 mx, .bool n, S (dgs L), .int .i64 e, .int .i64 mo, .int .i64 mi]), (w.heap.size, #[.bool n, .slice a len cap, .int .i64 e])] wc) := HR
              have bp0 : wc.cell? ⟨w2.heap.size, 0, none⟩ = some (.int .i64 kd) := (H9.out.f (List.Mem.tail _ (List.Mem.head _))).cell 0
              have bp1 : wc.cell? ⟨w2.heap.size, 1, none⟩ = some (.int .i64 mn) := (H9.out.f (List.Mem.tail _ (List.Mem.head _))).cell 1
              have bp2 : wc.cell? ⟨w2.heap.size, 2, none⟩ = some (.int .i64 mx) := (H9.out.f (List.Mem.tail _ (List.Mem.head _))).cell 2
              have bp3 : wc.cell? ⟨w2.heap.size, 3, none⟩ = some (.bool n) := (H9.out.f (List.Mem.tail _ (List.Mem.head _))).cell 3
              have bp4 : wc.cell? ⟨w2.heap.size, 4, none⟩ = some (S (dgs L)) := (H9.out.f (List.Mem.tail _ (List.Mem.head _))).cell 4
              have bp5 : wc.cell? ⟨w2.heap.size, 5, none⟩ = some (.int .i64 e) := (H9.out.f (List.Mem.tail _ (List.Mem.head _))).cell 5
              have bp6 : wc.cell? ⟨w2.heap.size, 6, none⟩ = some (.int .i64 mo) := (H9.out.f (List.Mem.tail _ (List.Mem.head _))).cell 6
              have bp7 : wc.cell? ⟨w2.heap.size, 7, none⟩ = some (.int .i64 mi) := (H9.out.f (List.Mem.tail _ (List.Mem.head _))).cell 7
              have bpl : w2.heap.size < wc.heap.size := (H9.out.f (List.Mem.tail _ (List.Mem.head _))).lt
              have bd0 : wc.cell? ⟨w4.heap.size, 0, none⟩ = some (.bool false) := (H9.out.f (List.Mem.head _)).cell 0
              have bd1 : wc.cell? ⟨w4.heap.size, 1, none⟩ = some (S dli) := (H9.out.f (List.Mem.head _)).cell 1
              have bd2 : wc.cell? ⟨w4.heap.size, 2, none⟩ = some (.int .i64 de) := (H9.out.f (List.Mem.head _)).cell 2
              have bdl : w4.heap.size < wc.heap.size := (H9.out.f (List.Mem.head _)).lt
              go_wp2_with fail
              with_reducible refine (valid_as ⟨kd, mn, mx, ⟨n, dgs L, e⟩, mo, mi⟩ _ LL false HV.out).mono ?_
              rintro x w10 ⟨rfl, hb⟩
              clear bp0 bp1 bp2 bp3 bp4 bp5 bp6 bp7 bpl bd0 bd1 bd2 bdl
              have H10 : Hid (HeldL w [(w4.heap.size, #[.bool false, S dli, .int .i64 de]), (w2.heap.size, #[.int .i64 kd, .int .i64 mn, .int .i64 mx, .bool n, S (dgs L), .int .i64 e, .int .i64 mo, .int .i64 mi]), (w.heap.size, #[.bool n, .slice a len cap, .int .i64 e])] w10) := Lib.hid (HeldL.keep H9.out hb)
              clear H9
              clear hb
              have bp0 : w10.cell? ⟨w2.heap.size, 0, none⟩ = some (.int .i64 kd) := (H10.out.f (List.Mem.tail _ (List.Mem.head _))).cell 0
              have bp1 : w10.cell? ⟨w2.heap.size, 1, none⟩ = some (.int .i64 mn) := (H10.out.f (List.Mem.tail _ (List.Mem.head _))).cell 1
              have bp2 : w10.cell? ⟨w2.heap.size, 2, none⟩ = some (.int .i64 mx) := (H10.out.f (List.Mem.tail _ (List.Mem.head _))).cell 2
              have bp3 : w10.cell? ⟨w2.heap.size, 3, none⟩ = some (.bool n) := (H10.out.f (List.Mem.tail _ (List.Mem.head _))).cell 3
              have bp4 : w10.cell? ⟨w2.heap.size, 4, none⟩ = some (S (dgs L)) := (H10.out.f (List.Mem.tail _ (List.Mem.head _))).cell 4
              have bp5 : w10.cell? ⟨w2.heap.size, 5, none⟩ = some (.int .i64 e) := (H10.out.f (List.Mem.tail _ (List.Mem.head _))).cell 5
              have bp6 : w10.cell? ⟨w2.heap.size, 6, none⟩ = some (.int .i64 mo) := (H10.out.f (List.Mem.tail _ (List.Mem.head _))).cell 6
              have bp7 : w10.cell? ⟨w2.heap.size, 7, none⟩ = some (.int .i64 mi) := (H10.out.f (List.Mem.tail _ (List.Mem.head _))).cell 7
              have bpl : w2.heap.size < w10.heap.size := (H10.out.f (List.Mem.tail _ (List.Mem.head _))).lt
              go_wp2_with fail
              with_reducible refine (made_as false ⟨#[55]⟩ 0 _ (by decide) ⟨false, [55], 0⟩ (by decide)).mono ?_
              rintro x w11 ⟨rfl, hb⟩
              clear bp0 bp1 bp2 bp3 bp4 bp5 bp6 bp7 bpl
              have H11 : Hid (HeldL w [(w4.heap.size, #[.bool false, S dli, .int .i64 de]), (w2.heap.size, #[.int .i64 kd, .int .i64 mn, .int .i64 mx, .bool n, S (dgs L), .int .i64 e, .int .i64 mo, .int .i64 mi]), (w.heap.size, #[.bool n, .slice a len cap, .int .i64 e])] w11) := Lib.hid (HeldL.keep H10.out hb)
              clear H10
              clear hb
              have bp0 : w11.cell? ⟨w2.heap.size, 0, none⟩ = some (.int .i64 kd) := (H11.out.f (List.Mem.tail _ (List.Mem.head _))).cell 0
              have bp1 : w11.cell? ⟨w2.heap.size, 1, none⟩ = some (.int .i64 mn) := (H11.out.f (List.Mem.tail _ (List.Mem.head _))).cell 1
              have bp2 : w11.cell? ⟨w2.heap.size, 2, none⟩ = some (.int .i64 mx) := (H11.out.f (List.Mem.tail _ (List.Mem.head _))).cell 2
              have bp3 : w11.cell? ⟨w2.heap.size, 3, none⟩ = some (.bool n) := (H11.out.f (List.Mem.tail _ (List.Mem.head _))).cell 3
              have bp4 : w11.cell? ⟨w2.heap.size, 4, none⟩ = some (S (dgs L)) := (H11.out.f (List.Mem.tail _ (List.Mem.head _))).cell 4
              have bp5 : w11.cell? ⟨w2.heap.size, 5, none⟩ = some (.int .i64 e) := (H11.out.f (List.Mem.tail _ (List.Mem.head _))).cell 5
              have bp6 : w11.cell? ⟨w2.heap.size, 6, none⟩ = some (.int .i64 mo) := (H11.out.f (List.Mem.tail _ (List.Mem.head _))).cell 6
              have bp7 : w11.cell? ⟨w2.heap.size, 7, none⟩ = some (.int .i64 mi) := (H11.out.f (List.Mem.tail _ (List.Mem.head _))).cell 7
              have bpl : w2.heap.size < w11.heap.size := (H11.out.f (List.Mem.tail _ (List.Mem.head _))).lt
              go_wp2_with fail
              with_reducible refine (apply_b ⟨kd, mn, mx, ⟨n, dgs L, e⟩, mo, mi⟩ ⟨false, [55], 0⟩ _ LL HV.out).mono ?_
              rintro x w12 ⟨rfl, hb⟩
              clear bp0 bp1 bp2 bp3 bp4 bp5 bp6 bp7 bpl
              have H12 : Hid (HeldL w [(w11.heap.size, #[.bool false, .string ⟨#[55]⟩, .int .i64 0]), (w4.heap.size, #[.bool false, S dli, .int .i64 de]), (w2.heap.size, #[.int .i64 kd, .int .i64 mn, .int .i64 mx, .bool n, S (dgs L), .int .i64 e, .int .i64 mo, .int .i64 mi]), (w.heap.size, #[.bool n, .slice a len cap, .int .i64 e])] w12) := Lib.hid (HeldL.keep (HeldL.alloc H11.out (w11.heap.size) #[.bool false, .string ⟨#[55]⟩, .int .i64 0] 28 (by simp)) hb)
              clear H11
              clear hb
              have bp0 : w12.cell? ⟨w2.heap.size, 0, none⟩ = some (.int .i64 kd) := (H12.out.f (List.Mem.tail _ (List.Mem.tail _ (List.Mem.head _)))).cell 0
              have bp1 : w12.cell? ⟨w2.heap.size, 1, none⟩ = some (.int .i64 mn) := (H12.out.f (List.Mem.tail _ (List.Mem.tail _ (List.Mem.head _)))).cell 1
              have bp2 : w12.cell? ⟨w2.heap.size, 2, none⟩ = some (.int .i64 mx) := (H12.out.f (List.Mem.tail _ (List.Mem.tail _ (List.Mem.head _)))).cell 2
              have bp3 : w12.cell? ⟨w2.heap.size, 3, none⟩ = some (.bool n) := (H12.out.f (List.Mem.tail _ (List.Mem.tail _ (List.Mem.head _)))).cell 3
              have bp4 : w12.cell? ⟨w2.heap.size, 4, none⟩ = some (S (dgs L)) := (H12.out.f (List.Mem.tail _ (List.Mem.tail _ (List.Mem.head _)))).cell 4
              have bp5 : w12.cell? ⟨w2.heap.size, 5, none⟩ = some (.int .i64 e) := (H12.out.f (List.Mem.tail _ (List.Mem.tail _ (List.Mem.head _)))).cell 5
              have bp6 : w12.cell? ⟨w2.heap.size, 6, none⟩ = some (.int .i64 mo) := (H12.out.f (List.Mem.tail _ (List.Mem.tail _ (List.Mem.head _)))).cell 6
              have bp7 : w12.cell? ⟨w2.heap.size, 7, none⟩ = some (.int .i64 mi) := (H12.out.f (List.Mem.tail _ (List.Mem.tail _ (List.Mem.head _)))).cell 7
              have bpl : w2.heap.size < w12.heap.size := (H12.out.f (List.Mem.tail _ (List.Mem.tail _ (List.Mem.head _)))).lt
              have b70 : w12.cell? ⟨w11.heap.size, 0, none⟩ = some (.bool false) := (H12.out.f (List.Mem.head _)).cell 0
              have b71 : w12.cell? ⟨w11.heap.size, 1, none⟩ = some (.string ⟨#[55]⟩) := (H12.out.f (List.Mem.head _)).cell 1
              have b72 : w12.cell? ⟨w11.heap.size, 2, none⟩ = some (.int .i64 0) := (H12.out.f (List.Mem.head _)).cell 2
              have b7l : w11.heap.size < w12.heap.size := (H12.out.f (List.Mem.head _)).lt
              go_wp2_with fail
              with_reducible refine (roundP_b ⟨kd, mn, mx, ⟨n, dgs L, e⟩, mo, mi⟩ ⟨false, [55], 0⟩ _ LL (by decide) HV.out).mono ?_
              rintro x w13 ⟨rfl, hb⟩
              clear bp0 bp1 bp2 bp3 bp4 bp5 bp6 bp7 bpl b70 b71 b72 b7l
              have H13 : Hid (HeldL w [(w12.heap.size, #[.bool false, .string ⟨#[]⟩, .string ⟨#[]⟩]), (w11.heap.size, #[.bool false, .string ⟨#[55]⟩, .int .i64 0]), (w4.heap.size, #[.bool false, S dli, .int .i64 de]), (w2.heap.size, #[.int .i64 kd, .int .i64 mn, .int .i64 mx, .bool n, S (dgs L), .int .i64 e, .int .i64 mo, .int .i64 mi]), (w.heap.size, #[.bool n, .slice a len cap, .int .i64 e])] w13) := Lib.hid (HeldL.keep (HeldL.alloc H12.out (w12.heap.size) #[.bool false, .string ⟨#[]⟩, .string ⟨#[]⟩] 51 (by simp)) hb)
              clear H12
              clear hb
              go_wp2
              go_ret
              exact ⟨rfl, H13.out.bel⟩
            by_cases s4 : de ≤ 100
            case neg =>
              have HV : Hid (validP ⟨kd, mn, mx, ⟨n, dgs L, e⟩, mo, mi⟩ = false) := Lib.hid (by rw [VI.out]; simp [vinc, wi]; omega)
              have H9 : Hid (HeldL w [(w4.heap.size, #[.bool false, S dli, .int .i64 de]), (w2.heap.size, #[.int .i64 kd, .int .i64 mn, .int .i64 mx, .bool n, S (dgs L), .int .i64 e, .int .i64 mo, .int .i64 mi]), (w.heap.size, #[.bool n, .slice a len cap, .int .i64 e])] wc) := HR
              have bp0 : wc.cell? ⟨w2.heap.size, 0, none⟩ = some (.int .i64 kd) := (H9.out.f (List.Mem.tail _ (List.Mem.head _))).cell 0
              have bp1 : wc.cell? ⟨w2.heap.size, 1, none⟩ = some (.int .i64 mn) := (H9.out.f (List.Mem.tail _ (List.Mem.head _))).cell 1
              have bp2 : wc.cell? ⟨w2.heap.size, 2, none⟩ = some (.int .i64 mx) := (H9.out.f (List.Mem.tail _ (List.Mem.head _))).cell 2
              have bp3 : wc.cell? ⟨w2.heap.size, 3, none⟩ = some (.bool n) := (H9.out.f (List.Mem.tail _ (List.Mem.head _))).cell 3
              have bp4 : wc.cell? ⟨w2.heap.size, 4, none⟩ = some (S (dgs L)) := (H9.out.f (List.Mem.tail _ (List.Mem.head _))).cell 4
              have bp5 : wc.cell? ⟨w2.heap.size, 5, none⟩ = some (.int .i64 e) := (H9.out.f (List.Mem.tail _ (List.Mem.head _))).cell 5
              have bp6 : wc.cell? ⟨w2.heap.size, 6, none⟩ = some (.int .i64 mo) := (H9.out.f (List.Mem.tail _ (List.Mem.head _))).cell 6
              have bp7 : wc.cell? ⟨w2.heap.size, 7, none⟩ = some (.int .i64 mi) := (H9.out.f (List.Mem.tail _ (List.Mem.head _))).cell 7
              have bpl : w2.heap.size < wc.heap.size := (H9.out.f (List.Mem.tail _ (List.Mem.head _))).lt
              have bd0 : wc.cell? ⟨w4.heap.size, 0, none⟩ = some (.bool false) := (H9.out.f (List.Mem.head _)).cell 0
              have bd1 : wc.cell? ⟨w4.heap.size, 1, none⟩ = some (S dli) := (H9.out.f (List.Mem.head _)).cell 1
              have bd2 : wc.cell? ⟨w4.heap.size, 2, none⟩ = some (.int .i64 de) := (H9.out.f (List.Mem.head _)).cell 2
              have bdl : w4.heap.size < wc.heap.size := (H9.out.f (List.Mem.head _)).lt
              go_wp2_with fail
              with_reducible refine (valid_as ⟨kd, mn, mx, ⟨n, dgs L, e⟩, mo, mi⟩ _ LL false HV.out).mono ?_
              rintro x w10 ⟨rfl, hb⟩
              clear bp0 bp1 bp2 bp3 bp4 bp5 bp6 bp7 bpl bd0 bd1 bd2 bdl
              have H10 : Hid (HeldL w [(w4.heap.size, #[.bool false, S dli, .int .i64 de]), (w2.heap.size, #[.int .i64 kd, .int .i64 mn, .int .i64 mx, .bool n, S (dgs L), .int .i64 e, .int .i64 mo, .int .i64 mi]), (w.heap.size, #[.bool n, .slice a len cap, .int .i64 e])] w10) := Lib.hid (HeldL.keep H9.out hb)
              clear H9
              clear hb
              have bp0 : w10.cell? ⟨w2.heap.size, 0, none⟩ = some (.int .i64 kd) := (H10.out.f (List.Mem.tail _ (List.Mem.head _))).cell 0
              have bp1 : w10.cell? ⟨w2.heap.size, 1, none⟩ = some (.int .i64 mn) := (H10.out.f (List.Mem.tail _ (List.Mem.head _))).cell 1
              have bp2 : w10.cell? ⟨w2.heap.size, 2, none⟩ = some (.int .i64 mx) := (H10.out.f (List.Mem.tail _ (List.Mem.head _))).cell 2
              have bp3 : w10.cell? ⟨w2.heap.size, 3, none⟩ = some (.bool n) := (H10.out.f (List.Mem.tail _ (List.Mem.head _))).cell 3
              have bp4 : w10.cell? ⟨w2.heap.size, 4, none⟩ = some (S (dgs L)) := (H10.out.f (List.Mem.tail _ (List.Mem.head _))).cell 4
              have bp5 : w10.cell? ⟨w2.heap.size, 5, none⟩ = some (.int .i64 e) := (H10.out.f (List.Mem.tail _ (List.Mem.head _))).cell 5
              have bp6 : w10.cell? ⟨w2.heap.size, 6, none⟩ = some (.int .i64 mo) := (H10.out.f (List.Mem.tail _ (List.Mem.head _))).cell 6
              have bp7 : w10.cell? ⟨w2.heap.size, 7, none⟩ = some (.int .i64 mi) := (H10.out.f (List.Mem.tail _ (List.Mem.head _))).cell 7
              have bpl : w2.heap.size < w10.heap.size := (H10.out.f (List.Mem.tail _ (List.Mem.head _))).lt
              go_wp2_with fail
              with_reducible refine (made_as false ⟨#[55]⟩ 0 _ (by decide) ⟨false, [55], 0⟩ (by decide)).mono ?_
              rintro x w11 ⟨rfl, hb⟩
              clear bp0 bp1 bp2 bp3 bp4 bp5 bp6 bp7 bpl
              have H11 : Hid (HeldL w [(w4.heap.size, #[.bool false, S dli, .int .i64 de]), (w2.heap.size, #[.int .i64 kd, .int .i64 mn, .int .i64 mx, .bool n, S (dgs L), .int .i64 e, .int .i64 mo, .int .i64 mi]), (w.heap.size, #[.bool n, .slice a len cap, .int .i64 e])] w11) := Lib.hid (HeldL.keep H10.out hb)
              clear H10
              clear hb
              have bp0 : w11.cell? ⟨w2.heap.size, 0, none⟩ = some (.int .i64 kd) := (H11.out.f (List.Mem.tail _ (List.Mem.head _))).cell 0
              have bp1 : w11.cell? ⟨w2.heap.size, 1, none⟩ = some (.int .i64 mn) := (H11.out.f (List.Mem.tail _ (List.Mem.head _))).cell 1
              have bp2 : w11.cell? ⟨w2.heap.size, 2, none⟩ = some (.int .i64 mx) := (H11.out.f (List.Mem.tail _ (List.Mem.head _))).cell 2
              have bp3 : w11.cell? ⟨w2.heap.size, 3, none⟩ = some (.bool n) := (H11.out.f (List.Mem.tail _ (List.Mem.head _))).cell 3
              have bp4 : w11.cell? ⟨w2.heap.size, 4, none⟩ = some (S (dgs L)) := (H11.out.f (List.Mem.tail _ (List.Mem.head _))).cell 4
              have bp5 : w11.cell? ⟨w2.heap.size, 5, none⟩ = some (.int .i64 e) := (H11.out.f (List.Mem.tail _ (List.Mem.head _))).cell 5
              have bp6 : w11.cell? ⟨w2.heap.size, 6, none⟩ = some (.int .i64 mo) := (H11.out.f (List.Mem.tail _ (List.Mem.head _))).cell 6
              have bp7 : w11.cell? ⟨w2.heap.size, 7, none⟩ = some (.int .i64 mi) := (H11.out.f (List.Mem.tail _ (List.Mem.head _))).cell 7
              have bpl : w2.heap.size < w11.heap.size := (H11.out.f (List.Mem.tail _ (List.Mem.head _))).lt
              go_wp2_with fail
              with_reducible refine (apply_b ⟨kd, mn, mx, ⟨n, dgs L, e⟩, mo, mi⟩ ⟨false, [55], 0⟩ _ LL HV.out).mono ?_
              rintro x w12 ⟨rfl, hb⟩
              clear bp0 bp1 bp2 bp3 bp4 bp5 bp6 bp7 bpl
              have H12 : Hid (HeldL w [(w11.heap.size, #[.bool false, .string ⟨#[55]⟩, .int .i64 0]), (w4.heap.size, #[.bool false, S dli, .int .i64 de]), (w2.heap.size, #[.int .i64 kd, .int .i64 mn, .int .i64 mx, .bool n, S (dgs L), .int .i64 e, .int .i64 mo, .int .i64 mi]), (w.heap.size, #[.bool n, .slice a len cap, .int .i64 e])] w12) := Lib.hid (HeldL.keep (HeldL.alloc H11.out (w11.heap.size) #[.bool false, .string ⟨#[55]⟩, .int .i64 0] 28 (by simp)) hb)
              clear H11
              clear hb
              have bp0 : w12.cell? ⟨w2.heap.size, 0, none⟩ = some (.int .i64 kd) := (H12.out.f (List.Mem.tail _ (List.Mem.tail _ (List.Mem.head _)))).cell 0
              have bp1 : w12.cell? ⟨w2.heap.size, 1, none⟩ = some (.int .i64 mn) := (H12.out.f (List.Mem.tail _ (List.Mem.tail _ (List.Mem.head _)))).cell 1
              have bp2 : w12.cell? ⟨w2.heap.size, 2, none⟩ = some (.int .i64 mx) := (H12.out.f (List.Mem.tail _ (List.Mem.tail _ (List.Mem.head _)))).cell 2
              have bp3 : w12.cell? ⟨w2.heap.size, 3, none⟩ = some (.bool n) := (H12.out.f (List.Mem.tail _ (List.Mem.tail _ (List.Mem.head _)))).cell 3
              have bp4 : w12.cell? ⟨w2.heap.size, 4, none⟩ = some (S (dgs L)) := (H12.out.f (List.Mem.tail _ (List.Mem.tail _ (List.Mem.head _)))).cell 4
              have bp5 : w12.cell? ⟨w2.heap.size, 5, none⟩ = some (.int .i64 e) := (H12.out.f (List.Mem.tail _ (List.Mem.tail _ (List.Mem.head _)))).cell 5
              have bp6 : w12.cell? ⟨w2.heap.size, 6, none⟩ = some (.int .i64 mo) := (H12.out.f (List.Mem.tail _ (List.Mem.tail _ (List.Mem.head _)))).cell 6
              have bp7 : w12.cell? ⟨w2.heap.size, 7, none⟩ = some (.int .i64 mi) := (H12.out.f (List.Mem.tail _ (List.Mem.tail _ (List.Mem.head _)))).cell 7
              have bpl : w2.heap.size < w12.heap.size := (H12.out.f (List.Mem.tail _ (List.Mem.tail _ (List.Mem.head _)))).lt
              have b70 : w12.cell? ⟨w11.heap.size, 0, none⟩ = some (.bool false) := (H12.out.f (List.Mem.head _)).cell 0
              have b71 : w12.cell? ⟨w11.heap.size, 1, none⟩ = some (.string ⟨#[55]⟩) := (H12.out.f (List.Mem.head _)).cell 1
              have b72 : w12.cell? ⟨w11.heap.size, 2, none⟩ = some (.int .i64 0) := (H12.out.f (List.Mem.head _)).cell 2
              have b7l : w11.heap.size < w12.heap.size := (H12.out.f (List.Mem.head _)).lt
              go_wp2_with fail
              with_reducible refine (roundP_b ⟨kd, mn, mx, ⟨n, dgs L, e⟩, mo, mi⟩ ⟨false, [55], 0⟩ _ LL (by decide) HV.out).mono ?_
              rintro x w13 ⟨rfl, hb⟩
              clear bp0 bp1 bp2 bp3 bp4 bp5 bp6 bp7 bpl b70 b71 b72 b7l
              have H13 : Hid (HeldL w [(w12.heap.size, #[.bool false, .string ⟨#[]⟩, .string ⟨#[]⟩]), (w11.heap.size, #[.bool false, .string ⟨#[55]⟩, .int .i64 0]), (w4.heap.size, #[.bool false, S dli, .int .i64 de]), (w2.heap.size, #[.int .i64 kd, .int .i64 mn, .int .i64 mx, .bool n, S (dgs L), .int .i64 e, .int .i64 mo, .int .i64 mi]), (w.heap.size, #[.bool n, .slice a len cap, .int .i64 e])] w13) := Lib.hid (HeldL.keep (HeldL.alloc H12.out (w12.heap.size) #[.bool false, .string ⟨#[]⟩, .string ⟨#[]⟩] 51 (by simp)) hb)
              clear H12
              clear hb
              go_wp2
              go_ret
              exact ⟨rfl, H13.out.bel⟩
            have HV : Hid (validP ⟨kd, mn, mx, ⟨n, dgs L, e⟩, mo, mi⟩ = true) := Lib.hid (by rw [VI.out]; simp [vinc, wi, s2, s3, s4]; simpa using DNE.out)
            have H9 : Hid (HeldL w [(w4.heap.size, #[.bool false, S dli, .int .i64 de]), (w2.heap.size, #[.int .i64 kd, .int .i64 mn, .int .i64 mx, .bool n, S (dgs L), .int .i64 e, .int .i64 mo, .int .i64 mi]), (w.heap.size, #[.bool n, .slice a len cap, .int .i64 e])] wc) := HR
            have bp0 : wc.cell? ⟨w2.heap.size, 0, none⟩ = some (.int .i64 kd) := (H9.out.f (List.Mem.tail _ (List.Mem.head _))).cell 0
            have bp1 : wc.cell? ⟨w2.heap.size, 1, none⟩ = some (.int .i64 mn) := (H9.out.f (List.Mem.tail _ (List.Mem.head _))).cell 1
            have bp2 : wc.cell? ⟨w2.heap.size, 2, none⟩ = some (.int .i64 mx) := (H9.out.f (List.Mem.tail _ (List.Mem.head _))).cell 2
            have bp3 : wc.cell? ⟨w2.heap.size, 3, none⟩ = some (.bool n) := (H9.out.f (List.Mem.tail _ (List.Mem.head _))).cell 3
            have bp4 : wc.cell? ⟨w2.heap.size, 4, none⟩ = some (S (dgs L)) := (H9.out.f (List.Mem.tail _ (List.Mem.head _))).cell 4
            have bp5 : wc.cell? ⟨w2.heap.size, 5, none⟩ = some (.int .i64 e) := (H9.out.f (List.Mem.tail _ (List.Mem.head _))).cell 5
            have bp6 : wc.cell? ⟨w2.heap.size, 6, none⟩ = some (.int .i64 mo) := (H9.out.f (List.Mem.tail _ (List.Mem.head _))).cell 6
            have bp7 : wc.cell? ⟨w2.heap.size, 7, none⟩ = some (.int .i64 mi) := (H9.out.f (List.Mem.tail _ (List.Mem.head _))).cell 7
            have bpl : w2.heap.size < wc.heap.size := (H9.out.f (List.Mem.tail _ (List.Mem.head _))).lt
            have bd0 : wc.cell? ⟨w4.heap.size, 0, none⟩ = some (.bool false) := (H9.out.f (List.Mem.head _)).cell 0
            have bd1 : wc.cell? ⟨w4.heap.size, 1, none⟩ = some (S dli) := (H9.out.f (List.Mem.head _)).cell 1
            have bd2 : wc.cell? ⟨w4.heap.size, 2, none⟩ = some (.int .i64 de) := (H9.out.f (List.Mem.head _)).cell 2
            have bdl : w4.heap.size < wc.heap.size := (H9.out.f (List.Mem.head _)).lt
            go_wp2_with fail
            with_reducible refine (valid_as ⟨kd, mn, mx, ⟨n, dgs L, e⟩, mo, mi⟩ _ LL true HV.out).mono ?_
            rintro x w10 ⟨rfl, hb⟩
            clear bp0 bp1 bp2 bp3 bp4 bp5 bp6 bp7 bpl bd0 bd1 bd2 bdl
            have H10 : Hid (HeldL w [(w4.heap.size, #[.bool false, S dli, .int .i64 de]), (w2.heap.size, #[.int .i64 kd, .int .i64 mn, .int .i64 mx, .bool n, S (dgs L), .int .i64 e, .int .i64 mo, .int .i64 mi]), (w.heap.size, #[.bool n, .slice a len cap, .int .i64 e])] w10) := Lib.hid (HeldL.keep H9.out hb)
            clear H9
            clear hb
            have bp0 : w10.cell? ⟨w2.heap.size, 0, none⟩ = some (.int .i64 kd) := (H10.out.f (List.Mem.tail _ (List.Mem.head _))).cell 0
            have bp1 : w10.cell? ⟨w2.heap.size, 1, none⟩ = some (.int .i64 mn) := (H10.out.f (List.Mem.tail _ (List.Mem.head _))).cell 1
            have bp2 : w10.cell? ⟨w2.heap.size, 2, none⟩ = some (.int .i64 mx) := (H10.out.f (List.Mem.tail _ (List.Mem.head _))).cell 2
            have bp3 : w10.cell? ⟨w2.heap.size, 3, none⟩ = some (.bool n) := (H10.out.f (List.Mem.tail _ (List.Mem.head _))).cell 3
            have bp4 : w10.cell? ⟨w2.heap.size, 4, none⟩ = some (S (dgs L)) := (H10.out.f (List.Mem.tail _ (List.Mem.head _))).cell 4
            have bp5 : w10.cell? ⟨w2.heap.size, 5, none⟩ = some (.int .i64 e) := (H10.out.f (List.Mem.tail _ (List.Mem.head _))).cell 5
            have bp6 : w10.cell? ⟨w2.heap.size, 6, none⟩ = some (.int .i64 mo) := (H10.out.f (List.Mem.tail _ (List.Mem.head _))).cell 6
            have bp7 : w10.cell? ⟨w2.heap.size, 7, none⟩ = some (.int .i64 mi) := (H10.out.f (List.Mem.tail _ (List.Mem.head _))).cell 7
            have bpl : w2.heap.size < w10.heap.size := (H10.out.f (List.Mem.tail _ (List.Mem.head _))).lt
            go_wp2_with fail
            with_reducible refine (made_as false ⟨#[55]⟩ 0 _ (by decide) ⟨false, [55], 0⟩ (by decide)).mono ?_
            rintro x w11 ⟨rfl, hb⟩
            clear bp0 bp1 bp2 bp3 bp4 bp5 bp6 bp7 bpl
            have H11 : Hid (HeldL w [(w4.heap.size, #[.bool false, S dli, .int .i64 de]), (w2.heap.size, #[.int .i64 kd, .int .i64 mn, .int .i64 mx, .bool n, S (dgs L), .int .i64 e, .int .i64 mo, .int .i64 mi]), (w.heap.size, #[.bool n, .slice a len cap, .int .i64 e])] w11) := Lib.hid (HeldL.keep H10.out hb)
            clear H10
            clear hb
            have bp0 : w11.cell? ⟨w2.heap.size, 0, none⟩ = some (.int .i64 kd) := (H11.out.f (List.Mem.tail _ (List.Mem.head _))).cell 0
            have bp1 : w11.cell? ⟨w2.heap.size, 1, none⟩ = some (.int .i64 mn) := (H11.out.f (List.Mem.tail _ (List.Mem.head _))).cell 1
            have bp2 : w11.cell? ⟨w2.heap.size, 2, none⟩ = some (.int .i64 mx) := (H11.out.f (List.Mem.tail _ (List.Mem.head _))).cell 2
            have bp3 : w11.cell? ⟨w2.heap.size, 3, none⟩ = some (.bool n) := (H11.out.f (List.Mem.tail _ (List.Mem.head _))).cell 3
            have bp4 : w11.cell? ⟨w2.heap.size, 4, none⟩ = some (S (dgs L)) := (H11.out.f (List.Mem.tail _ (List.Mem.head _))).cell 4
            have bp5 : w11.cell? ⟨w2.heap.size, 5, none⟩ = some (.int .i64 e) := (H11.out.f (List.Mem.tail _ (List.Mem.head _))).cell 5
            have bp6 : w11.cell? ⟨w2.heap.size, 6, none⟩ = some (.int .i64 mo) := (H11.out.f (List.Mem.tail _ (List.Mem.head _))).cell 6
            have bp7 : w11.cell? ⟨w2.heap.size, 7, none⟩ = some (.int .i64 mi) := (H11.out.f (List.Mem.tail _ (List.Mem.head _))).cell 7
            have bpl : w2.heap.size < w11.heap.size := (H11.out.f (List.Mem.tail _ (List.Mem.head _))).lt
            go_wp2_with fail
            with_reducible refine (HAP.out HV.out _ (HT.out.below (HeldL.alloc H11.out (w11.heap.size) #[.bool false, .string ⟨#[55]⟩, .int .i64 0] 28 (by simp)).bel)).mono ?_
            rintro x w12 ⟨rfl, hb⟩
            clear bp0 bp1 bp2 bp3 bp4 bp5 bp6 bp7 bpl
            have H12 : Hid (HeldL w [(w11.heap.size, #[.bool false, .string ⟨#[55]⟩, .int .i64 0]), (w4.heap.size, #[.bool false, S dli, .int .i64 de]), (w2.heap.size, #[.int .i64 kd, .int .i64 mn, .int .i64 mx, .bool n, S (dgs L), .int .i64 e, .int .i64 mo, .int .i64 mi]), (w.heap.size, #[.bool n, .slice a len cap, .int .i64 e])] w12) := Lib.hid (HeldL.keep (HeldL.alloc H11.out (w11.heap.size) #[.bool false, .string ⟨#[55]⟩, .int .i64 0] 28 (by simp)) hb)
            clear H11
            clear hb
            go_wp2
            go_ret
            exact ⟨rfl, (HeldL.alloc H12.out (w12.heap.size) #[.bool v.neg, S v.i, S v.f] 51 (by simp)).bel⟩
end Go.Proofs.YtfbfjkacaadbpaaDoor
