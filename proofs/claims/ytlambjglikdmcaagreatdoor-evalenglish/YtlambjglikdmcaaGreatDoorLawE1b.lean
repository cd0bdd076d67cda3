/- The walk of the law EvalEnglish. -/
import Derived.Test.YtlambjglikdmcaaGreatDoorLawE0
import Derived.Deep.Cut
namespace Go.Proofs.YtlambjglikdmcaaGreatDoor
open Go.RowKit Florin
set_option linter.unusedVariables false
set_option linter.unusedSimpArgs false
attribute [local go_sem ↓] Go.wp_at_zero Go.wp_at_succ


set_option maxRecDepth 100000 in
set_option maxHeartbeats 12800000 in
theorem eng_1 (n f v : Int) (wO : World) (ht : Tab wO) (hw : Wds wO) (M F0 : Nat) (hM : M ≤ 1023) (hF0 : F0 ≤ 1023) (han : bits .and .i64 n 1023 = (M : Int)) (haf : bits .and .i64 f 1023 = (F0 : Int)) (hav : bits .and .i64 v 3 = (1 : Int)) :
    Calls Tryz.prog 9 #[.int .i64 n, .int .i64 f, .int .i64 v] wO fun x w' => x = .returned (.bool true) ∧ Below wO.heap.size wO w' := by
  have HT0 := Lib.hid ht
  have HW0 := Lib.hid hw
  clear ht hw
  go_enter Tryz.func9, Tryz.ntmps9
  go_wp2_with fail
  with_reducible refine (head7 _ HT0.out HW0.out).mono ?_
  rintro x w ⟨rfl, hb⟩
  have B0 := Lib.hid hb
  have HT := Lib.hid (HT0.out.below hb)
  have HW := Lib.hid (HW0.out.below hb)
  clear hb HT0 HW0
  go_wp2_with fail
  obtain ⟨hc1, hc2⟩ := cap_of 1 (w.tape w.drawn (Question.appendCap 1 0 5)) 5 (by decide)
  generalize (Question.appendCap 1 0 5).cut (w.tape w.drawn (Question.appendCap 1 0 5)) = cap at *
  have HH := HeldL.drew (HeldL.alloc (HeldL.alloc (HeldL.alloc (HeldL.alloc (HeldL.alloc (HeldL.refl w) (w.heap.size) #[.int .i64 1, .int .i64 10, .int .i64 100] 3 (by simp)) (w.heap.size + 1) #[] 5 (by simp)) (w.heap.size + 1 + 1) #[.int .u8 ((F0 : Int) % 10)] 5 (by simp)) (w.heap.size + 1 + 1 + 1) (#[.int .u8 ((F0 : Int) % 10)] ++ Builtin.zeroCells #[Value.int IntKind.u8 0] (cap - 1)) 5 (by simp)) (w.heap.size + 1 + 1 + 1 + 1) #[.int .u8 ((M : Int) / 1000), .int .u8 ((M : Int) / 100 % 10), .int .u8 ((M : Int) / 10 % 10), .int .u8 ((M : Int) % 10)] 5 (by simp))
  have hvf : val (dgs [UInt8.ofNat (F0 % 10)]) = F0 % 10 := by unfold dgs; simp only [List.map, val_cons, List.length, show val [] = 0 from rfl, dv_b (F0 % 10) (by omega)]; omega
  obtain ⟨F, hF⟩ : ∃ F : Nat, F0 % 10 = F := ⟨_, rfl⟩
  obtain ⟨z, hz⟩ : ∃ z : Bool, decide (F = 0) = z := ⟨_, rfl⟩
  obtain ⟨vs, hsh, vil, vfl, o, ho, hOB, hO⟩ := num_any (M := M) hM [UInt8.ofNat (F0 % 10)] (by simp) (F := F) (by rw [hvf, hF]) (z := z) hz
  have HSH := Lib.hid hsh
  have HOo := Lib.hid ho
  have HO3 := Lib.hid hO
  have HOB := Lib.hid hOB
  clear hsh ho hO hOB
  have hFi : ((F0 : Int) % 10) = (F : Int) := by omega
  have HFi := Lib.hid hFi
  have HZ := Lib.hid hz
  clear hvf hF hFi hz
  have hin := inb4 HH M hM (List.Mem.head _)
  have hin2 := inb1 HH F0 (cap := cap) (List.Mem.tail _ (List.Mem.head _)) hc1 hc2
  refine (shown_as (some ⟨w.heap.size + 1 + 1 + 1 + 1, 0, none⟩) 4 4 (d4 M) (some ⟨w.heap.size + 1 + 1 + 1, 0, none⟩) 1 cap [UInt8.ofNat (F0 % 10)] _ hin hin2 (by decide) (by decide) _ HSH.out).mono ?_
  rintro x w2 ⟨rfl, hb⟩
  have B2 := Lib.hid (HH.bel.trans (hb.mono HH.bel.size))
  clear hb hin HH hin2
  go_wp2_with fail
  refine (of_as vs 0 _ vil vfl o HOo.out).mono ?_
  rintro x w3 ⟨rfl, hb⟩
  have B3 := Lib.hid (B2.out.trans (hb.mono B2.out.size))
  clear hb HSH HOo B2
  obtain ⟨oi, of, oe⟩ := o
  have HL0 := Lib.hid (HeldL.alloc (HeldL.refl w3) (w3.heap.size) #[S oi, S of, .int .i64 oe] 42 (by simp))
  go_wp2_with fail
  refine (parse_ok ⟨#[111, 110, 101, 58, 32, 105, 32, 61, 32, 49, 32, 97, 110, 100, 32, 118, 32, 61, 32, 48]⟩ _ (by decide) engX [] (HW.out.below (B3.out.trans (HL0.out.bel.mono B3.out.size))) eng_read).mono ?_
  rintro x w4 ⟨vE, rfl, hv, hb⟩
  have HL1 := Lib.hid (HeldL.keep HL0.out hb)
  have RE := Lib.hid hv
  have K1 := Lib.hid hb
  clear hv hb
  go_wp2_with fail
  refine (parse_ok ⟨(([111, 110, 101, 58, 32, 105, 32, 61, 32, 49, 32, 97, 110, 100, 32, 118, 32, 61, 32, 48, 59, 32, 102, 101, 119, 58, 32, 118, 32, 61, 32, 48, 32, 97, 110, 100, 32, 105, 32, 37, 32, 49].append [48, 32, 61, 32, 50, 46, 46, 52, 32, 97, 110, 100, 32, 105, 32, 37, 32, 49, 48, 48, 32, 33, 61, 32, 49, 50, 46, 46, 49, 52, 59, 32, 109, 97, 110, 121, 58, 32, 118, 32, 61, 32, 48]).append ([32, 97, 110, 100, 32, 105, 32, 33, 61, 32, 49, 32, 97, 110, 100, 32, 105, 32, 37, 32, 49, 48, 32, 61, 32, 48, 46, 46, 49, 32, 111, 114, 32, 118, 32, 61, 32, 48, 32, 97, 110, 100, 32].append [105, 32, 37, 32, 49, 48, 32, 61, 32, 53, 46, 46, 57, 32, 111, 114, 32, 118, 32, 61, 32, 48, 32, 97, 110, 100, 32, 105, 32, 37, 32, 49, 48, 48, 32, 61, 32, 49, 50, 46, 46, 49, 52])).toArray⟩ _ (by decide) polX [] (HW.out.below (B3.out.trans (HL1.out.bel.mono B3.out.size))) pol_read).mono ?_
  rintro x w5 ⟨vP, rfl, hv, hb⟩
  have HL2 := Lib.hid (HeldL.keep HL1.out hb)
  have RP := Lib.hid hv
  have K2 := Lib.hid hb
  clear hv hb
  go_wp2_with fail
  refine (parse_ok ⟨([122, 101, 114, 111, 58, 32, 110, 32, 61, 32, 48, 59, 32, 111, 110, 101, 58, 32, 110, 32, 61, 32, 49, 59, 32, 116, 119, 111, 58, 32, 110, 32, 61, 32, 50, 59, 32, 102, 101, 119].append [58, 32, 110, 32, 37, 32, 49, 48, 48, 32, 61, 32, 51, 46, 46, 49, 48, 59, 32, 109, 97, 110, 121, 58, 32, 110, 32, 37, 32, 49, 48, 48, 32, 61, 32, 49, 49, 46, 46, 57, 57]).toArray⟩ _ (by decide) araX [] (HW.out.below (B3.out.trans (HL2.out.bel.mono B3.out.size))) ara_read).mono ?_
  rintro x w6 ⟨vA, rfl, hv, hb⟩
  have HL3 := Lib.hid (HeldL.keep HL2.out hb)
  have RA := Lib.hid hv
  have K3 := Lib.hid hb
  clear hv hb

  have RE2 := Lib.hid (RulesAt.kept (RulesAt.kept RE.out (grown_of_below K2.out none) (Apart.none _ _)) (grown_of_below K3.out none) (Apart.none _ _))
  have RP2 := Lib.hid (RulesAt.kept RP.out (grown_of_below K3.out none) (Apart.none _ _))
  clear RE RP K1 K2 K3 HL0 HL1 HL2
  have o0 : w6.cell? ⟨w3.heap.size, 0, none⟩ = some (S oi) := (HL3.out.f (List.Mem.head _)).cell 0
  have o1 : w6.cell? ⟨w3.heap.size, 1, none⟩ = some (S of) := (HL3.out.f (List.Mem.head _)).cell 1
  have o2 : w6.cell? ⟨w3.heap.size, 2, none⟩ = some (.int .i64 oe) := (HL3.out.f (List.Mem.head _)).cell 2
  have ol : w3.heap.size < w6.heap.size := (HL3.out.f (List.Mem.head _)).lt
  obtain ⟨eb, heb⟩ : ∃ eb : Bool, decide (engP M 1 = 1) = eb := ⟨_, rfl⟩
  have HEB := Lib.hid heb
  clear heb
  go_upto_region 18 with fail
  go_cut [18, 100] from 19 (fun v18 v100 w' => v18 = .int .i64 5 ∧ v100 = .bool eb ∧ w6 = w')
  case first =>
    by_cases h1 : M = 1
    · obtain rfl : eb = false := by rw [← HEB.out, h1]; rfl
      subst h1
      go_wp2
      go_meet
      case rel => exact ⟨rfl, rfl, rfl⟩
    · obtain rfl : eb = false := by rw [← HEB.out]; unfold engP; rw [if_neg (fun h => h1 h.1)]; rfl
      have h1i : ¬ (M : Int) = 1 := by omega
      have h1b : ((M : Int) == 1) = false := by simpa using h1i
      go_wp2
      go_meet
      case rel => exact ⟨rfl, rfl, rfl⟩
  case rest =>
  obtain ⟨rfl, rfl, rfl⟩ := hcut
  obtain ⟨pe, hpe⟩ : ∃ pe : Nat, engP M 1 = pe := ⟨_, rfl⟩
  have HPE := Lib.hid hpe
  clear hpe
  go_upto_if 100 with fail
  go_cut [18] from 19 (fun v18 w' => v18 = .int .i64 (pe : Int) ∧ w6 = w')
  case first =>
    cases eb with
    | true =>
      obtain rfl : pe = 1 := by rw [← HPE.out]; simpa using HEB.out
      go_wp2
      go_meet
      case rel => exact ⟨rfl, rfl⟩
    | false =>
      obtain rfl : pe = 5 := by
        have h := HEB.out
        rw [← HPE.out]
        unfold engP at *
        split at h
        · simp at h
        · rename_i h2; rw [if_neg h2]
      go_wp2
      go_meet
      case rel => exact ⟨rfl, rfl⟩
  case rest =>
  obtain ⟨rfl, rfl⟩ := hcut
  go_wp2_with fail
  refine (pick_as engX vE _ ⟨oi, of, oe⟩ _ HOB.out (HT.out.below (B3.out.trans (HL3.out.bel.mono B3.out.size))) (ruleB_of rfl) RE2.out pe (by rw [← HPE.out]; exact eng_pick HO3.out)).mono ?_
  rintro x w7 ⟨rfl, hb⟩
  have HL4 := Lib.hid (HeldL.keep HL3.out hb)
  have RP3 := Lib.hid (RulesAt.kept RP2.out (grown_of_below hb none) (Apart.none _ _))
  have RA3 := Lib.hid (RulesAt.kept RA.out (grown_of_below hb none) (Apart.none _ _))
  clear hb HL3 RE2 RP2 RA o0 o1 o2 ol
  have o0 : w7.cell? ⟨w3.heap.size, 0, none⟩ = some (S oi) := (HL4.out.f (List.Mem.head _)).cell 0
  have o1 : w7.cell? ⟨w3.heap.size, 1, none⟩ = some (S of) := (HL4.out.f (List.Mem.head _)).cell 1
  have o2 : w7.cell? ⟨w3.heap.size, 2, none⟩ = some (.int .i64 oe) := (HL4.out.f (List.Mem.head _)).cell 2
  have ol : w3.heap.size < w7.heap.size := (HL4.out.f (List.Mem.head _)).lt
  have pee : ((pe : Int) != (pe : Int)) = false := by simp
  obtain ⟨pp, hpp⟩ : ∃ pp : Nat, polP M 1 = pp := ⟨_, rfl⟩
  have HPP := Lib.hid hpp
  clear hpp
  go_upto_if 107 with fail
  go_cut [18] from 19 (fun v18 w' => v18 = .int .i64 (pp : Int) ∧ w7 = w')
  case first =>
    obtain rfl : pp = 5 := by rw [← HPP.out]; rfl
    go_wp2
    go_meet
    case rel => exact ⟨rfl, rfl⟩
  case rest =>
  obtain ⟨rfl, rfl⟩ := hcut
  go_wp2_with fail
  refine (pick_as polX vP _ ⟨oi, of, oe⟩ _ HOB.out (HT.out.below (B3.out.trans (HL4.out.bel.mono B3.out.size))) (ruleB_of rfl) RP3.out pp (by rw [← HPP.out]; exact pol_pick HO3.out)).mono ?_
  rintro x w8 ⟨rfl, hb⟩
  have HL5 := Lib.hid (HeldL.keep HL4.out hb)
  have RA4 := Lib.hid (RulesAt.kept RA3.out (grown_of_below hb none) (Apart.none _ _))
  clear hb HL4 RP3 RA3 o0 o1 o2 ol
  have ppp : ((pp : Int) != (pp : Int)) = false := by simp
  obtain ⟨pa, hpa⟩ : ∃ pa : Nat, araP M z = pa := ⟨_, rfl⟩
  have HPA := Lib.hid hpa
  clear hpa
  go_upto_if 136 with fail
  go_cut [18] from 19 (fun v18 w' => v18 = .int .i64 (pa : Int) ∧ Below w8.heap.size w8 w')
  case first =>
    by_cases hf0 : F = 0
    · obtain rfl : z = true := by rw [← HZ.out]; simpa using hf0
      have hf0b : ((F0 : Int) % 10 == 0) = true := by rw [HFi.out]; simpa using hf0
      by_cases hk0 : M = 0
      · subst hk0
        obtain rfl : pa = 0 := by rw [← HPA.out]; unfold araP; rfl
        go_wp2
        go_meet
        case rel => exact ⟨rfl, Below.alloc (Below.refl _ _) (Nat.le_refl _) _⟩
      by_cases hk1 : M = 1
      · subst hk1
        obtain rfl : pa = 1 := by rw [← HPA.out]; unfold araP; rfl
        go_wp2
        go_meet
        case rel => exact ⟨rfl, Below.alloc (Below.refl _ _) (Nat.le_refl _) _⟩
      by_cases hk2 : M = 2
      · subst hk2
        obtain rfl : pa = 2 := by rw [← HPA.out]; unfold araP; rfl
        go_wp2
        go_meet
        case rel => exact ⟨rfl, Below.alloc (Below.refl _ _) (Nat.le_refl _) _⟩
      have h3 : ¬ M < 3 := by omega
      have h3i : ¬ (M : Int) < 3 := by omega
      by_cases c1 : 3 ≤ M % 100
      · have c1i : (3 : Int) ≤ (M : Int) % 100 := by omega
        by_cases c2 : M % 100 ≤ 10
        · have c2i : (M : Int) % 100 ≤ 10 := by omega
          obtain rfl : pa = 3 := by rw [← HPA.out]; unfold araP; rw [if_pos rfl, if_neg h3, if_pos ⟨c1, c2⟩]
          go_wp2
          go_meet
          case rel => exact ⟨rfl, Below.refl _ _⟩
        · have c2i : ¬ (M : Int) % 100 ≤ 10 := by omega
          have c3i : (11 : Int) ≤ (M : Int) % 100 := by omega
          obtain rfl : pa = 4 := by rw [← HPA.out]; unfold araP; rw [if_pos rfl, if_neg h3, if_neg (fun h => c2 h.2), if_pos (by omega)]
          go_wp2
          go_meet
          case rel => exact ⟨rfl, Below.refl _ _⟩
      · have c1i : ¬ (3 : Int) ≤ (M : Int) % 100 := by omega
        have c3i : ¬ (11 : Int) ≤ (M : Int) % 100 := by omega
        obtain rfl : pa = 5 := by rw [← HPA.out]; unfold araP; rw [if_pos rfl, if_neg h3, if_neg (fun h => c1 h.1), if_neg (by omega)]
        go_wp2
        go_meet
        case rel => exact ⟨rfl, Below.refl _ _⟩
    · obtain rfl : z = false := by rw [← HZ.out]; simpa using hf0
      have hf0i : ¬ (F0 : Int) % 10 = 0 := by rw [HFi.out]; omega
      obtain rfl : pa = 5 := by rw [← HPA.out]; unfold araP; rfl
      go_wp2
      go_meet
      case rel => exact ⟨rfl, Below.refl _ _⟩
  case rest =>
  obtain ⟨rfl, hb9⟩ := hcut
  have HL6 := Lib.hid (HeldL.keep HL5.out hb9)
  have RA5 := Lib.hid (RulesAt.kept RA4.out (grown_of_below hb9 none) (Apart.none _ _))
  clear hb9 HL5 RA4
  have o0 := (HL6.out.f (List.Mem.head _)).cell 0
  have o1 := (HL6.out.f (List.Mem.head _)).cell 1
  have o2 := (HL6.out.f (List.Mem.head _)).cell 2
  have ol := (HL6.out.f (List.Mem.head _)).lt
  go_wp2_with fail
  refine (pick_as araX vA _ ⟨oi, of, oe⟩ _ HOB.out (HT.out.below (B3.out.trans (HL6.out.bel.mono B3.out.size))) (ruleB_of rfl) RA5.out pa (by rw [← HPA.out]; exact ara_pick HO3.out)).mono ?_
  rintro x w9 ⟨rfl, hb⟩
  have HL7 := Lib.hid (HeldL.keep HL6.out hb)
  clear hb
  have paa : ((pa : Int) == (pa : Int)) = true := by simp
  go_wp2
  go_ret
  exact ⟨by simp, B0.out.trans ((B3.out.trans (HL7.out.bel.mono B3.out.size)).mono B0.out.size)⟩

set_option maxRecDepth 100000 in
set_option maxHeartbeats 12800000 in
theorem eng_2 (n f v : Int) (wO : World) (ht : Tab wO) (hw : Wds wO) (M F0 : Nat) (hM : M ≤ 1023) (hF0 : F0 ≤ 1023) (han : bits .and .i64 n 1023 = (M : Int)) (haf : bits .and .i64 f 1023 = (F0 : Int)) (hav : bits .and .i64 v 3 = (2 : Int)) :
    Calls Tryz.prog 9 #[.int .i64 n, .int .i64 f, .int .i64 v] wO fun x w' => x = .returned (.bool true) ∧ Below wO.heap.size wO w' := by
  have HT0 := Lib.hid ht
  have HW0 := Lib.hid hw
  clear ht hw
  go_enter Tryz.func9, Tryz.ntmps9
  go_wp2_with fail
  with_reducible refine (head7 _ HT0.out HW0.out).mono ?_
  rintro x w ⟨rfl, hb⟩
  have B0 := Lib.hid hb
  have HT := Lib.hid (HT0.out.below hb)
  have HW := Lib.hid (HW0.out.below hb)
  clear hb HT0 HW0
  go_wp2_with fail
  obtain ⟨hc1, hc2⟩ := cap_of 2 (w.tape w.drawn (Question.appendCap 2 0 5)) 5 (by decide)
  generalize (Question.appendCap 2 0 5).cut (w.tape w.drawn (Question.appendCap 2 0 5)) = cap at *
  have HH := HeldL.drew (HeldL.alloc (HeldL.alloc (HeldL.alloc (HeldL.alloc (HeldL.alloc (HeldL.refl w) (w.heap.size) #[.int .i64 1, .int .i64 10, .int .i64 100] 3 (by simp)) (w.heap.size + 1) #[] 5 (by simp)) (w.heap.size + 1 + 1) #[.int .u8 ((F0 : Int) % 100 / 10), .int .u8 ((F0 : Int) % 10)] 5 (by simp)) (w.heap.size + 1 + 1 + 1) (#[.int .u8 ((F0 : Int) % 100 / 10), .int .u8 ((F0 : Int) % 10)] ++ Builtin.zeroCells #[Value.int IntKind.u8 0] (cap - 2)) 5 (by simp)) (w.heap.size + 1 + 1 + 1 + 1) #[.int .u8 ((M : Int) / 1000), .int .u8 ((M : Int) / 100 % 10), .int .u8 ((M : Int) / 10 % 10), .int .u8 ((M : Int) % 10)] 5 (by simp))
  have hvf : val (dgs [UInt8.ofNat (F0 % 100 / 10), UInt8.ofNat (F0 % 10)]) = F0 % 100 := by unfold dgs; simp only [List.map, val_cons, List.length, show val [] = 0 from rfl, dv_b (F0 % 100 / 10) (by omega), dv_b (F0 % 10) (by omega)]; omega
  obtain ⟨F, hF⟩ : ∃ F : Nat, F0 % 100 = F := ⟨_, rfl⟩
  obtain ⟨z, hz⟩ : ∃ z : Bool, decide (F = 0) = z := ⟨_, rfl⟩
  obtain ⟨vs, hsh, vil, vfl, o, ho, hOB, hO⟩ := num_any (M := M) hM [UInt8.ofNat (F0 % 100 / 10), UInt8.ofNat (F0 % 10)] (by simp) (F := F) (by rw [hvf, hF]) (z := z) hz
  have HSH := Lib.hid hsh
  have HOo := Lib.hid ho
  have HO3 := Lib.hid hO
  have HOB := Lib.hid hOB
  clear hsh ho hO hOB
  have hFi : ((F0 : Int) % 100) = (F : Int) := by omega
  have HFi := Lib.hid hFi
  have HZ := Lib.hid hz
  clear hvf hF hFi hz
  have hin := inb4 HH M hM (List.Mem.head _)
  have hin2 := inb2 HH F0 (cap := cap) (List.Mem.tail _ (List.Mem.head _)) hc1 hc2
  refine (shown_as (some ⟨w.heap.size + 1 + 1 + 1 + 1, 0, none⟩) 4 4 (d4 M) (some ⟨w.heap.size + 1 + 1 + 1, 0, none⟩) 2 cap [UInt8.ofNat (F0 % 100 / 10), UInt8.ofNat (F0 % 10)] _ hin hin2 (by decide) (by decide) _ HSH.out).mono ?_
  rintro x w2 ⟨rfl, hb⟩
  have B2 := Lib.hid (HH.bel.trans (hb.mono HH.bel.size))
  clear hb hin HH hin2
  go_wp2_with fail
  refine (of_as vs 0 _ vil vfl o HOo.out).mono ?_
  rintro x w3 ⟨rfl, hb⟩
  have B3 := Lib.hid (B2.out.trans (hb.mono B2.out.size))
  clear hb HSH HOo B2
  obtain ⟨oi, of, oe⟩ := o
  have HL0 := Lib.hid (HeldL.alloc (HeldL.refl w3) (w3.heap.size) #[S oi, S of, .int .i64 oe] 42 (by simp))
  go_wp2_with fail
  refine (parse_ok ⟨#[111, 110, 101, 58, 32, 105, 32, 61, 32, 49, 32, 97, 110, 100, 32, 118, 32, 61, 32, 48]⟩ _ (by decide) engX [] (HW.out.below (B3.out.trans (HL0.out.bel.mono B3.out.size))) eng_read).mono ?_
  rintro x w4 ⟨vE, rfl, hv, hb⟩
  have HL1 := Lib.hid (HeldL.keep HL0.out hb)
  have RE := Lib.hid hv
  have K1 := Lib.hid hb
  clear hv hb
  go_wp2_with fail
  refine (parse_ok ⟨(([111, 110, 101, 58, 32, 105, 32, 61, 32, 49, 32, 97, 110, 100, 32, 118, 32, 61, 32, 48, 59, 32, 102, 101, 119, 58, 32, 118, 32, 61, 32, 48, 32, 97, 110, 100, 32, 105, 32, 37, 32, 49].append [48, 32, 61, 32, 50, 46, 46, 52, 32, 97, 110, 100, 32, 105, 32, 37, 32, 49, 48, 48, 32, 33, 61, 32, 49, 50, 46, 46, 49, 52, 59, 32, 109, 97, 110, 121, 58, 32, 118, 32, 61, 32, 48]).append ([32, 97, 110, 100, 32, 105, 32, 33, 61, 32, 49, 32, 97, 110, 100, 32, 105, 32, 37, 32, 49, 48, 32, 61, 32, 48, 46, 46, 49, 32, 111, 114, 32, 118, 32, 61, 32, 48, 32, 97, 110, 100, 32].append [105, 32, 37, 32, 49, 48, 32, 61, 32, 53, 46, 46, 57, 32, 111, 114, 32, 118, 32, 61, 32, 48, 32, 97, 110, 100, 32, 105, 32, 37, 32, 49, 48, 48, 32, 61, 32, 49, 50, 46, 46, 49, 52])).toArray⟩ _ (by decide) polX [] (HW.out.below (B3.out.trans (HL1.out.bel.mono B3.out.size))) pol_read).mono ?_
  rintro x w5 ⟨vP, rfl, hv, hb⟩
  have HL2 := Lib.hid (HeldL.keep HL1.out hb)
  have RP := Lib.hid hv
  have K2 := Lib.hid hb
  clear hv hb
  go_wp2_with fail
  refine (parse_ok ⟨([122, 101, 114, 111, 58, 32, 110, 32, 61, 32, 48, 59, 32, 111, 110, 101, 58, 32, 110, 32, 61, 32, 49, 59, 32, 116, 119, 111, 58, 32, 110, 32, 61, 32, 50, 59, 32, 102, 101, 119].append [58, 32, 110, 32, 37, 32, 49, 48, 48, 32, 61, 32, 51, 46, 46, 49, 48, 59, 32, 109, 97, 110, 121, 58, 32, 110, 32, 37, 32, 49, 48, 48, 32, 61, 32, 49, 49, 46, 46, 57, 57]).toArray⟩ _ (by decide) araX [] (HW.out.below (B3.out.trans (HL2.out.bel.mono B3.out.size))) ara_read).mono ?_
  rintro x w6 ⟨vA, rfl, hv, hb⟩
  have HL3 := Lib.hid (HeldL.keep HL2.out hb)
  have RA := Lib.hid hv
  have K3 := Lib.hid hb
  clear hv hb

  have RE2 := Lib.hid (RulesAt.kept (RulesAt.kept RE.out (grown_of_below K2.out none) (Apart.none _ _)) (grown_of_below K3.out none) (Apart.none _ _))
  have RP2 := Lib.hid (RulesAt.kept RP.out (grown_of_below K3.out none) (Apart.none _ _))
  clear RE RP K1 K2 K3 HL0 HL1 HL2
  have o0 : w6.cell? ⟨w3.heap.size, 0, none⟩ = some (S oi) := (HL3.out.f (List.Mem.head _)).cell 0
  have o1 : w6.cell? ⟨w3.heap.size, 1, none⟩ = some (S of) := (HL3.out.f (List.Mem.head _)).cell 1
  have o2 : w6.cell? ⟨w3.heap.size, 2, none⟩ = some (.int .i64 oe) := (HL3.out.f (List.Mem.head _)).cell 2
  have ol : w3.heap.size < w6.heap.size := (HL3.out.f (List.Mem.head _)).lt
  obtain ⟨eb, heb⟩ : ∃ eb : Bool, decide (engP M 2 = 1) = eb := ⟨_, rfl⟩
  have HEB := Lib.hid heb
  clear heb
  go_upto_region 18 with fail
  go_cut [18, 100] from 19 (fun v18 v100 w' => v18 = .int .i64 5 ∧ v100 = .bool eb ∧ w6 = w')
  case first =>
    by_cases h1 : M = 1
    · obtain rfl : eb = false := by rw [← HEB.out, h1]; rfl
      subst h1
      go_wp2
      go_meet
      case rel => exact ⟨rfl, rfl, rfl⟩
    · obtain rfl : eb = false := by rw [← HEB.out]; unfold engP; rw [if_neg (fun h => h1 h.1)]; rfl
      have h1i : ¬ (M : Int) = 1 := by omega
      have h1b : ((M : Int) == 1) = false := by simpa using h1i
      go_wp2
      go_meet
      case rel => exact ⟨rfl, rfl, rfl⟩
  case rest =>
  obtain ⟨rfl, rfl, rfl⟩ := hcut
  obtain ⟨pe, hpe⟩ : ∃ pe : Nat, engP M 2 = pe := ⟨_, rfl⟩
  have HPE := Lib.hid hpe
  clear hpe
  go_upto_if 100 with fail
  go_cut [18] from 19 (fun v18 w' => v18 = .int .i64 (pe : Int) ∧ w6 = w')
  case first =>
    cases eb with
    | true =>
      obtain rfl : pe = 1 := by rw [← HPE.out]; simpa using HEB.out
      go_wp2
      go_meet
      case rel => exact ⟨rfl, rfl⟩
    | false =>
      obtain rfl : pe = 5 := by
        have h := HEB.out
        rw [← HPE.out]
        unfold engP at *
        split at h
        · simp at h
        · rename_i h2; rw [if_neg h2]
      go_wp2
      go_meet
      case rel => exact ⟨rfl, rfl⟩
  case rest =>
  obtain ⟨rfl, rfl⟩ := hcut
  go_wp2_with fail
  refine (pick_as engX vE _ ⟨oi, of, oe⟩ _ HOB.out (HT.out.below (B3.out.trans (HL3.out.bel.mono B3.out.size))) (ruleB_of rfl) RE2.out pe (by rw [← HPE.out]; exact eng_pick HO3.out)).mono ?_
  rintro x w7 ⟨rfl, hb⟩
  have HL4 := Lib.hid (HeldL.keep HL3.out hb)
  have RP3 := Lib.hid (RulesAt.kept RP2.out (grown_of_below hb none) (Apart.none _ _))
  have RA3 := Lib.hid (RulesAt.kept RA.out (grown_of_below hb none) (Apart.none _ _))
  clear hb HL3 RE2 RP2 RA o0 o1 o2 ol
  have o0 : w7.cell? ⟨w3.heap.size, 0, none⟩ = some (S oi) := (HL4.out.f (List.Mem.head _)).cell 0
  have o1 : w7.cell? ⟨w3.heap.size, 1, none⟩ = some (S of) := (HL4.out.f (List.Mem.head _)).cell 1
  have o2 : w7.cell? ⟨w3.heap.size, 2, none⟩ = some (.int .i64 oe) := (HL4.out.f (List.Mem.head _)).cell 2
  have ol : w3.heap.size < w7.heap.size := (HL4.out.f (List.Mem.head _)).lt
  have pee : ((pe : Int) != (pe : Int)) = false := by simp
  obtain ⟨pp, hpp⟩ : ∃ pp : Nat, polP M 2 = pp := ⟨_, rfl⟩
  have HPP := Lib.hid hpp
  clear hpp
  go_upto_if 107 with fail
  go_cut [18] from 19 (fun v18 w' => v18 = .int .i64 (pp : Int) ∧ w7 = w')
  case first =>
    obtain rfl : pp = 5 := by rw [← HPP.out]; rfl
    go_wp2
    go_meet
    case rel => exact ⟨rfl, rfl⟩
  case rest =>
  obtain ⟨rfl, rfl⟩ := hcut
  go_wp2_with fail
  refine (pick_as polX vP _ ⟨oi, of, oe⟩ _ HOB.out (HT.out.below (B3.out.trans (HL4.out.bel.mono B3.out.size))) (ruleB_of rfl) RP3.out pp (by rw [← HPP.out]; exact pol_pick HO3.out)).mono ?_
  rintro x w8 ⟨rfl, hb⟩
  have HL5 := Lib.hid (HeldL.keep HL4.out hb)
  have RA4 := Lib.hid (RulesAt.kept RA3.out (grown_of_below hb none) (Apart.none _ _))
  clear hb HL4 RP3 RA3 o0 o1 o2 ol
  have ppp : ((pp : Int) != (pp : Int)) = false := by simp
  obtain ⟨pa, hpa⟩ : ∃ pa : Nat, araP M z = pa := ⟨_, rfl⟩
  have HPA := Lib.hid hpa
  clear hpa
  go_upto_if 136 with fail
  go_cut [18] from 19 (fun v18 w' => v18 = .int .i64 (pa : Int) ∧ Below w8.heap.size w8 w')
  case first =>
    by_cases hf0 : F = 0
    · obtain rfl : z = true := by rw [← HZ.out]; simpa using hf0
      have hf0b : ((F0 : Int) % 100 == 0) = true := by rw [HFi.out]; simpa using hf0
      by_cases hk0 : M = 0
      · subst hk0
        obtain rfl : pa = 0 := by rw [← HPA.out]; unfold araP; rfl
        go_wp2
        go_meet
        case rel => exact ⟨rfl, Below.alloc (Below.refl _ _) (Nat.le_refl _) _⟩
      by_cases hk1 : M = 1
      · subst hk1
        obtain rfl : pa = 1 := by rw [← HPA.out]; unfold araP; rfl
        go_wp2
        go_meet
        case rel => exact ⟨rfl, Below.alloc (Below.refl _ _) (Nat.le_refl _) _⟩
      by_cases hk2 : M = 2
      · subst hk2
        obtain rfl : pa = 2 := by rw [← HPA.out]; unfold araP; rfl
        go_wp2
        go_meet
        case rel => exact ⟨rfl, Below.alloc (Below.refl _ _) (Nat.le_refl _) _⟩
      have h3 : ¬ M < 3 := by omega
      have h3i : ¬ (M : Int) < 3 := by omega
      by_cases c1 : 3 ≤ M % 100
      · have c1i : (3 : Int) ≤ (M : Int) % 100 := by omega
        by_cases c2 : M % 100 ≤ 10
        · have c2i : (M : Int) % 100 ≤ 10 := by omega
          obtain rfl : pa = 3 := by rw [← HPA.out]; unfold araP; rw [if_pos rfl, if_neg h3, if_pos ⟨c1, c2⟩]
          go_wp2
          go_meet
          case rel => exact ⟨rfl, Below.refl _ _⟩
        · have c2i : ¬ (M : Int) % 100 ≤ 10 := by omega
          have c3i : (11 : Int) ≤ (M : Int) % 100 := by omega
          obtain rfl : pa = 4 := by rw [← HPA.out]; unfold araP; rw [if_pos rfl, if_neg h3, if_neg (fun h => c2 h.2), if_pos (by omega)]
          go_wp2
          go_meet
          case rel => exact ⟨rfl, Below.refl _ _⟩
      · have c1i : ¬ (3 : Int) ≤ (M : Int) % 100 := by omega
        have c3i : ¬ (11 : Int) ≤ (M : Int) % 100 := by omega
        obtain rfl : pa = 5 := by rw [← HPA.out]; unfold araP; rw [if_pos rfl, if_neg h3, if_neg (fun h => c1 h.1), if_neg (by omega)]
        go_wp2
        go_meet
        case rel => exact ⟨rfl, Below.refl _ _⟩
    · obtain rfl : z = false := by rw [← HZ.out]; simpa using hf0
      have hf0i : ¬ (F0 : Int) % 100 = 0 := by rw [HFi.out]; omega
      obtain rfl : pa = 5 := by rw [← HPA.out]; unfold araP; rfl
      go_wp2
      go_meet
      case rel => exact ⟨rfl, Below.refl _ _⟩
  case rest =>
  obtain ⟨rfl, hb9⟩ := hcut
  have HL6 := Lib.hid (HeldL.keep HL5.out hb9)
  have RA5 := Lib.hid (RulesAt.kept RA4.out (grown_of_below hb9 none) (Apart.none _ _))
  clear hb9 HL5 RA4
  have o0 := (HL6.out.f (List.Mem.head _)).cell 0
  have o1 := (HL6.out.f (List.Mem.head _)).cell 1
  have o2 := (HL6.out.f (List.Mem.head _)).cell 2
  have ol := (HL6.out.f (List.Mem.head _)).lt
  go_wp2_with fail
  refine (pick_as araX vA _ ⟨oi, of, oe⟩ _ HOB.out (HT.out.below (B3.out.trans (HL6.out.bel.mono B3.out.size))) (ruleB_of rfl) RA5.out pa (by rw [← HPA.out]; exact ara_pick HO3.out)).mono ?_
  rintro x w9 ⟨rfl, hb⟩
  have HL7 := Lib.hid (HeldL.keep HL6.out hb)
  clear hb
  have paa : ((pa : Int) == (pa : Int)) = true := by simp
  go_wp2
  go_ret
  exact ⟨by simp, B0.out.trans ((B3.out.trans (HL7.out.bel.mono B3.out.size)).mono B0.out.size)⟩
end Go.Proofs.YtlambjglikdmcaaGreatDoor
