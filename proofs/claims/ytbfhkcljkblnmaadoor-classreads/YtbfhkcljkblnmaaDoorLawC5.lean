/- The walk of the law ClassReads. -/
import Derived.Test.YtbfhkcljkblnmaaDoorCrM
import Derived.Test.YtbfhkcljkblnmaaDoorCrN
import Derived.Test.YtbfhkcljkblnmaaDoorCPlain2
namespace Go.Proofs.YtbfhkcljkblnmaaDoor
open Go.RowKit Florin
set_option linter.unusedVariables false
set_option linter.unusedSimpArgs false
attribute [local go_sem ↓] Go.wp_at_zero Go.wp_at_succ
theorem class_len (l : List UInt8) : (classP l).1.length ≤ l.length := by
  cases h : ctk [91] l with
  | false => rw [class_no h]; simp
  | true =>
    rw [class_yes h rfl]
    have h1 := spans_len ((inP l).length + 1) (inP l)
    have h2 := in_len l
    show (spansP ((inP l).length + 1) (inP l)).1.length ≤ _
    omega
theorem strC_len (c : List (Int × Int)) : (strC c).length ≤ 43 * c.length + 2 := by
  have := flat_len c
  unfold strC
  simp only [List.length_append, List.length_cons, List.length_nil]
  omega
theorem rest_le (l : List UInt8) (T : ByteArray) : ((T.size - (classP l).2.2.2.length : Nat) : Int) ≤ (T.size : Int) := by omega
/-- Parse of what String tells. -/
theorem parse_str (c : List (Int × Int)) (hs : settledC c) (hl : c.length ≤ 1000) (w : World) (hTab : Tabs w) :
    Calls Tryd.prog 23 #[S (strC c)] w fun e w' => ∃ v, e = .returned (.tuple #[v, .int .i64 0, .int .i64 0]) ∧ OwnC w' w.heap.size v c ∧ Below w.heap.size w w' := by
  have h1 := strC_len c
  refine (parse_as ⟨(strC c).toArray⟩ w (by rw [arr_size]; omega) hTab).mono ?_
  intro e w' hp
  unfold ParTold at hp
  rw [arr_list, class_str c (ok_settled hs), if_pos rfl] at hp
  obtain ⟨v, d, rfl, ho, hd, hm, hb⟩ := hp
  obtain rfl : d = c := back_is hs hd hm
  exact ⟨v, rfl, ho, hb⟩
set_option maxRecDepth 100000 in
set_option maxHeartbeats 3200000 in
theorem classReads_walk (s : ByteArray) (w : World) (_hs : s.size ≤ maxLen) (hTD : Tabs w ∧ Deb w) :
    Calls Tryd.prog 7 #[.string s] w fun x w' => x = .returned (.bool true) ∧ Below w.heap.size w w' := by
  have HT := Lib.hid hTD.1
  have HD := Lib.hid hTD.2
  clear hTD
  by_cases hbig : (100 : Int) < (s.size : Int)
  · go_enter Tryd.func7, Tryd.ntmps7
    go_wp2_with fail
    with_reducible refine (head10 _ HT.out HD.out).mono ?_
    rintro x w1 ⟨rfl, hb⟩
    go_wp2
    go_ret
    exact ⟨rfl, hb⟩
  · have hsz : s.size ≤ 1000000 := by omega
    go_enter Tryd.func7, Tryd.ntmps7
    go_wp2_with fail
    with_reducible refine (head10 _ HT.out HD.out).mono ?_
    rintro x w1 ⟨rfl, hb⟩
    have B1 := Lib.hid hb
    have T1 := Lib.hid (HT.out.below hb)
    clear hb
    go_wp2_with fail
    with_reducible refine (parse_as s _ hsz T1.out).mono ?_
    rintro x w2 hp
    unfold ParTold at hp
    by_cases hok : (classP s.data.toList).2.2.1 = true
    · rw [if_pos hok] at hp
      obtain ⟨v, c, rfl, ho, hc, hm, hb⟩ := hp
      have hlen := settled_short hc hm
      have hcl := class_len s.data.toList
      rw [size_list] at hcl
      have hc1 : c.length ≤ 1000 := by omega
      have hc2 : c.length ≤ 1000000 := by omega
      have B2 := Lib.hid (B1.out.trans (hb.mono B1.out.size))
      have T2 := Lib.hid (T1.out.below hb)
      have I2 := Lib.hid ho.inC
      have HS := Lib.hid hc
      have HPS := Lib.hid (fun W hT => parse_str c hc hc1 W hT)
      clear ho hc hm hb hlen hcl hok
      go_wp2_with fail
      with_reducible refine (string_as _ v c I2.out HS.out (HD.out.below B2.out)).mono ?_
      rintro x w3 ⟨rfl, hb⟩
      have B3 := Lib.hid (B2.out.trans (hb.mono B2.out.size))
      have T3 := Lib.hid (T2.out.below hb)
      have I3 := Lib.hid (I2.out.below hb (Nat.le_refl _))
      clear hb
      go_wp2_with fail
      with_reducible refine (HPS.out _ T3.out).mono ?_
      rintro x w4 ⟨v4, rfl, ho, hb⟩
      have B4 := Lib.hid (B3.out.trans (hb.mono B3.out.size))
      have I4 := Lib.hid (I3.out.below hb (Nat.le_refl _))
      have J4 := Lib.hid ho.inC
      clear hb ho
      go_wp2_with fail
      with_reducible refine (settled_as _ v c I4.out HS.out).mono ?_
      rintro x w5 ⟨rfl, hb⟩
      have B5 := Lib.hid (B4.out.trans (hb.mono B4.out.size))
      have I5 := Lib.hid (I4.out.below hb (Nat.le_refl _))
      have J5 := Lib.hid (J4.out.below hb (Nat.le_refl _))
      clear hb
      go_wp2_with fail
      with_reducible refine (same_as _ v4 v c c J5.out I5.out hc2 hc2 true (decide_eq_true rfl)).mono ?_
      rintro x w6 ⟨rfl, hb⟩
      have B6 := Lib.hid (B5.out.trans (hb.mono B5.out.size))
      clear hb
      go_wp2
      go_ret
      exact ⟨rfl, B6.out⟩
    · rw [if_neg hok] at hp
      obtain ⟨rfl, hb⟩ := hp
      have B2 := Lib.hid (B1.out.trans (hb.mono B1.out.size))
      obtain ⟨p, hpp⟩ : ∃ p : Nat, s.size - (classP s.data.toList).2.2.2.length = p := ⟨_, rfl⟩
      have hple : (p : Int) ≤ (s.size : Int) := by omega
      rw [hpp]
      clear hb hok hpp
      go_wp2
      go_ret
      exact ⟨rfl, B2.out⟩
end Go.Proofs.YtbfhkcljkblnmaaDoor
