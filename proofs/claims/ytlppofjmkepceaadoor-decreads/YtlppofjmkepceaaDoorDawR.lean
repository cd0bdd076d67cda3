/- The walk of the law DecParses, by what the text is. -/
import Derived.Test.YtlppofjmkepceaaDoorDawP0
import Derived.Test.YtlppofjmkepceaaDoorDawC0
namespace Go.Proofs.YtlppofjmkepceaaDoor
open Go.RowKit Florin
set_option linter.unusedVariables false
set_option linter.unusedSimpArgs false

set_option maxRecDepth 100000 in
set_option maxHeartbeats 1600000 in
theorem pno_a (n : Bool) (aw : Option Addr) (lw cw : Nat) (ap : Option Addr) (lp cp : Nat) (pt : Bool) (e sg nt : Int) (pw : Bool) (w : World) (hc1 : lw ≤ cw) (hm1 : cw ≤ maxLen) (hc2 : lp ≤ cp) (hm2 : cp ≤ maxLen) (htab : Tab w) (g0 : 1100 < lw) :
    Calls Tryd.prog 4 #[TV n aw lw cw ap lp cp pt e sg nt pw] w fun x w' => x = .returned (.bool true) ∧ Below w.heap.size w w' := by
  have HT := Lib.hid htab
  unfold maxLen at hm1 hm2
  clear htab
  go_enter Tryd.func4, Tryd.ntmps4
  go_wp2_with fail
  with_reducible refine (headD _ (HT.out.below ((Below.refl w.heap.size w).alloc (by simp <;> omega) _))).mono ?_
  rintro x w1 ⟨rfl, hb⟩
  have Ct := Lib.hid (((Box.new w #[.bool n, .slice aw lw cw, .slice ap lp cp, .bool pt, .int .i64 e, .int .i64 sg, .int .i64 nt, .bool pw] 38).at (b' := w.heap.size) (by simp)).below hb (by simp <;> omega))
  have b1 := Lib.hid (((Below.refl w.heap.size w).alloc (by simp <;> omega) _).trans (hb.mono (B' := w.heap.size) (by simp <;> omega)))
  clear hb
  have Bt : Hid (Box w1 (w.heap.size) #[.bool n, .slice aw lw cw, .slice ap lp cp, .bool pt, .int .i64 e, .int .i64 sg, .int .i64 nt, .bool pw]) := Ct
  clear Ct
  obtain ⟨t0, t1, t2, t3, t4, t5, t6, t7, t8⟩ := Bt.out.eight
  go_wp2
  go_ret
  exact ⟨rfl, b1.out⟩

set_option maxRecDepth 100000 in
set_option maxHeartbeats 1600000 in
theorem pno_b (n : Bool) (aw : Option Addr) (lw cw : Nat) (ap : Option Addr) (lp cp : Nat) (pt : Bool) (e sg nt : Int) (pw : Bool) (w : World) (hc1 : lw ≤ cw) (hm1 : cw ≤ maxLen) (hc2 : lp ≤ cp) (hm2 : cp ≤ maxLen) (htab : Tab w) (g0 : lw ≤ 1100) (g1 : 1100 < lp) :
    Calls Tryd.prog 4 #[TV n aw lw cw ap lp cp pt e sg nt pw] w fun x w' => x = .returned (.bool true) ∧ Below w.heap.size w w' := by
  have HT := Lib.hid htab
  unfold maxLen at hm1 hm2
  clear htab
  go_enter Tryd.func4, Tryd.ntmps4
  go_wp2_with fail
  with_reducible refine (headD _ (HT.out.below ((Below.refl w.heap.size w).alloc (by simp <;> omega) _))).mono ?_
  rintro x w1 ⟨rfl, hb⟩
  have Ct := Lib.hid (((Box.new w #[.bool n, .slice aw lw cw, .slice ap lp cp, .bool pt, .int .i64 e, .int .i64 sg, .int .i64 nt, .bool pw] 38).at (b' := w.heap.size) (by simp)).below hb (by simp <;> omega))
  have b1 := Lib.hid (((Below.refl w.heap.size w).alloc (by simp <;> omega) _).trans (hb.mono (B' := w.heap.size) (by simp <;> omega)))
  clear hb
  have Bt : Hid (Box w1 (w.heap.size) #[.bool n, .slice aw lw cw, .slice ap lp cp, .bool pt, .int .i64 e, .int .i64 sg, .int .i64 nt, .bool pw]) := Ct
  clear Ct
  obtain ⟨t0, t1, t2, t3, t4, t5, t6, t7, t8⟩ := Bt.out.eight
  go_wp2
  go_ret
  exact ⟨rfl, b1.out⟩

set_option maxRecDepth 100000 in
set_option maxHeartbeats 1600000 in
theorem pno_c (n : Bool) (aw : Option Addr) (cw : Nat) (ap : Option Addr) (lp cp : Nat) (pt : Bool) (e sg nt : Int) (pw : Bool) (w : World) (hc1 : 0 ≤ cw) (hm1 : cw ≤ maxLen) (hc2 : lp ≤ cp) (hm2 : cp ≤ maxLen) (htab : Tab w) (g0 : lp ≤ 1100) :
    Calls Tryd.prog 4 #[TV n aw 0 cw ap lp cp pt e sg nt pw] w fun x w' => x = .returned (.bool true) ∧ Below w.heap.size w w' := by
  have HT := Lib.hid htab
  unfold maxLen at hm1 hm2
  clear htab
  go_enter Tryd.func4, Tryd.ntmps4
  go_wp2_with fail
  with_reducible refine (headD _ (HT.out.below ((Below.refl w.heap.size w).alloc (by simp <;> omega) _))).mono ?_
  rintro x w1 ⟨rfl, hb⟩
  have Ct := Lib.hid (((Box.new w #[.bool n, .slice aw 0 cw, .slice ap lp cp, .bool pt, .int .i64 e, .int .i64 sg, .int .i64 nt, .bool pw] 38).at (b' := w.heap.size) (by simp)).below hb (by simp <;> omega))
  have b1 := Lib.hid (((Below.refl w.heap.size w).alloc (by simp <;> omega) _).trans (hb.mono (B' := w.heap.size) (by simp <;> omega)))
  clear hb
  have Bt : Hid (Box w1 (w.heap.size) #[.bool n, .slice aw 0 cw, .slice ap lp cp, .bool pt, .int .i64 e, .int .i64 sg, .int .i64 nt, .bool pw]) := Ct
  clear Ct
  obtain ⟨t0, t1, t2, t3, t4, t5, t6, t7, t8⟩ := Bt.out.eight
  go_wp2
  go_ret
  exact ⟨rfl, b1.out⟩

set_option maxRecDepth 100000 in
set_option maxHeartbeats 1600000 in
theorem pno_d (n : Bool) (aw : Option Addr) (lw cw : Nat) (ap : Option Addr) (cp : Nat) (e sg nt : Int) (pw : Bool) (w : World) (hc1 : lw ≤ cw) (hm1 : cw ≤ maxLen) (hc2 : 0 ≤ cp) (hm2 : cp ≤ maxLen) (htab : Tab w) (g0 : lw ≤ 1100) (g1 : 0 < lw) :
    Calls Tryd.prog 4 #[TV n aw lw cw ap 0 cp true e sg nt pw] w fun x w' => x = .returned (.bool true) ∧ Below w.heap.size w w' := by
  have HT := Lib.hid htab
  unfold maxLen at hm1 hm2
  clear htab
  go_enter Tryd.func4, Tryd.ntmps4
  go_wp2_with fail
  with_reducible refine (headD _ (HT.out.below ((Below.refl w.heap.size w).alloc (by simp <;> omega) _))).mono ?_
  rintro x w1 ⟨rfl, hb⟩
  have Ct := Lib.hid (((Box.new w #[.bool n, .slice aw lw cw, .slice ap 0 cp, .bool true, .int .i64 e, .int .i64 sg, .int .i64 nt, .bool pw] 38).at (b' := w.heap.size) (by simp)).below hb (by simp <;> omega))
  have b1 := Lib.hid (((Below.refl w.heap.size w).alloc (by simp <;> omega) _).trans (hb.mono (B' := w.heap.size) (by simp <;> omega)))
  clear hb
  have Bt : Hid (Box w1 (w.heap.size) #[.bool n, .slice aw lw cw, .slice ap 0 cp, .bool true, .int .i64 e, .int .i64 sg, .int .i64 nt, .bool pw]) := Ct
  clear Ct
  obtain ⟨t0, t1, t2, t3, t4, t5, t6, t7, t8⟩ := Bt.out.eight
  go_wp2
  go_ret
  exact ⟨rfl, b1.out⟩

set_option maxRecDepth 100000 in
set_option maxHeartbeats 1600000 in
theorem pno_et (n : Bool) (aw : Option Addr) (lw cw : Nat) (ap : Option Addr) (lp cp : Nat) (e sg nt : Int) (pw : Bool) (w : World) (hc1 : lw ≤ cw) (hm1 : cw ≤ maxLen) (hc2 : lp ≤ cp) (hm2 : cp ≤ maxLen) (htab : Tab w) (g0 : lw ≤ 1100) (g1 : lp ≤ 1100) (g2 : 0 < lw) (g3 : 0 < lp) (g4 : e < -11000) :
    Calls Tryd.prog 4 #[TV n aw lw cw ap lp cp true e sg nt pw] w fun x w' => x = .returned (.bool true) ∧ Below w.heap.size w w' := by
  have HT := Lib.hid htab
  unfold maxLen at hm1 hm2
  clear htab
  go_enter Tryd.func4, Tryd.ntmps4
  go_wp2_with fail
  with_reducible refine (headD _ (HT.out.below ((Below.refl w.heap.size w).alloc (by simp <;> omega) _))).mono ?_
  rintro x w1 ⟨rfl, hb⟩
  have Ct := Lib.hid (((Box.new w #[.bool n, .slice aw lw cw, .slice ap lp cp, .bool true, .int .i64 e, .int .i64 sg, .int .i64 nt, .bool pw] 38).at (b' := w.heap.size) (by simp)).below hb (by simp <;> omega))
  have b1 := Lib.hid (((Below.refl w.heap.size w).alloc (by simp <;> omega) _).trans (hb.mono (B' := w.heap.size) (by simp <;> omega)))
  clear hb
  have Bt : Hid (Box w1 (w.heap.size) #[.bool n, .slice aw lw cw, .slice ap lp cp, .bool true, .int .i64 e, .int .i64 sg, .int .i64 nt, .bool pw]) := Ct
  clear Ct
  obtain ⟨t0, t1, t2, t3, t4, t5, t6, t7, t8⟩ := Bt.out.eight
  go_wp2
  go_ret
  exact ⟨rfl, b1.out⟩

set_option maxRecDepth 100000 in
set_option maxHeartbeats 1600000 in
theorem pno_ft (n : Bool) (aw : Option Addr) (lw cw : Nat) (ap : Option Addr) (lp cp : Nat) (e sg nt : Int) (pw : Bool) (w : World) (hc1 : lw ≤ cw) (hm1 : cw ≤ maxLen) (hc2 : lp ≤ cp) (hm2 : cp ≤ maxLen) (htab : Tab w) (g0 : lw ≤ 1100) (g1 : lp ≤ 1100) (g2 : 0 < lw) (g3 : 0 < lp) (g4 : -11000 ≤ e) (g5 : 11000 < e) :
    Calls Tryd.prog 4 #[TV n aw lw cw ap lp cp true e sg nt pw] w fun x w' => x = .returned (.bool true) ∧ Below w.heap.size w w' := by
  have HT := Lib.hid htab
  unfold maxLen at hm1 hm2
  clear htab
  go_enter Tryd.func4, Tryd.ntmps4
  go_wp2_with fail
  with_reducible refine (headD _ (HT.out.below ((Below.refl w.heap.size w).alloc (by simp <;> omega) _))).mono ?_
  rintro x w1 ⟨rfl, hb⟩
  have Ct := Lib.hid (((Box.new w #[.bool n, .slice aw lw cw, .slice ap lp cp, .bool true, .int .i64 e, .int .i64 sg, .int .i64 nt, .bool pw] 38).at (b' := w.heap.size) (by simp)).below hb (by simp <;> omega))
  have b1 := Lib.hid (((Below.refl w.heap.size w).alloc (by simp <;> omega) _).trans (hb.mono (B' := w.heap.size) (by simp <;> omega)))
  clear hb
  have Bt : Hid (Box w1 (w.heap.size) #[.bool n, .slice aw lw cw, .slice ap lp cp, .bool true, .int .i64 e, .int .i64 sg, .int .i64 nt, .bool pw]) := Ct
  clear Ct
  obtain ⟨t0, t1, t2, t3, t4, t5, t6, t7, t8⟩ := Bt.out.eight
  go_wp2
  go_ret
  exact ⟨rfl, b1.out⟩

set_option maxRecDepth 100000 in
set_option maxHeartbeats 1600000 in
theorem pno_ef (n : Bool) (aw : Option Addr) (lw cw : Nat) (ap : Option Addr) (lp cp : Nat) (e sg nt : Int) (pw : Bool) (w : World) (hc1 : lw ≤ cw) (hm1 : cw ≤ maxLen) (hc2 : lp ≤ cp) (hm2 : cp ≤ maxLen) (htab : Tab w) (g0 : lw ≤ 1100) (g1 : lp ≤ 1100) (g2 : 0 < lw) (g3 : e < -11000) :
    Calls Tryd.prog 4 #[TV n aw lw cw ap lp cp false e sg nt pw] w fun x w' => x = .returned (.bool true) ∧ Below w.heap.size w w' := by
  have HT := Lib.hid htab
  unfold maxLen at hm1 hm2
  clear htab
  go_enter Tryd.func4, Tryd.ntmps4
  go_wp2_with fail
  with_reducible refine (headD _ (HT.out.below ((Below.refl w.heap.size w).alloc (by simp <;> omega) _))).mono ?_
  rintro x w1 ⟨rfl, hb⟩
  have Ct := Lib.hid (((Box.new w #[.bool n, .slice aw lw cw, .slice ap lp cp, .bool false, .int .i64 e, .int .i64 sg, .int .i64 nt, .bool pw] 38).at (b' := w.heap.size) (by simp)).below hb (by simp <;> omega))
  have b1 := Lib.hid (((Below.refl w.heap.size w).alloc (by simp <;> omega) _).trans (hb.mono (B' := w.heap.size) (by simp <;> omega)))
  clear hb
  have Bt : Hid (Box w1 (w.heap.size) #[.bool n, .slice aw lw cw, .slice ap lp cp, .bool false, .int .i64 e, .int .i64 sg, .int .i64 nt, .bool pw]) := Ct
  clear Ct
  obtain ⟨t0, t1, t2, t3, t4, t5, t6, t7, t8⟩ := Bt.out.eight
  go_wp2
  go_ret
  exact ⟨rfl, b1.out⟩

set_option maxRecDepth 100000 in
set_option maxHeartbeats 1600000 in
theorem pno_ff (n : Bool) (aw : Option Addr) (lw cw : Nat) (ap : Option Addr) (lp cp : Nat) (e sg nt : Int) (pw : Bool) (w : World) (hc1 : lw ≤ cw) (hm1 : cw ≤ maxLen) (hc2 : lp ≤ cp) (hm2 : cp ≤ maxLen) (htab : Tab w) (g0 : lw ≤ 1100) (g1 : lp ≤ 1100) (g2 : 0 < lw) (g3 : -11000 ≤ e) (g4 : 11000 < e) :
    Calls Tryd.prog 4 #[TV n aw lw cw ap lp cp false e sg nt pw] w fun x w' => x = .returned (.bool true) ∧ Below w.heap.size w w' := by
  have HT := Lib.hid htab
  unfold maxLen at hm1 hm2
  clear htab
  go_enter Tryd.func4, Tryd.ntmps4
  go_wp2_with fail
  with_reducible refine (headD _ (HT.out.below ((Below.refl w.heap.size w).alloc (by simp <;> omega) _))).mono ?_
  rintro x w1 ⟨rfl, hb⟩
  have Ct := Lib.hid (((Box.new w #[.bool n, .slice aw lw cw, .slice ap lp cp, .bool false, .int .i64 e, .int .i64 sg, .int .i64 nt, .bool pw] 38).at (b' := w.heap.size) (by simp)).below hb (by simp <;> omega))
  have b1 := Lib.hid (((Below.refl w.heap.size w).alloc (by simp <;> omega) _).trans (hb.mono (B' := w.heap.size) (by simp <;> omega)))
  clear hb
  have Bt : Hid (Box w1 (w.heap.size) #[.bool n, .slice aw lw cw, .slice ap lp cp, .bool false, .int .i64 e, .int .i64 sg, .int .i64 nt, .bool pw]) := Ct
  clear Ct
  obtain ⟨t0, t1, t2, t3, t4, t5, t6, t7, t8⟩ := Bt.out.eight
  go_wp2
  go_ret
  exact ⟨rfl, b1.out⟩

end Go.Proofs.YtlppofjmkepceaaDoor
