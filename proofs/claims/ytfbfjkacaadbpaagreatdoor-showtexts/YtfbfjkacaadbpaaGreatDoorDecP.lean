/- What Sub, Minus, Abs, Norm of dec return, at k places. -/
import Derived.Test.YtfbfjkacaadbpaaGreatDoorDecO
import Derived.Deep.RegionWith
import Derived.Deep.DrawnRows
namespace Go.Proofs.YtfbfjkacaadbpaaGreatDoor
open Go.RowKit Florin
set_option linter.unusedVariables false
attribute [local go_sem ↓] Go.wp_at_zero Go.wp_at_succ

theorem dv_neg {k : Nat} {y : Int} {b : Bool} {l : List UInt8} {e : Int} (h : Dv k y ⟨b, l, e⟩) : Dv k (-y) ⟨!b, l, e⟩ := by
  obtain ⟨h1, h2, h3⟩ := h
  refine ⟨h1, h2, ?_⟩
  simp only at h3 ⊢
  rw [← h3]
  unfold sg; cases b <;> simp
theorem dv_abs {k : Nat} {y : Int} {b : Bool} {l : List UInt8} {e : Int} (h : Dv k y ⟨b, l, e⟩) : Dv k (y.natAbs : Int) ⟨false, l, e⟩ := by
  obtain ⟨h1, h2, h3⟩ := h
  refine ⟨h1, h2, ?_⟩
  simp only at h3 ⊢
  rw [← h3, sg_natAbs]; rfl
theorem fit_neg {k : Nat} {y : Int} (h : Fit k y) : Fit k (-y) := ⟨h.hk, by rw [Int.natAbs_neg]; exact h.hz⟩
theorem fit_abs {k : Nat} {y : Int} (h : Fit k y) : Fit k (y.natAbs : Int) := ⟨h.hk, by rw [Int.natAbs_natCast]; exact h.hz⟩

theorem nf_minus {k : Nat} {z : Int} (h : Fit k z) : made (!(nf k z).neg) (nf k z).l (nf k z).e = nf k (-z) := by
  have h1 := nf_dv h
  generalize nf k z = d at h1 ⊢
  obtain ⟨b, l, e⟩ := d
  exact (dv_neg h1).made (fit_neg h)

set_option maxRecDepth 100000 in
set_option maxHeartbeats 3200000 in
theorem subD (an : Bool) (sa : ByteArray) (ae : Int) (bn : Bool) (sb : ByteArray) (be : Int) (w : World) (h1 : sa.size ≤ 100000) (h2 : sb.size ≤ 100000) (k : Nat) (x y : Int) (hx : Fit k x) (hy : Fit k y) (hs : Fit k (x - y))
    (hd : made an sa.data.toList ae = nf k x) (hg : Dv k y ⟨bn, sb.data.toList, be⟩) :
    Calls Tryz.prog 36 #[.agg #[.bool an, .string sa, .int .i64 ae], .agg #[.bool bn, .string sb, .int .i64 be]] w fun z w' => z = .returned (V (nf k (x - y))) ∧ Below w.heap.size w w' := by
  have HM : Hid (made (!bn) sb.data.toList be = nf k (-y)) := Lib.hid ((dv_neg hg).made (fit_neg hy))
  have gl : (nf k (-y)).l.length ≤ 100000 := by rw [← HM.out]; have := made_length (!bn) sb.data.toList be; rw [size_list] at this; omega
  have HI := Lib.hid (nf_made (fit_neg hy))
  have HS : Hid (Fit k (x + -y)) := Lib.hid (by rw [← Int.sub_eq_add_neg]; exact hs)
  have HX := Lib.hid hx
  have HY := Lib.hid hy
  have HD := Lib.hid hd
  have HE : Hid (x + -y = x - y) := Lib.hid (by omega)
  clear hd hg hx hy hs
  generalize hn : nf k (-y) = g at *
  generalize hr : nf k (x - y) = r at *
  have HN := Lib.hid hn
  have HR := Lib.hid hr
  clear hn hr
  go_enter Tryz.func36, Tryz.ntmps36
  go_wp2_with fail
  have AX := Lib.hid (((Box.new w #[.bool an, .string sa, .int .i64 ae] 31).alloc (.cells #[.bool bn, .string sb, .int .i64 be] 31)).alloc (.cells zc 31))
  have RX := Lib.hid ((Box.new ((w.alloc (.cells #[.bool an, .string sa, .int .i64 ae] 31)).alloc (.cells #[.bool bn, .string sb, .int .i64 be] 31)) zc 31).at (b' := w.heap.size + 1 + 1) (by simp))
  have BW := Lib.hid (below_alloc3 w (.cells #[.bool an, .string sa, .int .i64 ae] 31) (.cells #[.bool bn, .string sb, .int .i64 be] 31) (.cells zc 31))
  go_region_with (first
    | (go_at_call 33; (with_reducible refine (minus_as bn sb be _ (by omega) g HM.out).mono ?_); rintro z wA ⟨rfl, hb⟩; have A1 := AX.out.drew.below hb (by simp <;> omega); have R1 := RX.out.drew.below hb (by simp <;> omega); have W1 := BW.out.trans ((below_drew' hb).mono (by simp <;> omega)); clear hb; obtain ⟨c0, c1, c2, e0, e1, e2, lt1⟩ := A1.three)
    | (go_at_call 58; (with_reducible refine (addD an sa ae g.neg ⟨g.l.toArray⟩ g.e _ h1 (by rw [arr_size]; exact gl) k x (-y) HX.out (fit_neg HY.out) HS.out HD.out (by rw [arr_list, HN.out]; exact HI.out)).mono ?_); rintro z wB ⟨rfl, hb⟩; have R2 := R1.below hb R1.lt; have W2 := Lib.hid (W1.trans (hb.mono (B' := w.heap.size) W1.size)); clear hb; rw [HE.out, HR.out]; obtain ⟨p0, p1, p2, s0, s1, s2, lt3⟩ := R2.three))
  all_goals
    go_wp2
    exact bodyPost_ret (v := V r) (by simp [results, Tryz.results36, go_sem, p0, p1, p2]) rfl ⟨rfl, below_store3 W2.out (by omega) _ _ _⟩
end Go.Proofs.YtfbfjkacaadbpaaGreatDoor
