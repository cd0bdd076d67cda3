/- The reader's steps: the end, what is left, signs. -/
import Derived.Test.YtbfhkcljkblnmaaDoorCrA
namespace Go.Proofs.YtbfhkcljkblnmaaDoor
open Go.RowKit Florin
set_option linter.unusedVariables false
set_option linter.unusedSimpArgs false
set_option maxRecDepth 100000 in
set_option maxHeartbeats 1600000 in
theorem ended_as (b : Nat) (T : ByteArray) (p : Nat) (l : List UInt8) (w : World) (h : Rd w b T p) (ha : At T p l) (hT : T.size ≤ 1000000) (z : Bool) (hz : (bl l).isEmpty = z) :
    Calls Tryd.prog 54 #[.pointer (some ⟨b, 0, none⟩)] w fun e w' => ∃ q, e = .returned (.bool z) ∧ At T q (bl l) ∧ Rd w' b T q ∧ w.grownBy w' (some b) := by
  have HR := Lib.hid h
  have HA := Lib.hid ha
  clear h ha
  go_enter Tryd.func54, Tryd.ntmps54
  go_wp2_with fail
  with_reducible refine (skip_as b T p l _ HR.out HA.out hT).mono ?_
  rintro x w1 ⟨q, rfl, hat, hr, hg⟩
  have HM := Lib.hid hat
  have HR2 := Lib.hid hr
  have HG := Lib.hid hg
  have c0 := hr.c0
  have c1 := hr.c1
  have bl := hr.lt
  have HE : Hid (z = ((q : Int) == (T.size : Int))) := Lib.hid (by
    have h1 := hat.len
    have h2 := hat.le
    rw [← hz]
    cases hs : Florin.bl l with
    | nil => rw [hs] at h1; simp at h1; simp; omega
    | cons c t => rw [hs] at h1; simp at h1; simp; omega)
  clear hat hr hg hz
  go_wp2_with fail
  go_region
  all_goals (try go_wp2)
  all_goals go_ret
  exact ⟨q, by rw [HE.out]; rfl, HM.out, HR2.out.drew, grown_drew HG.out⟩
set_option maxRecDepth 100000 in
set_option maxHeartbeats 1600000 in
theorem rest_as (b : Nat) (T : ByteArray) (p : Nat) (l : List UInt8) (w : World) (h : Rd w b T p) (ha : At T p l) (hT : T.size ≤ 1000000) :
    Calls Tryd.prog 40 #[.pointer (some ⟨b, 0, none⟩)] w fun e w' => ∃ q : Nat, e = .returned (.tuple #[.string ⟨(bl l).toArray⟩, .int .i64 (q : Int)]) ∧ At T q (bl l) ∧ Rd w' b T q ∧ w.grownBy w' (some b) := by
  have HR := Lib.hid h
  have HA := Lib.hid ha
  clear h ha
  go_enter Tryd.func40, Tryd.ntmps40
  go_wp2_with fail
  with_reducible refine (skip_as b T p l _ HR.out HA.out hT).mono ?_
  rintro x w1 ⟨q, rfl, hat, hr, hg⟩
  have HM := Lib.hid hat
  have HR2 := Lib.hid hr
  have HG := Lib.hid hg
  have c0 := hr.c0
  have c1 := hr.c1
  have bl := hr.lt
  have hq := hat.le
  have hqi : (q : Int) ≤ (T.size : Int) := by omega
  have HX := Lib.hid hat.rest
  clear hat hr hg
  go_wp2_with fail
  go_region
  all_goals (try go_wp2)
  all_goals go_ret2
  exact ⟨q, by rw [HX.out]; rfl, HM.out, HR2.out.drew, grown_drew HG.out⟩
theorem hasP (s : ByteArray) (g : List UInt8) (r : Bool) (w : World) (h : g.isPrefixOf s.data.toList = r) :
    Calls Tryd.prog 68 #[.string s, S g] w fun e w' => e = .returned (.bool r) ∧ w = w' :=
  (Tryd.strings_HasPrefix s ⟨g.toArray⟩ w).mono fun e w' ⟨he, hw⟩ => ⟨by rw [he, arr_list, ← h]; rfl, hw.symm⟩
set_option maxRecDepth 100000 in
set_option maxHeartbeats 1600000 in
theorem takes_true (g : List UInt8) (b : Nat) (T : ByteArray) (p : Nat) (l : List UInt8) (w : World) (h : Rd w b T p) (ha : At T p l) (hT : T.size ≤ 1000000) (hr : ctk g l = true) :
    Calls Tryd.prog 52 #[.pointer (some ⟨b, 0, none⟩), S g] w fun e w' => ∃ q, e = .returned (.bool true) ∧ At T q (ctkR g l) ∧ Rd w' b T q ∧ w.grownBy w' (some b) := by
  have HR := Lib.hid h
  have HA := Lib.hid ha
  have HB := Lib.hid hr
  clear h ha hr
  go_enter Tryd.func52, Tryd.ntmps52
  go_wp2_with fail
  with_reducible refine (skip_as b T p l _ HR.out HA.out hT).mono ?_
  rintro x w1 ⟨q, rfl, hat, hr, hg⟩
  have HM := Lib.hid hat
  have HR2 := Lib.hid hr
  have HG := Lib.hid hg
  have c0 := hr.c0
  have c1 := hr.c1
  have z1 := hr.z 1
  have bl := hr.lt
  have hq := hat.le
  have hqi : (q : Int) ≤ (T.size : Int) := by omega
  have HP : Hid (g.isPrefixOf (T.extract q T.size).data.toList = true) := Lib.hid (by rw [hat.rest, arr_list]; exact HB.out)
  have gl : g.length ≤ T.size - q := by have h1 := pre_len (show g.isPrefixOf (Florin.bl l) = true from HB.out); have h2 := hat.len; omega
  clear hat hr hg HR HA
  go_wp2_with fail
  go_region_with (go_at_call 68; (with_reducible refine (hasP (T.extract q T.size) g true _ HP.out).mono ?_); rintro x wz ⟨rfl, rfl⟩)
  all_goals go_wp2
  all_goals go_ret
  all_goals exact ⟨q + g.length, rfl, by unfold ctkR; rw [if_pos HB.out]; exact HM.out.drop _ (pre_len (show g.isPrefixOf (Florin.bl l) = true from HB.out)), (HR2.out.drew).to (q + g.length), grown_set (grown_drew HG.out) 1 _⟩
set_option maxRecDepth 100000 in
set_option maxHeartbeats 1600000 in
theorem takes_false (g : List UInt8) (b : Nat) (T : ByteArray) (p : Nat) (l : List UInt8) (w : World) (h : Rd w b T p) (ha : At T p l) (hT : T.size ≤ 1000000) (hr : ctk g l = false) :
    Calls Tryd.prog 52 #[.pointer (some ⟨b, 0, none⟩), S g] w fun e w' => ∃ q, e = .returned (.bool false) ∧ At T q (ctkR g l) ∧ Rd w' b T q ∧ w.grownBy w' (some b) := by
  have HR := Lib.hid h
  have HA := Lib.hid ha
  have HB := Lib.hid hr
  clear h ha hr
  go_enter Tryd.func52, Tryd.ntmps52
  go_wp2_with fail
  with_reducible refine (skip_as b T p l _ HR.out HA.out hT).mono ?_
  rintro x w1 ⟨q, rfl, hat, hr, hg⟩
  have HM := Lib.hid hat
  have HR2 := Lib.hid hr
  have HG := Lib.hid hg
  have c0 := hr.c0
  have c1 := hr.c1
  have z1 := hr.z 1
  have bl := hr.lt
  have hq := hat.le
  have hqi : (q : Int) ≤ (T.size : Int) := by omega
  have HP : Hid (g.isPrefixOf (T.extract q T.size).data.toList = false) := Lib.hid (by rw [hat.rest, arr_list]; exact HB.out)
  clear hat hr hg HR HA
  go_wp2_with fail
  go_region_with (go_at_call 68; (with_reducible refine (hasP (T.extract q T.size) g false _ HP.out).mono ?_); rintro x wz ⟨rfl, rfl⟩)
  all_goals go_wp2
  all_goals go_ret
  all_goals exact ⟨q, rfl, by unfold ctkR; rw [if_neg (by rw [HB.out]; decide)]; exact HM.out, HR2.out.drew, grown_drew HG.out⟩
end Go.Proofs.YtbfhkcljkblnmaaDoor
