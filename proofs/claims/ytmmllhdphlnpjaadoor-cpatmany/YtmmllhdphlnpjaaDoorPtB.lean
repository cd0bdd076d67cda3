/- The reader of patterns: how often, the next sign, where it gives up. -/
import Derived.Test.YtmmllhdphlnpjaaDoorPtA
import Derived.Test.YtmmllhdphlnpjaaDoorPText
namespace Go.Proofs.YtmmllhdphlnpjaaDoor
open Go.RowKit Florin
set_option linter.unusedVariables false
set_option linter.unusedSimpArgs false
attribute [local go_sem ↓] Go.wp_at_zero Go.wp_at_succ
abbrev Fault (e : Int) (p : Nat) : Ending := .panicked [{ v := .iface 43 (.agg #[.int .i64 e, .int .i64 (p : Int)]), recovered := false }]
/-- What the reader leans on: the tables of signs, a number of the library's. -/
structure Env (w : World) : Prop where
  t : Tabs w
  m : ∃ m : Int, w.cell? ⟨3, 0, none⟩ = some (.int .i64 m)
theorem Env.below {w w' : World} (h : Env w) (hb : Below w.heap.size w w') : Env w' :=
  ⟨h.t.below hb, by obtain ⟨m, hm⟩ := h.m; exact ⟨m, (hb.cell (p := ⟨_, 0, none⟩) (World.block_lt_of_cell? w _ hm)).trans hm⟩⟩
theorem Env.grown {w w' : World} (h : Env w) {b : Nat} {T : ByteArray} {p : Nat} (hr : Rd w b T p) (hg : w.grownBy w' (some b)) : Env w' := by
  have n1 : some 0 ≠ some b := by
    have h0 := h.t.1 0 (by decide)
    intro e
    have e2 := hr.c0
    rw [← Option.some.inj e] at e2
    have e3 := h0.symm.trans e2
    simp at e3
  have n2 : some 1 ≠ some b := by
    have h0 : w.cell? ⟨1, 0, none⟩ = _ := (h.t.2 0 (by decide)).1
    intro e
    have e2 := hr.c0
    rw [← Option.some.inj e] at e2
    have e3 := h0.symm.trans e2
    simp at e3
  refine ⟨⟨fun c hc => hg.cell (h.t.1 c hc) n1, fun i hi => ⟨hg.cell (h.t.2 i hi).1 n2, hg.cell (h.t.2 i hi).2 n2⟩⟩, ?_⟩
  obtain ⟨m, hm⟩ := h.m
  refine ⟨m, hg.cell hm ?_⟩
  intro e
  have e2 := hr.c0
  rw [← Option.some.inj e] at e2
  have e3 := hm.symm.trans e2
  simp at e3
theorem decL_le (l : List UInt8) : (decL l).2 ≤ l.length := by
  unfold decL
  by_cases h : l = []
  · rw [if_pos h]; exact Nat.zero_le _
  · rw [if_neg h]
    have := List.length_pos_iff.2 h
    by_cases h0 : lead l = 0
    · rw [if_pos h0]; exact this
    · rw [if_neg h0]; exact lead_le l
/-- What a part of the reader tells. -/
def PTold {α : Type} (b : Nat) (T : ByteArray) (w : World) (V : World → α → Value → Prop) (r : PR α) (e : Ending) (w' : World) : Prop :=
  match r with
  | .ok x l => ∃ v p, e = .returned v ∧ V w' x v ∧ At T p l ∧ Rd w' b T p ∧ w.grownBy w' (some b)
  | .bad l => ∃ p, e = Fault 1 p ∧ At T p l ∧ w.grownBy w' (some b)
set_option maxRecDepth 100000 in
theorem sgive_as (e : Int) (p : Nat) (w : World) : Calls Tryd.prog 20 #[.int .i64 e, .int .i64 (p : Int)] w fun z w' => z = Fault e p ∧ w = w' := by
  go_enter Tryd.func20, Tryd.ntmps20
  go_wp2
  exact ⟨rfl, rfl, rfl⟩
set_option maxRecDepth 100000 in
set_option maxHeartbeats 1600000 in
theorem give_as (b : Nat) (T : ByteArray) (p : Nat) (l : List UInt8) (w : World) (h : Rd w b T p) (ha : At T p l) (hT : T.size ≤ 1000000) :
    Calls Tryd.prog 24 #[.pointer (some ⟨b, 0, none⟩)] w fun z w' => z = Fault 1 p ∧ w.grownBy w' (some b) := by
  have HR := Lib.hid h
  have HA := Lib.hid ha
  have bl := h.lt
  clear h ha
  go_enter Tryd.func24, Tryd.ntmps24
  go_wp2_with fail
  with_reducible refine (rest_as b T p l _ HR.out HA.out hT).mono ?_
  rintro x w1 ⟨rfl, hr, hg⟩
  have HG := Lib.hid hg
  clear hr hg
  go_wp2_with fail
  with_reducible refine (sgive_as 1 p _).mono ?_
  rintro x w2 ⟨rfl, rfl⟩
  go_wp2
  exact ⟨rfl, rfl, HG.out⟩
set_option maxRecDepth 100000 in
set_option maxHeartbeats 1600000 in
theorem count_as (g : List UInt8) (hg0 : g ≠ []) (b : Nat) (T : ByteArray) (p : Nat) (l : List UInt8) (w : World) (h : Rd w b T p) (ha : At T p l) (hT : T.size ≤ 1000000) (c : Nat) (hc : cntP g l = c) :
    Calls Tryd.prog 41 #[.pointer (some ⟨b, 0, none⟩), S g] w fun e w' => e = .returned (.int .i64 (c : Int)) ∧ At T (p + c * g.length) (l.drop (c * g.length)) ∧ Rd w' b T (p + c * g.length) ∧ w.grownBy w' (some b) := by
  have HR := Lib.hid h
  have HA := Lib.hid ha
  have HC := Lib.hid hc
  have bl0 := h.lt
  have hgl := List.length_pos_iff.2 hg0
  clear h ha hc
  go_enter Tryd.func41, Tryd.ntmps41
  go_wp2_with fail
  go_loopw [5] (fun v wr => ∃ k : Nat, v = .int .i64 k ∧ k * g.length ≤ l.length ∧ cntP g (l.drop (k * g.length)) + k = c ∧ Rd wr b T (p + k * g.length) ∧ w.grownBy wr (some b)) (fun v _ => l.length + 1 - (intOf v).toNat)
  case atStart => exact ⟨0, rfl, by simp, by rw [Nat.zero_mul, List.drop_zero, HC.out]; rfl, by rw [Nat.zero_mul]; exact HR.out, World.grownBy.refl _ _⟩
  case round =>
    obtain ⟨k, rfl, hk, hck, hr, hg⟩ := hrel
    have HR2 := Lib.hid hr
    have HG := Lib.hid hg
    have HK := Lib.hid hck
    have bl := hr.lt
    have HA2 := Lib.hid (HA.out.drop (k * g.length) hk)
    have hlT := HA.out.len
    have hkl : k ≤ l.length := Nat.le_trans (Nat.le_mul_of_pos_right k hgl) hk
    clear hr hg hck
    cases hp : g.isPrefixOf (l.drop (k * g.length)) with
    | true =>
      have HP := Lib.hid hp
      have hle := pre_len2 hp
      rw [List.length_drop] at hle
      have HK2 : Hid (cntP g (l.drop ((k + 1) * g.length)) + (k + 1) = c) := Lib.hid (by
        have h1 := cntP_yes hg0 hp
        rw [List.drop_drop] at h1
        rw [Nat.add_mul, Nat.one_mul]
        have h2 := HK.out
        omega)
      have HE : Hid ((k + 1) * g.length = k * g.length + g.length) := Lib.hid (by rw [Nat.add_mul, Nat.one_mul])
      clear hp
      go_wp2_with fail
      with_reducible refine (takes_true g b T (p + k * g.length) _ _ HR2.out HA2.out hT HP.out).mono ?_
      rintro x w1 ⟨rfl, hr, hg⟩
      have HR3 := Lib.hid hr
      have HG3 := Lib.hid (grown_trans HG.out hg)
      clear hr hg
      go_wp2
      go_roundw
      case rel => exact ⟨k + 1, by go_num, by rw [HE.out]; omega, HK2.out, by rw [HE.out, ← Nat.add_assoc]; exact HR3.out, HG3.out⟩
      case measure => simp [intOf]; omega
    | false =>
      have HP := Lib.hid hp
      have HKc : Hid (k = c) := Lib.hid (by have h1 := cntP_no hp; have h2 := HK.out; omega)
      clear hp
      go_wp2_with fail
      with_reducible refine (takes_false g b T (p + k * g.length) _ _ HR2.out HA2.out hT HP.out).mono ?_
      rintro x w1 ⟨rfl, hr, hg⟩
      have HR3 := Lib.hid hr
      have HG3 := Lib.hid (grown_trans HG.out hg)
      clear hr hg
      go_wp2
      go_ret
      exact ⟨by rw [HKc.out]; rfl, by rw [← HKc.out]; exact HA2.out, by rw [← HKc.out]; exact HR3.out, HG3.out⟩
set_option maxRecDepth 100000 in
set_option maxHeartbeats 1600000 in
theorem next_as (b : Nat) (T : ByteArray) (p : Nat) (l : List UInt8) (w : World) (h : Rd w b T p) (ha : At T p l) (hT : T.size ≤ 1000000) (hE : Env w) (g : List UInt8) (hg : nxP l = g) :
    Calls Tryd.prog 61 #[.pointer (some ⟨b, 0, none⟩)] w fun e w' => e = .returned (S g) ∧ Rd w' b T p ∧ w.grownBy w' (some b) := by
  have HR := Lib.hid h
  have HA := Lib.hid ha
  have HE := Lib.hid hE
  have HN := Lib.hid hg
  have bl := h.lt
  clear h ha hE hg
  go_enter Tryd.func61, Tryd.ntmps61
  go_wp2_with fail
  with_reducible refine (rest_as b T p l _ HR.out HA.out hT).mono ?_
  rintro x w1 ⟨rfl, hr, hg⟩
  have HR2 := Lib.hid hr
  have HG := Lib.hid hg
  have E1 := HE.out.grown HR.out hg
  have hc : Calls Tryd.prog 19 #[S l] w1 fun e w' => e = .returned (.tuple #[.int .i32 ((decL l).1 : Int), .int .i64 ((decL l).2 : Int)]) ∧ Below w1.heap.size w1 w' := by
    have h1 := Tryd.utf8_DecodeRuneInString ⟨l.toArray⟩ w1 E1.t
    have e : Lib.decodeGo ⟨l.toArray⟩ = decL l := (decodeGo_at ⟨l.toArray⟩).trans (by rw [arr_list])
    rw [e] at h1
    exact h1
  have hd : (decL l).2 ≤ l.length := decL_le l
  have HC := Lib.hid hc
  have HX : Hid ((⟨l.toArray⟩ : ByteArray).extract 0 (decL l).2 = ⟨g.toArray⟩) := Lib.hid (by
    rw [← HN.out]
    apply ByteArray.ext
    rw [ByteArray.data_extract]
    simp [nxP])
  have hsz : (⟨l.toArray⟩ : ByteArray).size = l.length := arr_size l
  clear hc hr hg E1
  generalize (decL l).1 = r at HC
  generalize (decL l).2 = z at HC hd HX
  have hzi : (z : Int) ≤ (l.length : Int) := by omega
  go_wp2_with fail
  with_reducible refine HC.out.mono ?_
  rintro x w2 ⟨rfl, hb⟩
  have HR3 := Lib.hid (HR2.out.below hb)
  have HG3 := Lib.hid (grown_trans HG.out (show w1.grownBy w2 (some b) from ⟨hb.os, hb.tape, hb.output, hb.size, fun i hi _ => hb.block i hi⟩))
  clear hb
  go_wp2
  go_ret
  exact ⟨by rw [HX.out]; rfl, HR3.out, HG3.out⟩
end Go.Proofs.YtmmllhdphlnpjaaDoor
