/- The reader of patterns: places and numbers. -/
import Derived.Test.YtmmllhdphlnpjaaDoorPtE
namespace Go.Proofs.YtmmllhdphlnpjaaDoor
open Go.RowKit Florin
set_option linter.unusedVariables false
set_option linter.unusedSimpArgs false
attribute [local go_sem ↓] Go.wp_at_zero Go.wp_at_succ
abbrev TP : TypeId := 27
/-- A pattern's cells with places alone. -/
abbrev NC (h m a f g o : Nat) : Array Value := #[.slice none 0 0, .slice none 0 0, .slice none 0 0, .slice none 0 0, .bool false, .int .i64 (h : Int), .int .i64 (m : Int), .int .i64 (a : Int), .int .i64 (f : Int), .int .i64 (g : Int), .int .i64 (o : Int)]
theorem cnt_le {g : List UInt8} (hg : g ≠ []) : ∀ (n : Nat) (l : List UInt8), l.length ≤ n → cntP g l * g.length ≤ l.length
  | n, l, hn => by
    have h0 := List.length_pos_iff.2 hg
    cases hp : g.isPrefixOf l with
    | false => rw [cntP_no hp]; omega
    | true =>
      have h1 := pre_len2 hp
      cases n with
      | zero => omega
      | succ n =>
        have h2 := cnt_le hg n (l.drop g.length) (by rw [List.length_drop]; omega)
        rw [List.length_drop] at h2
        rw [cntP_yes hg hp, Nat.add_mul, Nat.one_mul]; omega
theorem Rd.boxne {w : World} {b c : Nat} {T : ByteArray} {p : Nat} {cs : Array Value} (h : Rd w b T p) (hx : BoxT w c cs TP) : b ≠ c := by
  intro e
  subst e
  have h1 : w.heap[b]? = some (.cells cs TP) := hx
  have h2 : w.heap[b]? = _ := h
  rw [h2] at h1
  have h3 := Option.some.inj h1
  injection h3 with _ h4 _
  exact absurd h4 (by decide)
theorem Rd.other {w : World} {b : Nat} {T : ByteArray} {p : Nat} (h : Rd w b T p) {a : Addr} (hn : b ≠ a.block) (v : Value) : Rd (w.setCell a v) b T p := BoxT.other h hn v
/-- What a group tells. -/
def GV (c : Nat) (a f g o : Nat) (w : World) (x : Nat × Nat × Nat) (v : Value) : Prop := v = .int .i64 (x.2.2 : Int) ∧ BoxT w c (NC x.1 x.2.1 a f g o) TP
/-- What a part of the reader tells that writes a block of its caller, too. -/
def GTold (b c : Nat) (T : ByteArray) (w : World) (a f g o : Nat) (r : PR (Nat × Nat × Nat)) (e : Ending) (w' : World) : Prop :=
  match r with
  | .ok x l => ∃ p, e = .returned (.int .i64 (x.2.2 : Int)) ∧ BoxT w' c (NC x.1 x.2.1 a f g o) TP ∧ At T p l ∧ Rd w' b T p ∧ (∃ w1, w.grownBy w1 (some b) ∧ w1.grownBy w' (some c))
  | .bad l => ∃ p, e = Fault 1 p ∧ At T p l ∧ w.grownBy w' (some b)
set_option maxRecDepth 100000 in
set_option maxHeartbeats 3200000 in
theorem group_as (b c : Nat) (T : ByteArray) (p : Nat) (l : List UInt8) (w : World) (h : Rd w b T p) (ha : At T p l) (hT : T.size ≤ 1000) (H m a f g o : Nat) (hc : BoxT w c (NC H m a f g o) TP) (hH : H ≤ 10000) (hm : m ≤ 10000) (R : PR (Nat × Nat × Nat)) (hR : grpP H m l = R) :
    Calls Tryd.prog 48 #[.pointer (some ⟨b, 0, none⟩), .pointer (some ⟨c, 0, none⟩)] w (GTold b c T w a f g o R) := by
  have hbc := h.boxne hc
  have HR := Lib.hid h
  have HA := Lib.hid ha
  have HC := Lib.hid hc
  have hlT : l.length ≤ 1000 := by have := ha.len; omega
  have bl := h.lt
  have cl := hc.lt
  have c6 := hc.cell 6
  simp at c6
  obtain ⟨x, hx⟩ : ∃ x, (if m = 0 then cntP [35] l else 0) = x := ⟨_, rfl⟩
  have hxl : x ≤ l.length := by
    rw [← hx]
    by_cases hm0 : m = 0
    · rw [if_pos hm0]; have := cnt_le (g := [35]) (by simp) _ l (Nat.le_refl _); simpa using this
    · rw [if_neg hm0]; omega
  obtain ⟨z, hz⟩ : ∃ z, cntP [48] (l.drop x) = z := ⟨_, rfl⟩
  have hzl : z ≤ l.length := by have := cnt_le (g := [48]) (by simp) _ (l.drop x) (Nat.le_refl _); rw [List.length_drop] at this; rw [← hz]; simp at this; omega
  have HRr : Hid ((if x + z = 0 then .bad (l.drop x) else .ok (H + x, m + z, x + z) ((l.drop x).drop z)) = R) := Lib.hid (by rw [← hR, ← hz, ← hx]; rfl)
  have HZ := Lib.hid hz
  have HX := Lib.hid hx
  have A1 := Lib.hid (ha.drop x hxl)
  clear h ha hc hR hz hx
  go_enter Tryd.func48, Tryd.ntmps48
  go_upto_if 11 with fail
  go_cut [5] from 12 (fun v w' => v = .int .i64 (x : Int) ∧ Rd w' b T (p + x) ∧ BoxT w' c (NC H m a f g o) TP ∧ w.grownBy w' (some b))
  case first =>
    by_cases hm0 : m = 0
    · subst hm0
      have HXc : Hid (cntP [35] l = x) := Lib.hid (by rw [← HX.out, if_pos rfl])
      go_wp2_with fail
      with_reducible refine (count_as [35] (by simp) b T p l _ HR.out HA.out (by omega) x HXc.out).mono ?_
      rintro e w1 ⟨rfl, hat, hr, hg⟩
      have R1 : Hid (Rd w1 b T (p + x)) := Lib.hid (by simpa using hr)
      have C1 := Lib.hid (HC.out.grown hg (fun e => hbc (Option.some.inj e).symm))
      clear hat hr
      have G1 := Lib.hid hg
      clear hg
      go_wp2
      go_meet
      case rel => exact ⟨rfl, R1.out, C1.out, G1.out⟩
    · have hmb : ((m : Int) == 0) = false := by simp; omega
      have HX0 : Hid (x = 0) := Lib.hid (by rw [← HX.out, if_neg hm0])
      clear hm0
      go_wp2
      go_meet
      case rel => exact ⟨by rw [HX0.out]; rfl, by rw [HX0.out]; exact HR.out, HC.out, World.grownBy.refl _ _⟩
  case rest =>
    obtain ⟨rfl, hr, hc, hg⟩ := hcut
    have R1 := Lib.hid hr
    have C1 := Lib.hid hc
    have G1 := Lib.hid hg
    clear hr hc hg c6 HR HC
    go_wp2_with fail
    with_reducible refine (count_as [48] (by simp) b T (p + x) (l.drop x) _ R1.out A1.out (by omega) z HZ.out).mono ?_
    rintro e w2 ⟨rfl, hat, hr, hg⟩
    have R2 : Hid (Rd w2 b T (p + x + z)) := Lib.hid (by simpa using hr)
    have A2 : Hid (At T (p + x + z) ((l.drop x).drop z)) := Lib.hid (by simpa using hat)
    have C2 := Lib.hid (C1.out.grown hg (fun e => hbc (Option.some.inj e).symm))
    have G2 := Lib.hid (grown_trans G1.out hg)
    have hs2 := G2.out.size
    clear hat hr hg
    by_cases h0 : x + z = 0
    · have h0i : (x : Int) + (z : Int) = 0 := by omega
      have hz0 : z = 0 := by omega
      have HQ : Hid (.bad (l.drop x) = R) := Lib.hid (by rw [← HRr.out, if_pos h0])
      have R2b : Hid (Rd w2 b T (p + x)) := Lib.hid (by have := R2.out; rw [hz0] at this; exact this)
      clear h0 hz0
      go_wp2_with fail
      with_reducible refine (give_as b T (p + x) (l.drop x) _ R2b.out A1.out (by omega)).mono ?_
      rintro e w3 ⟨rfl, hg⟩
      have G3 := Lib.hid (grown_trans G2.out hg)
      clear hg
      go_wp2
      rw [← HQ.out]
      exact ⟨rfl, p + x, rfl, A1.out, G3.out⟩
    · have h0i : ¬ (x : Int) + (z : Int) = 0 := by omega
      have h0b : ((x : Int) + (z : Int) == 0) = false := by simp; omega
      have HQ : Hid (.ok (H + x, m + z, x + z) ((l.drop x).drop z) = R) := Lib.hid (by rw [← HRr.out, if_neg h0])
      have c5 := C2.out.cell 5
      have c6 := C2.out.cell 6
      have z5 := C2.out.frozen 5
      have z6 := C2.out.frozen 6
      have cl2 := C2.out.lt
      simp at c5 c6
      clear h0
      have D := Lib.hid ((C2.out.set 5 (.int .i64 ((H : Int) + (x : Int)))).set 6 (.int .i64 ((m : Int) + (z : Int))))
      have RD := Lib.hid ((R2.out.other (a := ⟨c, 5, none⟩) hbc (.int .i64 ((H : Int) + (x : Int)))).other (a := ⟨c, 6, none⟩) hbc (.int .i64 ((m : Int) + (z : Int))))
      have GD : Hid (w2.grownBy ((w2.setCell ⟨c, 5, none⟩ (.int .i64 ((H : Int) + (x : Int)))).setCell ⟨c, 6, none⟩ (.int .i64 ((m : Int) + (z : Int)))) (some c)) := Lib.hid (grown_set (grown_set (World.grownBy.refl _ _) 5 _) 6 _)
      go_wp2
      go_ret
      rw [← HQ.out]
      exact ⟨p + x + z, rfl, D.out, A2.out, RD.out, w2, G2.out, GD.out⟩
end Go.Proofs.YtmmllhdphlnpjaaDoor
