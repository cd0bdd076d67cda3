/- The reader of patterns: bytes that begin no sign. -/
import Derived.Test.YtmmllhdphlnpjaaDoorPtL
namespace Florin
def wsF : Nat → List UInt8 → Option (List UInt8)
  | 0, _ => none
  | f + 1, l => if l.isEmpty then none else if (decL l).1 = 65533 ∧ (decL l).2 = 1 then some l else wsF f (l.drop (decL l).2)
def wsQ (l : List UInt8) : Option (List UInt8) := wsF (l.length + 1) l
theorem dec_pos {l : List UInt8} (h : l ≠ []) : 0 < (decL l).2 := by
  have h1 := nx_pos h
  unfold nxP at h1
  rw [List.length_take] at h1; omega
theorem wsF_more : ∀ (f k : Nat) (l : List UInt8), l.length < f → l.length < k → wsF f l = wsF k l
  | 0, _, l, h, _ => absurd h (by omega)
  | _ + 1, 0, l, _, h => absurd h (by omega)
  | f + 1, k + 1, l, hf, hk => by
    unfold wsF
    by_cases h0 : l.isEmpty = true
    · rw [if_pos h0, if_pos h0]
    · rw [if_neg h0, if_neg h0]
      by_cases h1 : (decL l).1 = 65533 ∧ (decL l).2 = 1
      · rw [if_pos h1, if_pos h1]
      · rw [if_neg h1, if_neg h1]
        have hne : l ≠ [] := fun e => h0 (by rw [e]; rfl)
        have h2 := dec_pos hne
        have h3 := List.length_pos_iff.2 hne
        exact wsF_more f k _ (by rw [List.length_drop]; omega) (by rw [List.length_drop]; omega)
theorem ws_end : wsQ [] = none := rfl
theorem ws_bad {l : List UInt8} (h : l ≠ []) (h1 : (decL l).1 = 65533 ∧ (decL l).2 = 1) : wsQ l = some l := by
  unfold wsQ wsF
  rw [if_neg (fun e => h (List.isEmpty_iff.1 e)), if_pos h1]
theorem ws_more {l : List UInt8} (h : l ≠ []) (h1 : ¬ ((decL l).1 = 65533 ∧ (decL l).2 = 1)) : wsQ l = wsQ (l.drop (decL l).2) := by
  have h2 := dec_pos h
  have h3 := List.length_pos_iff.2 h
  unfold wsQ
  rw [show wsF (l.length + 1) l = (if l.isEmpty then none else if (decL l).1 = 65533 ∧ (decL l).2 = 1 then some l else wsF l.length (l.drop (decL l).2)) from rfl, if_neg (fun e => h (List.isEmpty_iff.1 e)), if_neg h1]
  exact wsF_more _ _ _ (by rw [List.length_drop]; omega) (by omega)
end Florin
namespace Go.Proofs.YtmmllhdphlnpjaaDoor
open Go.RowKit Florin
set_option linter.unusedVariables false
set_option linter.unusedSimpArgs false
attribute [local go_sem ↓] Go.wp_at_zero Go.wp_at_succ
/-- What is told of a text whose signs are looked at. -/
def WTold (T : ByteArray) (w : World) (r : Option (List UInt8)) (e : Ending) (w' : World) : Prop :=
  match r with
  | none => e = .returned (.tuple #[]) ∧ Below w.heap.size w w'
  | some l => (∃ p, e = Fault 1 p ∧ At T p l) ∧ Below w.heap.size w w'
set_option maxRecDepth 100000 in
set_option maxHeartbeats 3200000 in
theorem signs_as (T : ByteArray) (w : World) (hT : T.size ≤ 1000) (hE : Env w) (R : Option (List UInt8)) (hR : wsQ T.data.toList = R) :
    Calls Tryd.prog 14 #[.string T] w (WTold T w R) := by
  have HQ := Lib.hid hR
  have HE := Lib.hid hE
  have A0 : Hid (At T 0 T.data.toList) := Lib.hid ⟨Nat.zero_le _, rfl⟩
  clear hR hE
  go_enter Tryd.func14, Tryd.ntmps14
  go_wp2_with fail
  go_loopg [2] (T.size) (fun k v wr => ∃ q m, k = m.length ∧ v = .int .i64 ((q : Nat) : Int) ∧ At T q m ∧ wsQ m = R ∧ Env wr ∧ Below w.heap.size w wr)
  case atStart => exact ⟨0, T.data.toList, by rw [size_list], rfl, A0.out, HQ.out, HE.out, Below.refl _ _⟩
  case round =>
    obtain ⟨q, m, hk, rfl, hat, hq, he, hb⟩ := hrel
    have HK := Lib.hid hk
    have AM := Lib.hid hat
    have QM := Lib.hid hq
    have EM := Lib.hid he
    have BM := Lib.hid hb
    have hle := hat.le
    have hlen := hat.len
    have hws := hb.size
    clear hk hat hq he hb
    by_cases hlt : q < T.size
    · have hqi : (q : Int) < (T.size : Int) := by omega
      have hqi2 : (q : Int) ≤ (T.size : Int) := by omega
      have hne : m ≠ [] := fun e => by subst e; simp at hlen; omega
      have hc : Calls Tryd.prog 19 #[.string (T.extract q T.size)] wr fun e w' => e = .returned (.tuple #[.int .i32 ((decL m).1 : Int), .int .i64 ((decL m).2 : Int)]) ∧ Below wr.heap.size wr w' := by
        have h1 := Tryd.utf8_DecodeRuneInString (T.extract q T.size) wr EM.out.t
        have e : Lib.decodeGo (T.extract q T.size) = decL m := (decodeGo_at (T.extract q T.size)).trans (by rw [AM.out.rest, arr_list])
        rw [e] at h1
        exact h1
      have HC := Lib.hid hc
      have hd := decL_le m
      have hp := dec_pos hne
      obtain ⟨r, hr⟩ : ∃ r, (decL m).1 = r := ⟨_, rfl⟩
      obtain ⟨z, hz⟩ : ∃ z, (decL m).2 = z := ⟨_, rfl⟩
      have HB : Hid (r = 65533 ∧ z = 1 → wsQ m = some m) := Lib.hid (fun h => ws_bad hne (by rw [hr, hz]; exact h))
      have HM : Hid (¬ (r = 65533 ∧ z = 1) → wsQ m = wsQ (m.drop z)) := Lib.hid (fun h => by rw [← hz]; exact ws_more hne (by rw [hr, hz]; exact h))
      rw [hr, hz] at HC
      rw [hz] at hd hp
      have A2 := Lib.hid (AM.out.drop z hd)
      have hdl : (m.drop z).length = m.length - z := List.length_drop
      clear hc hr hz hne
      have fin1 : r = 65533 ∨ r ≠ 65533 := by omega
      have fin2 : z = 1 ∨ z ≠ 1 := by omega
      rcases fin1 with h1 | h1
      · have hb1 : ((r : Int) == 65533) = true := by simp; omega
        rcases fin2 with h2 | h2
        · have hb2 : ((z : Int) == 1) = true := by simp; omega
          have Q2 := Lib.hid ((HB.out ⟨h1, h2⟩).symm.trans QM.out)
          clear h1 h2
          go_wp2_with fail
          with_reducible refine (HC.out).mono ?_
          rintro x w1 ⟨rfl, hb⟩
          have B1 := Lib.hid (BM.out.trans (hb.mono hws))
          clear hb
          go_wp2_with fail
          with_reducible refine (sgive_as 1 q _).mono ?_
          rintro x w2 ⟨rfl, rfl⟩
          go_wp2
          rw [← Q2.out]
          exact ⟨rfl, ⟨q, rfl, AM.out⟩, B1.out⟩
        · have hb2 : ((z : Int) == 1) = false := by simp; omega
          have Q2 := Lib.hid ((HM.out (fun h => h2 h.2)).symm.trans QM.out)
          clear h1 h2
          go_wp2_with fail
          with_reducible refine (HC.out).mono ?_
          rintro x w1 ⟨rfl, hb⟩
          have B1 := Lib.hid (BM.out.trans (hb.mono hws))
          have E1 := Lib.hid (EM.out.below hb)
          clear hb
          go_wp2
          go_roundg (m.length - z)
          case measure => rw [HK.out]; omega
          case rel => exact ⟨q + z, m.drop z, hdl.symm, by go_num, A2.out, Q2.out, E1.out, B1.out⟩
      · have hb1 : ((r : Int) == 65533) = false := by simp; omega
        have Q2 := Lib.hid ((HM.out (fun h => h1 h.1)).symm.trans QM.out)
        clear h1 fin2
        go_wp2_with fail
        with_reducible refine (HC.out).mono ?_
        rintro x w1 ⟨rfl, hb⟩
        have B1 := Lib.hid (BM.out.trans (hb.mono hws))
        have E1 := Lib.hid (EM.out.below hb)
        clear hb
        go_wp2
        go_roundg (m.length - z)
        case measure => rw [HK.out]; omega
        case rel => exact ⟨q + z, m.drop z, hdl.symm, by go_num, A2.out, Q2.out, E1.out, B1.out⟩
    · have hqi : ¬ (q : Int) < (T.size : Int) := by omega
      obtain rfl : m = [] := AM.out.nil hlt
      have Q2 := Lib.hid (ws_end.symm.trans QM.out)
      go_wp2
      go_end0
      rw [← Q2.out]
      exact ⟨rfl, BM.out⟩
end Go.Proofs.YtmmllhdphlnpjaaDoor
