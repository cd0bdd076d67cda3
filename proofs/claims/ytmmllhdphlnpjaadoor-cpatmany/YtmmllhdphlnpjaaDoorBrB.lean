/- Texts with places: Parse. -/
import Derived.Test.YtmmllhdphlnpjaaDoorIxB
import Derived.Deep.RegionHeld3
import Derived.Deep.AppendLies
namespace Go.Proofs.YtmmllhdphlnpjaaDoor
open Go.RowKit Florin
set_option linter.unusedVariables false
set_option linter.unusedSimpArgs false
theorem con_br (c : UInt8) : ([123, 125] : List UInt8).contains c = isBr c := by
  simp only [isBr, List.contains, List.elem]
  cases c == 123 <;> cases c == 125 <;> rfl
/-- A text has no brace, or a first one. -/
theorem split_br : ∀ m : List UInt8, (∀ c ∈ m, isBr c = false) ∨ ∃ a c t, m = a ++ c :: t ∧ (∀ d ∈ a, isBr d = false) ∧ isBr c = true
  | [] => .inl (by simp)
  | x :: m => by
    cases hx : isBr x with
    | true => exact .inr ⟨[], x, m, rfl, by simp, hx⟩
    | false =>
      rcases split_br m with h | ⟨a, c, t, rfl, ha, hc⟩
      · exact .inl (fun c hc => by
          cases hc with
          | head => exact hx
          | tail _ h2 => exact h c h2)
      · exact .inr ⟨x :: a, c, t, rfl, (fun c hc => by
          cases hc with
          | head => exact hx
          | tail _ h2 => exact ha c h2), hc⟩
theorem ixa_none {m : List UInt8} (h : ∀ c ∈ m, isBr c = false) : Lib.indexAny m [123, 125] = -1 :=
  Lib.indexAny_none (fun j b hj hb => by rw [con_br]; exact h b (List.mem_of_getElem? hb))
theorem ixa_hit {a t : List UInt8} {c : UInt8} (h : ∀ c ∈ a, isBr c = false) (hc : isBr c = true) : Lib.indexAny (a ++ c :: t) [123, 125] = a.length :=
  Lib.indexAny_hit (x := c) (fun j b hj hb => by
    rw [con_br]
    rw [List.getElem?_append_left hj] at hb
    exact h b (List.mem_of_getElem? hb)) (by simp) (by rw [con_br]; exact hc)
/-- What Parse tells, by what is read. -/
def BTold (w w' : World) (R : BR) (e : Ending) : Prop := match R with
  | .ok T P => ∃ vt vp, e = .returned (.tuple #[.agg #[vt, vp], .int .i64 0, .int .i64 0]) ∧ OwnT w' w.heap.size vt T ∧ OwnP w' w.heap.size vp P
  | .bad c k => e = .returned (.tuple #[.agg #[.slice none 0 0, .slice none 0 0], .int .i64 (c : Int), .int .i64 (k : Int)])
theorem bt_bad {w w' : World} {R : BR} {c k : Nat} {e : Ending} (h : .bad c k = R) (he : e = .returned (.tuple #[.agg #[.slice none 0 0, .slice none 0 0], .int .i64 (c : Int), .int .i64 (k : Int)])) : BTold w w' R e := by
  subst h; exact he
theorem bt_ok {w w' : World} {R : BR} {T : List (List UInt8)} {P : List Nat} {e : Ending} {vt vp : Value} (h : .ok T P = R) (he : e = .returned (.tuple #[.agg #[vt, vp], .int .i64 0, .int .i64 0])) (ht : OwnT w' w.heap.size vt T) (hp : OwnP w' w.heap.size vp P) : BTold w w' R e := by
  subst h; exact ⟨vt, vp, he, ht, hp⟩
theorem ext_lst (s : ByteArray) (k m : Nat) (h : m ≤ s.size) : (s.extract k m).data.toList = (s.data.toList.drop k).take (m - k) := by
  rw [ByteArray.data_extract, Array.toList_extract]
theorem infoS : (Tryd.prog.info? 9).map (fun i => (i.zero, i.size, i.bytes)) = some (some (.string ⟨#[]⟩), 1, 16) := by kernel_rfl
theorem infoN : (Tryd.prog.info? 3).map (fun i => (i.zero, i.size, i.bytes)) = some (some (.int .i64 0), 1, 8) := by kernel_rfl
theorem own_mono {w : World} {base base' : Nat} {e : TypeId} {size : Nat} {v : Value} {n : Nat} {xs : List Value} (h : w.ownsRow base e size v n xs) (hb : base' ≤ base) : w.ownsRow base' e size v n xs := by
  refine ⟨h.1, ?_⟩
  rcases h.2 with hn | ⟨g, cap, cur, rfl, hB, rest⟩
  · exact .inl hn
  · exact .inr ⟨g, cap, cur, rfl, Nat.le_trans hb hB, rest⟩
theorem ext_S (s : ByteArray) (k : Nat) : Value.string (s.extract k s.size) = S (s.data.toList.drop k) := by
  show _ = Value.string ⟨_⟩
  rw [← ext_list, list_arr]
theorem ext_S2 (s : ByteArray) (k m : Nat) (h : m ≤ s.size) : Value.string (s.extract k m) = S ((s.data.toList.drop k).take (m - k)) := by
  show _ = Value.string ⟨_⟩
  rw [← ext_lst s k m h, list_arr]
theorem take_cut (k a : Nat) (m1 : List UInt8) : k + a - k = a := by omega
end Go.Proofs.YtmmllhdphlnpjaaDoor
