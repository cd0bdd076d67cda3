/- Whole structs in memory; a table's cells. -/
import Derived.Test.YtkbigfkpgjhojaaTcE
import Derived.Deep.MidRow
import Derived.Laws.Tables
import Derived.Laws.Rows
namespace Go.Proofs.Ytkbigfkpgjhojaa
open Go.RowKit Florin
set_option linter.unusedVariables false
set_option linter.unusedSimpArgs false
attribute [local go_sem ↓] Go.wp_at_zero Go.wp_at_succ
section
variable {P : Program}
theorem run_loadVar_box {w : World} {b : Nat} {X : Array Value} {T ty : TypeId} {d : TypeDesc} (h : BoxT w b X T) (hu : P.underlying ty = some d) (hd : (match d with | .struct _ | .array _ _ => true | _ => false) = true) (hi : (P.info? ty).map (·.size) = some X.size) :
    (loadVar ty ⟨b, 0, none⟩).run P w = .ok (.agg X) w := run_loadVar_row w b T ty X (0, 0) d h hu hd hi
theorem wpList_load_box {ops : Array Oper} {rest : List Oper} {op : Oper} {a : Act} {w : World} {Q : Exit → Act → World → Prop} (hgd : op.guard = none) (ty : TypeId) (x : Operand) (ho : op.op = .load ty x)
    (b : Nat) (hx : a.eval x = .pointer (some ⟨b, 0, none⟩)) (X : Array Value) (T : TypeId) (d : TypeDesc) (hb : BoxT w b X T)
    (hu : P.underlying ty = some d) (hd : (match d with | .struct _ | .array _ _ => true | _ => false) = true) (hi : (P.info? ty).map (·.size) = some X.size)
    (h : wpList P ops Q rest (a.put op.dst (.agg X)) w) : wpList P ops Q (op :: rest) a w :=
  wpList_plain hgd fun K hK => by
    unfold Oper.wp execOp
    simp only [ho, hx, Instr.loadAt, Instr.sureAddr, Sem.run_bind, Sem.run_pure, Result.andThen_ok, run_loadVar_box hb hu hd hi]
    exact hK _ _ h
theorem grown_row (w : World) (b : Nat) (X : Array Value) : w.grownBy (w.setRow b X) (some b) :=
  ⟨rfl, rfl, rfl, by simp, fun k _ hn => setRow_other w b k X (fun e => hn (by rw [e]))⟩
theorem wpList_store_box {ops : Array Oper} {rest : List Oper} {op : Oper} {a : Act} {w : World} {Q : Exit → Act → World → Prop} (hgd : op.guard = none) (ty : TypeId) (x y : Operand) (ho : op.op = .store ty x y)
    (b : Nat) (old X : Array Value) (T : TypeId) (hx : a.eval x = .pointer (some ⟨b, 0, none⟩)) (hy : a.eval y = .agg X) (hb : BoxT w b old T)
    (hi : (P.info? ty).map (·.size) = some X.size) (hs : old.size = X.size) (h1 : X.all (·.oneCell') = true)
    (h : ∀ w', BoxT w' b X T → w.grownBy w' (some b) → wpList P ops Q rest (a.put op.dst undef) w') : wpList P ops Q (op :: rest) a w :=
  wpList_plain hgd fun K hK => by
    unfold Oper.wp execOp
    simp only [ho, hx, hy, Instr.storeAt, Instr.sureAddr, Sem.run_bind, Sem.run_pure, Result.andThen_ok, run_storeVar_row w b T ty old X hb hi hs h1]
    exact hK _ _ (h _ (setRow_heap w b old X T (0, 0) hb) (grown_row w b X))
end
/-- A table's cells. -/
def tbA (f : Nat → List UInt8) (mg : Int) (vsh vlo vms vcu vun vmu : Value) : Array Value := #[S (f 0), S (f 1), S (f 2), S (f 3), S (f 4), S (f 5), S (f 6), S (f 7), S (f 8), S (f 9), S (f 10), S (f 11), S (f 12), S (f 13), S (f 14), S (f 15), .int .i64 mg, S (f 16), S (f 17), S (f 18), S (f 19), S (f 20), vsh, vlo, vms, vcu, vun, vmu, S (f 21), S (f 22), S (f 23), S (f 24), S (f 25), S (f 26)]
theorem tbA_size (f : Nat → List UInt8) (mg : Int) (vsh vlo vms vcu vun vmu : Value) : (tbA f mg vsh vlo vms vcu vun vmu).size = 34 := rfl
theorem tb_info (f : Nat → List UInt8) (mg : Int) (vsh vlo vms vcu vun vmu : Value) : (Try.prog.info? TTb).map (·.size) = some (tbA f mg vsh vlo vms vcu vun vmu).size := by rw [tbA_size]; kernel_rfl
theorem tb_get (f : Nat → List UInt8) (mg : Int) (vsh vlo vms vcu vun vmu : Value) (k : Nat) (hk : k < 27) : (tbA f mg vsh vlo vms vcu vun vmu)[offT.getD k 0]? = some (S (f k)) := by
  match k, hk with
  | 0, _ => rfl
  | 1, _ => rfl
  | 2, _ => rfl
  | 3, _ => rfl
  | 4, _ => rfl
  | 5, _ => rfl
  | 6, _ => rfl
  | 7, _ => rfl
  | 8, _ => rfl
  | 9, _ => rfl
  | 10, _ => rfl
  | 11, _ => rfl
  | 12, _ => rfl
  | 13, _ => rfl
  | 14, _ => rfl
  | 15, _ => rfl
  | 16, _ => rfl
  | 17, _ => rfl
  | 18, _ => rfl
  | 19, _ => rfl
  | 20, _ => rfl
  | 21, _ => rfl
  | 22, _ => rfl
  | 23, _ => rfl
  | 24, _ => rfl
  | 25, _ => rfl
  | 26, _ => rfl
  | n + 27, h => exact absurd h (by omega)
theorem tb_put (f : Nat → List UInt8) (mg : Int) (vsh vlo vms vcu vun vmu : Value) (t : List UInt8) (k : Nat) (hk : k < 27) : (tbA f mg vsh vlo vms vcu vun vmu).setIfInBounds (offT.getD k 0) (S t) = tbA (fun j => if j = k then t else f j) mg vsh vlo vms vcu vun vmu := by
  match k, hk with
  | 0, _ => rfl
  | 1, _ => rfl
  | 2, _ => rfl
  | 3, _ => rfl
  | 4, _ => rfl
  | 5, _ => rfl
  | 6, _ => rfl
  | 7, _ => rfl
  | 8, _ => rfl
  | 9, _ => rfl
  | 10, _ => rfl
  | 11, _ => rfl
  | 12, _ => rfl
  | 13, _ => rfl
  | 14, _ => rfl
  | 15, _ => rfl
  | 16, _ => rfl
  | 17, _ => rfl
  | 18, _ => rfl
  | 19, _ => rfl
  | 20, _ => rfl
  | 21, _ => rfl
  | 22, _ => rfl
  | 23, _ => rfl
  | 24, _ => rfl
  | 25, _ => rfl
  | 26, _ => rfl
  | n + 27, h => exact absurd h (by omega)
def Z34 : Array Value := tbA (fun _ => []) 0 (.slice none 0 0) (.slice none 0 0) (.slice none 0 0) (.slice none 0 0) (.slice none 0 0) (.slice none 0 0)
theorem getD_snoc (acc : List (List UInt8)) (t : List UInt8) (k : Nat) (h : acc.length = k) : (fun j => (acc ++ [t]).getD j []) = (fun j => if j = k then t else acc.getD j []) := by
  subst h
  funext j
  by_cases hj : j = acc.length
  · subst hj; simp [List.getD_eq_getElem?_getD]
  · rw [if_neg hj]
    simp only [List.getD_eq_getElem?_getD]
    rcases Nat.lt_or_ge j acc.length with h | h
    · rw [List.getElem?_append_left h]
    · rw [List.getElem?_append_right h, List.getElem?_eq_none (by simp; omega), List.getElem?_eq_none h]
theorem rdTs_succ (n : Nat) (st : RS) : rdTs (n + 1) st = ((textR st).1 :: (rdTs n (textR st).2).1, (rdTs n (textR st).2).2) := rfl
end Go.Proofs.Ytkbigfkpgjhojaa
