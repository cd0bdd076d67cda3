/- Texts, rows of bytes and blocks of memory: what the walks over bytes lean on. -/
import Derived.Test.YtkbigfkpgjhojaaProg
import Derived.Test.YtkbigfkpgjhojaaWPlain
import Derived.WalkKit
import Derived.WalkSpells
import Derived.WalkLawsBesides
import Derived.Below
import Derived.Lib.Hide
import Derived.IntWalk
import Derived.OwnWalk
import Derived.Laws.OwnMore
import Derived.Laws.IdiomStrings
import Derived.Deep.AppendLies
import Derived.Deep.Cut
import Derived.Lib.Builder
import Derived.Lib.SmallJoins
import Derived.Laws.CopyOwn
import Derived.Lib.BufferWrite
namespace Go.Proofs.Ytkbigfkpgjhojaa
open Go.RowKit Florin
set_option linter.unusedVariables false
set_option linter.unusedSimpArgs false
abbrev S (l : List UInt8) : Value := .string ⟨l.toArray⟩
abbrev bv (c : UInt8) : Value := .int .u8 (c.toNat : Int)
abbrev ptr (b : Nat) : Value := .pointer (some ⟨b, 0, none⟩)
theorem size_list (t : ByteArray) : t.data.toList.length = t.size := by simp
theorem arr_list (l : List UInt8) : (⟨l.toArray⟩ : ByteArray).data.toList = l := by simp
theorem arr_size (l : List UInt8) : (⟨l.toArray⟩ : ByteArray).size = l.length := by rw [← size_list, arr_list]
theorem arr_append (x y : List UInt8) : ((⟨x.toArray⟩ : ByteArray) ++ (⟨y.toArray⟩ : ByteArray)) = ⟨(x ++ y).toArray⟩ := by
  apply ByteArray.ext
  simp [ByteArray.data_append]
theorem list_arr (t : ByteArray) : (⟨t.data.toList.toArray⟩ : ByteArray) = t := by apply ByteArray.ext; simp
theorem S_list (t : ByteArray) : S t.data.toList = .string t := by rw [S, list_arr]
theorem ret_S {a b : List UInt8} (h : a = b) : Ending.returned (S a) = .returned (S b) := by rw [h]
theorem ret_int {k : IntKind} {a b : Int} (h : a = b) : Ending.returned (.int k a) = .returned (.int k b) := by rw [h]
theorem ret_bool {a b : Bool} (h : a = b) : Ending.returned (.bool a) = .returned (.bool b) := by rw [h]
theorem ret_two {a b c d : Int} (h : a = b) (h2 : c = d) : Ending.returned (.tuple #[.int .i64 a, .int .i64 c]) = .returned (.tuple #[.int .i64 b, .int .i64 d]) := by rw [h, h2]
theorem at_list (s : ByteArray) (i : Nat) (h : i < s.size) : s.data.toList.drop i = s[i] :: s.data.toList.drop (i + 1) := by
  have hq : i < s.data.toList.length := by rw [size_list]; exact h
  rw [List.drop_eq_getElem_cons hq]; rfl
theorem ext_list (t : ByteArray) (k : Nat) : (t.extract k t.size).data.toList = t.data.toList.drop k := by
  rw [ByteArray.data_extract]
  simp
  exact List.take_of_length_le (by simp)
theorem ext_take (t : ByteArray) (k : Nat) : (t.extract 0 k).data.toList = t.data.toList.take k := by
  rw [ByteArray.data_extract]
  simp
theorem ext_S (t : ByteArray) (k : Nat) : t.extract k t.size = ⟨(t.data.toList.drop k).toArray⟩ := by rw [← ext_list, list_arr]
theorem take_S (t : ByteArray) (k : Nat) : t.extract 0 k = ⟨(t.data.toList.take k).toArray⟩ := by rw [← ext_take, list_arr]
theorem grown_trans {a b c : World} {r : Option Nat} (h : a.grownBy b r) (k : b.grownBy c r) : a.grownBy c r :=
  ⟨k.os.trans h.os, k.tape.trans h.tape, k.output.trans h.output, Nat.le_trans h.size k.size, fun i hi hn => (k.block i (Nat.lt_of_lt_of_le hi h.size) hn).trans (h.block i hi hn)⟩
theorem grown_of_below {a b : World} (h : Below a.heap.size a b) (r : Option Nat) : a.grownBy b r :=
  ⟨h.os, h.tape, h.output, h.size, fun i hi _ => h.block i hi⟩
theorem grown_drew {a b : World} {r : Option Nat} (h : a.grownBy b r) : a.grownBy b.drew r := ⟨h.os, h.tape, h.output, h.size, h.block⟩
theorem grown_alloc {a b : World} {r : Option Nat} (h : a.grownBy b r) (o : Obj) : a.grownBy (b.alloc o) r := grown_trans h (World.grownBy_alloc b o r)
theorem grown_set {a b : World} {r : Nat} (h : a.grownBy b (some r)) (i : Nat) (v : Value) : a.grownBy (b.setCell ⟨r, i, none⟩ v) (some r) :=
  grown_trans h ⟨rfl, rfl, rfl, by simp [World.setCell], fun k _ hk => Below.heap_setCell _ _ _ _ (fun e => hk (by rw [e]))⟩
theorem below_grown {w W w' : World} {B b : Nat} (h : Below B w W) (hB : B ≤ W.heap.size) (hb : B ≤ b) (hg : W.grownBy w' (some b)) : Below B w w' :=
  h.grown hg hB (fun k e => by cases e; exact hb)
/-- A block of a type, with these cells. -/
def BoxT (w : World) (b : Nat) (cs : Array Value) (t : TypeId) : Prop := w.heap[b]? = some (.cells cs t)
theorem BoxT.lt {w : World} {b : Nat} {cs : Array Value} {t : TypeId} (h : BoxT w b cs t) : b < w.heap.size := by
  rcases Nat.lt_or_ge b w.heap.size with h' | h'
  · exact h'
  · have h2 : w.heap[b]? = some (.cells cs t) := h
    simp [Array.getElem?_eq_none h'] at h2
theorem BoxT.cell {w : World} {b : Nat} {cs : Array Value} {t : TypeId} (h : BoxT w b cs t) (i : Nat) : w.cell? ⟨b, i, none⟩ = cs[i]? := Lib.cell_of_heap h i
theorem BoxT.frozen {w : World} {b : Nat} {cs : Array Value} {t : TypeId} (h : BoxT w b cs t) (i : Nat) : w.frozen? ⟨b, i, none⟩ = false := Lib.frozen_of_heap h i
theorem BoxT.set {w : World} {b : Nat} {cs : Array Value} {t : TypeId} (h : BoxT w b cs t) (i : Nat) (v : Value) : BoxT (w.setCell ⟨b, i, none⟩ v) b (cs.setIfInBounds i v) t := Joins.block_setCell h v
theorem BoxT.set0 {w : World} {b : Nat} {x0 x1 : Value} {t : TypeId} (h : BoxT w b #[x0, x1] t) (v : Value) : BoxT (w.setCell ⟨b, 0, none⟩ v) b #[v, x1] t := h.set 0 v
theorem BoxT.set1 {w : World} {b : Nat} {x0 x1 : Value} {t : TypeId} (h : BoxT w b #[x0, x1] t) (v : Value) : BoxT (w.setCell ⟨b, 1, none⟩ v) b #[x0, v] t := h.set 1 v
theorem BoxT.new (w : World) (cs : Array Value) (t : TypeId) : BoxT (w.alloc (.cells cs t)) w.heap.size cs t := by show (w.heap.push _)[w.heap.size]? = _; simp
theorem BoxT.alloc {w : World} {b : Nat} {cs : Array Value} {t : TypeId} (h : BoxT w b cs t) (o : Obj) : BoxT (w.alloc o) b cs t := (Below.heap_alloc w o b h.lt).trans h
theorem BoxT.below {w w' : World} {b : Nat} {cs : Array Value} {t : TypeId} (h : BoxT w b cs t) (hb : Below w.heap.size w w') : BoxT w' b cs t := (hb.block b h.lt).trans h
theorem BoxT.grown {w w' : World} {b : Nat} {cs : Array Value} {t : TypeId} {r : Option Nat} (h : BoxT w b cs t) (hg : w.grownBy w' r) (hn : some b ≠ r) : BoxT w' b cs t := (hg.block b h.lt hn).trans h
theorem BoxT.other {w : World} {b : Nat} {cs : Array Value} {t : TypeId} (h : BoxT w b cs t) {a : Addr} (hn : b ≠ a.block) (v : Value) : BoxT (w.setCell a v) b cs t := (Below.heap_setCell w a v b hn).trans h
theorem BoxT.apart {w : World} {b k : Nat} {cs ds : Array Value} {t u : TypeId} (h : BoxT w b cs t) (h2 : BoxT w k ds u) (hn : t ≠ u) : b ≠ k := fun e => by
  subst e
  have h3 : w.heap[b]? = some (.cells ds u) := h2
  rw [show w.heap[b]? = some (.cells cs t) from h] at h3
  injection h3 with h3
  injection h3 with _ h4
  exact hn h4
theorem infoB : (Try.prog.info? 5).map (fun i => (i.zero, i.size, i.bytes)) = some (some (.int .u8 0), 1, 1) := by kernel_rfl
/-- A row of bytes of the call's own. -/
abbrev OwnB (w : World) (B : Nat) (v : Value) (l : List UInt8) : Prop := w.ownsRow B 5 1 v l.length (l.map bv)
theorem OwnB.below {w w' : World} {B : Nat} {v : Value} {l : List UInt8} (h : OwnB w B v l) (hb : Below w.heap.size w w') : OwnB w' B v l := by
  refine ⟨h.1, ?_⟩
  rcases h.2 with hn | ⟨g, cap, cur, rfl, hB, hg, rest⟩
  · exact .inl hn
  · have hlt : g < w.heap.size := by
      rcases Nat.lt_or_ge g w.heap.size with h' | h'
      · exact h'
      · simp [Array.getElem?_eq_none h'] at hg
    exact .inr ⟨g, cap, cur, rfl, hB, (hb.block g hlt).trans hg, rest⟩
theorem OwnB.nil (w : World) (B : Nat) : OwnB w B (.slice none 0 0) [] := ⟨rfl, .inl ⟨rfl, rfl⟩⟩
theorem conv_own {w : World} {B : Nat} {v : Value} {l : List UInt8} (h : OwnB w B v l) : (convert 81 9 v).run Try.prog w = .ok (S l) w := by
  rcases h.2 with ⟨rfl, hn⟩ | ⟨g, cap, cur, rfl, hB, hg, h1, h2, h3, h4⟩
  · obtain rfl := List.length_eq_zero_iff.1 hn
    rw [run_convert_bytes_string w 81 9 5 none 0 0 Try.underlying81 Try.underlying5 Try.underlying9]
    rfl
  · refine run_convert_bytes_back w 81 9 5 ⟨g, 0, none⟩ cap l Try.underlying81 Try.underlying5 Try.underlying9 ?_
    intro j hj
    exact h.cells rfl j _ (by simp [hj])
theorem conv_one (W : World) (c : UInt8) (z : Int) (hz : z = c.toNat) : (convert 81 9 (.slice (some ⟨W.heap.size, 0, none⟩) 1 1)).run Try.prog (W.alloc (.cells #[.int .u8 z] 5)) = .ok (S [c]) (W.alloc (.cells #[.int .u8 z] 5)) := by
  subst hz
  refine run_convert_bytes_back (W.alloc (.cells #[bv c] 5)) 81 9 5 ⟨W.heap.size, 0, none⟩ 1 [c] Try.underlying81 Try.underlying5 Try.underlying9 ?_
  intro j hj
  obtain rfl : j = 0 := by simpa using hj
  simp [Addr.add]
theorem news_one (W : World) (z : Int) : ∀ j u, [Value.int .u8 z][j]? = some u → (W.alloc (.cells #[.int .u8 z] 5)).cell? (Addr.add ⟨W.heap.size, 0, none⟩ j) = some u := by
  intro j u hj
  match j, hj with
  | 0, hj => simp at hj; subst hj; simp [Addr.add]
theorem one_u8 (z : Int) : ∀ u ∈ [Value.int .u8 z], u.oneCell' = true := by intro u hu; simp at hu; subst hu; rfl
theorem len_max {n : Nat} (h : n ≤ 1000000000) : n ≤ maxLen := by unfold maxLen; omega
theorem alloc_ge {B : Nat} {w : World} (h : B ≤ w.heap.size) (o : Obj) : B ≤ (w.alloc o).heap.size := by simp; omega
/-- 'copy' out of a text, as a step of a region whose order is open. -/
theorem step_copy_text {P : Program} {ops : Array Oper} {o : Oper} {a : Act} {w : World} {K : Act → World → Prop} {Q : Exit → Act → World → Prop} {E : Prop} (hgd : o.guard = none) (d x : Operand) (dT sT : TypeId)
    (ho : o.op = .call { callee := .builtin .copy, args := #[d, x], argTypes := #[dT, sT] }) (elem : TypeId) (hu : P.underlying dT = some (.slice elem)) (hsz : (P.info? elem).map (·.size) = some 1)
    (dp : Option Addr) (dLen dCap : Nat) (s : ByteArray) (hd : a.eval d = .slice dp dLen dCap) (hx : a.eval x = .string s)
    (g off : Nat) (cur : List Value) (t : TypeId) (hg : w.heap[g]? = some (.cells cur.toArray t (0, 0))) (hle : s.size ≤ dLen) (hpos : 0 < s.size → dp = some ⟨g, off, none⟩)
    (hfit : off + s.size ≤ cur.length) (B : Nat) (w0 : World) (hb : Below B w0 w) (hBg : B ≤ g)
    (h : ∀ w', Hid (w'.heap[g]? = some (.cells (splice cur off (Lib.byteCells s.data.toList)).toArray t (0, 0))) → Below B w0 w' → K (a.put o.dst (goInt s.size)) w') :
    if Region.wanted o (yielded ops a.tmps) = true then Oper.wp P o a w K Q else E := by
  have hw : Region.wanted o (yielded ops a.tmps) = true := by simp [Region.wanted, hgd]
  rw [if_pos hw]
  by_cases h0 : s.size = 0
  · have hl : s.data.toList = [] := List.eq_nil_of_length_eq_zero (by rw [size_list]; exact h0)
    have hrun := Lib.run_copy_empty_string (P := P) w dT sT o.type elem dp dLen dCap s hu (by rw [Option.isSome_iff_exists]; exact ⟨1, hsz⟩) h0
    unfold Oper.wp
    simp [execOp, ho, resolve, invoke, builtin, hd, hx, hrun, Result.andThen]
    have h1 := h w (show _ = _ by rw [hl, hg]; simp [splice, Lib.byteCells]) hb
    rw [h0] at h1
    exact h1
  · obtain rfl := hpos (by omega)
    have hrun := Lib.run_copy_row_string (P := P) w dT sT o.type elem g off dLen dCap s cur.toArray t hu hsz hg hle (by simpa using hfit)
    unfold Oper.wp
    simp [execOp, ho, resolve, invoke, builtin, hd, hx, hrun, Result.andThen]
    have hl : (Lib.byteCells s.data.toList).length = s.size := by rw [Lib.byteCells_length, size_list]
    exact h _ (show _ = _ by simpa [splice, hl] using setRow_heap w g _ _ t _ hg) (below_setRow hb hBg _)
end Go.Proofs.Ytkbigfkpgjhojaa
