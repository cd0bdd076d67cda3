/- What the law TableBack leans on: lists that lie in a world, and moved; a table's size. -/
import Derived.Test.YtkbigfkpgjhojaaBkD0
import Derived.Test.YtkbigfkpgjhojaaTdI
import Derived.Test.YtkbigfkpgjhojaaTPlain4
namespace Florin
theorem flat_max {α : Type} {e : α → List UInt8} {c : Nat} : ∀ l : List α, (∀ x ∈ l, (e x).length ≤ c) → (l.flatMap e).length ≤ l.length * c
  | [], _ => by simp
  | x :: l, h => by
    rw [List.flatMap_cons, List.length_append, List.length_cons, Nat.succ_mul]
    have h1 := h x (List.mem_cons_self ..)
    have h2 := flat_max l (fun y hy => h y (List.mem_cons_of_mem _ hy))
    omega
theorem eN_max {n : Int} (h1 : 0 ≤ n) (h : n ≤ 9223372036854775807) : (eN n).length ≤ 9 := vnum_nine (by omega)
theorem eT_max {s : List UInt8} {c : Nat} (h : s.length ≤ c) (hc : c ≤ 9000000) : (eT s).length ≤ c + 9 := by
  unfold eT; rw [List.length_append]; have := vnum_nine (n := s.length) (by omega); omega
end Florin
namespace Go.Proofs.Ytkbigfkpgjhojaa
open Go.RowKit Florin
set_option linter.unusedVariables false
set_option linter.unusedSimpArgs false
theorem nTx_of {x : TxM} (h : gTx x) : nTx x := h.1.2
theorem tx_max {x : TxM} (h : gTx x) (k : ckTx x) : (eTx x).length ≤ 218 := by
  rw [eTx_len]
  have h1 := eN_max k.1 h.1.2
  unfold eN at h1
  have h2 := eT_max k.2 (by decide)
  omega
theorem txs_max {l : List TxM} (h : ∀ x ∈ l, gTx x) (k : ckTxs l) : (eTxs l).length ≤ 4369 := by
  unfold eTxs
  rw [eL_len]
  have h1 := flat_max (e := eTx) (c := 218) l (fun x hx => tx_max (h x hx) (k.1 x hx))
  have h2 := vnum_nine (n := l.length) (by have := k.2; omega)
  have h3 : l.length * 218 ≤ 20 * 218 := Nat.mul_le_mul_right _ k.2
  omega
theorem row_max {x : RowM} (h : gRow x) (k : ckRow x) : (eRow x).length ≤ 4378 := by
  rw [eRow_len]
  have h1 := eN_max k.1 h.1.2
  unfold eN at h1
  have h2 := txs_max h.2 k.2
  omega
theorem rows_max {l : List RowM} (h : ∀ x ∈ l, gRow x) (k : ckRows l) : (eRows l).length ≤ 87569 := by
  unfold eRows
  rw [eL_len]
  have h1 := flat_max (e := eRow) (c := 4378) l (fun x hx => row_max (h x hx) (k.1 x hx))
  have h2 := vnum_nine (n := l.length) (by have := k.2; omega)
  have h3 : l.length * 4378 ≤ 20 * 4378 := Nat.mul_le_mul_right _ k.2
  omega
theorem cur_max {x : CurM} (h : gCur x) (k : ckCur x) : (eCur x).length ≤ 5041 := by
  obtain ⟨k1, k2, k3, k4, k5, k6⟩ := k
  obtain ⟨_, _, _, h4, h5, h6, h7, h8⟩ := h
  have a1 := eT_max (s := x.code) (c := 200) (by omega) (by decide)
  have a2 := eT_max (s := x.sym) (c := 200) (by omega) (by decide)
  have a3 := eT_max (s := x.nar) (c := 200) (by omega) (by decide)
  have a4 := txs_max h4 k2
  have b1 := eN_max k3 h5.2
  have b2 := eN_max k4 h6.2
  have b3 := eN_max k5 h7.2
  have b4 := eN_max k6 h8.2
  unfold eCur
  simp only [List.length_append]
  omega
theorem curs_max {l : List CurM} (h : ∀ x ∈ l, gCur x) (k : ∀ x ∈ l, ckCur x) (kn : l.length ≤ 50) : (eCurs l).length ≤ 252059 := by
  unfold eCurs
  rw [eL_len]
  have h1 := flat_max (e := eCur) (c := 5041) l (fun x hx => cur_max (h x hx) (k x hx))
  have h2 := vnum_nine (n := l.length) (by omega)
  have h3 : l.length * 5041 ≤ 50 * 5041 := Nat.mul_le_mul_right _ kn
  omega
theorem unt_max {x : UntM} (h : gUnt x) (k : ckUnt x) : (eUnt x).length ≤ 4578 := by
  rw [eUnt_len]
  have a1 := eT_max (s := x.1) (c := 200) k.1 (by decide)
  have a4 := txs_max h.2 k.2
  omega
theorem unts_max {l : List UntM} (h : ∀ x ∈ l, gUnt x) (k : ∀ x ∈ l, ckUnt x) (kn : l.length ≤ 50) : (eUnts l).length ≤ 228909 := by
  unfold eUnts
  rw [eL_len]
  have h1 := flat_max (e := eUnt) (c := 4578) l (fun x hx => unt_max (h x hx) (k x hx))
  have h2 := vnum_nine (n := l.length) (by omega)
  have h3 : l.length * 4578 ≤ 50 * 4578 := Nat.mul_le_mul_right _ kn
  omega
theorem EK_max {f : Nat → List UInt8} (h : ∀ k, k < 27 → (f k).length ≤ 5000) : ∀ k, k ≤ 27 → (EK f k).length ≤ k * 5009
  | 0, _ => by simp [EK_zero]
  | k + 1, hk => by
    rw [EK_succ, List.length_append]
    have := EK_max h k (by omega)
    have := eT_max (h k (by omega)) (by decide)
    omega
abbrev tmOf (f : Nat → List UInt8) (mg : Int) (sh lo ms : List RowM) (cu : List CurM) (un : List UntM) (mu : List TxM) : TblM := ⟨(List.range 27).map f, mg, sh, lo, ms, cu, un, mu⟩
theorem enc_of (f : Nat → List UInt8) (mg : Int) (sh lo ms : List RowM) (cu : List CurM) (un : List UntM) (mu : List TxM) : EK f 27 ++ eN mg ++ eRows sh ++ eRows lo ++ eRows ms ++ eCurs cu ++ eUnts un ++ eTxs mu = encT (tmOf f mg sh lo ms cu un mu) := by
  unfold encT EK
  rw [List.flatMap_map]
structure Good (f : Nat → List UInt8) (mg : Int) (sh lo ms : List RowM) (cu : List CurM) (un : List UntM) (mu : List TxM) : Prop where
  wmg : wfI mg
  gsh : ∀ x ∈ sh, gRow x
  glo : ∀ x ∈ lo, gRow x
  gms : ∀ x ∈ ms, gRow x
  gcu : ∀ x ∈ cu, gCur x
  gun : ∀ x ∈ un, gUnt x
  gmu : ∀ x ∈ mu, gTx x
section
variable {f : Nat → List UInt8} {mg : Int} {sh lo ms : List RowM} {cu : List CurM} {un : List UntM} {mu : List TxM}
theorem all_max (g : Good f mg sh lo ms cu un mu) (k : ckTb f mg sh lo ms cu un mu) : (EK f 27).length + (eN mg).length + (eRows sh).length + (eRows lo).length + (eRows ms).length + (eCurs cu).length + (eUnts un).length + (eTxs mu).length ≤ 900000000 := by
  have h1 := EK_max k.kfs 27 (by decide)
  have h2 := eN_max k.kmg g.wmg.2
  have h3 := rows_max g.gsh k.ksh
  have h4 := rows_max g.glo k.klo
  have h5 := rows_max g.gms k.kms
  have h6 := curs_max g.gcu k.kcu k.kcn
  have h7 := unts_max g.gun k.kun k.knn
  have h8 := txs_max g.gmu k.kmu
  omega
theorem enc_max (g : Good f mg sh lo ms cu un mu) (k : ckTb f mg sh lo ms cu un mu) : (encT (tmOf f mg sh lo ms cu un mu)).length ≤ 900000000 := by
  rw [← enc_of]
  have := all_max g k
  simp only [List.length_append]
  omega
theorem inTxs_of {l : List TxM} (h : ∀ x ∈ l, gTx x) (k : ckTxs l) : inTxs l := fun x hx => ⟨(k.1 x hx).1, (h x hx).1.2⟩
theorem inRows_of {l : List RowM} (h : ∀ x ∈ l, gRow x) (k : ckRows l) : ∀ x ∈ l, inRow x := fun x hx => ⟨⟨(k.1 x hx).1, (h x hx).1.2⟩, inTxs_of (h x hx).2 (k.1 x hx).2⟩
theorem in_of (g : Good f mg sh lo ms cu un mu) (k : ckTb f mg sh lo ms cu un mu) : inTbl (tmOf f mg sh lo ms cu un mu) where
  mg := ⟨k.kmg, g.wmg.2⟩
  sh := inRows_of g.gsh k.ksh
  lo := inRows_of g.glo k.klo
  ms := inRows_of g.gms k.kms
  cu := fun x hx => ⟨inTxs_of (g.gcu x hx).2.2.2.1 (k.kcu x hx).2.1, ⟨(k.kcu x hx).2.2.1, (g.gcu x hx).2.2.2.2.1.2⟩, ⟨(k.kcu x hx).2.2.2.1, (g.gcu x hx).2.2.2.2.2.1.2⟩, ⟨(k.kcu x hx).2.2.2.2.1, (g.gcu x hx).2.2.2.2.2.2.1.2⟩, ⟨(k.kcu x hx).2.2.2.2.2, (g.gcu x hx).2.2.2.2.2.2.2.2⟩⟩
  un := fun x hx => inTxs_of (g.gun x hx).2 (k.kun x hx).2
  mu := inTxs_of g.gmu k.kmu
theorem nRows_of {l : List RowM} (h : ∀ x ∈ l, gRow x) : ∀ x ∈ l, nRow x := fun x hx => ⟨(h x hx).1.2, fun y hy => nTx_of ((h x hx).2 y hy)⟩
theorem nCurs_of {l : List CurM} (h : ∀ x ∈ l, gCur x) : ∀ x ∈ l, nCur x := fun x hx => by
  obtain ⟨_, _, _, h4, h5, h6, h7, h8⟩ := h x hx
  exact ⟨h5.2, h6.2, h7.2, h8.2, fun y hy => nTx_of (h4 y hy)⟩
theorem nUnts_of {l : List UntM} (h : ∀ x ∈ l, gUnt x) : ∀ x ∈ l, nUnt x := fun x hx y hy => nTx_of ((h x hx).2 y hy)
end
/-- The six lists of a table lie in a world. -/
structure Six (w : World) (vsh vlo vms vcu vun vmu : Value) (sh lo ms : List RowM) (cu : List CurM) (un : List UntM) (mu : List TxM) : Prop where
  sh : RowL w w.heap.size vsh sh
  lo : RowL w w.heap.size vlo lo
  ms : RowL w w.heap.size vms ms
  cu : CurL w w.heap.size vcu cu
  un : UntL w w.heap.size vun un
  mu : TxL w w.heap.size vmu mu
theorem Six.below {w w' : World} {vsh vlo vms vcu vun vmu : Value} {sh lo ms : List RowM} {cu : List CurM} {un : List UntM} {mu : List TxM} (h : Six w vsh vlo vms vcu vun vmu sh lo ms cu un mu) (hb : Below w.heap.size w w') : Six w' vsh vlo vms vcu vun vmu sh lo ms cu un mu :=
  ⟨h.sh.move hb.size hb, h.lo.move hb.size hb, h.ms.move hb.size hb, h.cu.move hb.size hb, h.un.move hb.size hb, h.mu.move hb.size hb⟩
theorem Six.of {w : World} {vsh vlo vms vcu vun vmu : Value} {sh lo ms : List RowM} {cu : List CurM} {un : List UntM} {mu : List TxM} (h : TbL w vsh vlo vms vcu vun vmu sh lo ms cu un mu) : Six w vsh vlo vms vcu vun vmu sh lo ms cu un mu :=
  ⟨h.toL.1, h.toL.2.1, h.toL.2.2.1, h.toL.2.2.2.1, h.toL.2.2.2.2.1, h.toL.2.2.2.2.2⟩
theorem Six.nil (w : World) : Six w (.slice none 0 0) (.slice none 0 0) (.slice none 0 0) (.slice none 0 0) (.slice none 0 0) (.slice none 0 0) [] [] [] [] [] [] :=
  ⟨rowL_nil _ _, rowL_nil _ _, rowL_nil _ _, curL_nil _ _, untL_nil _ _, txL_nil _ _⟩
theorem same_six {f f' : Nat → List UInt8} {mg : Int} {vsh vlo vms vcu vun vmu wsh wlo wms wcu wun wmu : Value} {sh lo ms : List RowM} {cu : List CurM} {un : List UntM} {mu : List TxM} {w : World} (h : Six w vsh vlo vms vcu vun vmu sh lo ms cu un mu) (k : Six w wsh wlo wms wcu wun wmu sh lo ms cu un mu) (hf : ∀ k, k < 27 → f k = f' k) :
    Calls Try.prog 7 #[.agg (tbA f mg vsh vlo vms vcu vun vmu), .agg (tbA f' mg wsh wlo wms wcu wun wmu)] w fun e w' => e = .returned (.bool true) ∧ Below w.heap.size w w' := by
  refine (same_as _ _ _ _ _ _ _ _ _ _ _ _ _ _ _ _ _ _ _ _ _ _ _ _ _ _ _ _ w h.sh k.sh h.lo k.lo h.ms k.ms h.cu k.cu h.un k.un h.mu k.mu).mono ?_
  rintro y w7 ⟨⟨z, rfl, hz⟩, hb7⟩
  obtain rfl : z = true := hz.2 ⟨hf, rfl, rfl, rfl, rfl, rfl, rfl, rfl⟩
  exact ⟨rfl, hb7⟩
theorem same_zero (w : World) : Calls Try.prog 7 #[.agg Z34, .agg Z34] w fun e w' => e = .returned (.bool true) ∧ Below w.heap.size w w' := same_six (Six.nil w) (Six.nil w) (fun _ _ => rfl)
end Go.Proofs.Ytkbigfkpgjhojaa
