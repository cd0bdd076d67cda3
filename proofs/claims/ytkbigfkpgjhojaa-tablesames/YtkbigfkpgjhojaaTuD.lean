/- A table with one thing turned is another one, of other bytes: the plain part. -/
import Derived.Test.YtkbigfkpgjhojaaTuB2
import Derived.Test.YtkbigfkpgjhojaaTPlain5
namespace Go.Proofs.Ytkbigfkpgjhojaa
open Go.RowKit Florin
set_option linter.unusedVariables false
set_option linter.unusedSimpArgs false
structure Ok2 (f : Nat → List UInt8) (mg : Int) (sh lo ms : List RowM) (cu : List CurM) (un : List UntM) (mu : List TxM) : Prop where
  kfs : ∀ k, k < 27 → (f k).length ≤ 5001
  kmg : 0 ≤ mg ∧ mg ≤ 9223372036854775807
  ksh : (∀ x ∈ sh, gRow x ∧ ckRow x) ∧ sh.length ≤ 21
  klo : (∀ x ∈ lo, gRow x ∧ ckRow x) ∧ lo.length ≤ 21
  kms : (∀ x ∈ ms, gRow x ∧ ckRow x) ∧ ms.length ≤ 21
  kcu : (∀ x ∈ cu, gCur x ∧ ckCur x) ∧ cu.length ≤ 51
  kun : (∀ x ∈ un, gUnt x ∧ ckUnt x) ∧ un.length ≤ 51
  kmu : (∀ x ∈ mu, gTx x ∧ ckTx x) ∧ mu.length ≤ 21
theorem rows_max2 {l : List RowM} (h : (∀ x ∈ l, gRow x ∧ ckRow x) ∧ l.length ≤ 21) : (eRows l).length ≤ 100000 := by
  unfold eRows
  rw [eL_len]
  have h1 := flat_max (e := eRow) (c := 4378) l (fun x hx => row_max (h.1 x hx).1 (h.1 x hx).2)
  have h2 := vnum_nine (n := l.length) (by have := h.2; omega)
  have h3 : l.length * 4378 ≤ 21 * 4378 := Nat.mul_le_mul_right _ h.2
  omega
theorem txs_max2 {l : List TxM} (h : (∀ x ∈ l, gTx x ∧ ckTx x) ∧ l.length ≤ 21) : (eTxs l).length ≤ 5000 := by
  unfold eTxs
  rw [eL_len]
  have h1 := flat_max (e := eTx) (c := 218) l (fun x hx => tx_max (h.1 x hx).1 (h.1 x hx).2)
  have h2 := vnum_nine (n := l.length) (by have := h.2; omega)
  have h3 : l.length * 218 ≤ 21 * 218 := Nat.mul_le_mul_right _ h.2
  omega
theorem curs_max2 {l : List CurM} (h : (∀ x ∈ l, gCur x ∧ ckCur x) ∧ l.length ≤ 51) : (eCurs l).length ≤ 300000 := by
  unfold eCurs
  rw [eL_len]
  have h1 := flat_max (e := eCur) (c := 5041) l (fun x hx => cur_max (h.1 x hx).1 (h.1 x hx).2)
  have h2 := vnum_nine (n := l.length) (by have := h.2; omega)
  have h3 : l.length * 5041 ≤ 51 * 5041 := Nat.mul_le_mul_right _ h.2
  omega
theorem unts_max2 {l : List UntM} (h : (∀ x ∈ l, gUnt x ∧ ckUnt x) ∧ l.length ≤ 51) : (eUnts l).length ≤ 300000 := by
  unfold eUnts
  rw [eL_len]
  have h1 := flat_max (e := eUnt) (c := 4578) l (fun x hx => unt_max (h.1 x hx).1 (h.1 x hx).2)
  have h2 := vnum_nine (n := l.length) (by have := h.2; omega)
  have h3 : l.length * 4578 ≤ 51 * 4578 := Nat.mul_le_mul_right _ h.2
  omega
theorem EK_max2 {f : Nat → List UInt8} (h : ∀ k, k < 27 → (f k).length ≤ 5001) : ∀ k, k ≤ 27 → (EK f k).length ≤ k * 5010
  | 0, _ => by simp [EK_zero]
  | k + 1, hk => by
    rw [EK_succ, List.length_append]
    have := EK_max2 h k (by omega)
    have := eT_max (h k (by omega)) (by decide)
    omega
section
variable {f : Nat → List UInt8} {mg : Int} {sh lo ms : List RowM} {cu : List CurM} {un : List UntM} {mu : List TxM}
theorem Ok2.enc (g : Ok2 f mg sh lo ms cu un mu) : (encT (tmOf f mg sh lo ms cu un mu)).length ≤ 900000000 := by
  rw [← enc_of]
  have h1 := EK_max2 g.kfs 27 (by decide)
  have h2 := eN_max g.kmg.1 g.kmg.2
  have h3 := rows_max2 g.ksh
  have h4 := rows_max2 g.klo
  have h5 := rows_max2 g.kms
  have h6 := curs_max2 g.kcu
  have h7 := unts_max2 g.kun
  have h8 := txs_max2 g.kmu
  simp only [List.length_append]
  omega
theorem tTx_of {x : TxM} (h : gTx x) (k : ckTx x) : tTx x := ⟨⟨k.1, h.1.2⟩, by unfold lenI; have := k.2; omega⟩
theorem tTxs_of {l : List TxM} (h : ∀ x ∈ l, gTx x) (k : ckTxs l) : tTxs l := ⟨by unfold lenI; have := k.2; omega, fun x hx => tTx_of (h x hx) (k.1 x hx)⟩
theorem tRows_of {l : List RowM} (h : (∀ x ∈ l, gRow x ∧ ckRow x) ∧ l.length ≤ 21) : tRows l :=
  ⟨by unfold lenI; have := h.2; omega, fun x hx => ⟨⟨(h.1 x hx).2.1, (h.1 x hx).1.1.2⟩, tTxs_of (h.1 x hx).1.2 (h.1 x hx).2.2⟩⟩
theorem Ok2.tell (g : Ok2 f mg sh lo ms cu un mu) : tTbl (tmOf f mg sh lo ms cu un mu) where
  tx := ⟨by simp, fun x hx => by
    obtain ⟨j, hj, rfl⟩ := List.mem_map.1 hx
    have := g.kfs j (List.mem_range.1 hj)
    unfold lenI; omega⟩
  mg := g.kmg
  sh := tRows_of g.ksh
  lo := tRows_of g.klo
  ms := tRows_of g.kms
  cu := ⟨by have := g.kcu.2; show cu.length < _; omega, fun x hx => by
    obtain ⟨⟨p1, p2, p3, p4, p5, p6, p7, p8⟩, k1, k2, k3, k4, k5, k6⟩ := g.kcu.1 x hx
    exact ⟨⟨⟨⟨⟨⟨⟨by unfold lenI; omega, by unfold lenI; omega⟩, by unfold lenI; omega⟩, tTxs_of p4 k2⟩, k3, p5.2⟩, k4, p6.2⟩, k5, p7.2⟩, k6, p8.2⟩⟩
  un := ⟨by have := g.kun.2; show un.length < _; omega, fun x hx => ⟨by unfold lenI; have := (g.kun.1 x hx).2.1; omega, tTxs_of (g.kun.1 x hx).1.2 (g.kun.1 x hx).2.2⟩⟩
  mu := ⟨by have := g.kmu.2; show mu.length < _; omega, fun x hx => tTx_of (g.kmu.1 x hx).1 (g.kmu.1 x hx).2⟩
theorem Ok2.of (g : Good f mg sh lo ms cu un mu) (k : ckTb f mg sh lo ms cu un mu) : Ok2 f mg sh lo ms cu un mu where
  kfs := fun j hj => Nat.le_trans (k.kfs j hj) (by decide)
  kmg := ⟨k.kmg, g.wmg.2⟩
  ksh := ⟨fun x hx => ⟨g.gsh x hx, k.ksh.1 x hx⟩, Nat.le_trans k.ksh.2 (by decide)⟩
  klo := ⟨fun x hx => ⟨g.glo x hx, k.klo.1 x hx⟩, Nat.le_trans k.klo.2 (by decide)⟩
  kms := ⟨fun x hx => ⟨g.gms x hx, k.kms.1 x hx⟩, Nat.le_trans k.kms.2 (by decide)⟩
  kcu := ⟨fun x hx => ⟨g.gcu x hx, k.kcu x hx⟩, Nat.le_trans k.kcn (by decide)⟩
  kun := ⟨fun x hx => ⟨g.gun x hx, k.kun x hx⟩, Nat.le_trans k.knn (by decide)⟩
  kmu := ⟨fun x hx => ⟨g.gmu x hx, k.kmu.1 x hx⟩, Nat.le_trans k.kmu.2 (by decide)⟩
theorem Ok2.encode (g : Ok2 f mg sh lo ms cu un mu) {vsh vlo vms vcu vun vmu : Value} {w : World} (h : Six w vsh vlo vms vcu vun vmu sh lo ms cu un mu) :
    Calls Try.prog 8 #[.agg (tbA f mg vsh vlo vms vcu vun vmu)] w fun e w' => e = .returned (S (encT (tmOf f mg sh lo ms cu un mu))) ∧ Below w.heap.size w w' :=
  encode_tb f mg _ _ _ _ _ _ (tmOf f mg sh lo ms cu un mu) w w.heap.size (Nat.le_refl _) rfl rfl h.sh h.lo h.ms h.cu h.un h.mu g.kmg.2 (nRows_of fun x hx => (g.ksh.1 x hx).1) (nRows_of fun x hx => (g.klo.1 x hx).1) (nRows_of fun x hx => (g.kms.1 x hx).1) (nCurs_of fun x hx => (g.kcu.1 x hx).1) (nUnts_of fun x hx => (g.kun.1 x hx).1) (fun x hx => nTx_of (g.kmu.1 x hx).1) g.enc
theorem row0 (n : Int) (h0 : 0 ≤ n) (h1 : n ≤ 1) : gRow (n, []) ∧ ckRow (n, []) :=
  ⟨⟨⟨by dsimp only; omega, by dsimp only; omega⟩, no_mem⟩, h0, no_mem, Nat.zero_le _⟩
theorem tx0 : gTx (0, []) ∧ ckTx (0, []) := ⟨⟨⟨by decide, by decide⟩, by decide⟩, by decide, by decide⟩
theorem unt0 : gUnt ([], []) ∧ ckUnt ([], []) := ⟨⟨by decide, no_mem⟩, by decide, no_mem, Nat.zero_le _⟩
theorem cur0 : gCur curZ ∧ ckCur curZ := ⟨⟨by decide, by decide, by decide, no_mem, ⟨by decide, by decide⟩, ⟨by decide, by decide⟩, ⟨by decide, by decide⟩, ⟨by decide, by decide⟩⟩, by decide, ⟨no_mem, Nat.zero_le _⟩, by decide, by decide, by decide, by decide⟩
theorem mem_snoc {α : Type} {P : α → Prop} {l : List α} {a : α} {n : Nat} (h : (∀ x ∈ l, P x) ∧ l.length ≤ n) (ha : P a) (hl : l.length + 1 ≤ n) : (∀ x ∈ l ++ [a], P x) ∧ (l ++ [a]).length ≤ n :=
  ⟨fun x hx => by rcases List.mem_append.1 hx with h1 | h1; exact h.1 x h1; rw [List.mem_singleton.1 h1]; exact ha, by rw [List.length_append]; exact hl⟩
theorem mem_cons' {α : Type} {P : α → Prop} {l : List α} {a : α} {n : Nat} (h : (∀ x ∈ l, P x) ∧ l.length ≤ n) (ha : P a) (hl : l.length + 1 ≤ n) : (∀ x ∈ [a] ++ l, P x) ∧ ([a] ++ l).length ≤ n :=
  ⟨fun x hx => by rcases List.mem_append.1 hx with h1 | h1; rw [List.mem_singleton.1 h1]; exact ha; exact h.1 x h1, by rw [List.length_append, List.length_singleton]; omega⟩
variable {f' : Nat → List UInt8} {mg' : Int} {sh' lo' ms' : List RowM} {cu' : List CurM} {un' : List UntM} {mu' : List TxM}
theorem TurnR.ok {b : Bool} (h : TurnR f mg sh lo ms cu un mu b f' mg' sh' lo' ms' cu' un' mu') (g : Good f mg sh lo ms cu un mu) (k : ckTb f mg sh lo ms cu un mu) (hmg : mg ≤ 1000) (hci : ∀ c cs, cu = c :: cs → 0 ≤ c.ci ∧ c.ci ≤ 1000) (hma : ∀ r rs, sh = r :: rs → 0 ≤ r.1 ∧ r.1 ≤ 1000) : Ok2 f' mg' sh' lo' ms' cu' un' mu' := by
  have o := Ok2.of g k
  have l1 := k.ksh.2
  have l2 := k.klo.2
  have l3 := k.kms.2
  have l4 := k.kcn
  have l5 := k.knn
  have l6 := k.kmu.2
  cases h with
  | no => exact o
  | text j hj =>
    have hh : ∀ i, i < 27 → ((fun i => if i = j then f j ++ [120] else f i) i).length ≤ 5001 := fun i hi => by
      dsimp only
      split
      · rw [List.length_append]; have := k.kfs j hj; simp; omega
      · exact o.kfs i hi
    exact { o with kfs := hh }
  | mg => exact { o with kmg := ⟨by have := o.kmg.1; omega, by omega⟩ }
  | sh => exact { o with ksh := mem_snoc o.ksh (row0 0 (by decide) (by decide)) (by omega) }
  | lo => exact { o with klo := mem_cons' o.klo (row0 1 (by decide) (by decide)) (by omega) }
  | ms => exact { o with kms := mem_cons' o.kms (row0 1 (by decide) (by decide)) (by omega) }
  | cu => exact { o with kcu := mem_snoc o.kcu cur0 (by omega) }
  | un => exact { o with kun := mem_snoc o.kun unt0 (by omega) }
  | mu => exact { o with kmu := mem_cons' o.kmu tx0 (by omega) }
  | ci c cs e =>
    subst e
    obtain ⟨b0, b1⟩ := hci c cs rfl
    refine { o with kcu := ⟨fun x hx => ?_, by have := o.kcu.2; simpa using this⟩ }
    rcases List.mem_cons.1 hx with rfl | hx
    · obtain ⟨⟨p1, p2, p3, p4, p5, p6, p7, p8⟩, k1, k2, k3, k4, k5, k6⟩ := o.kcu.1 c (List.mem_cons_self ..)
      exact ⟨⟨p1, p2, p3, p4, p5, p6, p7, by dsimp only; omega, by dsimp only; omega⟩, k1, k2, k3, k4, k5, by dsimp only; omega⟩
    · exact o.kcu.1 x (List.mem_cons_of_mem _ hx)
  | mag r rs e =>
    subst e
    obtain ⟨b0, b1⟩ := hma r rs rfl
    refine { o with ksh := ⟨fun x hx => ?_, by have := o.ksh.2; simpa using this⟩ }
    rcases List.mem_cons.1 hx with rfl | hx
    · obtain ⟨⟨p1, p2⟩, k1, k2⟩ := o.ksh.1 r (List.mem_cons_self ..)
      exact ⟨⟨⟨by dsimp only; omega, by dsimp only; omega⟩, p2⟩, by dsimp only; omega, k2⟩
    · exact o.ksh.1 x (List.mem_cons_of_mem _ hx)
theorem TurnR.ne (h : TurnR f mg sh lo ms cu un mu true f' mg' sh' lo' ms' cu' un' mu') : ¬ ((∀ k, k < 27 → f k = f' k) ∧ mg = mg' ∧ sh = sh' ∧ lo = lo' ∧ ms = ms' ∧ cu = cu' ∧ un = un' ∧ mu = mu') := by
  rintro ⟨e1, e2, e3, e4, e5, e6, e7, e8⟩
  cases h with
  | text j hj => have := congrArg List.length (e1 j hj); simp at this
  | mg => omega
  | sh => have := congrArg List.length e3; simp at this
  | lo => have := congrArg List.length e4; simp at this
  | ms => have := congrArg List.length e5; simp at this
  | cu => have := congrArg List.length e6; simp at this
  | un => have := congrArg List.length e7; simp at this
  | mu => have := congrArg List.length e8; simp at this
  | ci c cs e =>
    rw [e] at e6
    injection e6 with h1 _
    have := congrArg CurM.ci h1
    dsimp only at this
    omega
  | mag r rs e =>
    rw [e] at e3
    injection e3 with h1 _
    have := congrArg Prod.fst h1
    dsimp only at this
    omega
theorem tmOf_eq (h : tmOf f mg sh lo ms cu un mu = tmOf f' mg' sh' lo' ms' cu' un' mu') : (∀ k, k < 27 → f k = f' k) ∧ mg = mg' ∧ sh = sh' ∧ lo = lo' ∧ ms = ms' ∧ cu = cu' ∧ un = un' ∧ mu = mu' := by
  injection h with h1 h2 h3 h4 h5 h6 h7 h8
  refine ⟨fun k hk => ?_, h2, h3, h4, h5, h6, h7, h8⟩
  have := congrArg (fun l => l[k]?) h1
  simpa [hk] using this
end
end Go.Proofs.Ytkbigfkpgjhojaa
