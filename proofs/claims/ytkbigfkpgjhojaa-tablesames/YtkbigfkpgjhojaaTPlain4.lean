/- Tables' bytes read back: whole, cut, and with more behind. No program here. -/
import Derived.Test.YtkbigfkpgjhojaaTPlain3
namespace Florin
set_option linter.unusedVariables false
/-- What is read of parts that were laid so, whatever lies behind. -/
def Back {α : Type} (rd : RS → α × RS) (e : α → List UInt8) (P : α → Prop) : Prop := ∀ x rest, P x → (e x).length ≤ 65536 → rd (e x ++ rest, false) = (x, (rest, false))
theorem rdNI_back : Back rdNI eN inI := fun x rest h _ => by
  unfold rdNI eN
  rw [numR_vnum (by have := h.1; have := h.2; omega) rest false]
  have : ((x.toNat : Nat) : Int) = x := Int.toNat_of_nonneg h.1
  rw [this]
theorem textR_back : Back textR eT (fun _ => True) := fun s rest _ hl => by
  unfold eT at hl ⊢
  rw [List.length_append] at hl
  rw [List.append_assoc]
  exact textR_vnum s (by omega) rest false
theorem rdB_back {α β : Type} {f : RS → α × RS} {g : RS → β × RS} {e : α → List UInt8} {d : β → List UInt8} {P : α → Prop} {Q : β → Prop} (hf : Back f e P) (hg : Back g d Q) : Back (rdB f g) (fun x => e x.1 ++ d x.2) (fun x => P x.1 ∧ Q x.2) := fun x rest h hl => by
  have hl2 : (e x.1).length + (d x.2).length ≤ 65536 := by rw [← List.length_append]; exact hl
  have h1 := hf x.1 (d x.2 ++ rest) h.1 (by omega)
  have h2 := hg x.2 rest h.2 (by omega)
  show rdB f g ((e x.1 ++ d x.2) ++ rest, false) = _
  rw [List.append_assoc]
  exact rdB_eq h1 h2
theorem rdLs_back {α : Type} {one : RS → α × RS} {e : α → List UInt8} {P : α → Prop} (h : Back one e P) : ∀ (l acc : List α) (rest : List UInt8), (∀ x ∈ l, P x) → (l.flatMap e).length ≤ 65536 → rdLs one l.length acc (l.flatMap e ++ rest, false) = (acc ++ l, (rest, false))
  | [], acc, rest, _, _ => by simp [rdLs]
  | x :: l, acc, rest, hp, hl => by
    rw [List.flatMap_cons, List.length_append] at hl
    have h1 := h x (l.flatMap e ++ rest) (hp x (List.mem_cons_self ..)) (by omega)
    rw [List.flatMap_cons, List.append_assoc, List.length_cons, rdLs_ok1 (by rw [h1]), h1]
    have h2 := rdLs_back h l (acc ++ [x]) rest (fun y hy => hp y (List.mem_cons_of_mem _ hy)) (by omega)
    rw [h2, List.append_assoc]
    rfl
theorem flat_pos {α : Type} {e : α → List UInt8} (hp : ∀ x, 0 < (e x).length) : ∀ l : List α, l.length ≤ (l.flatMap e).length
  | [] => Nat.le_refl _
  | x :: l => by rw [List.flatMap_cons, List.length_append, List.length_cons]; have := hp x; have := flat_pos hp l; omega
theorem rdList_back {α : Type} {one : RS → α × RS} {e : α → List UInt8} {P : α → Prop} (h : Back one e P) (hpos : ∀ x, 0 < (e x).length) : Back (rdList one) (eL e) (fun l => ∀ x ∈ l, P x) := fun l rest hp hl => by
  have hll := flat_pos hpos l
  unfold eL at hl
  rw [List.length_append] at hl
  unfold rdList eL
  have h1 := numR_vnum (n := l.length) (by omega) (l.flatMap e ++ rest) false
  have h2 : cntR (vnum l.length ++ l.flatMap e ++ rest, false) 65536 = (l.length, (l.flatMap e ++ rest, false)) := by
    rw [List.append_assoc, cntR_yes (by rw [h1]; show ¬ (65536 : Int) < (l.length : Int); omega), h1]
  rw [h2]
  simpa using rdLs_back h l [] rest hp (by omega)
theorem eN_pos (n : Int) : 0 < (eN n).length := vnum_pos _
theorem eT_pos (s : List UInt8) : 0 < (eT s).length := by unfold eT; rw [List.length_append]; have := vnum_pos s.length; omega
theorem eL_pos {α : Type} (f : α → List UInt8) (l : List α) : 0 < (eL f l).length := by unfold eL; rw [List.length_append]; have := vnum_pos l.length; omega
theorem eTx_pos (x : TxM) : 0 < (eTx x).length := by unfold eTx; rw [List.length_append]; have := eN_pos x.1; omega
theorem eRow_pos (x : RowM) : 0 < (eRow x).length := by unfold eRow; rw [List.length_append]; have := eN_pos x.1; omega
theorem eUnt_pos (x : UntM) : 0 < (eUnt x).length := by unfold eUnt; rw [List.length_append]; have := eT_pos x.1; omega
theorem eCur_pos (x : CurM) : 0 < (eCur x).length := by unfold eCur; simp only [List.length_append]; have := eT_pos x.code; omega
theorem Back.imp {α : Type} {rd : RS → α × RS} {e : α → List UInt8} {P Q : α → Prop} (h : Back rd e P) (hq : ∀ x, Q x → P x) : Back rd e Q := fun x rest hx hl => h x rest (hq x hx) hl
theorem rdTx_back : Back rdTx eTx inTx := (rdB_back rdNI_back textR_back).imp fun x h => ⟨h, trivial⟩
theorem rdTxs_back : Back rdTxs eTxs inTxs := rdList_back rdTx_back eTx_pos
theorem rdRow_back : Back rdRow eRow inRow := (rdB_back rdNI_back rdTxs_back).imp fun x h => ⟨h.1, h.2⟩
theorem rdRows_back : Back rdRows eRows (fun l => ∀ x ∈ l, inRow x) := rdList_back rdRow_back eRow_pos
theorem rdUnt_back : Back rdUnt eUnt inUnt := (rdB_back textR_back rdTxs_back).imp fun x h => ⟨trivial, h⟩
theorem rdUnts_back : Back rdUnts eUnts (fun l => ∀ x ∈ l, inUnt x) := rdList_back rdUnt_back eUnt_pos
theorem rdCur_back : Back rdCur eCur inCur := fun c rest h hl => by
  have h1 := (rdB_back (rdB_back (rdB_back (rdB_back (rdB_back (rdB_back (rdB_back textR_back textR_back) textR_back) rdTxs_back) rdNI_back) rdNI_back) rdNI_back) rdNI_back) (((((((c.code, c.sym), c.nar), c.names), c.d), c.i), c.cd), c.ci) rest ⟨⟨⟨⟨⟨⟨⟨trivial, trivial⟩, trivial⟩, h.1⟩, h.2.1⟩, h.2.2.1⟩, h.2.2.2.1⟩, h.2.2.2.2⟩ hl
  have h2 : rdCurP (eCur c ++ rest, false) = ((((((((c.code, c.sym), c.nar), c.names), c.d), c.i), c.cd), c.ci), (rest, false)) := h1
  unfold rdCur
  rw [h2]
  rfl
theorem rdCurs_back : Back rdCurs eCurs (fun l => ∀ x ∈ l, inCur x) := rdList_back rdCur_back eCur_pos
theorem rdTs_back : ∀ n, Back (rdTs n) (fun l => l.flatMap eT) (fun l => l.length = n)
  | 0, l, rest, h, hl => by
    obtain rfl : l = [] := List.length_eq_zero_iff.1 h
    rfl
  | n + 1, [], rest, h, hl => by cases h
  | n + 1, x :: l, rest, h, hl => by
    have hl2 : (eT x).length + (l.flatMap eT).length ≤ 65536 := by
      have h3 := hl
      dsimp only at h3
      rw [List.flatMap_cons, List.length_append] at h3
      exact h3
    have h1 := textR_back x (l.flatMap eT ++ rest) trivial (by omega)
    have h2 := rdTs_back n l rest (by have h4 : (x :: l).length = n + 1 := h; rw [List.length_cons] at h4; show l.length = n; omega) (by show (l.flatMap eT).length ≤ _; omega)
    show rdTs (n + 1) ((x :: l).flatMap eT ++ rest, false) = _
    rw [List.flatMap_cons, List.append_assoc]
    unfold rdTs
    rw [h1]
    dsimp only at h2 ⊢
    rw [h2]
theorem rdTbl_back (t : TblM) (rest : List UInt8) (h : inTbl t) (h27 : t.tx.length = 27) (hl : (encT t).length ≤ 65536) : rdTbl (encT t ++ rest, false) = (t, (rest, false)) := by
  have h1 := (rdB_back (rdB_back (rdB_back (rdB_back (rdB_back (rdB_back (rdB_back (rdTs_back 27) rdNI_back) rdRows_back) rdRows_back) rdRows_back) rdCurs_back) rdUnts_back) rdTxs_back) (((((((t.tx, t.mg), t.sh), t.lo), t.ms), t.cu), t.un), t.mu) rest ⟨⟨⟨⟨⟨⟨⟨h27, h.mg⟩, h.sh⟩, h.lo⟩, h.ms⟩, h.cu⟩, h.un⟩, h.mu⟩ hl
  have h2 : rdTblP (encT t ++ rest, false) = ((((((((t.tx, t.mg), t.sh), t.lo), t.ms), t.cu), t.un), t.mu), (rest, false)) := h1
  unfold rdTbl
  rw [h2]
  rfl
theorem rdTbl_cut (t : TblM) (p m : List UInt8) (h : inTbl t) (h27 : t.tx.length = 27) (hl : (encT t).length ≤ 65536) (hp : encT t = p ++ m) (hm : 0 < m.length) : (!(rdTbl (p, false)).2.2 && (rdTbl (p, false)).2.1.isEmpty) = false := by
  cases hb : (rdTbl (p, false)).2.2 with
  | true => rfl
  | false =>
    cases hr : (rdTbl (p, false)).2.1 with
    | cons a q => rfl
    | nil =>
      exfalso
      have e1 : rdTbl (p, false) = ((rdTbl (p, false)).1, ([], false)) := Prod.ext rfl (Prod.ext hr hb)
      have hs := rdTbl_sound.1 _ _ _ e1
      rw [List.append_nil] at hs
      have hpl : p.length + m.length = (encT t).length := by rw [hp, List.length_append]
      have h2 := rdTbl_back (rdTbl (p, false)).1 m (rdTbl_all _) (rdTbl_len _) (by rw [← hs]; omega)
      rw [← hs, ← hp] at h2
      have h3 := rdTbl_back t [] h h27 hl
      rw [List.append_nil, h2] at h3
      have h4 := congrArg (fun z : TblM × RS => z.2.1) h3
      dsimp only at h4
      rw [h4] at hm
      exact absurd hm (Nat.lt_irrefl _)
end Florin
