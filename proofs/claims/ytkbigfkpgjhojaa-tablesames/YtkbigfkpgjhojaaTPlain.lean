/- Tables and their bytes. No program here. -/
import Derived.Test.YtkbigfkpgjhojaaWPlain
namespace Florin
set_option linter.unusedVariables false
abbrev TxM := Int × List UInt8
abbrev RowM := Int × List TxM
abbrev UntM := List UInt8 × List TxM
structure CurM where
  code : List UInt8
  sym : List UInt8
  nar : List UInt8
  names : List TxM
  d : Int
  i : Int
  cd : Int
  ci : Int
structure TblM where
  tx : List (List UInt8)
  mg : Int
  sh : List RowM
  lo : List RowM
  ms : List RowM
  cu : List CurM
  un : List UntM
  mu : List TxM
def eN (n : Int) : List UInt8 := vnum n.toNat
def eT (s : List UInt8) : List UInt8 := vnum s.length ++ s
def eL {α : Type} (f : α → List UInt8) (l : List α) : List UInt8 := vnum l.length ++ l.flatMap f
def eTx (x : TxM) : List UInt8 := eN x.1 ++ eT x.2
def eTxs (l : List TxM) : List UInt8 := eL eTx l
def eRow (r : RowM) : List UInt8 := eN r.1 ++ eTxs r.2
def eRows (l : List RowM) : List UInt8 := eL eRow l
def eCur (c : CurM) : List UInt8 := eT c.code ++ eT c.sym ++ eT c.nar ++ eTxs c.names ++ eN c.d ++ eN c.i ++ eN c.cd ++ eN c.ci
def eCurs (l : List CurM) : List UInt8 := eL eCur l
def eUnt (u : UntM) : List UInt8 := eT u.1 ++ eTxs u.2
def eUnts (l : List UntM) : List UInt8 := eL eUnt l
def encT (t : TblM) : List UInt8 := t.tx.flatMap eT ++ eN t.mg ++ eRows t.sh ++ eRows t.lo ++ eRows t.ms ++ eCurs t.cu ++ eUnts t.un ++ eTxs t.mu
theorem flat_take {α : Type} (f : α → List UInt8) (l : List α) (k : Nat) (h : k < l.length) : (l.take (k + 1)).flatMap f = (l.take k).flatMap f ++ f l[k] := by
  rw [List.take_succ_eq_append_getElem h, List.flatMap_append]
  simp
theorem flat_le {α : Type} (f : α → List UInt8) (l : List α) (k : Nat) : ((l.take k).flatMap f).length ≤ (l.flatMap f).length := by
  conv => rhs; rw [← List.take_append_drop k l, List.flatMap_append, List.length_append]
  omega
theorem flat_mem {α : Type} (f : α → List UInt8) {l : List α} {x : α} (h : x ∈ l) : (f x).length ≤ (l.flatMap f).length := by
  induction l with
  | nil => cases h
  | cons y l ih =>
    rw [List.flatMap_cons, List.length_append]
    rcases List.mem_cons.1 h with rfl | h
    · omega
    · have := ih h; omega

/-- What is read of parts that are laid so. -/
def Sound {α : Type} (rd : RS → α × RS) (e : α → List UInt8) : Prop := (∀ l x l', rd (l, false) = (x, (l', false)) → l = e x ++ l') ∧ (∀ st, st.2 = true → (rd st).2.2 = true)
theorem numR_bad2 (st : RS) (h : st.2 = true) : (numR st).2.2 = true := by
  by_cases h0 : (rdV st.1).2 = 0
  · rw [numR_no h0]
  · rw [numR_yes h0]; exact h
theorem textR_bad2 (st : RS) (h : st.2 = true) : (textR st).2.2 = true := by
  by_cases h0 : (numR st).2.1.length < (numR st).1
  · rw [textR_no h0]
  · rw [textR_yes h0]; exact numR_bad2 st h
theorem cntR_bad2 (st : RS) (most : Int) (h : st.2 = true) : (cntR st most).2.2 = true := by
  by_cases h0 : most < ((numR st).1 : Int)
  · rw [cntR_no h0]
  · rw [cntR_yes h0]; exact numR_bad2 st h
theorem numR_is {l l' : List UInt8} {n : Nat} (h : numR (l, false) = (n, (l', false))) : l = vnum n ++ l' := by
  by_cases h0 : (rdV l).2 = 0
  · rw [numR_no h0] at h; simp at h
  · rw [numR_yes h0] at h
    obtain ⟨h1, h2⟩ := rdV_is h0
    simp only [Prod.mk.injEq, and_true] at h
    obtain ⟨rfl, rfl⟩ := h
    rw [← h2, List.take_append_drop]
theorem textR_is {l l' t : List UInt8} (h : textR (l, false) = (t, (l', false))) : l = eT t ++ l' := by
  by_cases h0 : (numR (l, false)).2.1.length < (numR (l, false)).1
  · rw [textR_no h0] at h; simp at h
  · rw [textR_yes h0] at h
    simp only [Prod.mk.injEq] at h
    obtain ⟨h1, h2, h3⟩ := h
    have e : numR (l, false) = ((numR (l, false)).1, ((numR (l, false)).2.1, false)) := by
      refine Prod.ext rfl (Prod.ext rfl ?_); exact h3
    have h4 := numR_is e
    have hl : t.length = (numR (l, false)).1 := by rw [← h1, List.length_take]; omega
    unfold eT
    rw [hl, List.append_assoc, ← h1, ← h2, List.take_append_drop]
    exact h4
theorem cntR_is {l l' : List UInt8} {n : Nat} {most : Int} (h : cntR (l, false) most = (n, (l', false))) : l = vnum n ++ l' := by
  by_cases h0 : most < ((numR (l, false)).1 : Int)
  · rw [cntR_no h0] at h; simp at h
  · rw [cntR_yes h0] at h; exact numR_is h
/-- So many parts, as they are read one by one; none, if one of them isn't whole. -/
def rdLs {α : Type} (one : RS → α × RS) : Nat → List α → RS → List α × RS
  | 0, acc, st => (acc, st)
  | n + 1, acc, st => if (one st).2.2 then ([], (one st).2) else rdLs one n (acc ++ [(one st).1]) (one st).2
def rdList {α : Type} (one : RS → α × RS) (st : RS) : List α × RS := rdLs one (cntR st 65536).1 [] (cntR st 65536).2
theorem rdLs_bad {α : Type} {one : RS → α × RS} {e : α → List UInt8} (h : Sound one e) : ∀ (n : Nat) (acc : List α) (st : RS), st.2 = true → (rdLs one n acc st).2.2 = true
  | 0, _, st, hs => hs
  | n + 1, acc, st, hs => by
    have := h.2 st hs
    unfold rdLs
    rw [if_pos this]
    exact this
theorem rdLs_is {α : Type} {one : RS → α × RS} {e : α → List UInt8} (h : Sound one e) : ∀ (n : Nat) (acc : List α) (l l' : List UInt8) (xs : List α), rdLs one n acc (l, false) = (xs, (l', false)) → ∃ ys, xs = acc ++ ys ∧ ys.length = n ∧ l = ys.flatMap e ++ l'
  | 0, acc, l, l', xs, hr => by
    unfold rdLs at hr
    simp only [Prod.mk.injEq, and_true] at hr
    obtain ⟨rfl, rfl⟩ := hr
    exact ⟨[], by simp, rfl, rfl⟩
  | n + 1, acc, l, l', xs, hr => by
    unfold rdLs at hr
    by_cases hb : (one (l, false)).2.2 = true
    · rw [if_pos hb] at hr
      have := congrArg (fun p : List α × RS => p.2.2) hr
      simp only [hb] at this
      cases this
    · rw [if_neg hb] at hr
      have hb2 : (one (l, false)).2.2 = false := by simpa using hb
      obtain ⟨l1, hl1⟩ : ∃ l1, l1 = (one (l, false)).2.1 := ⟨_, rfl⟩
      have e1 : one (l, false) = ((one (l, false)).1, (l1, false)) := Prod.ext rfl (Prod.ext hl1.symm hb2)
      have h1 := h.1 _ _ _ e1
      rw [show (one (l, false)).2 = (l1, false) from Prod.ext hl1.symm hb2] at hr
      obtain ⟨ys, h2, h3, h4⟩ := rdLs_is h n _ l1 l' xs hr
      refine ⟨(one (l, false)).1 :: ys, by rw [h2]; simp, by rw [List.length_cons, h3], ?_⟩
      rw [List.flatMap_cons, List.append_assoc, ← h4]
      exact h1
theorem rdList_sound {α : Type} {one : RS → α × RS} {e : α → List UInt8} (h : Sound one e) : Sound (rdList one) (eL e) := by
  constructor
  · intro l xs l' hr
    unfold rdList at hr
    by_cases hb : (cntR (l, false) 65536).2.2 = true
    · have h1 := rdLs_bad h (cntR (l, false) 65536).1 [] _ hb
      rw [hr] at h1
      cases h1
    · have hb2 : (cntR (l, false) 65536).2.2 = false := by simpa using hb
      obtain ⟨l1, hl1⟩ : ∃ l1, l1 = (cntR (l, false) 65536).2.1 := ⟨_, rfl⟩
      have e2 : (cntR (l, false) 65536).2 = (l1, false) := Prod.ext hl1.symm hb2
      have e1 : cntR (l, false) 65536 = ((cntR (l, false) 65536).1, (l1, false)) := Prod.ext rfl e2
      have h1 := cntR_is e1
      rw [e2] at hr
      obtain ⟨ys, h2, h3, h4⟩ := rdLs_is h _ [] l1 l' xs hr
      rw [List.nil_append] at h2
      subst h2
      unfold eL
      rw [h3, List.append_assoc, ← h4]
      exact h1
  · intro st hs
    exact rdLs_bad h _ _ _ (cntR_bad2 st _ hs)
def rdNI (st : RS) : Int × RS := (((numR st).1 : Nat), (numR st).2)
theorem rdNI_sound : Sound rdNI eN := by
  constructor
  · intro l x l' h
    unfold rdNI at h
    simp only [Prod.mk.injEq] at h
    obtain ⟨rfl, h2⟩ := h
    have e : numR (l, false) = ((numR (l, false)).1, (l', false)) := Prod.ext rfl h2
    show l = vnum (Int.toNat _) ++ l'
    rw [Int.toNat_natCast]
    exact numR_is e
  · intro st hs; exact numR_bad2 st hs
theorem textR_sound : Sound textR eT := ⟨fun l x l' h => textR_is h, fun st hs => textR_bad2 st hs⟩
/-- One part behind another. -/
def rdB {α β : Type} (f : RS → α × RS) (g : RS → β × RS) (st : RS) : (α × β) × RS := (((f st).1, (g (f st).2).1), (g (f st).2).2)
theorem rdB_sound {α β : Type} {f : RS → α × RS} {g : RS → β × RS} {d : α → List UInt8} {e : β → List UInt8} (hf : Sound f d) (hg : Sound g e) : Sound (rdB f g) (fun x => d x.1 ++ e x.2) := by
  constructor
  · intro l x l' h
    unfold rdB at h
    simp only [Prod.mk.injEq] at h
    obtain ⟨rfl, h2⟩ := h
    by_cases hb : (f (l, false)).2.2 = true
    · have := hg.2 _ hb
      rw [h2] at this
      cases this
    · have hb2 : (f (l, false)).2.2 = false := by simpa using hb
      obtain ⟨l1, hl1⟩ : ∃ l1, l1 = (f (l, false)).2.1 := ⟨_, rfl⟩
      have e2 : (f (l, false)).2 = (l1, false) := Prod.ext hl1.symm hb2
      have h3 := hf.1 l _ l1 (Prod.ext rfl e2)
      have h4 := hg.1 l1 (g (l1, false)).1 l' (Prod.ext rfl (by rw [← e2]; exact h2))
      show l = (d _ ++ e _) ++ l'
      rw [e2, List.append_assoc, ← h4]
      exact h3
  · intro st hs; exact hg.2 _ (hf.2 st hs)
def rdTx (st : RS) : TxM × RS := rdB rdNI textR st
def rdTxs (st : RS) : List TxM × RS := rdList rdTx st
def rdRow (st : RS) : RowM × RS := rdB rdNI rdTxs st
def rdRows (st : RS) : List RowM × RS := rdList rdRow st
def rdUnt (st : RS) : UntM × RS := rdB textR rdTxs st
def rdUnts (st : RS) : List UntM × RS := rdList rdUnt st
theorem rdTx_sound : Sound rdTx eTx := rdB_sound rdNI_sound textR_sound
theorem rdTxs_sound : Sound rdTxs eTxs := rdList_sound rdTx_sound
theorem rdRow_sound : Sound rdRow eRow := rdB_sound rdNI_sound rdTxs_sound
theorem rdRows_sound : Sound rdRows eRows := rdList_sound rdRow_sound
theorem rdUnt_sound : Sound rdUnt eUnt := rdB_sound textR_sound rdTxs_sound
theorem rdUnts_sound : Sound rdUnts eUnts := rdList_sound rdUnt_sound
abbrev CurP := ((((((List UInt8 × List UInt8) × List UInt8) × List TxM) × Int) × Int) × Int) × Int
def curOf (x : CurP) : CurM := ⟨x.1.1.1.1.1.1.1, x.1.1.1.1.1.1.2, x.1.1.1.1.1.2, x.1.1.1.1.2, x.1.1.1.2, x.1.1.2, x.1.2, x.2⟩
def rdCurP (st : RS) : CurP × RS := rdB (rdB (rdB (rdB (rdB (rdB (rdB textR textR) textR) rdTxs) rdNI) rdNI) rdNI) rdNI st
theorem rdCurP_sound : Sound rdCurP (fun x => eCur (curOf x)) :=
  rdB_sound (rdB_sound (rdB_sound (rdB_sound (rdB_sound (rdB_sound (rdB_sound textR_sound textR_sound) textR_sound) rdTxs_sound) rdNI_sound) rdNI_sound) rdNI_sound) rdNI_sound
def rdCur (st : RS) : CurM × RS := (curOf (rdCurP st).1, (rdCurP st).2)
theorem Sound.map {α β : Type} {f : RS → α × RS} {g : α → β} {e : β → List UInt8} (h : Sound f (fun x => e (g x))) : Sound (fun st => (g (f st).1, (f st).2)) e := by
  constructor
  · intro l x l' hr
    have h1 : g (f (l, false)).1 = x := congrArg Prod.fst hr
    have h2 : (f (l, false)).2 = (l', false) := congrArg Prod.snd hr
    subst h1
    exact h.1 l _ l' (Prod.ext rfl h2)
  · intro st hs; exact h.2 st hs
theorem rdCur_sound : Sound rdCur eCur := Sound.map (g := curOf) rdCurP_sound
def rdCurs (st : RS) : List CurM × RS := rdList rdCur st
theorem rdCurs_sound : Sound rdCurs eCurs := rdList_sound rdCur_sound
/-- So many texts. -/
def rdTs : Nat → RS → List (List UInt8) × RS
  | 0, st => ([], st)
  | n + 1, st => ((textR st).1 :: (rdTs n (textR st).2).1, (rdTs n (textR st).2).2)
theorem rdTs_sound : ∀ n, Sound (rdTs n) (fun xs => xs.flatMap eT)
  | 0 => ⟨fun l x l' h => by unfold rdTs at h; simp only [Prod.mk.injEq, and_true] at h; obtain ⟨rfl, rfl⟩ := h; rfl, fun st hs => hs⟩
  | n + 1 => by
    have h := rdB_sound textR_sound (rdTs_sound n)
    constructor
    · intro l x l' hr
      unfold rdTs at hr
      simp only [Prod.mk.injEq] at hr
      obtain ⟨rfl, h2⟩ := hr
      exact h.1 l ((textR (l, false)).1, (rdTs n (textR (l, false)).2).1) l' (Prod.ext rfl h2)
    · intro st hs; exact h.2 st hs
abbrev TblP := ((((((List (List UInt8) × Int) × List RowM) × List RowM) × List RowM) × List CurM) × List UntM) × List TxM
def tblOf (x : TblP) : TblM := ⟨x.1.1.1.1.1.1.1, x.1.1.1.1.1.1.2, x.1.1.1.1.1.2, x.1.1.1.1.2, x.1.1.1.2, x.1.1.2, x.1.2, x.2⟩
def rdTblP (st : RS) : TblP × RS := rdB (rdB (rdB (rdB (rdB (rdB (rdB (rdTs 27) rdNI) rdRows) rdRows) rdRows) rdCurs) rdUnts) rdTxs st
theorem rdTblP_sound : Sound rdTblP (fun x => encT (tblOf x)) :=
  rdB_sound (rdB_sound (rdB_sound (rdB_sound (rdB_sound (rdB_sound (rdB_sound (rdTs_sound 27) rdNI_sound) rdRows_sound) rdRows_sound) rdRows_sound) rdCurs_sound) rdUnts_sound) rdTxs_sound
def rdTbl (st : RS) : TblM × RS := (tblOf (rdTblP st).1, (rdTblP st).2)
theorem rdTbl_sound : Sound rdTbl encT := Sound.map (g := tblOf) rdTblP_sound
end Florin
