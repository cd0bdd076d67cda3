/- Tables: what is read has numbers in bounds; the table of nothing. No program here. -/
import Derived.Test.YtkbigfkpgjhojaaTPlain2
import Derived.KernelRfl
namespace Florin
set_option linter.unusedVariables false
def AllR {α : Type} (f : RS → α × RS) (P : α → Prop) : Prop := ∀ st, P (f st).1
theorem rdLs_all {α : Type} {one : RS → α × RS} {P : α → Prop} (h : AllR one P) : ∀ (n : Nat) (acc : List α) (st : RS), (∀ x ∈ acc, P x) → ∀ x ∈ (rdLs one n acc st).1, P x
  | 0, _, _, ha => ha
  | n + 1, acc, st, ha => by
    unfold rdLs
    split
    · intro x hx; cases hx
    · exact rdLs_all h n _ _ (fun x hx => by
        rcases List.mem_append.1 hx with hx | hx
        · exact ha x hx
        · rw [List.mem_singleton.1 hx]; exact h st)
theorem rdList_all {α : Type} {one : RS → α × RS} {P : α → Prop} (h : AllR one P) : AllR (rdList one) (fun l => ∀ x ∈ l, P x) := fun st => rdLs_all h _ _ _ (fun x hx => by cases hx)
theorem rdB_all {α β : Type} {f : RS → α × RS} {g : RS → β × RS} {P : α → Prop} {Q : β → Prop} (hf : AllR f P) (hg : AllR g Q) : AllR (rdB f g) (fun x => P x.1 ∧ Q x.2) := fun st => ⟨hf st, hg _⟩
def inI (n : Int) : Prop := 0 ≤ n ∧ n ≤ 9223372036854775807
def inTx (x : TxM) : Prop := inI x.1
def inTxs (l : List TxM) : Prop := ∀ x ∈ l, inTx x
def inRow (r : RowM) : Prop := inI r.1 ∧ inTxs r.2
def inUnt (u : UntM) : Prop := inTxs u.2
def inCur (c : CurM) : Prop := inTxs c.names ∧ inI c.d ∧ inI c.i ∧ inI c.cd ∧ inI c.ci
theorem rdNI_all : AllR rdNI inI := fun st => by
  have := numR_lt st
  show (0 : Int) ≤ ((numR st).1 : Int) ∧ ((numR st).1 : Int) ≤ 9223372036854775807
  omega
theorem any_all {α : Type} (f : RS → α × RS) : AllR f (fun _ => True) := fun _ => trivial
theorem rdTx_all : AllR rdTx inTx := fun st => (rdB_all rdNI_all (any_all textR) st).1
theorem rdTxs_all : AllR rdTxs inTxs := rdList_all rdTx_all
theorem rdRow_all : AllR rdRow inRow := rdB_all rdNI_all rdTxs_all
theorem rdRows_all : AllR rdRows (fun l => ∀ x ∈ l, inRow x) := rdList_all rdRow_all
theorem rdUnt_all : AllR rdUnt inUnt := fun st => (rdB_all (any_all textR) rdTxs_all st).2
theorem rdUnts_all : AllR rdUnts (fun l => ∀ x ∈ l, inUnt x) := rdList_all rdUnt_all
theorem rdCurP_all0 : AllR rdCurP (fun x => (((((((True ∧ True) ∧ True) ∧ inTxs x.1.1.1.1.2) ∧ inI x.1.1.1.2) ∧ inI x.1.1.2) ∧ inI x.1.2) ∧ inI x.2)) :=
  rdB_all (rdB_all (rdB_all (rdB_all (rdB_all (rdB_all (rdB_all (any_all textR) (any_all textR)) (any_all textR)) rdTxs_all) rdNI_all) rdNI_all) rdNI_all) rdNI_all
theorem rdCurP_all : AllR rdCurP (fun x => inCur (curOf x)) := fun st => by
  have h := rdCurP_all0 st
  generalize (rdCurP st).1 = x at h ⊢
  exact ⟨h.1.1.1.1.2, h.1.1.1.2, h.1.1.2, h.1.2, h.2⟩
theorem rdCur_all : AllR rdCur inCur := fun st => rdCurP_all st
theorem rdCurs_all : AllR rdCurs (fun l => ∀ x ∈ l, inCur x) := rdList_all rdCur_all
structure inTbl (t : TblM) : Prop where
  mg : inI t.mg
  sh : ∀ x ∈ t.sh, inRow x
  lo : ∀ x ∈ t.lo, inRow x
  ms : ∀ x ∈ t.ms, inRow x
  cu : ∀ x ∈ t.cu, inCur x
  un : ∀ x ∈ t.un, inUnt x
  mu : ∀ x ∈ t.mu, inTx x
theorem rdTblP_all0 : AllR rdTblP (fun x => (((((((True ∧ inI x.1.1.1.1.1.1.2) ∧ (∀ y ∈ x.1.1.1.1.1.2, inRow y)) ∧ (∀ y ∈ x.1.1.1.1.2, inRow y)) ∧ (∀ y ∈ x.1.1.1.2, inRow y)) ∧ (∀ y ∈ x.1.1.2, inCur y)) ∧ (∀ y ∈ x.1.2, inUnt y)) ∧ (∀ y ∈ x.2, inTx y))) :=
  rdB_all (rdB_all (rdB_all (rdB_all (rdB_all (rdB_all (rdB_all (any_all (rdTs 27)) rdNI_all) rdRows_all) rdRows_all) rdRows_all) rdCurs_all) rdUnts_all) rdTxs_all
theorem rdTblP_all : AllR rdTblP (fun x => inTbl (tblOf x)) := fun st => by
  have h := rdTblP_all0 st
  generalize (rdTblP st).1 = x at h ⊢
  exact ⟨h.1.1.1.1.1.1.2, h.1.1.1.1.1.2, h.1.1.1.1.2, h.1.1.1.2, h.1.1.2, h.1.2, h.2⟩
theorem rdTbl_all : AllR rdTbl inTbl := fun st => rdTblP_all st
theorem rdTs_len : ∀ (n : Nat) (st : RS), (rdTs n st).1.length = n
  | 0, _ => rfl
  | n + 1, st => by show (_ :: _).length = _; rw [List.length_cons, rdTs_len n]
theorem rdB_fst {α β : Type} (f : RS → α × RS) (g : RS → β × RS) (st : RS) : (rdB f g st).1.1 = (f st).1 := rfl
def LenP {β γ : Type} (p : β → List γ) (n : Nat) (f : RS → β × RS) : Prop := ∀ st, (p (f st).1).length = n
theorem lenP_step {α β γ : Type} {p : α → List γ} {n : Nat} {f : RS → α × RS} (h : LenP p n f) (g : RS → β × RS) : LenP (fun x => p x.1) n (rdB f g) := fun st => h st
theorem rdTblP_len0 : LenP (fun x : TblP => x.1.1.1.1.1.1.1) 27 rdTblP :=
  lenP_step (lenP_step (lenP_step (lenP_step (lenP_step (lenP_step (lenP_step (p := fun x => x) (fun st => rdTs_len 27 st) rdNI) rdRows) rdRows) rdRows) rdCurs) rdUnts) rdTxs
theorem rdTblP_len (st : RS) : (tblOf (rdTblP st).1).tx.length = 27 := by
  have h := rdTblP_len0 st
  generalize (rdTblP st).1 = x at h ⊢
  exact h
theorem rdTbl_len (st : RS) : (rdTbl st).1.tx.length = 27 := rdTblP_len st
theorem get_all (l : List (List UInt8)) (h : l.length = 27) : (List.range 27).map (fun j => l.getD j []) = l := by
  refine List.ext_getElem (by simp [h]) (fun i h1 h2 => ?_)
  rw [List.getElem_map, List.getElem_range, List.getD_eq_getElem?_getD, List.getElem?_eq_getElem h2]
  rfl
abbrev tblZ : TblM := ⟨List.replicate 27 [], 0, [], [], [], [], [], []⟩
set_option maxRecDepth 100000 in
theorem encZ : encT tblZ = List.replicate 34 0 := by kernel_rfl
set_option maxRecDepth 100000 in
theorem rdZ : rdTbl (List.replicate 34 0, false) = (tblZ, ([], false)) := by kernel_rfl
end Florin
