/- Tables whose bytes are the same are the same. No program here. -/
import Derived.Test.YtkbigfkpgjhojaaTPlain4
namespace Florin
set_option linter.unusedVariables false
/-- Parts laid so are told from one another, whatever lies behind. -/
def Tell {α : Type} (e : α → List UInt8) (P : α → Prop) : Prop := ∀ x y r s, P x → P y → e x ++ r = e y ++ s → x = y ∧ r = s
theorem vnum_tell {m n : Nat} {r s : List UInt8} (hm : m < 9223372036854775808) (hn : n < 9223372036854775808) (h : vnum m ++ r = vnum n ++ s) : m = n ∧ r = s := by
  have h1 := numR_vnum hm r false
  have h2 := numR_vnum hn s false
  rw [h, h2] at h1
  simp only [Prod.mk.injEq, and_true] at h1
  exact ⟨h1.1.symm, h1.2.symm⟩
theorem eN_tell : Tell eN inI := fun x y r s hx hy h => by
  have hx2 : x.toNat < 9223372036854775808 := by have := hx.1; have := hx.2; omega
  have hy2 : y.toNat < 9223372036854775808 := by have := hy.1; have := hy.2; omega
  obtain ⟨h1, h2⟩ := vnum_tell hx2 hy2 h
  exact ⟨by have := hx.1; have := hy.1; omega, h2⟩
theorem eT_tell : Tell eT (fun s => s.length < 9223372036854775808) := fun x y r s hx hy h => by
  unfold eT at h
  rw [List.append_assoc, List.append_assoc] at h
  obtain ⟨h1, h2⟩ := vnum_tell hx hy h
  exact List.append_inj h2 h1
theorem Tell.app {α β : Type} {e : α → List UInt8} {d : β → List UInt8} {P : α → Prop} {Q : β → Prop} (he : Tell e P) (hd : Tell d Q) : Tell (fun x : α × β => e x.1 ++ d x.2) (fun x => P x.1 ∧ Q x.2) := fun x y r s hx hy h => by
  dsimp only at h
  rw [List.append_assoc, List.append_assoc] at h
  obtain ⟨h1, h2⟩ := he _ _ _ _ hx.1 hy.1 h
  obtain ⟨h3, h4⟩ := hd _ _ _ _ hx.2 hy.2 h2
  exact ⟨Prod.ext h1 h3, h4⟩
theorem flat_tell {α : Type} {e : α → List UInt8} {P : α → Prop} (he : Tell e P) : ∀ (l k : List α) (r s : List UInt8), l.length = k.length → (∀ x ∈ l, P x) → (∀ x ∈ k, P x) → l.flatMap e ++ r = k.flatMap e ++ s → l = k ∧ r = s
  | [], [], r, s, _, _, _, h => ⟨rfl, h⟩
  | [], y :: k, r, s, hl, _, _, h => by cases hl
  | x :: l, [], r, s, hl, _, _, h => by cases hl
  | x :: l, y :: k, r, s, hl, hx, hy, h => by
    rw [List.flatMap_cons, List.flatMap_cons, List.append_assoc, List.append_assoc] at h
    obtain ⟨h1, h2⟩ := he _ _ _ _ (hx x (List.mem_cons_self ..)) (hy y (List.mem_cons_self ..)) h
    obtain ⟨h3, h4⟩ := flat_tell he l k r s (by simpa using hl) (fun z hz => hx z (List.mem_cons_of_mem _ hz)) (fun z hz => hy z (List.mem_cons_of_mem _ hz)) h2
    exact ⟨by rw [h1, h3], h4⟩
def lenI {α : Type} (l : List α) : Prop := l.length < 9223372036854775808
theorem eL_tell {α : Type} {e : α → List UInt8} {P : α → Prop} (he : Tell e P) : Tell (eL e) (fun l => lenI l ∧ ∀ x ∈ l, P x) := fun x y r s hx hy h => by
  unfold eL at h
  rw [List.append_assoc, List.append_assoc] at h
  obtain ⟨h1, h2⟩ := vnum_tell hx.1 hy.1 h
  exact flat_tell he x y r s h1 hx.2 hy.2 h2
theorem Tell.imp {α : Type} {e : α → List UInt8} {P Q : α → Prop} (h : Tell e P) (hq : ∀ x, Q x → P x) : Tell e Q := fun x y r s hx hy hh => h x y r s (hq x hx) (hq y hy) hh
def tTx (x : TxM) : Prop := inI x.1 ∧ lenI x.2
def tTxs (l : List TxM) : Prop := lenI l ∧ ∀ x ∈ l, tTx x
def tRow (x : RowM) : Prop := inI x.1 ∧ tTxs x.2
def tRows (l : List RowM) : Prop := lenI l ∧ ∀ x ∈ l, tRow x
def tUnt (x : UntM) : Prop := lenI x.1 ∧ tTxs x.2
def tUnts (l : List UntM) : Prop := lenI l ∧ ∀ x ∈ l, tUnt x
def tCur (c : CurM) : Prop := ((((((lenI c.code ∧ lenI c.sym) ∧ lenI c.nar) ∧ tTxs c.names) ∧ inI c.d) ∧ inI c.i) ∧ inI c.cd) ∧ inI c.ci
def tCurs (l : List CurM) : Prop := lenI l ∧ ∀ x ∈ l, tCur x
theorem eT_tellL : Tell eT lenI := eT_tell
theorem eTx_tell : Tell eTx tTx := eN_tell.app eT_tellL
theorem eTxs_tell : Tell eTxs tTxs := eL_tell eTx_tell
theorem eRow_tell : Tell eRow tRow := eN_tell.app eTxs_tell
theorem eRows_tell : Tell eRows tRows := eL_tell eRow_tell
theorem eUnt_tell : Tell eUnt tUnt := eT_tellL.app eTxs_tell
theorem eUnts_tell : Tell eUnts tUnts := eL_tell eUnt_tell
theorem eCur_tell : Tell eCur tCur := fun c d r s hc hd h => by
  have h1 := ((((((eT_tellL.app eT_tellL).app eT_tellL).app eTxs_tell).app eN_tell).app eN_tell).app eN_tell).app eN_tell
  obtain ⟨h2, h3⟩ := h1 (((((((c.code, c.sym), c.nar), c.names), c.d), c.i), c.cd), c.ci) (((((((d.code, d.sym), d.nar), d.names), d.d), d.i), d.cd), d.ci) r s hc hd h
  simp only [Prod.mk.injEq] at h2
  obtain ⟨⟨⟨⟨⟨⟨⟨a1, a2⟩, a3⟩, a4⟩, a5⟩, a6⟩, a7⟩, a8⟩ := h2
  cases c; cases d
  simp only at a1 a2 a3 a4 a5 a6 a7 a8
  subst a1 a2 a3 a4 a5 a6 a7 a8
  exact ⟨rfl, h3⟩
theorem eCurs_tell : Tell eCurs tCurs := eL_tell eCur_tell
structure tTbl (t : TblM) : Prop where
  tx : t.tx.length = 27 ∧ ∀ x ∈ t.tx, lenI x
  mg : inI t.mg
  sh : tRows t.sh
  lo : tRows t.lo
  ms : tRows t.ms
  cu : tCurs t.cu
  un : tUnts t.un
  mu : tTxs t.mu
theorem tx_tell : Tell (fun l : List (List UInt8) => l.flatMap eT) (fun l => l.length = 27 ∧ ∀ x ∈ l, lenI x) := fun x y r s hx hy h => flat_tell eT_tellL x y r s (hx.1.trans hy.1.symm) hx.2 hy.2 h
theorem encT_inj {t u : TblM} (ht : tTbl t) (hu : tTbl u) (h : encT t = encT u) : t = u := by
  have h1 := ((((((tx_tell.app eN_tell).app eRows_tell).app eRows_tell).app eRows_tell).app eCurs_tell).app eUnts_tell).app eTxs_tell
  have hh : encT t ++ [] = encT u ++ [] := by rw [h]
  obtain ⟨h2, _⟩ := h1 (((((((t.tx, t.mg), t.sh), t.lo), t.ms), t.cu), t.un), t.mu) (((((((u.tx, u.mg), u.sh), u.lo), u.ms), u.cu), u.un), u.mu) [] [] ⟨⟨⟨⟨⟨⟨⟨ht.tx, ht.mg⟩, ht.sh⟩, ht.lo⟩, ht.ms⟩, ht.cu⟩, ht.un⟩, ht.mu⟩ ⟨⟨⟨⟨⟨⟨⟨hu.tx, hu.mg⟩, hu.sh⟩, hu.lo⟩, hu.ms⟩, hu.cu⟩, hu.un⟩, hu.mu⟩ hh
  simp only [Prod.mk.injEq] at h2
  obtain ⟨⟨⟨⟨⟨⟨⟨a1, a2⟩, a3⟩, a4⟩, a5⟩, a6⟩, a7⟩, a8⟩ := h2
  cases t; cases u
  simp only at a1 a2 a3 a4 a5 a6 a7 a8
  subst a1 a2 a3 a4 a5 a6 a7 a8
  rfl
end Florin
