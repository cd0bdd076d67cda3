/- What is left of a text while a table is read is never longer. No program here. -/
import Derived.Test.YtkbigfkpgjhojaaTPlain
namespace Florin
set_option linter.unusedVariables false
def Mono {α : Type} (f : RS → α × RS) : Prop := ∀ st, (f st).2.1.length ≤ st.1.length
theorem numR_mono : Mono numR := numR_len
theorem textR_mono : Mono textR := fun st => (textR_len st).1
theorem cntR_mono (most : Int) : Mono (fun st => cntR st most) := fun st => by
  show (cntR st most).2.1.length ≤ _
  by_cases h0 : most < ((numR st).1 : Int)
  · rw [cntR_no h0]; exact Nat.zero_le _
  · rw [cntR_yes h0]; exact numR_len st
theorem rdNI_mono : Mono rdNI := fun st => numR_len st
theorem rdB_mono {α β : Type} {f : RS → α × RS} {g : RS → β × RS} (hf : Mono f) (hg : Mono g) : Mono (rdB f g) := fun st => Nat.le_trans (hg (f st).2) (hf st)
theorem rdLs_mono {α : Type} {one : RS → α × RS} (h : Mono one) : ∀ (n : Nat) (acc : List α) (st : RS), (rdLs one n acc st).2.1.length ≤ st.1.length
  | 0, _, _ => Nat.le_refl _
  | n + 1, acc, st => by
    unfold rdLs
    split
    · exact h st
    · exact Nat.le_trans (rdLs_mono h n _ _) (h st)
theorem rdList_mono {α : Type} {one : RS → α × RS} (h : Mono one) : Mono (rdList one) := fun st => Nat.le_trans (rdLs_mono h _ _ _) (cntR_mono 65536 st)
theorem rdTx_mono : Mono rdTx := rdB_mono rdNI_mono textR_mono
theorem rdTxs_mono : Mono rdTxs := rdList_mono rdTx_mono
theorem rdRow_mono : Mono rdRow := rdB_mono rdNI_mono rdTxs_mono
theorem rdRows_mono : Mono rdRows := rdList_mono rdRow_mono
theorem rdUnt_mono : Mono rdUnt := rdB_mono textR_mono rdTxs_mono
theorem rdUnts_mono : Mono rdUnts := rdList_mono rdUnt_mono
theorem rdCurP_mono : Mono rdCurP := rdB_mono (rdB_mono (rdB_mono (rdB_mono (rdB_mono (rdB_mono (rdB_mono textR_mono textR_mono) textR_mono) rdTxs_mono) rdNI_mono) rdNI_mono) rdNI_mono) rdNI_mono
theorem Mono.map {α β : Type} {f : RS → α × RS} {g : α → β} (h : Mono f) : Mono (fun st => (g (f st).1, (f st).2)) := fun st => h st
theorem rdCur_mono : Mono rdCur := Mono.map (g := curOf) rdCurP_mono
theorem rdCurs_mono : Mono rdCurs := rdList_mono rdCur_mono
theorem cnt_le (st : RS) : (cntR st 65536).1 ≤ 65536 := by
  by_cases h0 : (65536 : Int) < ((numR st).1 : Int)
  · rw [cntR_no h0]; exact Nat.zero_le _
  · rw [cntR_yes h0]; omega
theorem rdLs_zero {α : Type} (one : RS → α × RS) (acc : List α) (st : RS) : rdLs one 0 acc st = (acc, st) := rfl
theorem rdLs_bad1 {α : Type} {one : RS → α × RS} {n : Nat} {acc : List α} {st : RS} (h : (one st).2.2 = true) : rdLs one (n + 1) acc st = ([], (one st).2) := by unfold rdLs; rw [if_pos h]
theorem rdLs_ok1 {α : Type} {one : RS → α × RS} {n : Nat} {acc : List α} {st : RS} (h : (one st).2.2 = false) : rdLs one (n + 1) acc st = rdLs one n (acc ++ [(one st).1]) (one st).2 := by conv => lhs; unfold rdLs; rw [if_neg (by rw [h]; decide)]
theorem rdB_eq {α β : Type} {f : RS → α × RS} {g : RS → β × RS} {st s1 s2 : RS} {a : α} {b : β} (h1 : f st = (a, s1)) (h2 : g s1 = (b, s2)) : rdB f g st = ((a, b), s2) := by
  unfold rdB
  rw [h1]
  show ((a, (g s1).1), (g s1).2) = _
  rw [h2]
theorem rdNI_eq {st s1 : RS} {n : Nat} (h : numR st = (n, s1)) : rdNI st = ((n : Int), s1) := by unfold rdNI; rw [h]
theorem rdCur_eq {s0 s1 s2 s3 s4 s5 s6 s7 s8 : RS} {c0 c1 c2 : List UInt8} {ns : List TxM} {n1 n2 n3 n4 : Nat} (h0 : textR s0 = (c0, s1)) (h1 : textR s1 = (c1, s2)) (h2 : textR s2 = (c2, s3)) (h3 : rdTxs s3 = (ns, s4)) (h4 : numR s4 = (n1, s5)) (h5 : numR s5 = (n2, s6)) (h6 : numR s6 = (n3, s7)) (h7 : numR s7 = (n4, s8)) :
    rdCur s0 = ((⟨c0, c1, c2, ns, (n1 : Int), (n2 : Int), (n3 : Int), (n4 : Int)⟩ : CurM), s8) := by
  have h : rdCurP s0 = (((((((((c0, c1), c2), ns), (n1 : Int)), (n2 : Int)), (n3 : Int)), (n4 : Int))), s8) :=
    rdB_eq (rdB_eq (rdB_eq (rdB_eq (rdB_eq (rdB_eq (rdB_eq h0 h1) h2) h3) (rdNI_eq h4)) (rdNI_eq h5)) (rdNI_eq h6)) (rdNI_eq h7)
  unfold rdCur
  rw [h]
  rfl
theorem rdTbl_eq {s0 s1 s2 s3 s4 s5 s6 s7 s8 : RS} {tx : List (List UInt8)} {mg : Nat} {sh lo ms : List RowM} {cu : List CurM} {un : List UntM} {mu : List TxM} (h0 : rdTs 27 s0 = (tx, s1)) (h1 : numR s1 = (mg, s2)) (h2 : rdRows s2 = (sh, s3)) (h3 : rdRows s3 = (lo, s4)) (h4 : rdRows s4 = (ms, s5)) (h5 : rdCurs s5 = (cu, s6)) (h6 : rdUnts s6 = (un, s7)) (h7 : rdTxs s7 = (mu, s8)) :
    rdTbl s0 = ((⟨tx, (mg : Int), sh, lo, ms, cu, un, mu⟩ : TblM), s8) := by
  have h : rdTblP s0 = ((((((((tx, (mg : Int)), sh), lo), ms), cu), un), mu), s8) :=
    rdB_eq (rdB_eq (rdB_eq (rdB_eq (rdB_eq (rdB_eq (rdB_eq h0 (rdNI_eq h1)) h2) h3) h4) h5) h6) h7
  unfold rdTbl
  rw [h]
  rfl
end Florin
