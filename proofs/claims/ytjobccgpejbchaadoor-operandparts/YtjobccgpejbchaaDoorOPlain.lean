/- Plain facts for the laws OperandReads and OperandParts. No program here. -/
import Derived.Test.YtjobccgpejbchaaDoorMOpr
namespace Florin
set_option linter.unusedSimpArgs false
set_option linter.unusedVariables false
open Go.Proofs.YtjobccgpejbchaaDoor

theorem rend_read (W : List UInt8) (pt : Bool) (P : List UInt8) (ex : Bool) (c : UInt8) (Q : List UInt8) (hW : isDig W = true) (hW0 : W ≠ []) (hP : isDig P = true) (hp : pt = true → P ≠ []) (hc : isC c = true) (hQ : ex = true → sdig Q = true)
    (E : Nat) (hE : val (if ex then Q else []) = E) (R : List UInt8) (hR : (if pt then P else []) = R) :
    errO (rendO W pt P ex c Q) = (if 10000 < E ∨ 1000 < W.length + R.length then 2 else 0) ∧ readO (rendO W pt P ex c Q) = (if 10000 < E ∨ 1000 < W.length + R.length then ⟨[], [], 0⟩ else ofP ⟨false, W, R⟩ E) := by
  have h1 := rend_ok W pt P ex c Q ((sdig_iff W).2 ⟨hW0, hW⟩) hP hp hc hQ
  obtain ⟨h3, h4, h5⟩ := rend_parts W pt P ex c Q hW hP hc
  have h6 : frO (rendO W pt P ex c Q) = R := by unfold frO; rw [h4, ← hR]; cases pt <;> rfl
  have h7 : longO (rendO W pt P ex c Q) = decide (10000 < E ∨ 1000 < W.length + R.length) := by
    unfold longO; rw [h3, h5, h6, hE]; by_cases a : 10000 < E <;> by_cases b : 1000 < W.length + R.length <;> simp [a, b]
  unfold errO readO
  rw [h1, h3, h5, h6, h7, hE]
  simp
theorem val_rt (l : List UInt8) : val l = val (rt l) * 10 ^ (l.length - (rt l).length) := by
  obtain ⟨t, h1, h2, _⟩ := rt_back l
  have : l.length - (rt l).length = t := by omega
  rw [this, ← val_app_zs, ← h1]
/-- Going from the end while noughts stand there. -/
theorem rt_step (l : List UInt8) (k : Nat) (hk : k < l.length) (h : l[k] = 48) : rt (l.take (k + 1)) = rt (l.take k) := by
  rw [List.take_succ_eq_append_getElem hk, h, rt_snoc_zero]
theorem rt_stop (l : List UInt8) (k : Nat) (hk : k < l.length) (h : l[k] ≠ 48) : rt (l.take (k + 1)) = l.take (k + 1) := by
  rw [List.take_succ_eq_append_getElem hk, rt_snoc _ h]
theorem rt_all (l : List UInt8) : (l.all (· == 48)) = (rt l).isEmpty := by
  unfold rt
  rw [← List.all_reverse]
  generalize l.reverse = m
  induction m with
  | nil => rfl
  | cons a t ih =>
    by_cases h : a = 48
    · subst h; simp [ih]
    · have h2 : (a == 48) = false := by simpa using h
      simp [h2, h]
theorem trim_nil_of {l : List UInt8} (h : isDig l = true) (hr : rt l ≠ []) : trim (rt l) ≠ [] := by
  intro e
  obtain ⟨a, c, hac⟩ : ∃ a c, rt l = a ++ [c] := by
    rcases List.eq_nil_or_concat (rt l) with h0 | ⟨a, c, h0⟩
    · exact absurd h0 hr
    · exact ⟨a, c, by rw [h0]; simp⟩
  obtain ⟨t, h1, h2, h3⟩ := rt_back l
  have hc := h3 a c hac
  have hv : val (rt l) = 0 := by rw [← val_trim, e]; rfl
  have hd := isDig_rt h
  rw [hac, val_snoc] at hv
  rw [hac, isDig_snoc] at hd
  simp only [Bool.and_eq_true] at hd
  have := (isD_iff c).1 hd.2
  unfold dv at hv
  apply hc
  apply UInt8.toNat_inj.1
  show c.toNat = 48
  omega
end Florin
