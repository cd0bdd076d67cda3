/- Signs: how many bytes the sign at a text's beginning has, right texts, and what the decoders tell of them. -/
import Derived.Lib.RuneCount
import Derived.Lib.SpaceU
namespace Florin
def bt (l : List UInt8) (k : Nat) : Nat := (l.getD k 0).toNat
def sLo (a : Nat) : Nat := if a = 224 then 160 else if a = 240 then 144 else 128
def sHi (a : Nat) : Nat := if a = 237 then 159 else if a = 244 then 143 else 191
def wid (a : Nat) : Nat := if a < 128 then 1 else if a < 194 then 0 else if a < 224 then 2 else if a < 240 then 3 else if a < 245 then 4 else 0
/-- How many bytes the sign at the beginning has; 0: there is none. -/
def leadN (n a b c d : Nat) : Nat :=
  if wid a = 0 then 0 else if wid a = 1 then 1
  else if n < wid a ∨ b < sLo a ∨ sHi a < b then 0
  else if 3 ≤ wid a ∧ (c < 128 ∨ 191 < c) then 0
  else if 4 ≤ wid a ∧ (d < 128 ∨ 191 < d) then 0
  else wid a
def lead (l : List UInt8) : Nat := if l = [] then 0 else leadN l.length (bt l 0) (bt l 1) (bt l 2) (bt l 3)
theorem bt_lt (l : List UInt8) (k : Nat) : bt l k < 256 := (l.getD k 0).toNat_lt
theorem wid_le (a : Nat) : wid a ≤ 4 := by unfold wid; repeat' split
                                           all_goals omega
theorem leadN_le (n a b c d : Nat) (hn : 0 < n) : leadN n a b c d ≤ n := by
  unfold leadN
  repeat' split
  all_goals omega
theorem lead_le (l : List UInt8) : lead l ≤ l.length := by
  unfold lead
  split
  · omega
  · exact leadN_le _ _ _ _ _ (List.length_pos_iff.2 ‹_›)
theorem lead_nil : lead [] = 0 := rfl
/-- The signs of a right text. -/
def sigsF : Nat → List UInt8 → Option Nat
  | 0, l => if l = [] then some 0 else none
  | f + 1, l => if l = [] then some 0 else if lead l = 0 then none else (sigsF f (l.drop (lead l))).map (· + 1)
def sigs (l : List UInt8) : Option Nat := sigsF l.length l
def rightL (l : List UInt8) : Bool := (sigs l).isSome
def oneL (l : List UInt8) : Bool := sigs l == some 1
theorem sigsF_more : ∀ (f g : Nat) (l : List UInt8), l.length ≤ f → l.length ≤ g → sigsF f l = sigsF g l
  | 0, 0, l, _, _ => rfl
  | 0, g + 1, l, hf, _ => by
    obtain rfl : l = [] := List.length_eq_zero_iff.1 (by omega)
    simp [sigsF]
  | f + 1, 0, l, _, hg => by
    obtain rfl : l = [] := List.length_eq_zero_iff.1 (by omega)
    simp [sigsF]
  | f + 1, g + 1, l, hf, hg => by
    unfold sigsF
    split
    · rfl
    · split
      · rfl
      · rw [sigsF_more f g _ (by simp; omega) (by simp; omega)]
theorem sigs_nil : sigs [] = some 0 := rfl
theorem sigs_bad {l : List UInt8} (h : l ≠ []) (h0 : lead l = 0) : sigs l = none := by
  unfold sigs
  cases l with
  | nil => exact absurd rfl h
  | cons c t => simp [sigsF, h0]
theorem sigs_step {l : List UInt8} (h : l ≠ []) (h0 : lead l ≠ 0) : sigs l = (sigs (l.drop (lead l))).map (· + 1) := by
  unfold sigs
  cases l with
  | nil => exact absurd rfl h
  | cons c t =>
    rw [show sigsF (c :: t).length (c :: t) = sigsF (t.length + 1) (c :: t) from rfl]
    rw [show sigsF (t.length + 1) (c :: t) = (if c :: t = [] then some 0 else if lead (c :: t) = 0 then none else (sigsF t.length ((c :: t).drop (lead (c :: t)))).map (· + 1)) from rfl]
    rw [if_neg h, if_neg h0]
    have hd : ((c :: t).drop (lead (c :: t))).length ≤ t.length := by simp; omega
    rw [sigsF_more t.length _ _ hd (Nat.le_refl _)]
theorem right_nil : rightL [] = true := rfl
theorem right_bad {l : List UInt8} (h : l ≠ []) (h0 : lead l = 0) : rightL l = false := by unfold rightL; rw [sigs_bad h h0]; rfl
theorem right_step {l : List UInt8} (h : l ≠ []) (h0 : lead l ≠ 0) : rightL l = rightL (l.drop (lead l)) := by unfold rightL; rw [sigs_step h h0]; simp
theorem lead_ascii {c : UInt8} (t : List UInt8) (h : c.toNat < 128) : lead (c :: t) = 1 := by
  unfold lead leadN wid; rw [if_neg (by simp)]; simp [bt, h]
theorem right_ascii {c : UInt8} (t : List UInt8) (h : c.toNat < 128) : rightL (c :: t) = rightL t := by
  rw [right_step (by simp) (by rw [lead_ascii t h]; decide), lead_ascii t h]; rfl
theorem right_asciis : ∀ (p t : List UInt8), (∀ c ∈ p, c.toNat < 128) → rightL (p ++ t) = rightL t
  | [], t, _ => rfl
  | c :: p, t, h => by rw [List.cons_append, right_ascii _ (h c (List.mem_cons_self ..)), right_asciis p t fun x hx => h x (List.mem_cons_of_mem _ hx)]
theorem one_iff (l : List UInt8) : oneL l = true ↔ l ≠ [] ∧ lead l = l.length := by
  unfold oneL
  by_cases h : l = []
  · subst h; simp [sigs_nil]
  · by_cases h0 : lead l = 0
    · rw [sigs_bad h h0]; simp [h0]; intro _ hl; exact h (List.length_eq_zero_iff.1 hl.symm)
    · rw [sigs_step h h0]
      constructor
      · intro hs
        refine ⟨h, ?_⟩
        have hs' : sigs (l.drop (lead l)) = some 0 := by
          cases hq : sigs (l.drop (lead l)) with
          | none => rw [hq] at hs; simp at hs
          | some k => rw [hq] at hs; simp at hs; rw [hs]
        by_cases hd : l.drop (lead l) = []
        · have := List.drop_eq_nil_iff.1 hd
          have := lead_le l
          omega
        · by_cases h1 : lead (l.drop (lead l)) = 0
          · rw [sigs_bad hd h1] at hs'; cases hs'
          · rw [sigs_step hd h1] at hs'
            cases hq : sigs ((l.drop (lead l)).drop (lead (l.drop (lead l)))) with
            | none => rw [hq] at hs'; simp at hs'
            | some k => rw [hq] at hs'; simp at hs'
      · rintro ⟨_, hl⟩
        rw [hl, List.drop_length, sigs_nil]; rfl
theorem bt_get (s : ByteArray) (p k : Nat) : bt (s.data.toList.drop p) k = (s.get! (p + k)).toNat := by
  obtain ⟨d⟩ := s
  show (((d.toList.drop p).getD k 0).toNat) = (d[p + k]!).toNat
  rw [List.getD_eq_getElem?_getD, List.getElem?_drop, Array.getElem?_toList]
  rw [getElem!_def]
  cases h : d[p + k]? <;> rfl
/-- What is decoded at the beginning, of its bytes. -/
def codeN (a b c d : Nat) : Nat :=
  if wid a = 1 then a else if wid a = 2 then a % 32 * 64 + b % 64 else if wid a = 3 then a % 16 * 4096 + b % 64 * 64 + c % 64 else a % 8 * 262144 + b % 64 * 4096 + c % 64 * 64 + d % 64
def code (l : List UInt8) : Nat := codeN (bt l 0) (bt l 1) (bt l 2) (bt l 3)
def decN (n a b c d : Nat) : Nat × Nat := if leadN n a b c d = 0 then (65533, 1) else (codeN a b c d, leadN n a b c d)
theorem wid_cases (a : Nat) : (a < 128 ∧ wid a = 1) ∨ (194 ≤ a ∧ a < 224 ∧ wid a = 2) ∨ (224 ≤ a ∧ a < 240 ∧ wid a = 3) ∨ (240 ≤ a ∧ a < 245 ∧ wid a = 4) ∨ ((128 ≤ a ∧ a < 194 ∨ 245 ≤ a) ∧ wid a = 0) := by
  unfold wid
  repeat' split
  all_goals omega
theorem sl_le (a : Nat) : 128 ≤ sLo a ∧ sHi a ≤ 191 := by
  unfold sLo sHi
  repeat' split
  all_goals omega
theorem sl2 {a : Nat} (h : a < 224) : sLo a = 128 ∧ sHi a = 191 := by
  unfold sLo sHi
  repeat' split
  all_goals omega
theorem sl3 {a b : Nat} (h0 : 224 ≤ a) (h : a < 240) (h1 : 128 ≤ b) (h2 : b ≤ 191) : (sLo a ≤ b ↔ (a = 224 → 160 ≤ b)) ∧ (b ≤ sHi a ↔ (a = 237 → b ≤ 159)) := by
  unfold sLo sHi
  repeat' split
  all_goals omega
theorem sl4 {a b : Nat} (h0 : 240 ≤ a) (h : a < 245) (h1 : 128 ≤ b) (h2 : b ≤ 191) : (sLo a ≤ b ↔ (a = 240 → 144 ≤ b)) ∧ (b ≤ sHi a ↔ (a = 244 → b ≤ 143)) := by
  unfold sLo sHi
  repeat' split
  all_goals omega
theorem lead1 {n a b c d : Nat} (hw : wid a = 1) : leadN n a b c d = 1 := by simp [leadN, hw]
theorem lead0 {n a b c d : Nat} (hw : wid a = 0) : leadN n a b c d = 0 := by simp [leadN, hw]
theorem lead2 {n a b c d : Nat} (hw : wid a = 2) : leadN n a b c d = if 2 ≤ n ∧ sLo a ≤ b ∧ b ≤ sHi a then 2 else 0 := by
  unfold leadN; rw [hw]; simp only [if_neg (show ¬ (2 : Nat) = 0 by omega), if_neg (show ¬ (2 : Nat) = 1 by omega), if_neg (show ¬ (3 ≤ 2 ∧ (c < 128 ∨ 191 < c)) by omega), if_neg (show ¬ (4 ≤ 2 ∧ (d < 128 ∨ 191 < d)) by omega)]
  repeat' split
  all_goals omega
theorem lead3 {n a b c d : Nat} (hw : wid a = 3) : leadN n a b c d = if 3 ≤ n ∧ sLo a ≤ b ∧ b ≤ sHi a ∧ 128 ≤ c ∧ c ≤ 191 then 3 else 0 := by
  unfold leadN; rw [hw]
  repeat' split
  all_goals omega
theorem lead4 {n a b c d : Nat} (hw : wid a = 4) : leadN n a b c d = if 4 ≤ n ∧ sLo a ≤ b ∧ b ≤ sHi a ∧ 128 ≤ c ∧ c ≤ 191 ∧ 128 ≤ d ∧ d ≤ 191 then 4 else 0 := by
  unfold leadN; rw [hw]
  repeat' split
  all_goals omega
theorem decN_ok {n a b c d : Nat} (h : leadN n a b c d ≠ 0) (hc : codeN a b c d = 65533) : leadN n a b c d = 3 := by
  rcases wid_cases a with ⟨h1, hw⟩ | ⟨h1, h2, hw⟩ | ⟨h1, h2, hw⟩ | ⟨h1, h2, hw⟩ | ⟨h1, hw⟩
  · unfold codeN at hc; rw [hw] at hc; simp at hc; omega
  · unfold codeN at hc; rw [hw] at hc; simp at hc; omega
  · rw [lead3 hw] at h ⊢; split at h
    · rw [if_pos ‹_›]
    · exact absurd rfl h
  · unfold codeN at hc; rw [hw] at hc; simp at hc
    rw [lead4 hw] at h; split at h
    · rename_i hh
      have hsl := sl_le a
      have := (sl4 (b := b) h1 h2 (by have := (sl_le a).1; omega) (by have := (sl_le a).2; omega)).1.1 hh.2.1
      omega
    · exact absurd rfl h
  · exact absurd (lead0 hw) h
theorem valid_iff (c : Nat) : Go.Utf8.valid (c : Int) = true ↔ c < 55296 ∨ (57344 ≤ c ∧ c ≤ 1114111) := by
  unfold Go.Utf8.valid
  rw [Bool.or_eq_true, Bool.and_eq_true, Bool.and_eq_true, decide_eq_true_eq, decide_eq_true_eq, decide_eq_true_eq, decide_eq_true_eq]
  omega
set_option maxRecDepth 100000 in
set_option maxHeartbeats 1000000 in
theorem dec_pure (N i a b c d : Nat) (hi : i < N) (ha : a < 256) (hb : b < 256) (hc : c < 256) (hd : d < 256) :
    (if a < 0x80 then (a, 1)
    else if a / 32 == 6 && (decide (i + 1 < N) && b / 64 == 2) then
      (if a % 32 * 64 + b % 64 ≥ 0x80 then (a % 32 * 64 + b % 64, 2) else (Go.Utf8.runeError, 1))
    else if a / 16 == 14 && (decide (i + 1 < N) && b / 64 == 2) && (decide (i + 2 < N) && c / 64 == 2) then
      (if decide (a % 16 * 4096 + b % 64 * 64 + c % 64 ≥ 0x800) && Go.Utf8.valid ((a % 16 * 4096 + b % 64 * 64 + c % 64 : Nat) : Int) then (a % 16 * 4096 + b % 64 * 64 + c % 64, 3) else (Go.Utf8.runeError, 1))
    else if a / 8 == 30 && (decide (i + 1 < N) && b / 64 == 2) && (decide (i + 2 < N) && c / 64 == 2) && (decide (i + 3 < N) && d / 64 == 2) then
      (if decide (a % 8 * 262144 + b % 64 * 4096 + c % 64 * 64 + d % 64 ≥ 0x10000) && Go.Utf8.valid ((a % 8 * 262144 + b % 64 * 4096 + c % 64 * 64 + d % 64 : Nat) : Int) then (a % 8 * 262144 + b % 64 * 4096 + c % 64 * 64 + d % 64, 4) else (Go.Utf8.runeError, 1))
    else (Go.Utf8.runeError, 1)) = decN (N - i) a b c d := by
  unfold decN codeN
  have sl := sl_le a
  rcases wid_cases a with ⟨h1, hw⟩ | ⟨h1, h2, hw⟩ | ⟨h1, h2, hw⟩ | ⟨h1, h2, hw⟩ | ⟨h1, hw⟩
  · rw [lead1 hw, hw]; simp [h1]
  · rw [lead2 hw, hw]
    have h3 : ¬ a < 128 := by omega
    have h5 : a / 32 = 6 := by omega
    have h6 : ¬ a / 16 = 14 := by omega
    have h7 : ¬ a / 8 = 30 := by omega
    have s2 := sl2 h2
    simp only [h3, h5, h6, h7, s2.1, s2.2, Go.Utf8.runeError, Bool.and_eq_true, decide_eq_true_eq, beq_iff_eq, if_false, if_true, true_and, false_and]
    repeat' split
    all_goals first | omega | rfl | (simp only [Prod.mk.injEq]; omega)
  · rw [lead3 hw, hw]
    have h3 : ¬ a < 128 := by omega
    have h5 : ¬ a / 32 = 6 := by omega
    have h6 : a / 16 = 14 := by omega
    have h7 : ¬ a / 8 = 30 := by omega
    simp only [h3, h5, h6, h7, Go.Utf8.runeError, valid_iff, Bool.and_eq_true, decide_eq_true_eq, beq_iff_eq, if_false, if_true, true_and, false_and]
    by_cases hb2 : 128 ≤ b ∧ b ≤ 191
    · have s3 := sl3 h1 h2 hb2.1 hb2.2
      repeat' split
      all_goals first | omega | rfl | (simp only [Prod.mk.injEq]; omega)
    · repeat' split
      all_goals first | omega | rfl | (simp only [Prod.mk.injEq]; omega)
  · rw [lead4 hw, hw]
    have h3 : ¬ a < 128 := by omega
    have h5 : ¬ a / 32 = 6 := by omega
    have h6 : ¬ a / 16 = 14 := by omega
    have h7 : a / 8 = 30 := by omega
    simp only [h3, h5, h6, h7, Go.Utf8.runeError, valid_iff, Bool.and_eq_true, decide_eq_true_eq, beq_iff_eq, if_false, true_and, false_and]
    by_cases hb2 : 128 ≤ b ∧ b ≤ 191
    · have s3 := sl4 h1 h2 hb2.1 hb2.2
      repeat' split
      all_goals first | omega | rfl | (simp only [Prod.mk.injEq]; omega)
    · repeat' split
      all_goals first | omega | rfl | (simp only [Prod.mk.injEq]; omega)
  · rw [lead0 hw]
    have h3 : ¬ a < 128 := by omega
    simp only [h3, Go.Utf8.runeError, valid_iff, Bool.and_eq_true, decide_eq_true_eq, beq_iff_eq, if_false, if_true]
    repeat' split
    all_goals first | omega | rfl | (simp only [Prod.mk.injEq]; omega)
theorem decode_N (s : ByteArray) (i : Nat) (hi : i < s.size) : Go.Utf8.decode s i = decN (s.size - i) (s.get! (i + 0)).toNat (s.get! (i + 1)).toNat (s.get! (i + 2)).toNat (s.get! (i + 3)).toNat :=
  dec_pure s.size i _ _ _ _ hi (UInt8.toNat_lt _) (UInt8.toNat_lt _) (UInt8.toNat_lt _) (UInt8.toNat_lt _)
/-- What is decoded at a text's beginning. -/
def decL (l : List UInt8) : Nat × Nat := if l = [] then (65533, 0) else if lead l = 0 then (65533, 1) else (code l, lead l)
theorem decode_at (s : ByteArray) (i : Nat) (hi : i < s.size) : Go.Utf8.decode s i = decL (s.data.toList.drop i) := by
  have hne : s.data.toList.drop i ≠ [] := by
    intro h
    have := List.drop_eq_nil_iff.1 h
    simp at this
    have : s.data.size = s.size := rfl
    omega
  have hl : (s.data.toList.drop i).length = s.size - i := by simp
  rw [decode_N s i hi, ← bt_get, ← bt_get, ← bt_get, ← bt_get]
  unfold decL decN code lead
  rw [if_neg hne, if_neg hne, hl]
theorem decodeGo_at (s : ByteArray) : (if s.size = 0 then (65533, 0) else Go.Utf8.decode s 0) = decL s.data.toList := by
  by_cases h : s.size = 0
  · rw [if_pos h]
    have : s.data.toList = [] := List.length_eq_zero_iff.1 (by simpa using h)
    rw [this]; rfl
  · rw [if_neg h, decode_at s 0 (by omega)]; rfl
theorem decL_ok {l : List UInt8} : ((decL l).1 = 65533 ∧ (decL l).2 ≤ 1) ↔ lead l = 0 := by
  unfold decL
  by_cases h : l = []
  · subst h; simp [lead_nil]
  · rw [if_neg h]
    by_cases h0 : lead l = 0
    · rw [if_pos h0]; simp [h0]
    · rw [if_neg h0]
      have h3 : code l = 65533 → lead l = 3 := by
        intro hc
        have := h0
        unfold lead at this ⊢
        rw [if_neg h] at this ⊢
        exact decN_ok this hc
      constructor
      · rintro ⟨h1, h2⟩
        have := h3 h1
        simp only at h2
        omega
      · intro h1; exact absurd h1 h0
theorem decL_ne {l : List UInt8} (h0 : lead l ≠ 0) : decL l = (code l, lead l) := by
  unfold decL
  rw [if_neg (by intro h; subst h; exact h0 rfl), if_neg h0]
/-- How many signs a right text has. -/
theorem count_F : ∀ (f : Nat) (s : ByteArray) (i k : Nat), i ≤ s.size → s.size - i ≤ f → sigs (s.data.toList.drop i) = some k → Go.Lib.runeCountFrom s f i = k
  | f, s, i, k, hi, hf, hs => by
    by_cases hlt : i < s.size
    · cases f with
      | zero => omega
      | succ f =>
        unfold Go.Lib.runeCountFrom
        rw [if_pos hlt, decode_at s i hlt]
        have hne : s.data.toList.drop i ≠ [] := by
          intro h
          have := List.drop_eq_nil_iff.1 h
          simp at this
          have : s.data.size = s.size := rfl
          omega
        have h0 : lead (s.data.toList.drop i) ≠ 0 := by
          intro h0; rw [sigs_bad hne h0] at hs; cases hs
        rw [sigs_step hne h0, List.drop_drop] at hs
        rw [decL_ne h0]
        have hle := lead_le (s.data.toList.drop i)
        have hl : (s.data.toList.drop i).length = s.size - i := by simp
        cases hq : sigs (s.data.toList.drop (i + lead (s.data.toList.drop i))) with
        | none => rw [hq] at hs; cases hs
        | some m =>
          rw [hq] at hs
          simp at hs
          rw [count_F f s _ m (by omega) (by omega) hq]
          omega
    · have hd : s.data.toList.drop i = [] := List.drop_eq_nil_iff.2 (by have : s.data.size = s.size := rfl; simp; omega)
      rw [hd, sigs_nil] at hs
      rw [Go.Lib.runeCountFrom_end s f i hlt]
      simpa using hs
theorem one_count (s : ByteArray) : (rightL s.data.toList && (Go.Lib.runeCount s == 1)) = oneL s.data.toList := by
  unfold oneL rightL Go.Lib.runeCount
  cases hq : sigs s.data.toList with
  | none => rfl
  | some k =>
    rw [count_F s.size s 0 k (Nat.zero_le _) (by omega) (by simpa using hq)]
    by_cases hk : k = 1 <;> simp [hk]
/-- A sign at the end. -/
theorem lead_bytes {q : List UInt8} (h : lead q = q.length) (hne : q ≠ []) :
    (∃ a, q = [a] ∧ a.toNat < 128) ∨ (∃ a b, q = [a, b] ∧ 194 ≤ a.toNat ∧ 128 ≤ b.toNat ∧ b.toNat ≤ 191) ∨
    (∃ a b c, q = [a, b, c] ∧ 224 ≤ a.toNat ∧ 128 ≤ b.toNat ∧ b.toNat ≤ 191 ∧ 128 ≤ c.toNat ∧ c.toNat ≤ 191) ∨
    (∃ a b c d, q = [a, b, c, d] ∧ 240 ≤ a.toNat ∧ 128 ≤ b.toNat ∧ b.toNat ≤ 191 ∧ 128 ≤ c.toNat ∧ c.toNat ≤ 191 ∧ 128 ≤ d.toNat ∧ d.toNat ≤ 191) := by
  have hp := List.length_pos_iff.2 hne
  unfold lead at h
  rw [if_neg hne] at h
  have sl := sl_le (bt q 0)
  rcases wid_cases (bt q 0) with ⟨h1, hw⟩ | ⟨h1, h2, hw⟩ | ⟨h1, h2, hw⟩ | ⟨h1, h2, hw⟩ | ⟨h1, hw⟩
  · rw [lead1 hw] at h
    match q, h.symm with
    | [a], _ => exact .inl ⟨a, rfl, h1⟩
  · rw [lead2 hw] at h
    split at h
    · rename_i hh
      match q, h.symm with
      | [a, b], _ =>
        have e : bt [a, b] 1 = b.toNat := rfl
        rw [e] at hh
        exact .inr (.inl ⟨a, b, rfl, h1, by omega, by omega⟩)
    · omega
  · rw [lead3 hw] at h
    split at h
    · rename_i hh
      match q, h.symm with
      | [a, b, c], _ =>
        have e : bt [a, b, c] 1 = b.toNat := rfl
        have e2 : bt [a, b, c] 2 = c.toNat := rfl
        rw [e, e2] at hh
        exact .inr (.inr (.inl ⟨a, b, c, rfl, h1, by omega, by omega, by omega, by omega⟩))
    · omega
  · rw [lead4 hw] at h
    split at h
    · rename_i hh
      match q, h.symm with
      | [a, b, c, d], _ =>
        have e : bt [a, b, c, d] 1 = b.toNat := rfl
        have e2 : bt [a, b, c, d] 2 = c.toNat := rfl
        have e3 : bt [a, b, c, d] 3 = d.toNat := rfl
        rw [e, e2, e3] at hh
        exact .inr (.inr (.inr ⟨a, b, c, d, rfl, h1, by omega, by omega, by omega, by omega, by omega, by omega⟩))
    · omega
  · rw [lead0 hw] at h; omega
theorem getD_end (p q : List UInt8) (k : Nat) (hk : k ≤ q.length) : (p ++ q).getD ((p ++ q).length - k) 0 = q.getD (q.length - k) 0 := by
  rw [List.getD_eq_getElem?_getD, List.getD_eq_getElem?_getD, List.length_append, List.getElem?_append_right (by omega)]
  congr 2
  omega
theorem rs_no {b : UInt8} (h1 : 128 ≤ b.toNat) (h2 : b.toNat ≤ 191) : Go.Lib.runeStartB b = false := by
  unfold Go.Lib.runeStartB; simp; omega
theorem rs_yes {b : UInt8} (h1 : 194 ≤ b.toNat) : Go.Lib.runeStartB b = true := by
  unfold Go.Lib.runeStartB; simp; omega
theorem decodeL_eq (l : List UInt8) (h : l ≠ []) : Go.Lib.decodeL l = decL l := by
  unfold Go.Lib.decodeL
  have hs : (⟨l.toArray⟩ : ByteArray).size = l.length := rfl
  have := List.length_pos_iff.2 h
  rw [decode_at _ 0 (by omega)]; rfl
theorem last_sign (p q : List UInt8) (h : lead q = q.length) (hne : q ≠ []) : Go.Lib.decodeLastL (p ++ q) = (code q, lead q) := by
  have hd := decL_ne (l := q) (by have := List.length_pos_iff.2 hne; omega)
  unfold Go.Lib.decodeLastL
  rw [if_neg (by simp [hne])]
  have hpl := List.length_pos_iff.2 hne
  rw [getD_end p q 1 (by omega)]
  rcases lead_bytes h hne with ⟨a, rfl, ha⟩ | ⟨a, b, rfl, ha, hb, hb2⟩ | ⟨a, b, c, rfl, ha, hb, hb2, hc, hc2⟩ | ⟨a, b, c, d, rfl, ha, hb, hb2, hc, hc2, hd1, hd2⟩
  · have e : ([a] : List UInt8).getD ([a].length - 1) 0 = a := rfl
    rw [e, if_pos ha, h]
    simp [code, codeN, bt, wid, ha]
  · have e : ([a, b] : List UInt8).getD ([a, b].length - 1) 0 = b := rfl
    rw [e, if_neg (by omega)]
    have ls : Go.Lib.lastStart (p ++ [a, b]) = p.length := by
      have a2 : Go.Lib.runeStartB ((p ++ [a, b]).getD ((p ++ [a, b]).length - 2) 0) = true := by rw [getD_end p [a, b] 2 (by simp)]; exact rs_yes ha
      unfold Go.Lib.lastStart
      dsimp only
      rw [if_neg (show ¬ (p ++ [a, b]).length < 2 by simp), if_pos a2]
      simp
    rw [ls, List.drop_left, decodeL_eq _ hne, hd]
    dsimp only
    rw [if_pos (by rw [h, List.length_append])]
  · have e : ([a, b, c] : List UInt8).getD ([a, b, c].length - 1) 0 = c := rfl
    rw [e, if_neg (by omega)]
    have ls : Go.Lib.lastStart (p ++ [a, b, c]) = p.length := by
      have a2 : Go.Lib.runeStartB ((p ++ [a, b, c]).getD ((p ++ [a, b, c]).length - 2) 0) = false := by rw [getD_end p [a, b, c] 2 (by simp)]; exact rs_no hb hb2
      have a3 : Go.Lib.runeStartB ((p ++ [a, b, c]).getD ((p ++ [a, b, c]).length - 3) 0) = true := by rw [getD_end p [a, b, c] 3 (by simp)]; exact rs_yes (b := a) (by omega)
      unfold Go.Lib.lastStart
      dsimp only
      rw [if_neg (show ¬ (p ++ [a, b, c]).length < 2 by simp), if_neg (show ¬ Go.Lib.runeStartB ((p ++ [a, b, c]).getD ((p ++ [a, b, c]).length - 2) 0) = true by rw [a2]; decide), if_neg (show ¬ (p ++ [a, b, c]).length < 3 by simp), if_pos a3]
      simp
    rw [ls, List.drop_left, decodeL_eq _ hne, hd]
    dsimp only
    rw [if_pos (by rw [h, List.length_append])]
  · have e : ([a, b, c, d] : List UInt8).getD ([a, b, c, d].length - 1) 0 = d := rfl
    rw [e, if_neg (by omega)]
    have ls : Go.Lib.lastStart (p ++ [a, b, c, d]) = p.length := by
      have a2 : Go.Lib.runeStartB ((p ++ [a, b, c, d]).getD ((p ++ [a, b, c, d]).length - 2) 0) = false := by rw [getD_end p [a, b, c, d] 2 (by simp)]; exact rs_no hc hc2
      have a3 : Go.Lib.runeStartB ((p ++ [a, b, c, d]).getD ((p ++ [a, b, c, d]).length - 3) 0) = false := by rw [getD_end p [a, b, c, d] 3 (by simp)]; exact rs_no hb hb2
      have a4 : Go.Lib.runeStartB ((p ++ [a, b, c, d]).getD ((p ++ [a, b, c, d]).length - 4) 0) = true := by rw [getD_end p [a, b, c, d] 4 (by simp)]; exact rs_yes (b := a) (by omega)
      unfold Go.Lib.lastStart
      dsimp only
      rw [if_neg (show ¬ (p ++ [a, b, c, d]).length < 2 by simp), if_neg (show ¬ Go.Lib.runeStartB ((p ++ [a, b, c, d]).getD ((p ++ [a, b, c, d]).length - 2) 0) = true by rw [a2]; decide), if_neg (show ¬ (p ++ [a, b, c, d]).length < 3 by simp), if_neg (show ¬ Go.Lib.runeStartB ((p ++ [a, b, c, d]).getD ((p ++ [a, b, c, d]).length - 3) 0) = true by rw [a3]; decide), if_neg (show ¬ (p ++ [a, b, c, d]).length < 4 by simp), if_pos a4]
      simp
    rw [ls, List.drop_left, decodeL_eq _ hne, hd]
    dsimp only
    rw [if_pos (by rw [h, List.length_append])]
/-- A right text that is not empty ends with a sign. -/
theorem right_last : ∀ (n : Nat) (l : List UInt8), l.length ≤ n → l ≠ [] → rightL l = true → ∃ p q, l = p ++ q ∧ q ≠ [] ∧ lead q = q.length
  | 0, l, hn, hne, _ => absurd (List.length_eq_zero_iff.1 (by omega)) hne
  | n + 1, l, hn, hne, hr => by
    by_cases h0 : lead l = 0
    · rw [right_bad hne h0] at hr; cases hr
    · rw [right_step hne h0] at hr
      by_cases hd : l.drop (lead l) = []
      · have := List.drop_eq_nil_iff.1 hd
        have := lead_le l
        exact ⟨[], l, rfl, hne, by omega⟩
      · obtain ⟨p, q, e, hq, hl⟩ := right_last n _ (by simp; omega) hd hr
        exact ⟨l.take (lead l) ++ p, q, by rw [List.append_assoc, ← e, List.take_append_drop], hq, hl⟩
/-- A code point's bytes. -/
def isPt (r : Nat) : Prop := r < 55296 ∨ (57344 ≤ r ∧ r ≤ 1114111)
def u8 (n : Nat) : UInt8 := UInt8.ofNat n
def signL (r : Nat) : List UInt8 :=
  if r < 128 then [u8 r] else if r < 2048 then [u8 (192 + r / 64), u8 (128 + r % 64)]
  else if r < 65536 then [u8 (224 + r / 4096), u8 (128 + r / 64 % 64), u8 (128 + r % 64)]
  else [u8 (240 + r / 262144), u8 (128 + r / 4096 % 64), u8 (128 + r / 64 % 64), u8 (128 + r % 64)]
theorem u8_toNat {n : Nat} (h : n < 256) : (u8 n).toNat = n := by
  unfold u8; rw [UInt8.toNat_ofNat']; exact Nat.mod_eq_of_lt h
theorem sign_ne (r : Nat) : signL r ≠ [] := by
  unfold signL; repeat' split
  all_goals simp
theorem sign_len (r : Nat) : (signL r).length ≤ 4 := by
  unfold signL; repeat' split
  all_goals simp
set_option maxHeartbeats 1000000 in
theorem sign_lead (r : Nat) (hr : isPt r) (t : List UInt8) : lead (signL r ++ t) = (signL r).length ∧ code (signL r ++ t) = r := by
  unfold isPt at hr
  unfold lead code
  rw [if_neg (by simp [sign_ne])]
  unfold signL
  by_cases h1 : r < 128
  · rw [if_pos h1]
    have e0 : bt ([u8 r] ++ t) 0 = r := by show (u8 r).toNat = r; exact u8_toNat (by omega)
    rw [e0]
    have hw : wid r = 1 := by rcases wid_cases r with h | h | h | h | h <;> omega
    rw [lead1 hw]
    simp [codeN, hw]
  · rw [if_neg h1]
    by_cases h2 : r < 2048
    · rw [if_pos h2]
      have e0 : bt ([u8 (192 + r / 64), u8 (128 + r % 64)] ++ t) 0 = 192 + r / 64 := by show (u8 _).toNat = _; exact u8_toNat (by omega)
      have e1 : bt ([u8 (192 + r / 64), u8 (128 + r % 64)] ++ t) 1 = 128 + r % 64 := by show (u8 _).toNat = _; exact u8_toNat (by omega)
      rw [e0, e1]
      have hw : wid (192 + r / 64) = 2 := by rcases wid_cases (192 + r / 64) with h | h | h | h | h <;> omega
      have s2 := sl2 (a := 192 + r / 64) (by omega)
      rw [lead2 hw, s2.1, s2.2, if_pos (by simp; omega)]
      simp only [codeN, hw]
      simp
      omega
    · rw [if_neg h2]
      by_cases h3 : r < 65536
      · rw [if_pos h3]
        have e0 : bt ([u8 (224 + r / 4096), u8 (128 + r / 64 % 64), u8 (128 + r % 64)] ++ t) 0 = 224 + r / 4096 := by show (u8 _).toNat = _; exact u8_toNat (by omega)
        have e1 : bt ([u8 (224 + r / 4096), u8 (128 + r / 64 % 64), u8 (128 + r % 64)] ++ t) 1 = 128 + r / 64 % 64 := by show (u8 _).toNat = _; exact u8_toNat (by omega)
        have e2 : bt ([u8 (224 + r / 4096), u8 (128 + r / 64 % 64), u8 (128 + r % 64)] ++ t) 2 = 128 + r % 64 := by show (u8 _).toNat = _; exact u8_toNat (by omega)
        rw [e0, e1, e2]
        have hw : wid (224 + r / 4096) = 3 := by rcases wid_cases (224 + r / 4096) with h | h | h | h | h <;> omega
        have s3 := sl3 (a := 224 + r / 4096) (b := 128 + r / 64 % 64) (by omega) (by omega) (by omega) (by omega)
        have s3a := s3.1.2 (by omega)
        have s3b := s3.2.2 (by omega)
        rw [lead3 hw, if_pos (by simp; omega)]
        simp only [codeN, hw]
        simp
        omega
      · rw [if_neg h3]
        have e0 : bt ([u8 (240 + r / 262144), u8 (128 + r / 4096 % 64), u8 (128 + r / 64 % 64), u8 (128 + r % 64)] ++ t) 0 = 240 + r / 262144 := by show (u8 _).toNat = _; exact u8_toNat (by omega)
        have e1 : bt ([u8 (240 + r / 262144), u8 (128 + r / 4096 % 64), u8 (128 + r / 64 % 64), u8 (128 + r % 64)] ++ t) 1 = 128 + r / 4096 % 64 := by show (u8 _).toNat = _; exact u8_toNat (by omega)
        have e2 : bt ([u8 (240 + r / 262144), u8 (128 + r / 4096 % 64), u8 (128 + r / 64 % 64), u8 (128 + r % 64)] ++ t) 2 = 128 + r / 64 % 64 := by show (u8 _).toNat = _; exact u8_toNat (by omega)
        have e3 : bt ([u8 (240 + r / 262144), u8 (128 + r / 4096 % 64), u8 (128 + r / 64 % 64), u8 (128 + r % 64)] ++ t) 3 = 128 + r % 64 := by show (u8 _).toNat = _; exact u8_toNat (by omega)
        rw [e0, e1, e2, e3]
        have hw : wid (240 + r / 262144) = 4 := by rcases wid_cases (240 + r / 262144) with h | h | h | h | h <;> omega
        have s3 := sl4 (a := 240 + r / 262144) (b := 128 + r / 4096 % 64) (by omega) (by omega) (by omega) (by omega)
        have s3a := s3.1.2 (by omega)
        have s3b := s3.2.2 (by omega)
        rw [lead4 hw, if_pos (by simp; omega)]
        simp only [codeN, hw]
        simp
        omega
end Florin
