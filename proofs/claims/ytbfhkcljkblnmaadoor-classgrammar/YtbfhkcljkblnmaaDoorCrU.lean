/- Code points in any of their ways, and ranges of them with blanks between, are read as they are meant: in plain words. -/
import Derived.Test.YtbfhkcljkblnmaaDoorCrP
namespace Go.Proofs.YtbfhkcljkblnmaaDoor
open Go.RowKit Florin
set_option linter.unusedVariables false
set_option linter.unusedSimpArgs false
theorem hyF_val : ∀ (f k n : Nat) (l : List UInt8), n < 16 ^ f → hexN (hyF f k n l) = n * 16 ^ l.length + hexN l
  | 0, k, n, l, h => by
    have : n = 0 := by simpa using h
    subst this
    simp [hyF]
  | f + 1, k, n, l, h => by
    unfold hyF
    split
    · have h2 : n / 16 < 16 ^ f := by rw [Nat.pow_succ] at h; omega
      rw [hyF_val f k (n / 16) _ h2, hexN_cons, hx_d (Nat.mod_lt _ (by decide)), List.length_cons, Nat.pow_succ]
      have e : n * 16 ^ l.length = n / 16 * (16 ^ l.length * 16) + n % 16 * 16 ^ l.length := by
        rw [Nat.mul_comm (16 ^ l.length) 16, ← Nat.mul_assoc, ← Nat.add_mul]
        congr 1
        omega
      show _ + (n % 16 * 16 ^ l.length + hexN l) = _
      omega
    · rename_i hc
      have : n = 0 := by omega
      subst this
      simp
theorem hyF_len : ∀ (f k n j : Nat) (l : List UInt8), k ≤ 6 → n < 16 ^ j → l.length + j ≤ 6 → (hyF f k n l).length ≤ 6
  | 0, k, n, j, l, _, _, h => by unfold hyF; omega
  | f + 1, k, n, j, l, hk, hn, h => by
    unfold hyF
    split
    · rename_i hc
      by_cases h0 : 0 < n
      · obtain ⟨i, rfl⟩ : ∃ i, j = i + 1 := ⟨j - 1, by
          cases j with
          | zero => rw [Nat.pow_zero] at hn; omega
          | succ j => omega⟩
        exact hyF_len f k (n / 16) i _ hk (by rw [Nat.pow_succ] at hn; omega) (by rw [List.length_cons]; omega)
      · exact hyF_len f k (n / 16) 0 _ hk (by rw [Nat.pow_zero]; omega) (by rw [List.length_cons]; omega)
    · omega
theorem hyF_all : ∀ (f k n : Nat) (l : List UInt8), (∀ c ∈ l, (hexD c).isSome = true) → ∀ c ∈ hyF f k n l, (hexD c).isSome = true
  | 0, _, _, l, h => h
  | f + 1, k, n, l, h => by
    unfold hyF
    split
    · refine hyF_all f k _ _ (fun c hc => ?_)
      rcases List.mem_cons.1 hc with rfl | hc
      · rw [hx_d (Nat.mod_lt _ (by decide))]; rfl
      · exact h c hc
    · exact h
theorem hyF_ge : ∀ (f k n : Nat) (l : List UInt8), l.length ≤ (hyF f k n l).length
  | 0, _, _, l => Nat.le_refl _
  | f + 1, k, n, l => by
    unfold hyF
    split
    · have := hyF_ge f k (n / 16) (hx (n % 16) :: l)
      rw [List.length_cons] at this
      omega
    · exact Nat.le_refl _
theorem hyS_ok (n k : Nat) (hn : n ≤ 1114111) (hk : k ≤ 6) (hk1 : 1 ≤ k) : (hyS n k).length ≤ 6 ∧ (∀ c ∈ hyS n k, (hexD c).isSome = true) ∧ hexN (hyS n k) = n ∧ hyS n k ≠ [] := by
  refine ⟨hyF_len 40 k n 6 [] hk (Nat.lt_of_le_of_lt hn (by decide)) (by simp), hyF_all 40 k n [] (fun c h => by cases h), ?_, ?_⟩
  · unfold hyS
    rw [hyF_val 40 k n [] (Nat.lt_of_le_of_lt hn (by decide))]
    simp [hexN]
  · have h : hyS n k = hyF 39 k (n / 16) [hx (n % 16)] := by
      show hyF (39 + 1) k n [] = _
      conv => lhs; unfold hyF
      rw [if_pos (.inr (by simp; omega))]
    have h2 := hyF_ge 39 k (n / 16) [hx (n % 16)]
    rw [← h] at h2
    intro e
    rw [e] at h2
    simp at h2
theorem coded_gen {h : List UInt8} {n : Nat} (hl : h.length ≤ 6) (ha : ∀ c ∈ h, (hexD c).isSome = true) (hv : hexN h = n) (hne : h ≠ []) (hn : n ≤ 1114111) (m : List UInt8) : codedP (h ++ 125 :: m) = (n, h.length + 4) := by
  have hr := hexRun_app 6 h m hl ha
  unfold codedP
  rw [hr, hv, if_neg]
  rintro (q | q | q)
  · exact hne q
  · omega
  · rw [List.drop_left] at q
    cases q
/-- A text that is a code point, wherever it stands. -/
def WrOK (p : Nat) (l : List UInt8) : Prop := p ≤ 1114111 ∧ l.length ≤ 20 ∧ (∀ m, numP (l ++ m) = (p, l.length)) ∧ ∃ c t, l = c :: t ∧ c ≠ 32 ∧ c ≠ 45 ∧ c ≠ 93 ∧ c ≠ 94
theorem wrok_hex (n k : Nat) (hn : n ≤ 1114111) (hk : k ≤ 6) (hk1 : 1 ≤ k) : WrOK n ([92, 117, 123] ++ hyS n k ++ [125]) := by
  obtain ⟨h1, h2, h3, h4⟩ := hyS_ok n k hn hk hk1
  refine ⟨hn, by simp; omega, fun m => ?_, 92, 117 :: 123 :: (hyS n k ++ [125]), by simp, by decide, by decide, by decide, by decide⟩
  have e : ([92, 117, 123] ++ hyS n k ++ [125] ++ m : List UInt8) = 92 :: 117 :: 123 :: (hyS n k ++ 125 :: m) := by simp
  rw [e]
  unfold numP
  rw [if_pos (by rfl)]
  show escP (117 :: 123 :: (hyS n k ++ 125 :: m)) = _
  unfold escP
  rw [if_pos (by rfl)]
  show codedP (hyS n k ++ 125 :: m) = _
  rw [coded_gen h1 h2 h3 h4 hn m]
  simp
theorem mark_cases {p : Nat} (h : isMark p = true) : p = 91 ∨ p = 93 ∨ p = 45 ∨ p = 94 ∨ p = 92 ∨ p = 32 := by
  unfold isMark at h
  simpa [or_assoc] using h
theorem wrok_esc (p : Nat) (h : isMark p = true) : WrOK p ([92] ++ signL p) := by
  rcases mark_cases h with rfl | rfl | rfl | rfl | rfl | rfl
  all_goals exact ⟨by decide, by decide, fun m => rfl, 92, _, rfl, by decide, by decide, by decide, by decide⟩
theorem sign_head (p : Nat) (hp : isPt p) : ∃ c t, signL p = c :: t ∧ ((p < 128 ∧ c.toNat = p) ∨ 128 ≤ c.toNat) := by
  unfold isPt at hp
  unfold signL
  by_cases h1 : p < 128
  · rw [if_pos h1]; exact ⟨_, _, rfl, .inl ⟨h1, u8_toNat (by omega)⟩⟩
  · rw [if_neg h1]
    by_cases h2 : p < 2048
    · rw [if_pos h2]; exact ⟨_, _, rfl, .inr (by rw [u8_toNat (by omega)]; omega)⟩
    · rw [if_neg h2]
      by_cases h3 : p < 65536
      · rw [if_pos h3]; exact ⟨_, _, rfl, .inr (by rw [u8_toNat (by omega)]; omega)⟩
      · rw [if_neg h3]; exact ⟨_, _, rfl, .inr (by rw [u8_toNat (by omega)]; omega)⟩
theorem wrok_sign (p : Nat) (hp : isPt p) (h : isMark p = false) : WrOK p (signL p) := by
  obtain ⟨c, t, e, hc⟩ := sign_head p hp
  have hne : ∀ d : UInt8, isMark d.toNat = true → c ≠ d := by
    rintro d hd rfl
    rcases hc with ⟨_, hc⟩ | hc
    · rw [hc, h] at hd; cases hd
    · rcases mark_cases hd with q | q | q | q | q | q <;> omega
  have hl := sign_len p
  refine ⟨by unfold isPt at hp; omega, by omega, fun m => ?_, c, t, e, hne 32 (by decide), hne 45 (by decide), hne 93 (by decide), hne 94 (by decide)⟩
  obtain ⟨q1, q2⟩ := sign_lead p hp m
  have h92 := hne 92 (by decide)
  have hpre : ([92] : List UInt8).isPrefixOf (signL p ++ m) = false := by
    rw [e]
    have : ((92 : UInt8) == c) = false := by simpa using Ne.symm h92
    simp [List.isPrefixOf, this]
  unfold numP
  rw [hpre, if_neg (by decide), q1, q2, if_neg]
  rintro (q | q)
  · rw [e] at q; simp at q
  · rw [h] at q; cases q
/-- A range as it is written, or one code point: blanks, texts, numbers. -/
structure El where
  g : Nat
  x : List UInt8
  y : List UInt8
  two : Bool
  a : Nat
  b : Nat
def El.ok (e : El) : Prop := e.g ≤ 2 ∧ WrOK e.a e.x ∧ WrOK e.b e.y ∧ e.a ≤ e.b
def El.txt (e : El) : List UInt8 := List.replicate e.g 32 ++ e.x ++ (if e.two then List.replicate e.g 32 ++ [45] ++ List.replicate e.g 32 ++ e.y else [])
def El.rng (e : El) : Int × Int := ((e.a : Int), ((if e.two then e.b else e.a : Nat) : Int))
theorem bl_rep (l : List UInt8) : ∀ K, bl (List.replicate K 32 ++ l) = bl l
  | 0 => rfl
  | K + 1 => by rw [List.replicate_succ, List.cons_append]; exact bl_rep l K
theorem wr_bl {p : Nat} {l : List UInt8} (h : WrOK p l) (m : List UInt8) : bl (l ++ m) = l ++ m := by
  obtain ⟨_, _, _, c, t, rfl, h1, _⟩ := h
  exact bl_no h1 _
theorem nf_ok {p : Nat} {l : List UInt8} (h : WrOK p l) {k : Int} (hk : k ≤ (p : Int)) (g : Nat) (m : List UInt8) : nfP k (List.replicate g 32 ++ (l ++ m)) = ((p : Int), true, m) := by
  have h1 := h.2.2.1 m
  have hpos : 0 < l.length := by obtain ⟨_, _, _, c, t, rfl, _⟩ := h; simp
  unfold nfP
  rw [bl_rep, wr_bl h, h1, if_neg (by
    rintro (q | q)
    · simp only at q; omega
    · simp only at q; omega)]
  rw [List.drop_left]
/-- What stands behind: no dash comes next. -/
def nodash (m : List UInt8) : Prop := ctk [45] m = false
theorem span_el {e : El} (h : e.ok) {m : List UInt8} (hm : nodash m) : (spanP (e.txt ++ m)).1 = e.rng ∧ (spanP (e.txt ++ m)).2.1 = true ∧ bl (spanP (e.txt ++ m)).2.2 = bl m := by
  obtain ⟨h1, h2, h3, h4⟩ := h
  cases ht : e.two with
  | false =>
    have et : e.txt ++ m = List.replicate e.g 32 ++ (e.x ++ m) := by unfold El.txt; rw [ht]; simp
    have er : e.rng = ((e.a : Int), (e.a : Int)) := by unfold El.rng; rw [ht]; rfl
    rw [et, er]
    unfold spanP
    rw [nf_ok h2 (by omega) e.g m, if_neg (by simp), if_neg (by rw [show ctk [45] m = false from hm]; decide)]
    exact ⟨rfl, rfl, bl_idem m⟩
  | true =>
    have et : e.txt ++ m = List.replicate e.g 32 ++ (e.x ++ (List.replicate e.g 32 ++ (45 :: (List.replicate e.g 32 ++ (e.y ++ m))))) := by unfold El.txt; rw [ht]; simp
    have er : e.rng = ((e.a : Int), (e.b : Int)) := by unfold El.rng; rw [ht]; rfl
    have hb : bl (List.replicate e.g 32 ++ (45 :: (List.replicate e.g 32 ++ (e.y ++ m)))) = 45 :: (List.replicate e.g 32 ++ (e.y ++ m)) := by rw [bl_rep, bl_no (by decide)]
    have hc : ctk [45] (List.replicate e.g 32 ++ (45 :: (List.replicate e.g 32 ++ (e.y ++ m)))) = true := by unfold ctk; rw [hb]; rfl
    have hr : ctkR [45] (List.replicate e.g 32 ++ (45 :: (List.replicate e.g 32 ++ (e.y ++ m)))) = List.replicate e.g 32 ++ (e.y ++ m) := by unfold ctkR; rw [if_pos hc, hb]; rfl
    rw [et, er]
    unfold spanP
    rw [nf_ok h2 (by omega) e.g _, if_neg (by simp), if_pos hc]
    dsimp only
    rw [hr, nf_ok h3 (by omega) e.g m]
    exact ⟨rfl, rfl, rfl⟩
theorem el_head {e : El} (h : e.ok) (m : List UInt8) : ∃ c t, bl (e.txt ++ m) = c :: t ∧ c ≠ 45 ∧ c ≠ 93 ∧ c ≠ 94 ∧ c ≠ 32 := by
  obtain ⟨h1, h2, h3, h4⟩ := h
  obtain ⟨_, _, _, c, t, hx, q1, q2, q3, q4⟩ := h2
  unfold El.txt
  rw [List.append_assoc, List.append_assoc, bl_rep, hx, List.cons_append, bl_no q1]
  exact ⟨c, _, rfl, q2, q3, q4, q1⟩
theorem ctk_head {a c : UInt8} {l t : List UInt8} (h : bl l = c :: t) (hn : a ≠ c) : ctk [a] l = false := by
  unfold ctk
  rw [h]
  simp [List.isPrefixOf, hn]
def txtE (es : List El) : List UInt8 := es.flatMap El.txt ++ [93]
theorem txtE_cons (e : El) (t : List El) : txtE (e :: t) = e.txt ++ txtE t := by unfold txtE; rw [List.flatMap_cons, List.append_assoc]
theorem txtE_on : ∀ (es : List El), (∀ e ∈ es, e.ok) → nodash (txtE es) ∧ ctk [94] (txtE es) = false
  | [], _ => ⟨rfl, rfl⟩
  | e :: t, h => by
    rw [txtE_cons]
    obtain ⟨c, u, hb, q1, q2, q3, _⟩ := el_head (h e (List.mem_cons_self ..)) (txtE t)
    exact ⟨ctk_head hb (Ne.symm q1), ctk_head hb (Ne.symm q3)⟩
theorem spans_bl (f : Nat) (l : List UInt8) : spansP (f + 1) (bl l) = spansP (f + 1) l := by
  unfold spansP
  rw [ctk_bl, ctkR_bl, bl_idem]
theorem spans_es : ∀ (es : List El) (f : Nat), (∀ e ∈ es, e.ok) → (txtE es).length < f → spansP f (txtE es) = (es.map El.rng, true, [])
  | _, 0, _, h => absurd h (by omega)
  | [], f + 1, _, _ => rfl
  | e :: t, f + 1, h, hf => by
    have he := h e (List.mem_cons_self ..)
    have ht : ∀ e ∈ t, e.ok := fun z hz => h z (List.mem_cons_of_mem _ hz)
    obtain ⟨c, u, hb, q1, q2, q3, _⟩ := el_head he (txtE t)
    obtain ⟨s1, s2, s3⟩ := span_el he (txtE_on t ht).1
    rw [txtE_cons] at hf ⊢
    unfold spansP
    rw [if_neg (by rw [ctk_head hb (Ne.symm q2)]; decide), spanP_bl, if_pos s2, s1]
    have hlt := (span_le (e.txt ++ txtE t)).2 s2
    have hpos : 0 < f := by
      have : 0 < (e.txt ++ txtE t).length := by omega
      omega
    obtain ⟨f', rfl⟩ : ∃ f', f = f' + 1 := ⟨f - 1, by omega⟩
    have hlen : (txtE t).length < f' + 1 := by
      have h2 : e.x.length ≤ e.txt.length := by unfold El.txt; simp; omega
      have h3 : 0 < e.x.length := by obtain ⟨_, ⟨_, _, _, c, t, hx, _⟩, _, _⟩ := he; rw [hx]; simp
      rw [List.length_append] at hf
      omega
    rw [← spans_bl, s3, spans_bl, spans_es t (f' + 1) ht hlen]
    rfl
theorem class_es (nt : Bool) (es : List El) (h : ∀ e ∈ es, e.ok) : classP ((if nt then [91, 94] else [91]) ++ txtE es) = (es.map El.rng, nt, true, []) := by
  obtain ⟨h1, h2⟩ := txtE_on es h
  cases nt with
  | true =>
    have hc : ctk [91] (91 :: 94 :: txtE es) = true := by unfold ctk; rw [bl_no (by decide)]; rfl
    have hr : ctkR [91] (91 :: 94 :: txtE es) = 94 :: txtE es := by unfold ctkR; rw [if_pos hc, bl_no (by decide)]; rfl
    have hc2 : ctk [94] (94 :: txtE es) = true := by unfold ctk; rw [bl_no (by decide)]; rfl
    have hin : inP (91 :: 94 :: txtE es) = txtE es := by unfold inP; rw [hr]; unfold ctkR; rw [if_pos hc2, bl_no (by decide)]; rfl
    show classP (91 :: 94 :: txtE es) = _
    rw [class_yes hc rfl, hr, hc2, hin, spans_es es _ h (by omega)]
    rfl
  | false =>
    have hc : ctk [91] (91 :: txtE es) = true := by unfold ctk; rw [bl_no (by decide)]; rfl
    have hr : ctkR [91] (91 :: txtE es) = txtE es := by unfold ctkR; rw [if_pos hc, bl_no (by decide)]; rfl
    have hin : inP (91 :: txtE es) = bl (txtE es) := by unfold inP; rw [hr, ctkR_no h2]
    show classP (91 :: txtE es) = _
    have hle := bl_le (txtE es)
    have hpos : 0 < (bl (txtE es)).length + 1 := by omega
    rw [class_yes hc rfl, hr, h2, hin, spans_more ((bl (txtE es)).length + 1) ((txtE es).length + 1) (bl (txtE es)) (by omega) (by omega), spans_bl, spans_es es _ h (by omega)]
    rfl
end Go.Proofs.YtbfhkcljkblnmaaDoor
