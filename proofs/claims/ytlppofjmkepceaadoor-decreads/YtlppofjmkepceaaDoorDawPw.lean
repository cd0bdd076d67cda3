/- The law DecParses, whatever came in. -/
import Derived.Test.YtlppofjmkepceaaDoorDecT
import Derived.Test.YtlppofjmkepceaaDoorDecU
import Derived.Test.YtlppofjmkepceaaDoorDecV
import Derived.Test.YtlppofjmkepceaaDoorDecW
import Derived.Test.YtlppofjmkepceaaDoorDawP
import Derived.Test.YtlppofjmkepceaaDoorDawQ
import Derived.Test.YtlppofjmkepceaaDoorDawR
namespace Go.Proofs.YtlppofjmkepceaaDoor
open Go.RowKit Florin
set_option linter.unusedVariables false
set_option linter.unusedSimpArgs false

theorem sdig_zs {l : List UInt8} (z : Nat) (h : isDig l = true) (hn : l ≠ []) : sdig (zs z ++ l) = true := by
  rw [sdig_iff]
  refine ⟨fun e => hn (List.append_eq_nil_iff.1 e).2, ?_⟩
  rw [isDig_append, isDig_zs, h]; rfl
theorem val_zs_app (z : Nat) (l : List UInt8) : val (zs z ++ l) = val l := by rw [val_append, val_zs]; simp
theorem sdig_dgs {L : List UInt8} (h : 0 < L.length) : sdig (dgs L) = true := by
  rw [sdig_iff]
  refine ⟨fun e => ?_, isDig_dgs L⟩
  have := congrArg List.length e
  rw [dgs_length] at this; simp at this; subst this; simp at h
theorem dig_ne {k : Nat} (h : 0 < k) : dig k ≠ [] := by rw [Ne, dig_eq_nil]; omega
theorem isD_small {c : UInt8} (h : isD c = true) : c.toNat < 128 := by rw [isD_iff] at h; omega
theorem isE_small {c : UInt8} (h : isE c = true) : c.toNat < 128 := by
  unfold isE at h; simp at h
  rcases h with rfl | rfl <;> decide
theorem dig_small {l : List UInt8} (h : isDig l = true) : ∀ c ∈ l, c.toNat < 128 := fun c hc => isD_small (isDig_mem h hc)
theorem less_mem {s : List UInt8} {c : UInt8} (h : c ∈ less s) : c ∈ s := by
  unfold less at h
  split at h
  · exact List.mem_of_mem_tail h
  · exact h
theorem less_len (s : List UInt8) : (less s).length ≤ s.length := by
  unfold less
  split
  · simp
  · exact Nat.le_refl _
theorem render_small {neg : Bool} {W : List UInt8} {pt : Bool} {P : List UInt8} {ex : Bool} {c : UInt8} {sgn Q : List UInt8} (h : Wf W pt P ex c sgn Q) : ∀ d ∈ render neg W pt P ex c sgn Q, d.toNat < 128 := by
  obtain ⟨hw, hp, he⟩ := h
  intro d hd
  unfold render at hd
  rw [List.mem_append, List.mem_append, List.mem_append] at hd
  rcases hd with hd | hd | hd | hd
  · cases neg <;> simp [sgnL] at hd
    subst hd; decide
  · exact dig_small ((sdig_iff W).1 hw).2 d hd
  · cases pt with
    | false => simp at hd
    | true =>
      simp at hd hp
      rcases hd with rfl | hd
      · decide
      · exact dig_small ((sdig_iff P).1 hp).2 d hd
  · cases ex with
    | false => simp at hd
    | true =>
      simp at hd he
      obtain ⟨e1, e2, e3⟩ := he
      rcases hd with rfl | hd | hd
      · exact isE_small e1
      · rcases e2 with rfl | rfl | rfl <;> simp at hd <;> subst hd <;> decide
      · exact dig_small ((sdig_iff Q).1 e3).2 d hd
theorem render_len {neg : Bool} {W : List UInt8} {pt : Bool} {P : List UInt8} {ex : Bool} {c : UInt8} {sgn Q : List UInt8} (h : Wf W pt P ex c sgn Q) : (render neg W pt P ex c sgn Q).length ≤ W.length + P.length + Q.length + 4 := by
  obtain ⟨hw, hp, he⟩ := h
  unfold render sgnL
  rw [List.length_append, List.length_append, List.length_append]
  have h1 : (if neg = true then [45] else ([] : List UInt8)).length ≤ 1 := by cases neg <;> simp
  have h2 : (if pt = true then 46 :: P else []).length ≤ P.length + 1 := by cases pt <;> simp
  have h3 : (if ex = true then c :: (sgn ++ Q) else []).length ≤ Q.length + 2 := by
    cases ex with
    | false => simp
    | true =>
      simp at he ⊢
      obtain ⟨_, e2, _⟩ := he
      rcases e2 with rfl | rfl | rfl <;> simp <;> omega
  omega
theorem parse_ren {neg : Bool} {W : List UInt8} {pt : Bool} {P : List UInt8} {ex : Bool} {c : UInt8} {sgn Q : List UInt8} (h : Wf W pt P ex c sgn Q) (h1 : W.length ≤ 2000) (h2 : P.length ≤ 2000) (h3 : Q.length ≤ 20) (d : Tri) (e : Int)
    (hd : triF (render neg W pt P ex c sgn Q) = d) (he : errF (render neg W pt P ex c sgn Q) = e) (w : World) :
    Calls Tryd.prog 22 #[S (render neg W pt P ex c sgn Q)] w fun x w' => x = .returned (.tuple #[V d, .int .i64 e]) ∧ Below w.heap.size w w' := by
  have hl := render_len (neg := neg) h
  refine parse_as ⟨(render neg W pt P ex c sgn Q).toArray⟩ w (by rw [arr_size]; omega) ?_ d e (by rw [arr_list]; exact hd) (by rw [arr_list]; exact he)
  rw [arr_list]
  refine ix_ascii _ (by rw [arr_size]; have := less_len (render neg W pt P ex c sgn Q); omega) ?_
  rw [arr_list]
  exact fun c hc => render_small h c (less_mem hc)

theorem write_00 (aw : Option Addr) (lw cw : Nat) (LW : List UInt8) (ap : Option Addr) (lp cp : Nat) (LP : List UInt8) (e sg nt : Int) (pw : Bool) (w : World) (hw : InB w aw lw cw LW) (hp : InB w ap lp cp LP) (htab : Tab w) (h1 : lw ≤ 1100) (h2 : lp ≤ 1100) (h3 : 0 < lw) (h5 : -11000 ≤ e) (h6 : e ≤ 11000) :
    ∃ (c : UInt8) (sgn Q : List UInt8), Wf (dgs LW) false [] pw c sgn Q ∧ ((if sgn == [45] then -(val Q : Int) else val Q) = if pw then e else 0) ∧ Q.length ≤ 20 ∧ ∀ w1, Below w.heap.size w w1 → Calls Tryd.prog 23 #[TV false aw lw cw ap lp cp false e sg nt pw] w1 fun x w2 => x = .returned (S (render false (dgs LW) false [] pw c sgn Q)) ∧ Below w1.heap.size w1 w2 := by
  have hW : sdig (dgs LW) = true := sdig_dgs (by rw [hw.1]; exact h3)
  have hP : (if false = true then sdig ([] : List UInt8) = true else ([] : List UInt8) = []) := by simp
  obtain ⟨kc, hkc, hc⟩ : ∃ k : Nat, k ≤ 1 ∧ bits .and .i64 nt 1 = (k : Int) := and_mask nt 1 (by decide)
  obtain ⟨ks, hks, hs⟩ : ∃ k : Nat, k ≤ 1 ∧ bits .and .i64 sg 1 = (k : Int) := and_mask sg 1 (by decide)
  obtain ⟨z, hz, hn⟩ : ∃ k : Nat, k ≤ 3 ∧ bits .and .i64 (nt / 2) 3 = (k : Int) := and_mask (nt / 2) 3 (by decide)
  have k2 : kc = 0 ∨ kc = 1 := by omega
  have s2 : ks = 0 ∨ ks = 1 := by omega
  cases pw with
  | false => exact ⟨101, [], [], ⟨hW, hP, by simp⟩, by simp; rfl, by simp, fun w1 hb => w00_n aw lw cw LW ap lp cp LP e sg nt w1 (hw.below hb) (hp.below hb) (htab.below hb) h1 h2⟩
  | true =>
    rcases Int.lt_trichotomy e 0 with h0 | h0 | h0
    · obtain ⟨k, rfl⟩ : ∃ k : Nat, e = -(k : Int) := ⟨(-e).toNat, by omega⟩
      have hq := sdig_zs z (isDig_dig k) (dig_ne (k := k) (by omega))
      have hl : (zs z ++ dig k).length ≤ 20 := by rw [List.length_append, zs_length]; have := (dig_length_le k 5).2 (by omega); omega
      rcases k2 with rfl | rfl
      · exact ⟨101, [45], zs z ++ dig k, ⟨hW, hP, by simp; exact ⟨by decide, hq⟩⟩, by rw [val_zs_app, val_dig]; simp, hl, fun w1 hb => w00_101_m aw lw cw LW ap lp cp LP k (by omega) (by omega) sg nt w1 (hw.below hb) (hp.below hb) (htab.below hb) h1 h2 hc z hz hn⟩
      · exact ⟨69, [45], zs z ++ dig k, ⟨hW, hP, by simp; exact ⟨by decide, hq⟩⟩, by rw [val_zs_app, val_dig]; simp, hl, fun w1 hb => w00_69_m aw lw cw LW ap lp cp LP k (by omega) (by omega) sg nt w1 (hw.below hb) (hp.below hb) (htab.below hb) h1 h2 hc z hz hn⟩
    · subst h0
      have hq := sdig_zs z (l := [48]) rfl (by simp)
      have hl : (zs z ++ [48]).length ≤ 20 := by rw [List.length_append, zs_length]; simp; omega
      rcases k2 with rfl | rfl <;> rcases s2 with rfl | rfl
      · exact ⟨101, [], zs z ++ [48], ⟨hW, hP, by simp; exact ⟨by decide, hq⟩⟩, by rw [val_zs_app]; rfl, hl, fun w1 hb => w00_101_z0 aw lw cw LW ap lp cp LP sg nt w1 (hw.below hb) (hp.below hb) (htab.below hb) h1 h2 hc hs z hz hn⟩
      · exact ⟨101, [43], zs z ++ [48], ⟨hW, hP, by simp; exact ⟨by decide, hq⟩⟩, by rw [val_zs_app]; rfl, hl, fun w1 hb => w00_101_z1 aw lw cw LW ap lp cp LP sg nt w1 (hw.below hb) (hp.below hb) (htab.below hb) h1 h2 hc hs z hz hn⟩
      · exact ⟨69, [], zs z ++ [48], ⟨hW, hP, by simp; exact ⟨by decide, hq⟩⟩, by rw [val_zs_app]; rfl, hl, fun w1 hb => w00_69_z0 aw lw cw LW ap lp cp LP sg nt w1 (hw.below hb) (hp.below hb) (htab.below hb) h1 h2 hc hs z hz hn⟩
      · exact ⟨69, [43], zs z ++ [48], ⟨hW, hP, by simp; exact ⟨by decide, hq⟩⟩, by rw [val_zs_app]; rfl, hl, fun w1 hb => w00_69_z1 aw lw cw LW ap lp cp LP sg nt w1 (hw.below hb) (hp.below hb) (htab.below hb) h1 h2 hc hs z hz hn⟩
    · obtain ⟨k, rfl⟩ : ∃ k : Nat, e = (k : Int) := ⟨e.toNat, by omega⟩
      have hq := sdig_zs z (isDig_dig k) (dig_ne (k := k) (by omega))
      have hl : (zs z ++ dig k).length ≤ 20 := by rw [List.length_append, zs_length]; have := (dig_length_le k 5).2 (by omega); omega
      rcases k2 with rfl | rfl <;> rcases s2 with rfl | rfl
      · exact ⟨101, [], zs z ++ dig k, ⟨hW, hP, by simp; exact ⟨by decide, hq⟩⟩, by rw [val_zs_app, val_dig]; rfl, hl, fun w1 hb => w00_101_p0 aw lw cw LW ap lp cp LP k (by omega) (by omega) sg nt w1 (hw.below hb) (hp.below hb) (htab.below hb) h1 h2 hc hs z hz hn⟩
      · exact ⟨101, [43], zs z ++ dig k, ⟨hW, hP, by simp; exact ⟨by decide, hq⟩⟩, by rw [val_zs_app, val_dig]; rfl, hl, fun w1 hb => w00_101_p1 aw lw cw LW ap lp cp LP k (by omega) (by omega) sg nt w1 (hw.below hb) (hp.below hb) (htab.below hb) h1 h2 hc hs z hz hn⟩
      · exact ⟨69, [], zs z ++ dig k, ⟨hW, hP, by simp; exact ⟨by decide, hq⟩⟩, by rw [val_zs_app, val_dig]; rfl, hl, fun w1 hb => w00_69_p0 aw lw cw LW ap lp cp LP k (by omega) (by omega) sg nt w1 (hw.below hb) (hp.below hb) (htab.below hb) h1 h2 hc hs z hz hn⟩
      · exact ⟨69, [43], zs z ++ dig k, ⟨hW, hP, by simp; exact ⟨by decide, hq⟩⟩, by rw [val_zs_app, val_dig]; rfl, hl, fun w1 hb => w00_69_p1 aw lw cw LW ap lp cp LP k (by omega) (by omega) sg nt w1 (hw.below hb) (hp.below hb) (htab.below hb) h1 h2 hc hs z hz hn⟩
theorem write_01 (aw : Option Addr) (lw cw : Nat) (LW : List UInt8) (ap : Option Addr) (lp cp : Nat) (LP : List UInt8) (e sg nt : Int) (pw : Bool) (w : World) (hw : InB w aw lw cw LW) (hp : InB w ap lp cp LP) (htab : Tab w) (h1 : lw ≤ 1100) (h2 : lp ≤ 1100) (h3 : 0 < lw) (h4 : 0 < lp) (h5 : -11000 ≤ e) (h6 : e ≤ 11000) :
    ∃ (c : UInt8) (sgn Q : List UInt8), Wf (dgs LW) true (dgs LP) pw c sgn Q ∧ ((if sgn == [45] then -(val Q : Int) else val Q) = if pw then e else 0) ∧ Q.length ≤ 20 ∧ ∀ w1, Below w.heap.size w w1 → Calls Tryd.prog 23 #[TV false aw lw cw ap lp cp true e sg nt pw] w1 fun x w2 => x = .returned (S (render false (dgs LW) true (dgs LP) pw c sgn Q)) ∧ Below w1.heap.size w1 w2 := by
  have hW : sdig (dgs LW) = true := sdig_dgs (by rw [hw.1]; exact h3)
  have hP : (if true = true then sdig (dgs LP) = true else dgs LP = []) := by simp; exact sdig_dgs (by rw [hp.1]; exact h4)
  obtain ⟨kc, hkc, hc⟩ : ∃ k : Nat, k ≤ 1 ∧ bits .and .i64 nt 1 = (k : Int) := and_mask nt 1 (by decide)
  obtain ⟨ks, hks, hs⟩ : ∃ k : Nat, k ≤ 1 ∧ bits .and .i64 sg 1 = (k : Int) := and_mask sg 1 (by decide)
  obtain ⟨z, hz, hn⟩ : ∃ k : Nat, k ≤ 3 ∧ bits .and .i64 (nt / 2) 3 = (k : Int) := and_mask (nt / 2) 3 (by decide)
  have k2 : kc = 0 ∨ kc = 1 := by omega
  have s2 : ks = 0 ∨ ks = 1 := by omega
  cases pw with
  | false => exact ⟨101, [], [], ⟨hW, hP, by simp⟩, by simp; rfl, by simp, fun w1 hb => w01_n aw lw cw LW ap lp cp LP e sg nt w1 (hw.below hb) (hp.below hb) (htab.below hb) h1 h2⟩
  | true =>
    rcases Int.lt_trichotomy e 0 with h0 | h0 | h0
    · obtain ⟨k, rfl⟩ : ∃ k : Nat, e = -(k : Int) := ⟨(-e).toNat, by omega⟩
      have hq := sdig_zs z (isDig_dig k) (dig_ne (k := k) (by omega))
      have hl : (zs z ++ dig k).length ≤ 20 := by rw [List.length_append, zs_length]; have := (dig_length_le k 5).2 (by omega); omega
      rcases k2 with rfl | rfl
      · exact ⟨101, [45], zs z ++ dig k, ⟨hW, hP, by simp; exact ⟨by decide, hq⟩⟩, by rw [val_zs_app, val_dig]; simp, hl, fun w1 hb => w01_101_m aw lw cw LW ap lp cp LP k (by omega) (by omega) sg nt w1 (hw.below hb) (hp.below hb) (htab.below hb) h1 h2 hc z hz hn⟩
      · exact ⟨69, [45], zs z ++ dig k, ⟨hW, hP, by simp; exact ⟨by decide, hq⟩⟩, by rw [val_zs_app, val_dig]; simp, hl, fun w1 hb => w01_69_m aw lw cw LW ap lp cp LP k (by omega) (by omega) sg nt w1 (hw.below hb) (hp.below hb) (htab.below hb) h1 h2 hc z hz hn⟩
    · subst h0
      have hq := sdig_zs z (l := [48]) rfl (by simp)
      have hl : (zs z ++ [48]).length ≤ 20 := by rw [List.length_append, zs_length]; simp; omega
      rcases k2 with rfl | rfl <;> rcases s2 with rfl | rfl
      · exact ⟨101, [], zs z ++ [48], ⟨hW, hP, by simp; exact ⟨by decide, hq⟩⟩, by rw [val_zs_app]; rfl, hl, fun w1 hb => w01_101_z0 aw lw cw LW ap lp cp LP sg nt w1 (hw.below hb) (hp.below hb) (htab.below hb) h1 h2 hc hs z hz hn⟩
      · exact ⟨101, [43], zs z ++ [48], ⟨hW, hP, by simp; exact ⟨by decide, hq⟩⟩, by rw [val_zs_app]; rfl, hl, fun w1 hb => w01_101_z1 aw lw cw LW ap lp cp LP sg nt w1 (hw.below hb) (hp.below hb) (htab.below hb) h1 h2 hc hs z hz hn⟩
      · exact ⟨69, [], zs z ++ [48], ⟨hW, hP, by simp; exact ⟨by decide, hq⟩⟩, by rw [val_zs_app]; rfl, hl, fun w1 hb => w01_69_z0 aw lw cw LW ap lp cp LP sg nt w1 (hw.below hb) (hp.below hb) (htab.below hb) h1 h2 hc hs z hz hn⟩
      · exact ⟨69, [43], zs z ++ [48], ⟨hW, hP, by simp; exact ⟨by decide, hq⟩⟩, by rw [val_zs_app]; rfl, hl, fun w1 hb => w01_69_z1 aw lw cw LW ap lp cp LP sg nt w1 (hw.below hb) (hp.below hb) (htab.below hb) h1 h2 hc hs z hz hn⟩
    · obtain ⟨k, rfl⟩ : ∃ k : Nat, e = (k : Int) := ⟨e.toNat, by omega⟩
      have hq := sdig_zs z (isDig_dig k) (dig_ne (k := k) (by omega))
      have hl : (zs z ++ dig k).length ≤ 20 := by rw [List.length_append, zs_length]; have := (dig_length_le k 5).2 (by omega); omega
      rcases k2 with rfl | rfl <;> rcases s2 with rfl | rfl
      · exact ⟨101, [], zs z ++ dig k, ⟨hW, hP, by simp; exact ⟨by decide, hq⟩⟩, by rw [val_zs_app, val_dig]; rfl, hl, fun w1 hb => w01_101_p0 aw lw cw LW ap lp cp LP k (by omega) (by omega) sg nt w1 (hw.below hb) (hp.below hb) (htab.below hb) h1 h2 hc hs z hz hn⟩
      · exact ⟨101, [43], zs z ++ dig k, ⟨hW, hP, by simp; exact ⟨by decide, hq⟩⟩, by rw [val_zs_app, val_dig]; rfl, hl, fun w1 hb => w01_101_p1 aw lw cw LW ap lp cp LP k (by omega) (by omega) sg nt w1 (hw.below hb) (hp.below hb) (htab.below hb) h1 h2 hc hs z hz hn⟩
      · exact ⟨69, [], zs z ++ dig k, ⟨hW, hP, by simp; exact ⟨by decide, hq⟩⟩, by rw [val_zs_app, val_dig]; rfl, hl, fun w1 hb => w01_69_p0 aw lw cw LW ap lp cp LP k (by omega) (by omega) sg nt w1 (hw.below hb) (hp.below hb) (htab.below hb) h1 h2 hc hs z hz hn⟩
      · exact ⟨69, [43], zs z ++ dig k, ⟨hW, hP, by simp; exact ⟨by decide, hq⟩⟩, by rw [val_zs_app, val_dig]; rfl, hl, fun w1 hb => w01_69_p1 aw lw cw LW ap lp cp LP k (by omega) (by omega) sg nt w1 (hw.below hb) (hp.below hb) (htab.below hb) h1 h2 hc hs z hz hn⟩
theorem write_10 (aw : Option Addr) (lw cw : Nat) (LW : List UInt8) (ap : Option Addr) (lp cp : Nat) (LP : List UInt8) (e sg nt : Int) (pw : Bool) (w : World) (hw : InB w aw lw cw LW) (hp : InB w ap lp cp LP) (htab : Tab w) (h1 : lw ≤ 1100) (h2 : lp ≤ 1100) (h3 : 0 < lw) (h5 : -11000 ≤ e) (h6 : e ≤ 11000) :
    ∃ (c : UInt8) (sgn Q : List UInt8), Wf (dgs LW) false [] pw c sgn Q ∧ ((if sgn == [45] then -(val Q : Int) else val Q) = if pw then e else 0) ∧ Q.length ≤ 20 ∧ ∀ w1, Below w.heap.size w w1 → Calls Tryd.prog 23 #[TV true aw lw cw ap lp cp false e sg nt pw] w1 fun x w2 => x = .returned (S (render true (dgs LW) false [] pw c sgn Q)) ∧ Below w1.heap.size w1 w2 := by
  have hW : sdig (dgs LW) = true := sdig_dgs (by rw [hw.1]; exact h3)
  have hP : (if false = true then sdig ([] : List UInt8) = true else ([] : List UInt8) = []) := by simp
  obtain ⟨kc, hkc, hc⟩ : ∃ k : Nat, k ≤ 1 ∧ bits .and .i64 nt 1 = (k : Int) := and_mask nt 1 (by decide)
  obtain ⟨ks, hks, hs⟩ : ∃ k : Nat, k ≤ 1 ∧ bits .and .i64 sg 1 = (k : Int) := and_mask sg 1 (by decide)
  obtain ⟨z, hz, hn⟩ : ∃ k : Nat, k ≤ 3 ∧ bits .and .i64 (nt / 2) 3 = (k : Int) := and_mask (nt / 2) 3 (by decide)
  have k2 : kc = 0 ∨ kc = 1 := by omega
  have s2 : ks = 0 ∨ ks = 1 := by omega
  cases pw with
  | false => exact ⟨101, [], [], ⟨hW, hP, by simp⟩, by simp; rfl, by simp, fun w1 hb => w10_n aw lw cw LW ap lp cp LP e sg nt w1 (hw.below hb) (hp.below hb) (htab.below hb) h1 h2⟩
  | true =>
    rcases Int.lt_trichotomy e 0 with h0 | h0 | h0
    · obtain ⟨k, rfl⟩ : ∃ k : Nat, e = -(k : Int) := ⟨(-e).toNat, by omega⟩
      have hq := sdig_zs z (isDig_dig k) (dig_ne (k := k) (by omega))
      have hl : (zs z ++ dig k).length ≤ 20 := by rw [List.length_append, zs_length]; have := (dig_length_le k 5).2 (by omega); omega
      rcases k2 with rfl | rfl
      · exact ⟨101, [45], zs z ++ dig k, ⟨hW, hP, by simp; exact ⟨by decide, hq⟩⟩, by rw [val_zs_app, val_dig]; simp, hl, fun w1 hb => w10_101_m aw lw cw LW ap lp cp LP k (by omega) (by omega) sg nt w1 (hw.below hb) (hp.below hb) (htab.below hb) h1 h2 hc z hz hn⟩
      · exact ⟨69, [45], zs z ++ dig k, ⟨hW, hP, by simp; exact ⟨by decide, hq⟩⟩, by rw [val_zs_app, val_dig]; simp, hl, fun w1 hb => w10_69_m aw lw cw LW ap lp cp LP k (by omega) (by omega) sg nt w1 (hw.below hb) (hp.below hb) (htab.below hb) h1 h2 hc z hz hn⟩
    · subst h0
      have hq := sdig_zs z (l := [48]) rfl (by simp)
      have hl : (zs z ++ [48]).length ≤ 20 := by rw [List.length_append, zs_length]; simp; omega
      rcases k2 with rfl | rfl <;> rcases s2 with rfl | rfl
      · exact ⟨101, [], zs z ++ [48], ⟨hW, hP, by simp; exact ⟨by decide, hq⟩⟩, by rw [val_zs_app]; rfl, hl, fun w1 hb => w10_101_z0 aw lw cw LW ap lp cp LP sg nt w1 (hw.below hb) (hp.below hb) (htab.below hb) h1 h2 hc hs z hz hn⟩
      · exact ⟨101, [43], zs z ++ [48], ⟨hW, hP, by simp; exact ⟨by decide, hq⟩⟩, by rw [val_zs_app]; rfl, hl, fun w1 hb => w10_101_z1 aw lw cw LW ap lp cp LP sg nt w1 (hw.below hb) (hp.below hb) (htab.below hb) h1 h2 hc hs z hz hn⟩
      · exact ⟨69, [], zs z ++ [48], ⟨hW, hP, by simp; exact ⟨by decide, hq⟩⟩, by rw [val_zs_app]; rfl, hl, fun w1 hb => w10_69_z0 aw lw cw LW ap lp cp LP sg nt w1 (hw.below hb) (hp.below hb) (htab.below hb) h1 h2 hc hs z hz hn⟩
      · exact ⟨69, [43], zs z ++ [48], ⟨hW, hP, by simp; exact ⟨by decide, hq⟩⟩, by rw [val_zs_app]; rfl, hl, fun w1 hb => w10_69_z1 aw lw cw LW ap lp cp LP sg nt w1 (hw.below hb) (hp.below hb) (htab.below hb) h1 h2 hc hs z hz hn⟩
    · obtain ⟨k, rfl⟩ : ∃ k : Nat, e = (k : Int) := ⟨e.toNat, by omega⟩
      have hq := sdig_zs z (isDig_dig k) (dig_ne (k := k) (by omega))
      have hl : (zs z ++ dig k).length ≤ 20 := by rw [List.length_append, zs_length]; have := (dig_length_le k 5).2 (by omega); omega
      rcases k2 with rfl | rfl <;> rcases s2 with rfl | rfl
      · exact ⟨101, [], zs z ++ dig k, ⟨hW, hP, by simp; exact ⟨by decide, hq⟩⟩, by rw [val_zs_app, val_dig]; rfl, hl, fun w1 hb => w10_101_p0 aw lw cw LW ap lp cp LP k (by omega) (by omega) sg nt w1 (hw.below hb) (hp.below hb) (htab.below hb) h1 h2 hc hs z hz hn⟩
      · exact ⟨101, [43], zs z ++ dig k, ⟨hW, hP, by simp; exact ⟨by decide, hq⟩⟩, by rw [val_zs_app, val_dig]; rfl, hl, fun w1 hb => w10_101_p1 aw lw cw LW ap lp cp LP k (by omega) (by omega) sg nt w1 (hw.below hb) (hp.below hb) (htab.below hb) h1 h2 hc hs z hz hn⟩
      · exact ⟨69, [], zs z ++ dig k, ⟨hW, hP, by simp; exact ⟨by decide, hq⟩⟩, by rw [val_zs_app, val_dig]; rfl, hl, fun w1 hb => w10_69_p0 aw lw cw LW ap lp cp LP k (by omega) (by omega) sg nt w1 (hw.below hb) (hp.below hb) (htab.below hb) h1 h2 hc hs z hz hn⟩
      · exact ⟨69, [43], zs z ++ dig k, ⟨hW, hP, by simp; exact ⟨by decide, hq⟩⟩, by rw [val_zs_app, val_dig]; rfl, hl, fun w1 hb => w10_69_p1 aw lw cw LW ap lp cp LP k (by omega) (by omega) sg nt w1 (hw.below hb) (hp.below hb) (htab.below hb) h1 h2 hc hs z hz hn⟩
theorem write_11 (aw : Option Addr) (lw cw : Nat) (LW : List UInt8) (ap : Option Addr) (lp cp : Nat) (LP : List UInt8) (e sg nt : Int) (pw : Bool) (w : World) (hw : InB w aw lw cw LW) (hp : InB w ap lp cp LP) (htab : Tab w) (h1 : lw ≤ 1100) (h2 : lp ≤ 1100) (h3 : 0 < lw) (h4 : 0 < lp) (h5 : -11000 ≤ e) (h6 : e ≤ 11000) :
    ∃ (c : UInt8) (sgn Q : List UInt8), Wf (dgs LW) true (dgs LP) pw c sgn Q ∧ ((if sgn == [45] then -(val Q : Int) else val Q) = if pw then e else 0) ∧ Q.length ≤ 20 ∧ ∀ w1, Below w.heap.size w w1 → Calls Tryd.prog 23 #[TV true aw lw cw ap lp cp true e sg nt pw] w1 fun x w2 => x = .returned (S (render true (dgs LW) true (dgs LP) pw c sgn Q)) ∧ Below w1.heap.size w1 w2 := by
  have hW : sdig (dgs LW) = true := sdig_dgs (by rw [hw.1]; exact h3)
  have hP : (if true = true then sdig (dgs LP) = true else dgs LP = []) := by simp; exact sdig_dgs (by rw [hp.1]; exact h4)
  obtain ⟨kc, hkc, hc⟩ : ∃ k : Nat, k ≤ 1 ∧ bits .and .i64 nt 1 = (k : Int) := and_mask nt 1 (by decide)
  obtain ⟨ks, hks, hs⟩ : ∃ k : Nat, k ≤ 1 ∧ bits .and .i64 sg 1 = (k : Int) := and_mask sg 1 (by decide)
  obtain ⟨z, hz, hn⟩ : ∃ k : Nat, k ≤ 3 ∧ bits .and .i64 (nt / 2) 3 = (k : Int) := and_mask (nt / 2) 3 (by decide)
  have k2 : kc = 0 ∨ kc = 1 := by omega
  have s2 : ks = 0 ∨ ks = 1 := by omega
  cases pw with
  | false => exact ⟨101, [], [], ⟨hW, hP, by simp⟩, by simp; rfl, by simp, fun w1 hb => w11_n aw lw cw LW ap lp cp LP e sg nt w1 (hw.below hb) (hp.below hb) (htab.below hb) h1 h2⟩
  | true =>
    rcases Int.lt_trichotomy e 0 with h0 | h0 | h0
    · obtain ⟨k, rfl⟩ : ∃ k : Nat, e = -(k : Int) := ⟨(-e).toNat, by omega⟩
      have hq := sdig_zs z (isDig_dig k) (dig_ne (k := k) (by omega))
      have hl : (zs z ++ dig k).length ≤ 20 := by rw [List.length_append, zs_length]; have := (dig_length_le k 5).2 (by omega); omega
      rcases k2 with rfl | rfl
      · exact ⟨101, [45], zs z ++ dig k, ⟨hW, hP, by simp; exact ⟨by decide, hq⟩⟩, by rw [val_zs_app, val_dig]; simp, hl, fun w1 hb => w11_101_m aw lw cw LW ap lp cp LP k (by omega) (by omega) sg nt w1 (hw.below hb) (hp.below hb) (htab.below hb) h1 h2 hc z hz hn⟩
      · exact ⟨69, [45], zs z ++ dig k, ⟨hW, hP, by simp; exact ⟨by decide, hq⟩⟩, by rw [val_zs_app, val_dig]; simp, hl, fun w1 hb => w11_69_m aw lw cw LW ap lp cp LP k (by omega) (by omega) sg nt w1 (hw.below hb) (hp.below hb) (htab.below hb) h1 h2 hc z hz hn⟩
    · subst h0
      have hq := sdig_zs z (l := [48]) rfl (by simp)
      have hl : (zs z ++ [48]).length ≤ 20 := by rw [List.length_append, zs_length]; simp; omega
      rcases k2 with rfl | rfl <;> rcases s2 with rfl | rfl
      · exact ⟨101, [], zs z ++ [48], ⟨hW, hP, by simp; exact ⟨by decide, hq⟩⟩, by rw [val_zs_app]; rfl, hl, fun w1 hb => w11_101_z0 aw lw cw LW ap lp cp LP sg nt w1 (hw.below hb) (hp.below hb) (htab.below hb) h1 h2 hc hs z hz hn⟩
      · exact ⟨101, [43], zs z ++ [48], ⟨hW, hP, by simp; exact ⟨by decide, hq⟩⟩, by rw [val_zs_app]; rfl, hl, fun w1 hb => w11_101_z1 aw lw cw LW ap lp cp LP sg nt w1 (hw.below hb) (hp.below hb) (htab.below hb) h1 h2 hc hs z hz hn⟩
      · exact ⟨69, [], zs z ++ [48], ⟨hW, hP, by simp; exact ⟨by decide, hq⟩⟩, by rw [val_zs_app]; rfl, hl, fun w1 hb => w11_69_z0 aw lw cw LW ap lp cp LP sg nt w1 (hw.below hb) (hp.below hb) (htab.below hb) h1 h2 hc hs z hz hn⟩
      · exact ⟨69, [43], zs z ++ [48], ⟨hW, hP, by simp; exact ⟨by decide, hq⟩⟩, by rw [val_zs_app]; rfl, hl, fun w1 hb => w11_69_z1 aw lw cw LW ap lp cp LP sg nt w1 (hw.below hb) (hp.below hb) (htab.below hb) h1 h2 hc hs z hz hn⟩
    · obtain ⟨k, rfl⟩ : ∃ k : Nat, e = (k : Int) := ⟨e.toNat, by omega⟩
      have hq := sdig_zs z (isDig_dig k) (dig_ne (k := k) (by omega))
      have hl : (zs z ++ dig k).length ≤ 20 := by rw [List.length_append, zs_length]; have := (dig_length_le k 5).2 (by omega); omega
      rcases k2 with rfl | rfl <;> rcases s2 with rfl | rfl
      · exact ⟨101, [], zs z ++ dig k, ⟨hW, hP, by simp; exact ⟨by decide, hq⟩⟩, by rw [val_zs_app, val_dig]; rfl, hl, fun w1 hb => w11_101_p0 aw lw cw LW ap lp cp LP k (by omega) (by omega) sg nt w1 (hw.below hb) (hp.below hb) (htab.below hb) h1 h2 hc hs z hz hn⟩
      · exact ⟨101, [43], zs z ++ dig k, ⟨hW, hP, by simp; exact ⟨by decide, hq⟩⟩, by rw [val_zs_app, val_dig]; rfl, hl, fun w1 hb => w11_101_p1 aw lw cw LW ap lp cp LP k (by omega) (by omega) sg nt w1 (hw.below hb) (hp.below hb) (htab.below hb) h1 h2 hc hs z hz hn⟩
      · exact ⟨69, [], zs z ++ dig k, ⟨hW, hP, by simp; exact ⟨by decide, hq⟩⟩, by rw [val_zs_app, val_dig]; rfl, hl, fun w1 hb => w11_69_p0 aw lw cw LW ap lp cp LP k (by omega) (by omega) sg nt w1 (hw.below hb) (hp.below hb) (htab.below hb) h1 h2 hc hs z hz hn⟩
      · exact ⟨69, [43], zs z ++ dig k, ⟨hW, hP, by simp; exact ⟨by decide, hq⟩⟩, by rw [val_zs_app, val_dig]; rfl, hl, fun w1 hb => w11_69_p1 aw lw cw LW ap lp cp LP k (by omega) (by omega) sg nt w1 (hw.below hb) (hp.below hb) (htab.below hb) h1 h2 hc hs z hz hn⟩
theorem go_0 (n : Bool) (aw : Option Addr) (lw cw : Nat) (LW : List UInt8) (ap : Option Addr) (lp cp : Nat) (LP : List UInt8) (e sg nt : Int) (pw : Bool) (w : World) (hw : InB w aw lw cw LW) (hp : InB w ap lp cp LP) (htab : Tab w) (h1 : lw ≤ 1100) (h2 : lp ≤ 1100) (h3 : 0 < lw) (h5 : -11000 ≤ e) (h6 : e ≤ 11000) :
    Calls Tryd.prog 4 #[TV n aw lw cw ap lp cp false e sg nt pw] w fun x w' => x = .returned (.bool true) ∧ Below w.heap.size w w' := by
  have e1 : (dgs LW).length = lw := by rw [dgs_length, hw.1]
  have e2 : (dgs LP).length = lp := by rw [dgs_length, hp.1]
  obtain ⟨c, sgn, Q, wf, hq, hl, CW⟩ : ∃ (c : UInt8) (sgn Q : List UInt8), Wf (dgs LW) false [] pw c sgn Q ∧ ((if sgn == [45] then -(val Q : Int) else val Q) = if pw then e else 0) ∧ Q.length ≤ 20 ∧ ∀ w1, Below w.heap.size w w1 → Calls Tryd.prog 23 #[TV n aw lw cw ap lp cp false e sg nt pw] w1 fun x w2 => x = .returned (S (render n (dgs LW) false [] pw c sgn Q)) ∧ Below w1.heap.size w1 w2 := by
    cases n with
    | false => exact write_00 aw lw cw LW ap lp cp LP e sg nt pw w hw hp htab h1 h2 h3 h5 h6
    | true => exact write_10 aw lw cw LW ap lp cp LP e sg nt pw w hw hp htab h1 h2 h3 h5 h6
  have CP := fun d e hd he w1 => parse_ren (neg := n) wf (by omega) (by simp) hl d e hd he w1
  by_cases h7 : 1000 < lw
  · obtain ⟨r1, r2⟩ := render_long (neg := n) wf (Or.inr (by rw [e1]; simp; omega))
    cases pw with
    | false => exact ps_00D n aw lw cw LW ap lp cp LP e sg nt w hw hp htab h1 h2 h3 h5 h6 h7 _ CW (CP zero 2 r2 r1)
    | true => exact ps_01D n aw lw cw LW ap lp cp LP e sg nt w hw hp htab h1 h2 h3 h5 h6 h7 _ CW (CP zero 2 r2 r1)
  · cases pw with
    | false =>
      have wf' := wf.e
      simp at wf'
      obtain ⟨rfl, rfl⟩ := wf'
      obtain ⟨r1, r2⟩ := render_tri (neg := n) wf (by decide) (by rw [e1]; simp; omega)
      exact ps_00O n aw lw cw LW ap lp cp LP e sg nt w hw hp htab h1 h2 h3 h5 h6 (by omega) _ CW _ (CP _ 0 r2 r1) (by rw [List.append_nil]; rfl)
    | true =>
      have vq : val Q = e.natAbs := by
        simp only [if_true] at hq
        rcases wf.e with ⟨_, _, _⟩
        split at hq <;> omega
      by_cases h8 : 10000 < e
      · obtain ⟨r1, r2⟩ := render_long (neg := n) wf (Or.inl (by omega))
        exact ps_01P n aw lw cw LW ap lp cp LP e sg nt w hw hp htab h1 h2 h3 h5 h6 (by omega) h8 _ CW (CP zero 2 r2 r1)
      · by_cases h9 : e < -10000
        · obtain ⟨r1, r2⟩ := render_long (neg := n) wf (Or.inl (by omega))
          exact ps_01M n aw lw cw LW ap lp cp LP e sg nt w hw hp htab h1 h2 h3 h5 h6 (by omega) h9 _ CW (CP zero 2 r2 r1)
        · obtain ⟨r1, r2⟩ := render_tri (neg := n) wf (by omega) (by rw [e1]; simp; omega)
          rw [hq] at r2
          exact ps_01O n aw lw cw LW ap lp cp LP e sg nt w hw hp htab h1 h2 h3 h5 h6 (by omega) (by omega) (by omega) _ CW _ (CP _ 0 r2 r1) (by rw [List.append_nil]; congr 1; simp)
theorem go_1 (n : Bool) (aw : Option Addr) (lw cw : Nat) (LW : List UInt8) (ap : Option Addr) (lp cp : Nat) (LP : List UInt8) (e sg nt : Int) (pw : Bool) (w : World) (hw : InB w aw lw cw LW) (hp : InB w ap lp cp LP) (htab : Tab w) (h1 : lw ≤ 1100) (h2 : lp ≤ 1100) (h3 : 0 < lw) (h4 : 0 < lp) (h5 : -11000 ≤ e) (h6 : e ≤ 11000) :
    Calls Tryd.prog 4 #[TV n aw lw cw ap lp cp true e sg nt pw] w fun x w' => x = .returned (.bool true) ∧ Below w.heap.size w w' := by
  have e1 : (dgs LW).length = lw := by rw [dgs_length, hw.1]
  have e2 : (dgs LP).length = lp := by rw [dgs_length, hp.1]
  obtain ⟨c, sgn, Q, wf, hq, hl, CW⟩ : ∃ (c : UInt8) (sgn Q : List UInt8), Wf (dgs LW) true (dgs LP) pw c sgn Q ∧ ((if sgn == [45] then -(val Q : Int) else val Q) = if pw then e else 0) ∧ Q.length ≤ 20 ∧ ∀ w1, Below w.heap.size w w1 → Calls Tryd.prog 23 #[TV n aw lw cw ap lp cp true e sg nt pw] w1 fun x w2 => x = .returned (S (render n (dgs LW) true (dgs LP) pw c sgn Q)) ∧ Below w1.heap.size w1 w2 := by
    cases n with
    | false => exact write_01 aw lw cw LW ap lp cp LP e sg nt pw w hw hp htab h1 h2 h3 h4 h5 h6
    | true => exact write_11 aw lw cw LW ap lp cp LP e sg nt pw w hw hp htab h1 h2 h3 h4 h5 h6
  have CP := fun d e hd he w1 => parse_ren (neg := n) wf (by omega) (by omega) hl d e hd he w1
  by_cases h7 : 1000 < lw + lp
  · obtain ⟨r1, r2⟩ := render_long (neg := n) wf (Or.inr (by rw [e1, e2]; omega))
    cases pw with
    | false => exact ps_10D n aw lw cw LW ap lp cp LP e sg nt w hw hp htab h1 h2 h3 h5 h6 h4 h7 _ CW (CP zero 2 r2 r1)
    | true => exact ps_11D n aw lw cw LW ap lp cp LP e sg nt w hw hp htab h1 h2 h3 h5 h6 h4 h7 _ CW (CP zero 2 r2 r1)
  · cases pw with
    | false =>
      have wf' := wf.e
      simp at wf'
      obtain ⟨rfl, rfl⟩ := wf'
      obtain ⟨r1, r2⟩ := render_tri (neg := n) wf (by decide) (by rw [e1, e2]; omega)
      exact ps_10O n aw lw cw LW ap lp cp LP e sg nt w hw hp htab h1 h2 h3 h5 h6 h4 (by omega) _ CW _ (CP _ 0 r2 r1) (by rw [e2]; congr 1; show _ = (0 : Int) - lp; omega)
    | true =>
      have vq : val Q = e.natAbs := by
        simp only [if_true] at hq
        rcases wf.e with ⟨_, _, _⟩
        split at hq <;> omega
      by_cases h8 : 10000 < e
      · obtain ⟨r1, r2⟩ := render_long (neg := n) wf (Or.inl (by omega))
        exact ps_11P n aw lw cw LW ap lp cp LP e sg nt w hw hp htab h1 h2 h3 h5 h6 h4 (by omega) h8 _ CW (CP zero 2 r2 r1)
      · by_cases h9 : e < -10000
        · obtain ⟨r1, r2⟩ := render_long (neg := n) wf (Or.inl (by omega))
          exact ps_11M n aw lw cw LW ap lp cp LP e sg nt w hw hp htab h1 h2 h3 h5 h6 h4 (by omega) h9 _ CW (CP zero 2 r2 r1)
        · obtain ⟨r1, r2⟩ := render_tri (neg := n) wf (by omega) (by rw [e1, e2]; omega)
          rw [hq] at r2
          exact ps_11O n aw lw cw LW ap lp cp LP e sg nt w hw hp htab h1 h2 h3 h5 h6 h4 (by omega) (by omega) (by omega) _ CW _ (CP _ 0 r2 r1) (by rw [e2]; congr 1; simp; omega)
theorem decParses_walk (g : TG) (w : World) (hin : InT w g) (htab : Tab w) :
    Calls Tryd.prog 4 #[g.val] w fun x w' => x = .returned (.bool true) ∧ Below w.heap.size w w' := by
  obtain ⟨n, aw, lw, cw, LW, ap, lp, cp, LP, pt, e, sg, nt, pw⟩ := g
  obtain ⟨hw, hp, _, _, _⟩ := hin
  show Calls Tryd.prog 4 #[TV n aw lw cw ap lp cp pt e sg nt pw] w _
  simp only at hw hp
  have c1 := hw.2.1
  have m1 := hw.2.2.1
  have c2 := hp.2.1
  have m2 := hp.2.2.1
  by_cases a1 : 1100 < lw
  · exact pno_a n aw lw cw ap lp cp pt e sg nt pw w c1 m1 c2 m2 htab a1
  by_cases a2 : 1100 < lp
  · exact pno_b n aw lw cw ap lp cp pt e sg nt pw w c1 m1 c2 m2 htab (by omega) a2
  by_cases a3 : lw = 0
  · subst a3; exact pno_c n aw cw ap lp cp pt e sg nt pw w c1 m1 c2 m2 htab (by omega)
  cases pt with
  | true =>
    by_cases a4 : lp = 0
    · subst a4; exact pno_d n aw lw cw ap cp e sg nt pw w c1 m1 c2 m2 htab (by omega) (by omega)
    by_cases a5 : e < -11000
    · exact pno_et n aw lw cw ap lp cp e sg nt pw w c1 m1 c2 m2 htab (by omega) (by omega) (by omega) (by omega) a5
    by_cases a6 : 11000 < e
    · exact pno_ft n aw lw cw ap lp cp e sg nt pw w c1 m1 c2 m2 htab (by omega) (by omega) (by omega) (by omega) (by omega) a6
    exact go_1 n aw lw cw LW ap lp cp LP e sg nt pw w hw hp htab (by omega) (by omega) (by omega) (by omega) (by omega) (by omega)
  | false =>
    by_cases a5 : e < -11000
    · exact pno_ef n aw lw cw ap lp cp e sg nt pw w c1 m1 c2 m2 htab (by omega) (by omega) (by omega) a5
    by_cases a6 : 11000 < e
    · exact pno_ff n aw lw cw ap lp cp e sg nt pw w c1 m1 c2 m2 htab (by omega) (by omega) (by omega) (by omega) a6
    exact go_0 n aw lw cw LW ap lp cp LP e sg nt pw w hw hp htab (by omega) (by omega) (by omega) (by omega) (by omega)
end Go.Proofs.YtlppofjmkepceaaDoor
