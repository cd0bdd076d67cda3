/- Sets of signs that are written and read again. -/
import Derived.Test.YtcdjclidckohpaaDoorLawG1
namespace Go.Proofs.YtcdjclidckohpaaDoor
open Go.RowKit Florin
set_option linter.unusedVariables false
set_option linter.unusedSimpArgs false
theorem sg_bytes {b : ByteArray} (h : isSg b) (t : List UInt8) : lead (b.data.toList ++ t) = b.data.toList.length ∧ b.data.toList ≠ [] ∧ b.size ≤ 4 := by
  obtain ⟨p, hp, e⟩ := h
  have hs := size_list b
  rw [e] at hs ⊢
  exact ⟨(sg_lead hp t).1, sign_ne p, by have := sign_len p; omega⟩
/-- Of two signs with which a text begins neither goes on behind the other. -/
theorem sg_same {a b : ByteArray} (ha : isSg a) (hb : isSg b) {t u : List UInt8} (h : a.data.toList ++ t = b.data.toList ++ u) : a = b ∧ t = u := by
  have h1 := (sg_bytes ha t).1
  have h2 := (sg_bytes hb u).1
  rw [h, h2] at h1
  have := List.append_inj h h1.symm
  exact ⟨bytes_inj.1 this.1, this.2⟩
theorem valid_new {g : Nat → ByteArray} (hv : validG g = true) {i j : Nat} (hij : i < j) (hj : j < 10) : g i ≠ g j := by
  unfold validG at hv
  have := List.all_eq_true.1 hv j (List.mem_range.2 hj)
  unfold okG newG at this
  rw [Bool.and_eq_true] at this
  have h2 := List.all_eq_true.1 this.2 i (List.mem_range.2 hij)
  intro h
  rw [h] at h2
  simp at h2
theorem one_sign {g : Nat → ByteArray} (hs : ∀ k, k < 10 → isSg (g k)) (hv : validG g = true) {j : Nat} (hj : j < 10) (t : List UInt8) : oneG g ((g j).data.toList ++ t) = some j := by
  refine oneG_at hj (fun i hi => ?_) ?_
  · rw [Bool.eq_false_iff]
    intro h
    obtain ⟨_, _, u, hu, _⟩ := hit_len h
    exact valid_new hv hi hj (sg_same (hs i (by omega)) (hs j hj) hu.symm).1
  · unfold hitG
    have := (sg_bytes (hs j hj) t).2.1
    rw [Bool.and_eq_true]
    exact ⟨by simpa using this, List.isPrefixOf_iff_prefix.2 ⟨t, rfl⟩⟩
theorem one_nil (g : Nat → ByteArray) : oneG g [] = none := by
  refine oneG_no (fun j _ => ?_)
  rw [Bool.eq_false_iff]
  intro h
  have h1 := (hit_len h).1
  have h2 : (g j).size ≤ 0 := (hit_len h).2.1
  omega
theorem rd_write {g : Nat → ByteArray} (hs : ∀ k, k < 10 → isSg (g k)) (hv : validG g = true) {t : List UInt8} (ht : oneG g t = none) : ∀ d : List UInt8, isDig d = true → rdG g (wrL g d ++ t) = (d, (wrL g d).length)
  | [], _ => by simpa [wrL] using rdG_no ht
  | c :: d, h => by
    have hc : 48 ≤ c.toNat ∧ c.toNat ≤ 57 := by
      unfold isDig at h
      have := (isD_iff c).1 (List.all_eq_true.1 h c (List.mem_cons_self ..))
      omega
    have hd : isDig d = true := by
      unfold isDig at h ⊢
      rw [List.all_cons, Bool.and_eq_true] at h
      exact h.2
    have e : wrL g (c :: d) = (g (c.toNat - 48)).data.toList ++ wrL g d := by simp [wrL]
    rw [e, List.append_assoc, rdG_at (one_sign hs hv (by omega) _), ← size_list, List.drop_left, rd_write hs hv ht d hd]
    have e2 : Florin.u8 (48 + (c.toNat - 48)) = c := by
      apply UInt8.toNat_inj.1
      rw [u8_toNat (by omega)]
      omega
    rw [e2, List.length_append]
theorem dgs_dig (L : List UInt8) : isDig (dgs L) = true := by
  unfold isDig dgs
  rw [List.all_eq_true]
  intro c hc
  obtain ⟨x, _, rfl⟩ := List.mem_map.1 hc
  rw [isD_iff, db_nat]
  omega
theorem one_tail {g : Nat → ByteArray} (hs : ∀ k, k < 10 → isSg (g k)) {q d : Nat} (hq : isPt q) (h : oneG g (signL q) = some d) : (g d).data.toList = signL q := by
  have h1 := oneG_hit h
  obtain ⟨_, _, u, hu, _⟩ := hit_len h1.2.1
  have h2 := (sg_bytes (hs d h1.1) u).1
  rw [← hu, (sg_one hq).1] at h2
  have h3 := congrArg List.length hu
  rw [List.length_append] at h3
  have : u = [] := List.length_eq_zero_iff.1 (by omega)
  rw [this, List.append_nil] at hu
  exact hu.symm
def cutG (g : Nat → ByteArray) (k : Nat) : ByteArray := if k < 10 then g k else ⟨#[]⟩
theorem cut_sv (g : Nat → ByteArray) : SV (cutG g) = SV g := rfl
theorem cut_size (g : Nat → ByteArray) (M : Nat) (h : ∀ k, k < 10 → (g k).size ≤ M) (k : Nat) : (cutG g k).size ≤ M := by
  unfold cutG
  split
  · exact h k ‹_›
  · exact Nat.zero_le _
theorem set_as2 (n : Nat → Int) (w : World) : Calls Tryd.prog 16 #[IV n, .bool true] w fun e w' => ∃ g : Nat → ByteArray, (∀ k, k < 10 → isSg (g k)) ∧ (∀ k, (g k).size ≤ 4) ∧ e = .returned (SV g) ∧ Below w.heap.size w w' :=
  (set_as n w).mono fun e w' ⟨g, hg, he, hb⟩ => ⟨cutG g, fun k hk => by unfold cutG; rw [if_pos hk]; exact hg k hk, cut_size g 4 (fun k hk => (sg_bytes (hg k hk) []).2.2), by rw [he, cut_sv], hb⟩
theorem write_one (g : Nat → ByteArray) (w : World) : Calls Tryd.prog 18 #[SV g, .string ⟨#[49, 120]⟩] w fun e w' => e = .returned (S []) ∧ Below w.heap.size w w' := write_no g _ w (by decide) (by decide)
theorem write_nil (g : Nat → ByteArray) (w : World) (hg : ∀ k, (g k).size ≤ 1000) : Calls Tryd.prog 18 #[SV g, .string ⟨#[]⟩] w fun e w' => e = .returned (S []) ∧ Below w.heap.size w w' := write_as g _ w (by decide) hg (by decide)
theorem writeL (g : Nat → ByteArray) (l : List UInt8) (w : World) (hl : l.length ≤ 1000) (hg : ∀ k, (g k).size ≤ 1000) (hi : isDig l = true) :
    Calls Tryd.prog 18 #[SV g, S l] w fun e w' => e = .returned (S (wrL g l)) ∧ Below w.heap.size w w' := by
  have := write_as g ⟨l.toArray⟩ w (by rw [arr_size]; exact hl) hg (by rw [arr_list]; exact hi)
  rw [arr_list] at this
  exact this
theorem nm_all {w : World} {b : Nat} {n : Nat → Int} (h : Nm w b n) : w.cell? ⟨b, 0, none⟩ = some (.int .i64 (n 0)) ∧ w.cell? ⟨b, 1, none⟩ = some (.int .i64 (n 1)) ∧ w.cell? ⟨b, 2, none⟩ = some (.int .i64 (n 2)) ∧ w.cell? ⟨b, 3, none⟩ = some (.int .i64 (n 3)) ∧ w.cell? ⟨b, 4, none⟩ = some (.int .i64 (n 4)) ∧ w.cell? ⟨b, 5, none⟩ = some (.int .i64 (n 5)) ∧ w.cell? ⟨b, 6, none⟩ = some (.int .i64 (n 6)) ∧ w.cell? ⟨b, 7, none⟩ = some (.int .i64 (n 7)) ∧ w.cell? ⟨b, 8, none⟩ = some (.int .i64 (n 8)) ∧ w.cell? ⟨b, 9, none⟩ = some (.int .i64 (n 9)) :=
  ⟨h 0 (by omega), h 1 (by omega), h 2 (by omega), h 3 (by omega), h 4 (by omega), h 5 (by omega), h 6 (by omega), h 7 (by omega), h 8 (by omega), h 9 (by omega)⟩
theorem Nm.below {w w' : World} {b B : Nat} {n : Nat → Int} (h : Nm w b n) (hB : b < B) (hb : Below B w w') : Nm w' b n := fun k hk => (hb.cell (p := ⟨b, k, none⟩) hB).trans (h k hk)
theorem Gs.lt' {w : World} {b : Nat} {g : Nat → ByteArray} (h : Gs w b g) : b < w.heap.size := h.1
end Go.Proofs.YtcdjclidckohpaaDoor
