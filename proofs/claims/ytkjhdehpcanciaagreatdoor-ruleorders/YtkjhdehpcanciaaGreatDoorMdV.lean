/- A rule as it is made, and how it is written. -/
import Derived.Test.YtkjhdehpcanciaaGreatDoorMdP
import Derived.Deep.CutRange
namespace Go.Proofs.YtkjhdehpcanciaaGreatDoor
open Go.RowKit Florin
set_option linter.unusedVariables false
set_option linter.unusedSimpArgs false
attribute [local go_sem ↓] Go.wp_at_zero Go.wp_at_succ
theorem infoAllM : (Tryz.prog.info? 59).map (fun i => (i.zero, i.size, i.bytes)) = some (some (.slice none 0 0), 1, 24) := by kernel_rfl
theorem infoRelM : (Tryz.prog.info? 58).map (fun i => (i.zero, i.size, i.bytes)) = some (some (.agg #[.int .i64 0, .int .i64 0, .int .i64 0, .bool false, .slice none 0 0]), 5, 56) := by kernel_rfl
theorem own_aboveB {w W : World} {BL : List (Nat × Array Value)} {e : TypeId} {sz : Nat} {v : Value} {n : Nat} {xs : List Value} {lo : Nat} (h : W.ownsRow lo e sz v n xs) (hw : w.heap.size ≤ lo) (hB : ∀ p ∈ BL, p.1 < lo) (k : Nat) (hk : v.ownBlock = some k) : w.heap.size ≤ k ∧ ∀ p ∈ BL, p.1 < k := by
  have h1 := (h.lt k hk).1
  exact ⟨by omega, fun p hp => by have := hB p hp; omega⟩
theorem all_one {w : World} : ∀ {xs : List (List RelM)} {cs : List Value}, ListAt (fun x c => ∃ u, c = [u] ∧ AllmAt w x u) xs cs → ∀ u ∈ cs, u.oneCell' = true
  | [], cs, h, u, hu => by rw [show cs = [] from h] at hu; cases hu
  | x :: xs, cs, h, u, hu => by
    obtain ⟨c, d, e, ⟨v, hv, ⟨ds, ⟨a, n, rfl, _⟩, _⟩⟩, k⟩ := h
    subst hv
    rw [e] at hu
    rcases List.mem_cons.1 hu with rfl | hu
    · rfl
    · exact all_one k u hu
theorem relm_one {w : World} : ∀ {xs : List RelM} {cs : List Value}, ListAt (RelmAt w) xs cs → ∀ u ∈ cs, u.oneCell' = true
  | [], cs, h, u, hu => by rw [show cs = [] from h] at hu; cases hu
  | x :: xs, cs, h, u, hu => by
    obtain ⟨c, d, e, ⟨v, hv, ⟨a, n, rfl, _⟩⟩, k⟩ := h
    subst hv
    rw [e] at hu
    simp only [List.cons_append, List.nil_append, List.mem_cons] at hu
    rcases hu with rfl | rfl | rfl | rfl | rfl | hu
    · rfl
    · rfl
    · rfl
    · rfl
    · rfl
    · exact relm_one k u hu
theorem relm_zero (w : World) : RelmAt w ⟨0, 0, 0, false, []⟩ [.int .i64 0, .int .i64 0, .int .i64 0, .bool false, .slice none 0 0] :=
  ⟨_, rfl, ⟨none, 0, rfl, Nat.le_refl _, by unfold maxLen; omega, rfl, fun h => absurd h (by decide)⟩⟩
theorem anyL_b {any : List (List RelM)} (h : ∀ a ∈ any, a.length ≤ 4) : ∀ x ∈ anyL any, x.length ≤ 4 := by
  intro x hx; unfold anyL at hx; split at hx
  · simp at hx; subst hx; simp
  · exact h x hx
theorem anyL_r {any : List (List RelM)} (h : ∀ a ∈ any, ∀ r ∈ a, r.rs.length ≤ 5) : ∀ x ∈ anyL any, ∀ r ∈ x, r.rs.length ≤ 5 := by
  intro x hx; unfold anyL at hx; split at hx
  · simp at hx; subst hx; intro r hr; cases hr
  · exact h x hx
theorem lstL_r {xs : List RelM} (h : ∀ r ∈ xs, r.rs.length ≤ 5) : ∀ r ∈ lstL xs, r.rs.length ≤ 5 := by
  intro r hr; unfold lstL at hr; split at hr
  · simp at hr; subst hr; simp
  · exact h r hr
theorem below_own {w W W' : World} {r : Option Nat} (h : Below w.heap.size w W) (hg : W.grownBy W' r) (hb : ∀ q, r = some q → w.heap.size ≤ q) : Below w.heap.size w W' :=
  ⟨hg.os.trans h.os, hg.tape.trans h.tape, hg.output.trans h.output, Nat.le_trans h.size hg.size, fun i hi => (hg.block i (Nat.lt_of_lt_of_le hi h.size) (by intro e; have := hb i e.symm; omega)).trans (h.block i hi)⟩
theorem relTx_len {r : RelM} (h : r.rs.length ≤ 5) : (relTx r).length ≤ 190 := by
  have hg := gapB_len (andN r.gp 3)
  have hm := (andN_is r.md 65535 (by decide)).2
  have hd : (digB (andN r.md 65535)).length ≤ 7 := digB_len (by omega) (by omega)
  have hn := (numL_len h).1
  have h1 := joinM_len (gapB (andN r.gp 3) ++ [44] ++ gapB (andN r.gp 3)) 20 ((numL r.rs).map (numTx (gapB (andN r.gp 3)))) (fun l hl => by
    obtain ⟨x, _, rfl⟩ := List.mem_map.1 hl
    exact numTx_len _ hg x)
  rw [List.length_map] at h1
  have h2 : (numL r.rs).length * (20 + (gapB (andN r.gp 3) ++ [44] ++ gapB (andN r.gp 3)).length) ≤ 5 * 25 := Nat.mul_le_mul hn (by simp; omega)
  unfold relTx relPre
  simp only [List.length_append]
  have h3 : (if andN r.md 65535 = 0 then [] else [37] ++ gapB (andN r.gp 3) ++ digB (andN r.md 65535) ++ gapB (andN r.gp 3)).length ≤ 12 := by split <;> simp <;> omega
  have h4 : (if r.nt then ([33] : List UInt8) else []).length ≤ 1 := by split <;> simp
  simp only [List.length_cons, List.length_nil]
  omega
theorem allTx_len {xs : List RelM} (h4 : xs.length ≤ 4) (h : ∀ r ∈ xs, r.rs.length ≤ 5) : (allTx xs).length ≤ 800 := by
  have h1 := joinM_len [32, 97, 110, 100, 32] 190 ((lstL xs).map relTx) (fun l hl => by
    obtain ⟨x, hx, rfl⟩ := List.mem_map.1 hl
    exact relTx_len (lstL_r h x hx))
  rw [List.length_map] at h1
  have h2 : (lstL xs).length * (190 + ([32, 97, 110, 100, 32] : List UInt8).length) ≤ 4 * 195 := Nat.mul_le_mul (lstL_len h4) (by simp)
  unfold allTx
  omega
/-- What stands in memory while conditions are put one behind the other. -/
structure LpC (wc W : World) (xb : Nat) (X : Array Value) (ms : List (List RelT)) (u : Value) : Prop where
  box : BoxT W xb X 39
  cond : CondAt W wc.heap.size ms u
  gr : wc.grownBy W (some xb)
theorem gr_step {a b c : World} {x : Nat} {r : Option Nat} (h : a.grownBy b (some x)) (k : b.grownBy c r) (hr : ∀ j, r = some j → a.heap.size ≤ j) : a.grownBy c (some x) :=
  ⟨k.os.trans h.os, k.tape.trans h.tape, k.output.trans h.output, Nat.le_trans h.size k.size, fun i hi hn => (k.block i (Nat.lt_of_lt_of_le hi h.size) (by intro e; have := hr i e.symm; omega)).trans (h.block i hi hn)⟩
theorem gr_none {a b c : World} {x : Nat} (h : a.grownBy b (some x)) (k : Below b.heap.size b c) : a.grownBy c (some x) := gr_step h (grown_of_below k none) (fun j e => by cases e)
theorem smp_at : ∀ P, P < 5 → (#[.string ⟨#[]⟩, .string ⟨#[64, 105, 110, 116, 101, 103, 101, 114, 32, 49, 44, 32, 50, 49, 126, 50, 52, 44, 32, 226, 128, 166]⟩, .string ⟨#[64, 100, 101, 99, 105, 109, 97, 108, 32, 48, 46, 48]⟩, .string ⟨#[64, 32, 119, 104, 97, 116, 32, 101, 118, 101, 114, 32, 64]⟩, .string ⟨#[]⟩] : Array Value)[P]? = some (S (smpB P))
  | 0, _ => rfl
  | 1, _ => rfl
  | 2, _ => rfl
  | 3, _ => rfl
  | 4, _ => rfl
  | P + 5, h => absurd h (by omega)
theorem smp_len : ∀ P, P < 5 → (smpB P).length ≤ 22 := by decide
theorem CondAt.lower {w : World} {base base' : Nat} {xs : List (List RelT)} {v : Value} (h : CondAt w base xs v) (hb : base' ≤ base) : CondAt w base' xs v := by
  obtain ⟨cs, h1, h2⟩ := h; exact ⟨cs, own_mono h1 hb, h2⟩
theorem condAt_nil (W : World) (b : Nat) : CondAt W b [] (.slice none 0 0) := ⟨[], World.ownsRow_nil _ _ _ _, rfl⟩
theorem allm_nil (w : World) : AllmAt w [] (.slice none 0 0) := ⟨[], ⟨none, 0, rfl, Nat.le_refl _, by unfold maxLen; omega, rfl, fun h => absurd h (by decide)⟩, rfl⟩
theorem relm_cells {w wz wq : World} {KK : List RelM} {fs : List Value} {g j : Nat} {xj : RelM} (h : ListAt (RelmAt w) KK fs) (hg : ∀ i, i < KK.length * 5 → wz.cell? ⟨g, i, none⟩ = fs[i]?) (hl : g < wz.heap.size) (hb : Below wz.heap.size wz wq) (hx : KK[j]? = some xj) :
    ∃ vj, NumsAt w xj.rs vj ∧ wq.cell? ⟨g, j * 5, none⟩ = some (.int .i64 xj.op) ∧ wq.cell? ⟨g, j * 5 + 1, none⟩ = some (.int .i64 xj.md) ∧ wq.cell? ⟨g, j * 5 + 2, none⟩ = some (.int .i64 xj.gp) ∧ wq.cell? ⟨g, j * 5 + 3, none⟩ = some (.bool xj.nt) ∧ wq.cell? ⟨g, j * 5 + 4, none⟩ = some vj := by
  obtain ⟨hj, hxj⟩ := List.getElem?_eq_some_iff.1 hx
  obtain ⟨cj, ⟨vj, hcj, hnj⟩, hgj⟩ := ListAt.get (sz := 5) (fun x c ⟨u, e, _⟩ => by rw [e]; rfl) h j hj
  rw [hxj] at hcj hnj
  have CE : ∀ i, i < 5 → wq.cell? ⟨g, j * 5 + i, none⟩ = cj[i]? := fun i hi => (hb.cell (p := ⟨g, j * 5 + i, none⟩) hl).trans ((hg (j * 5 + i) (by omega)).trans (hgj i hi))
  rw [hcj] at CE
  exact ⟨vj, hnj, CE 0 (by decide), CE 1 (by decide), CE 2 (by decide), CE 3 (by decide), CE 4 (by decide)⟩
theorem below_mid {w wr wz wq : World} (h1 : Below w.heap.size w wr) (h2 : Below wr.heap.size wr wz) (h3 : Below wz.heap.size wz wq) : Below w.heap.size w wq :=
  (h1.trans (h2.mono h1.size)).trans (h3.mono (Nat.le_trans h1.size h2.size))
theorem takeM_snoc {α β : Type} (f : α → β) {l : List α} {j : Nat} {x : α} (h : l[j]? = some x) : (l.take (j + 1)).map f = (l.take j).map f ++ [f x] := by
  obtain ⟨hj, hx⟩ := List.getElem?_eq_some_iff.1 h
  rw [List.take_succ_eq_append_getElem hj, hx, List.map_append]; rfl
theorem take_join {α : Type} (sep : List UInt8) (f : α → List UInt8) {l : List α} {j : Nat} {x : α} (h : l[j]? = some x) (s : List UInt8) : s ++ joinM sep ((l.take (j + 1)).map f) = (if j = 0 then s ++ joinM sep ((l.take j).map f) else s ++ joinM sep ((l.take j).map f) ++ sep) ++ f x := by
  rw [takeM_snoc f h]
  obtain ⟨hj, hx⟩ := List.getElem?_eq_some_iff.1 h
  by_cases h0 : j = 0
  · subst h0
    rw [if_pos rfl]
    simp [joinM, List.intercalate]
  · rw [if_neg h0, joinM_snoc sep _ _ (by
      intro e
      have := congrArg List.length e
      rw [List.length_map, List.length_take, List.length_nil] at this
      omega)]
    simp [List.append_assoc]
end Go.Proofs.YtkjhdehpcanciaaGreatDoor
