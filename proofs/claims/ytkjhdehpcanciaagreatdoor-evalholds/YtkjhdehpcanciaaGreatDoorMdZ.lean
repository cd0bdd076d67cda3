/- MdV, MdW, MdL0, MdL, MdF, in one text. -/
import Derived.Test.YtkjhdehpcanciaaGreatDoorMdP
import Derived.Deep.CutRange
namespace Go.Proofs.YtkjhdehpcanciaaGreatDoor
open Go.RowKit Florin
set_option linter.unusedVariables false
set_option linter.unusedSimpArgs false
attribute [local go_sem ↓] Go.wp_at_zero Go.wp_at_succ
theorem infoAllM : (Tryz.prog.info? 59).map (fun i => (i.zero, i.size, i.bytes)) = some (some (.slice none 0 0), 1, 24) := by kernel_rfl
theorem infoRelM : (Tryz.prog.info? 58).map (fun i => (i.zero, i.size, i.bytes)) = some (some (.agg #[.int .i64 0, .int .i64 0, .int .i64 0, .bool false, .slice none 0 0]), 5, 56) := by kernel_rfl
theorem own_aboveB {w W : World} {BL : List (Nat × Array Value)} {e : TypeId} {sz : Nat} {v : Value} {n : Nat} {xs : List Value} {lo : Nat} (h : W.ownsRow lo e sz v n xs) (hw : w.heap.size ≤ lo) (hB : ∀ p ∈ BL, p.1 < lo) (k : Nat) (hk : v.ownBlock = some k) : w.heap.size ≤ k ∧ ∀ p ∈ BL, p.1 < k := by
  have h1 := (h.lt k hk).1
  exact ⟨by omega, fun p hp => by have := hB p hp; omega⟩
theorem all_one {w : World} : ∀ {xs : List (List RelM)} {cs : List Value}, ListAt (fun x c => ∃ u, c = [u] ∧ AllmAt w x u) xs cs → ∀ u ∈ cs, u.oneCell' = true
  | [], cs, h, u, hu => by rw [show cs = [] from h] at hu; cases hu
  | x :: xs, cs, h, u, hu => by
    obtain ⟨c, d, e, ⟨v, hv, ⟨ds, ⟨a, n, rfl, _⟩, _⟩⟩, k⟩ := h
    subst hv
    rw [e] at hu
    rcases List.mem_cons.1 hu with rfl | hu
    · rfl
    · exact all_one k u hu
theorem relm_one {w : World} : ∀ {xs : List RelM} {cs : List Value}, ListAt (RelmAt w) xs cs → ∀ u ∈ cs, u.oneCell' = true
  | [], cs, h, u, hu => by rw [show cs = [] from h] at hu; cases hu
  | x :: xs, cs, h, u, hu => by
    obtain ⟨c, d, e, ⟨v, hv, ⟨a, n, rfl, _⟩⟩, k⟩ := h
    subst hv
    rw [e] at hu
    simp only [List.cons_append, List.nil_append, List.mem_cons] at hu
    rcases hu with rfl | rfl | rfl | rfl | rfl | hu
    · rfl
    · rfl
    · rfl
    · rfl
    · rfl
    · exact relm_one k u hu
theorem relm_zero (w : World) : RelmAt w ⟨0, 0, 0, false, []⟩ [.int .i64 0, .int .i64 0, .int .i64 0, .bool false, .slice none 0 0] :=
  ⟨_, rfl, ⟨none, 0, rfl, Nat.le_refl _, by unfold maxLen; omega, rfl, fun h => absurd h (by decide)⟩⟩
theorem anyL_b {any : List (List RelM)} (h : ∀ a ∈ any, a.length ≤ 4) : ∀ x ∈ anyL any, x.length ≤ 4 := by
  intro x hx; unfold anyL at hx; split at hx
  · simp at hx; subst hx; simp
  · exact h x hx
theorem anyL_r {any : List (List RelM)} (h : ∀ a ∈ any, ∀ r ∈ a, r.rs.length ≤ 5) : ∀ x ∈ anyL any, ∀ r ∈ x, r.rs.length ≤ 5 := by
  intro x hx; unfold anyL at hx; split at hx
  · simp at hx; subst hx; intro r hr; cases hr
  · exact h x hx
theorem lstL_r {xs : List RelM} (h : ∀ r ∈ xs, r.rs.length ≤ 5) : ∀ r ∈ lstL xs, r.rs.length ≤ 5 := by
  intro r hr; unfold lstL at hr; split at hr
  · simp at hr; subst hr; simp
  · exact h r hr
theorem below_own {w W W' : World} {r : Option Nat} (h : Below w.heap.size w W) (hg : W.grownBy W' r) (hb : ∀ q, r = some q → w.heap.size ≤ q) : Below w.heap.size w W' :=
  ⟨hg.os.trans h.os, hg.tape.trans h.tape, hg.output.trans h.output, Nat.le_trans h.size hg.size, fun i hi => (hg.block i (Nat.lt_of_lt_of_le hi h.size) (by intro e; have := hb i e.symm; omega)).trans (h.block i hi)⟩
theorem relTx_len {r : RelM} (h : r.rs.length ≤ 5) : (relTx r).length ≤ 190 := by
  have hg := gapB_len (andN r.gp 3)
  have hm := (andN_is r.md 65535 (by decide)).2
  have hd : (digB (andN r.md 65535)).length ≤ 7 := digB_len (by omega) (by omega)
  have hn := (numL_len h).1
  have h1 := joinM_len (gapB (andN r.gp 3) ++ [44] ++ gapB (andN r.gp 3)) 20 ((numL r.rs).map (numTx (gapB (andN r.gp 3)))) (fun l hl => by
    obtain ⟨x, _, rfl⟩ := List.mem_map.1 hl
    exact numTx_len _ hg x)
  rw [List.length_map] at h1
  have h2 : (numL r.rs).length * (20 + (gapB (andN r.gp 3) ++ [44] ++ gapB (andN r.gp 3)).length) ≤ 5 * 25 := Nat.mul_le_mul hn (by simp; omega)
  unfold relTx relPre
  simp only [List.length_append]
  have h3 : (if andN r.md 65535 = 0 then [] else [37] ++ gapB (andN r.gp 3) ++ digB (andN r.md 65535) ++ gapB (andN r.gp 3)).length ≤ 12 := by split <;> simp <;> omega
  have h4 : (if r.nt then ([33] : List UInt8) else []).length ≤ 1 := by split <;> simp
  simp only [List.length_cons, List.length_nil]
  omega
theorem allTx_len {xs : List RelM} (h4 : xs.length ≤ 4) (h : ∀ r ∈ xs, r.rs.length ≤ 5) : (allTx xs).length ≤ 800 := by
  have h1 := joinM_len [32, 97, 110, 100, 32] 190 ((lstL xs).map relTx) (fun l hl => by
    obtain ⟨x, hx, rfl⟩ := List.mem_map.1 hl
    exact relTx_len (lstL_r h x hx))
  rw [List.length_map] at h1
  have h2 : (lstL xs).length * (190 + ([32, 97, 110, 100, 32] : List UInt8).length) ≤ 4 * 195 := Nat.mul_le_mul (lstL_len h4) (by simp)
  unfold allTx
  omega
/-- What stands in memory while conditions are put one behind the other. -/
structure LpC (wc W : World) (xb : Nat) (X : Array Value) (ms : List (List RelT)) (u : Value) : Prop where
  box : BoxT W xb X 39
  cond : CondAt W wc.heap.size ms u
  gr : wc.grownBy W (some xb)
theorem gr_step {a b c : World} {x : Nat} {r : Option Nat} (h : a.grownBy b (some x)) (k : b.grownBy c r) (hr : ∀ j, r = some j → a.heap.size ≤ j) : a.grownBy c (some x) :=
  ⟨k.os.trans h.os, k.tape.trans h.tape, k.output.trans h.output, Nat.le_trans h.size k.size, fun i hi hn => (k.block i (Nat.lt_of_lt_of_le hi h.size) (by intro e; have := hr i e.symm; omega)).trans (h.block i hi hn)⟩
theorem gr_none {a b c : World} {x : Nat} (h : a.grownBy b (some x)) (k : Below b.heap.size b c) : a.grownBy c (some x) := gr_step h (grown_of_below k none) (fun j e => by cases e)
theorem smp_at : ∀ P, P < 5 → (#[.string ⟨#[]⟩, .string ⟨#[64, 105, 110, 116, 101, 103, 101, 114, 32, 49, 44, 32, 50, 49, 126, 50, 52, 44, 32, 226, 128, 166]⟩, .string ⟨#[64, 100, 101, 99, 105, 109, 97, 108, 32, 48, 46, 48]⟩, .string ⟨#[64, 32, 119, 104, 97, 116, 32, 101, 118, 101, 114, 32, 64]⟩, .string ⟨#[]⟩] : Array Value)[P]? = some (S (smpB P))
  | 0, _ => rfl
  | 1, _ => rfl
  | 2, _ => rfl
  | 3, _ => rfl
  | 4, _ => rfl
  | P + 5, h => absurd h (by omega)
theorem smp_len : ∀ P, P < 5 → (smpB P).length ≤ 22 := by decide
theorem CondAt.lower {w : World} {base base' : Nat} {xs : List (List RelT)} {v : Value} (h : CondAt w base xs v) (hb : base' ≤ base) : CondAt w base' xs v := by
  obtain ⟨cs, h1, h2⟩ := h; exact ⟨cs, own_mono h1 hb, h2⟩
theorem condAt_nil (W : World) (b : Nat) : CondAt W b [] (.slice none 0 0) := ⟨[], World.ownsRow_nil _ _ _ _, rfl⟩
theorem allm_nil (w : World) : AllmAt w [] (.slice none 0 0) := ⟨[], ⟨none, 0, rfl, Nat.le_refl _, by unfold maxLen; omega, rfl, fun h => absurd h (by decide)⟩, rfl⟩
theorem relm_cells {w wz wq : World} {KK : List RelM} {fs : List Value} {g j : Nat} {xj : RelM} (h : ListAt (RelmAt w) KK fs) (hg : ∀ i, i < KK.length * 5 → wz.cell? ⟨g, i, none⟩ = fs[i]?) (hl : g < wz.heap.size) (hb : Below wz.heap.size wz wq) (hx : KK[j]? = some xj) :
    ∃ vj, NumsAt w xj.rs vj ∧ wq.cell? ⟨g, j * 5, none⟩ = some (.int .i64 xj.op) ∧ wq.cell? ⟨g, j * 5 + 1, none⟩ = some (.int .i64 xj.md) ∧ wq.cell? ⟨g, j * 5 + 2, none⟩ = some (.int .i64 xj.gp) ∧ wq.cell? ⟨g, j * 5 + 3, none⟩ = some (.bool xj.nt) ∧ wq.cell? ⟨g, j * 5 + 4, none⟩ = some vj := by
  obtain ⟨hj, hxj⟩ := List.getElem?_eq_some_iff.1 hx
  obtain ⟨cj, ⟨vj, hcj, hnj⟩, hgj⟩ := ListAt.get (sz := 5) (fun x c ⟨u, e, _⟩ => by rw [e]; rfl) h j hj
  rw [hxj] at hcj hnj
  have CE : ∀ i, i < 5 → wq.cell? ⟨g, j * 5 + i, none⟩ = cj[i]? := fun i hi => (hb.cell (p := ⟨g, j * 5 + i, none⟩) hl).trans ((hg (j * 5 + i) (by omega)).trans (hgj i hi))
  rw [hcj] at CE
  exact ⟨vj, hnj, CE 0 (by decide), CE 1 (by decide), CE 2 (by decide), CE 3 (by decide), CE 4 (by decide)⟩
theorem below_mid {w wr wz wq : World} (h1 : Below w.heap.size w wr) (h2 : Below wr.heap.size wr wz) (h3 : Below wz.heap.size wz wq) : Below w.heap.size w wq :=
  (h1.trans (h2.mono h1.size)).trans (h3.mono (Nat.le_trans h1.size h2.size))
theorem takeM_snoc {α β : Type} (f : α → β) {l : List α} {j : Nat} {x : α} (h : l[j]? = some x) : (l.take (j + 1)).map f = (l.take j).map f ++ [f x] := by
  obtain ⟨hj, hx⟩ := List.getElem?_eq_some_iff.1 h
  rw [List.take_succ_eq_append_getElem hj, hx, List.map_append]; rfl
theorem take_join {α : Type} (sep : List UInt8) (f : α → List UInt8) {l : List α} {j : Nat} {x : α} (h : l[j]? = some x) (s : List UInt8) : s ++ joinM sep ((l.take (j + 1)).map f) = (if j = 0 then s ++ joinM sep ((l.take j).map f) else s ++ joinM sep ((l.take j).map f) ++ sep) ++ f x := by
  rw [takeM_snoc f h]
  obtain ⟨hj, hx⟩ := List.getElem?_eq_some_iff.1 h
  by_cases h0 : j = 0
  · subst h0
    rw [if_pos rfl]
    simp [joinM, List.intercalate]
  · rw [if_neg h0, joinM_snoc sep _ _ (by
      intro e
      have := congrArg List.length e
      rw [List.length_map, List.length_take, List.length_nil] at this
      omega)]
    simp [List.append_assoc]
end Go.Proofs.YtkjhdehpcanciaaGreatDoor

namespace Go.Proofs.YtkjhdehpcanciaaGreatDoor
open Go.RowKit Florin
set_option linter.unusedVariables false
set_option linter.unusedSimpArgs false
attribute [local go_sem ↓] Go.wp_at_zero Go.wp_at_succ

set_option maxRecDepth 100000 in
set_option maxHeartbeats 6400000 in
theorem write_as (m : MadeM) (v : Value) (w : World) (ht : Tab w) (hW : Wds w) (hv : AnymAt w m.any v) (hb : madeB m) (hr : ∀ a ∈ m.any, ∀ r ∈ a, r.rs.length ≤ 5) :
    Calls Tryz.prog 30 #[.agg #[.int .i64 m.cat, .int .i64 m.gp, .int .i64 m.smp, v]] w fun e w' => ∃ u, e = .returned (.tuple #[.agg #[.int .i64 ((mcat m : Nat) : Int), u, S (msmp m)], S (madeTx m)]) ∧ CondAt w' w.heap.size (madeMn m).any u ∧ Below w.heap.size w w' := by
  obtain ⟨ct, gp, sp, any⟩ := m
  obtain ⟨cs, ⟨a, c, rfl, hnc, hcm, hlen, hcell⟩, hL⟩ := hv
  have hn4 : any.length ≤ 4 := hb.1
  have HC : Hid (0 < any.length → ∃ b off, a = some ⟨b, off, none⟩ ∧ b < w.heap.size ∧ ∀ j, j < any.length * 1 → w.cell? ⟨b, off + j, none⟩ = cs[j]?) := Lib.hid hcell
  have HL := Lib.hid hL
  have HB := Lib.hid hb
  have HR := Lib.hid hr
  have HLEN := Lib.hid hlen
  have hnc2 : any.length ≤ c := hnc
  have hcmi : (c : Int) ≤ 9223372036854775807 := by unfold maxLen at hcm; omega
  obtain ⟨C, hC⟩ : ∃ C, modM ct 6 = C := ⟨_, rfl⟩
  have hC6 : C < 6 := by rw [← hC]; exact mcat_lt ⟨ct, gp, sp, any⟩
  have HCC := Lib.hid hC
  obtain ⟨g, hg⟩ : ∃ g, gapB (andN gp 3) = g := ⟨_, rfl⟩
  have gl : g.length ≤ 2 := by rw [← hg]; exact gapB_len _
  have HG := Lib.hid hg
  obtain ⟨wd, hwd⟩ : ∃ wd, wordW C = wd := ⟨_, rfl⟩
  have wdl : wd.length ≤ 5 := by
    rw [← hwd]
    have : ∀ k, k < 6 → (wordW k).length ≤ 5 := by decide
    exact this C hC6
  have HWD : Hid (catT ((C : Nat) : Int) = wd) := Lib.hid (by
    rw [← hwd]
    unfold catT
    rw [if_pos ⟨by omega, by omega⟩]
    rfl)
  have HWD2 := Lib.hid hwd
  have HT := Lib.hid ht
  have HW := Lib.hid hW
  clear hL hb hr hlen hnc hcell hC hg hwd ht hW
  show Calls Tryz.prog 30 #[.agg #[.int .i64 ct, .int .i64 gp, .int .i64 sp, .slice a any.length c]] w _
  go_enter Tryz.func30, Tryz.ntmps30
  go_wp2_with fail
  have H0 := Lib.hid (HeldL.alloc (HeldL.alloc (HeldL.refl w) w.heap.size #[.int .i64 ct, .int .i64 gp, .int .i64 sp, .slice a any.length c] 62 rfl) (w.heap.size + 1) #[.int .i64 0, .slice none 0 0, .string ⟨#[]⟩] 39 (by simp))
  have ZT0 : Hid (BoxT ((w.alloc (.cells #[.int .i64 ct, .int .i64 gp, .int .i64 sp, .slice a any.length c] 62)).alloc (.cells #[.int .i64 0, .slice none 0 0, .string ⟨#[]⟩] 39)) (w.heap.size + 1) #[.int .i64 0, .slice none 0 0, .string ⟨#[]⟩] 39) := Lib.hid (by have h := BoxT.new (w.alloc (.cells #[.int .i64 ct, .int .i64 gp, .int .i64 sp, .slice a any.length c] 62)) #[.int .i64 0, .slice none 0 0, .string ⟨#[]⟩] 39; simpa using h)
  refine (mcat_as ⟨ct, gp, sp, any⟩ a any.length c _).mono ?_
  rintro x w1 ⟨rfl, hb⟩
  have H1 := Lib.hid (HeldL.keep H0.out hb)
  have ZT1 := Lib.hid (BoxT.grown ZT0.out (grown_of_below hb none) (by simp))
  rw [show modM (MadeM.mk ct gp sp any).cat 6 = C from HCC.out]
  clear hb H0 ZT0
  have m1 : w1.cell? ⟨w.heap.size, 1, none⟩ = some (.int .i64 gp) := (H1.out.f (List.Mem.tail _ (List.Mem.head _))).cell 1
  have ml := (H1.out.f (List.Mem.tail _ (List.Mem.head _))).lt
  have zl := (H1.out.f (List.Mem.head _)).lt
  go_wp2_with fail
  have H2 := Lib.hid (HeldL.alloc H1.out w1.heap.size #[.int .i64 ((C : Nat) : Int), .slice none 0 0, .string ⟨#[]⟩] 39 rfl)
  have XT2 := Lib.hid (BoxT.new w1 #[.int .i64 ((C : Nat) : Int), .slice none 0 0, .string ⟨#[]⟩] 39)
  obtain ⟨B, hB⟩ : ∃ B, w1.heap.size = B := ⟨_, rfl⟩
  rw [hB] at H2 XT2 zl ml
  refine (gap_as gp _ g HG.out).mono ?_
  rintro x w2 ⟨rfl, hb⟩
  have H3 := Lib.hid (HeldL.keep H2.out hb)
  have ZT3 := Lib.hid (BoxT.grown (ZT1.out.alloc _) (grown_of_below hb none) (by simp))
  have XT3 := Lib.hid (BoxT.grown XT2.out (grown_of_below hb none) (by simp))
  have hbz := hb.size
  simp only [World.size_alloc, hB] at hbz
  simp only [hB]
  clear hb H1 H2 XT2 ZT1 m1

  have x0 : w2.cell? ⟨B, 0, none⟩ = some (.int .i64 ((C : Nat) : Int)) := (H3.out.f (List.Mem.head _)).cell 0
  have xl := (H3.out.f (List.Mem.head _)).lt
  have gg : (S g) = .string ⟨g.toArray⟩ := rfl
  obtain ⟨q1, hq1⟩ : ∃ q1, g ++ wd = q1 := ⟨_, rfl⟩
  have q1l : q1.length = g.length + wd.length := by rw [← hq1, List.length_append]
  have SBq1 : (⟨g.toArray⟩ : ByteArray) ++ (⟨wd.toArray⟩ : ByteArray) = ⟨q1.toArray⟩ := by rw [← hq1]; exact arr_append g wd
  have cbq1 : ¬ 9223372036854775807 < g.length + wd.length := by omega
  have Hq1 := Lib.hid hq1
  clear hq1
  obtain ⟨q2, hq2⟩ : ∃ q2, q1 ++ g = q2 := ⟨_, rfl⟩
  have q2l : q2.length = q1.length + g.length := by rw [← hq2, List.length_append]
  have SBq2 : (⟨q1.toArray⟩ : ByteArray) ++ (⟨g.toArray⟩ : ByteArray) = ⟨q2.toArray⟩ := by rw [← hq2]; exact arr_append q1 g
  have cbq2 : ¬ 9223372036854775807 < q1.length + g.length := by omega
  have Hq2 := Lib.hid hq2
  clear hq2
  obtain ⟨q3, hq3⟩ : ∃ q3, q2 ++ [58] = q3 := ⟨_, rfl⟩
  have q3l : q3.length = q2.length + 1 := by rw [← hq3, List.length_append]; rfl
  have SBq3 : (⟨q2.toArray⟩ : ByteArray) ++ (⟨#[58]⟩ : ByteArray) = ⟨q3.toArray⟩ := by rw [← hq3]; exact arr_append q2 [58]
  have cbq3 : ¬ 9223372036854775807 < q2.length + 1 := by omega
  have Hq3 := Lib.hid hq3
  clear hq3
  obtain ⟨q4, hq4⟩ : ∃ q4, q3 ++ g = q4 := ⟨_, rfl⟩
  have q4l : q4.length = q3.length + g.length := by rw [← hq4, List.length_append]
  have SBq4 : (⟨q3.toArray⟩ : ByteArray) ++ (⟨g.toArray⟩ : ByteArray) = ⟨q4.toArray⟩ := by rw [← hq4]; exact arr_append q3 g
  have cbq4 : ¬ 9223372036854775807 < q3.length + g.length := by omega
  have Hq4 := Lib.hid hq4
  clear hq4
  go_wp2_with fail
  refine (catS_as _ _ (HW.out.below (H3.out.bel)) wd HWD.out).mono ?_
  rintro x w3 ⟨rfl, rfl⟩
  have m3 : w2.cell? ⟨w.heap.size, 3, none⟩ = some (.slice a any.length c) := (H3.out.f (List.Mem.tail _ (List.Mem.tail _ (List.Mem.head _)))).cell 3
  have ml2 := (H3.out.f (List.Mem.tail _ (List.Mem.tail _ (List.Mem.head _)))).lt
  go_upto_region 4 with fail

  have hlo : ∀ p ∈ ([(B, #[.int .i64 ((C : Nat) : Int), .slice none 0 0, .string ⟨#[]⟩]), (w.heap.size + 1, #[.int .i64 0, .slice none 0 0, .string ⟨#[]⟩]), (w.heap.size, #[.int .i64 ct, .int .i64 gp, .int .i64 sp, .slice a any.length c])] : List (Nat × Array Value)), p.1 < B + 1 := by
    intro p hp
    simp only [List.mem_cons, List.not_mem_nil, or_false] at hp
    rcases hp with rfl | rfl | rfl <;> simp only <;> omega
  have HLO := Lib.hid hlo
  clear hlo
  have HQ4 : Hid (bl (mqN ⟨ct, gp, sp, any⟩) ++ wordW (mcat ⟨ct, gp, sp, any⟩) ++ bl (mqN ⟨ct, gp, sp, any⟩) ++ [58] ++ bl (mqN ⟨ct, gp, sp, any⟩) = q4) := Lib.hid (by
    rw [show bl (mqN ⟨ct, gp, sp, any⟩) = g from HG.out, show mcat ⟨ct, gp, sp, any⟩ = C from HCC.out, HWD2.out, Hq1.out, Hq2.out, Hq3.out, Hq4.out])
  have q4b : q4.length ≤ 12 := by omega
  clear SBq1 SBq2 SBq3 SBq4 cbq1 cbq2 cbq3 cbq4 Hq1 Hq2 Hq3 Hq4 q1l q2l q3l q4l HWD HWD2 wdl
  obtain ⟨i0, hi, hz0, hz1, hz2⟩ := info_parts infoAllM
  go_cut [7] from 16 (fun v7 w' => w'.ownsRow (B + 1) 59 1 v7 any.length cs ∧ HeldL w [(B, #[.int .i64 ((C : Nat) : Int), .slice none 0 0, .string ⟨#[]⟩]), (w.heap.size + 1, #[.int .i64 0, .slice none 0 0, .string ⟨#[]⟩]), (w.heap.size, #[.int .i64 ct, .int .i64 gp, .int .i64 sp, .slice a any.length c])] w' ∧ BoxT w' B #[.int .i64 ((C : Nat) : Int), .slice none 0 0, .string ⟨#[]⟩] 39 ∧ BoxT w' (w.heap.size + 1) #[.int .i64 0, .slice none 0 0, .string ⟨#[]⟩] 39)
  case first =>
    have OWN : (w2.alloc (.cells #[] 59)).ownsRow (B + 1) 59 1 (.slice (some ⟨w2.heap.size, 0, none⟩) 0 0) 0 [] := World.ownsRow_lit w2 #[] 0 xl (by decide) rfl
    have HOW := Lib.hid OWN
    clear OWN
    by_cases hrs : 0 < any.length
    · obtain ⟨b, off, rfl, hbl, hbc⟩ := HC.out hrs
      have CELLS : ∀ j u, cs[j]? = some u → (w2.alloc (.cells #[] 59)).cell? ((⟨b, off, none⟩ : Addr).add j) = some u := fun j u hu => by
        have hj : j < any.length * 1 := by rw [← HLEN.out]; exact (List.getElem?_eq_some_iff.1 hu).1
        rw [show (⟨b, off, none⟩ : Addr).add j = ⟨b, off + j, none⟩ from by simp [Addr.add], (HeldL.skip H3.out _).bel.cell (p := ⟨b, off + j, none⟩) hbl, hbc j hj]; exact hu
      have h63 : 0 + any.length ≤ maxLen := by unfold maxLen; omega
      have hby : (0 + any.length) * 24 ≤ 140737488355328 := by omega
      have hba : B + 1 ≤ (w2.alloc (.cells #[] 59)).heap.size := by simp; omega
      have HCE := Lib.hid CELLS
      have HBA := Lib.hid hba
      have hlen2 := HLEN.out
      have HON := Lib.hid (all_one HL.out)
      clear CELLS hba
      go_wp2_with (at_builtin; refine wpList_append_own _ rfl _ _ 60 rfl (B + 1) 59 i0 (.slice none 0 0) 1 24 Tryz.underlying60 hi hz0 hz1 hz2 rfl (by decide) (.slice (some ⟨w2.heap.size, 0, none⟩) 0 0) 0 [] rfl HOW.out ⟨b, off, none⟩ any.length c cs rfl hlen2 HCE.out HON.out h63 hby HBA.out ?_; intro v8 w8 hown8 hgr8 _)
      have HO8 : Hid (w8.ownsRow (B + 1) 59 1 v8 any.length cs) := Lib.hid (by have h := hown8; rw [Nat.zero_add] at h; exact h)
      have H8 := Lib.hid (HeldL.grownOwn (HeldL.skip H3.out _) hgr8 (fun k hk => own_aboveB HOW.out (by omega) HLO.out k hk))
      have X8 := Lib.hid (BoxT.grown (XT3.out.alloc _) hgr8 (own_ne HOW.out (Nat.lt_succ_self B)))
      have Z8 := Lib.hid (BoxT.grown (ZT3.out.alloc _) hgr8 (own_ne HOW.out (by omega)))
      clear hown8 hgr8
      go_meet
      case rel => exact ⟨HO8.out, H8.out, X8.out, Z8.out⟩
    · obtain rfl : any = [] := List.eq_nil_of_length_eq_zero (by omega)
      obtain rfl : cs = [] := List.eq_nil_of_length_eq_zero (by simpa using HLEN.out)
      cases a with
      | none =>
        go_wp2
        go_meet
        case rel => exact ⟨HOW.out, HeldL.skip H3.out _, XT3.out.alloc _, ZT3.out.alloc _⟩
      | some ad =>
        go_wp2
        go_meet
        case rel => exact ⟨HOW.out, HeldL.skip H3.out _, XT3.out.alloc _, ZT3.out.alloc _⟩
  case rest =>
  obtain ⟨how, hh, hxt, hzt⟩ := hcut
  have OW5 := Lib.hid how
  have H5 := Lib.hid hh
  have XT5 := Lib.hid hxt
  have ZT5 := Lib.hid hzt
  clear hh how hxt hzt H3 x0 xl m3 ml2 ml
  have hxl := (H5.out.f (List.Mem.head _)).lt
  obtain ⟨a7, c7, hv7, hc7, hm7, _⟩ := InN.own OW5.out
  subst hv7
  obtain ⟨LL, hLL⟩ : ∃ LL, anyL any = LL := ⟨_, rfl⟩
  obtain ⟨ds, hds⟩ : ∃ ds, (if any = [] then [.slice none 0 0] else cs) = ds := ⟨_, rfl⟩
  have hl4 : LL.length ≤ 4 := by rw [← hLL]; exact anyL_len hn4
  have hl1 : 0 < LL.length := by rw [← hLL]; exact List.length_pos_iff.2 (anyL_ne _)
  have HLL := Lib.hid hLL
  have HDS := Lib.hid hds
  have HLD : Hid (ListAt (fun x c => ∃ u, c = [u] ∧ AllmAt w x u) LL ds) := Lib.hid (by
    rw [← hLL, ← hds]
    unfold anyL
    by_cases h0 : any = []
    · rw [if_pos h0, if_pos h0]; exact ⟨[_], [], rfl, ⟨_, rfl, allm_nil w⟩, rfl⟩
    · rw [if_neg h0, if_neg h0]; exact HL.out)
  clear hLL hds
  go_upto_if 38 with fail
  go_cut [7] from 16 (fun v7 w' => w'.ownsRow (B + 1) 59 1 v7 LL.length ds ∧ HeldL w [(B, #[.int .i64 ((C : Nat) : Int), .slice none 0 0, .string ⟨#[]⟩]), (w.heap.size + 1, #[.int .i64 0, .slice none 0 0, .string ⟨#[]⟩]), (w.heap.size, #[.int .i64 ct, .int .i64 gp, .int .i64 sp, .slice a any.length c])] w' ∧ BoxT w' B #[.int .i64 ((C : Nat) : Int), .slice none 0 0, .string ⟨#[]⟩] 39 ∧ BoxT w' (w.heap.size + 1) #[.int .i64 0, .slice none 0 0, .string ⟨#[]⟩] 39)
  case first =>
    by_cases hrs : any = []
    · subst hrs
      obtain rfl : [[]] = LL := by rw [← HLL.out]; rfl
      obtain rfl : [Value.slice none 0 0] = ds := by rw [← HDS.out]; rfl
      obtain rfl : cs = [] := List.eq_nil_of_length_eq_zero (by simpa using HLEN.out)
      have hby : (0 + 1) * 24 ≤ 140737488355328 := by omega
      have h63 : 0 + 1 ≤ maxLen := by unfold maxLen; omega
      have HOW := Lib.hid (OW5.out.alloc (.cells #[.slice none 0 0] 59))
      have HBA : Hid (B + 1 ≤ (wc.alloc (.cells #[.slice none 0 0] 59)).heap.size) := Lib.hid (by simp; omega)
      go_wp2_with (at_builtin; refine wpList_append_own _ rfl _ _ 60 rfl (B + 1) 59 i0 (.slice none 0 0) 1 24 Tryz.underlying60 hi hz0 hz1 hz2 rfl (by decide) (.slice a7 0 c7) 0 [] rfl HOW.out ⟨wc.heap.size, 0, none⟩ 1 1 [.slice none 0 0] rfl rfl (lit_cells wc #[.slice none 0 0] 59) (by simp [Value.oneCell']) h63 hby HBA.out ?_; intro v8 w8 hown8 hgr8 _)
      have HO8 : Hid (w8.ownsRow (B + 1) 59 1 v8 1 [.slice none 0 0]) := Lib.hid hown8
      have H8 := Lib.hid (HeldL.grownOwn (HeldL.skip H5.out _) hgr8 (fun k hk => own_aboveB HOW.out (by omega) HLO.out k hk))
      have X8 := Lib.hid (BoxT.grown (XT5.out.alloc _) hgr8 (own_ne HOW.out (Nat.lt_succ_self B)))
      have Z8 := Lib.hid (BoxT.grown (ZT5.out.alloc _) hgr8 (own_ne HOW.out (by omega)))
      clear hown8 hgr8
      go_meet
      case rel => exact ⟨HO8.out, H8.out, X8.out, Z8.out⟩
    · obtain rfl : any = LL := by rw [← HLL.out]; unfold anyL; rw [if_neg hrs]
      obtain rfl : cs = ds := by rw [← HDS.out, if_neg hrs]
      have h0i : ¬ (any.length : Int) = 0 := by omega
      have h0b : ((any.length : Int) == 0) = false := by simpa using h0i
      go_wp2
      go_meet
      case rel => exact ⟨OW5.out, H5.out, XT5.out, ZT5.out⟩
  case rest =>
  obtain ⟨how, hh, hxt, hzt⟩ := hcut
  obtain ⟨w6, hw6⟩ : ∃ w6 : World, w6 = wc := ⟨_, rfl⟩
  subst hw6
  have OW6 := Lib.hid how
  have H6 := Lib.hid hh
  have XT6 := Lib.hid hxt
  have ZT6 := Lib.hid hzt
  clear hh how hxt hzt H5 XT5 XT3 ZT5 ZT3 OW5 hxl hc7 hm7 hi hz0 hz1 hz2 HC HL HDS HLEN hnc2
  have x0 : w6.cell? ⟨B, 0, none⟩ = some (.int .i64 ((C : Nat) : Int)) := (H6.out.f (List.Mem.head _)).cell 0
  have xl := (H6.out.f (List.Mem.head _)).lt
  obtain ⟨g7, c8, hv7, hc8, hm8, hlo7, hgl7, hgc7⟩ := own_blk OW6.out hl1
  subst hv7
  have HGC := Lib.hid hgc7
  have m8i : (c8 : Int) ≤ 9223372036854775807 := by unfold maxLen at hm8; omega
  clear hgc7
  obtain ⟨sep, hsep⟩ : ∃ sep, [32, 111, 114] ++ g ++ [32] = sep := ⟨_, rfl⟩
  have sepl : sep.length ≤ 6 := by rw [← hsep]; simp; omega
  have HSEP := Lib.hid hsep
  obtain ⟨TC, hTC⟩ : ∃ TC, (if C = 5 then [] else joinM sep (LL.map allTx)) = TC := ⟨_, rfl⟩
  obtain ⟨MC, hMC⟩ : ∃ MC, (if C = 5 then [] else LL.map allMn) = MC := ⟨_, rfl⟩
  have HTC := Lib.hid hTC
  have HMC := Lib.hid hMC
  clear hTC hMC hsep
  go_upto_if 44 with fail
  go_cut [6] from 7 (fun v6 w' => ∃ u, v6 = S (q4 ++ TC) ∧ LpC w6 w' B #[.int .i64 ((C : Nat) : Int), u, .string ⟨#[]⟩] MC u)
  case first =>
    by_cases h5 : C = 5
    · obtain rfl : [] = TC := by rw [← HTC.out, if_pos h5]
      obtain rfl : [] = MC := by rw [← HMC.out, if_pos h5]
      subst h5
      go_wp2
      go_meet
      case rel => exact ⟨.slice none 0 0, by rw [List.append_nil], XT6.out, condAt_nil _ _, World.grownBy.refl _ _⟩
    · obtain rfl : joinM sep (LL.map allTx) = TC := by rw [← HTC.out, if_neg h5]
      obtain rfl : LL.map allMn = MC := by rw [← HMC.out, if_neg h5]
      have h5i : ¬ (C : Int) = 5 := by omega
      have h5b : ((C : Int) != 5) = true := by simpa using h5i
      simp only [h5b]
      go_wp2_with fail
      clear h5b h5i h5
      go_loopw [6, 47] (fun v6 i wr => ∃ (k : Nat) (u : Value), k ≤ LL.length ∧ i = .int .i64 k ∧ v6 = S (q4 ++ joinM sep ((LL.take k).map allTx)) ∧ LpC w6 wr B #[.int .i64 ((C : Nat) : Int), u, .string ⟨#[]⟩] ((LL.take k).map allMn) u) (fun _ i _ => LL.length - (intOf i).toNat)
      case atStart => exact ⟨0, .slice none 0 0, Nat.zero_le _, rfl, by simp [joinM, List.intercalate], XT6.out, condAt_nil _ _, World.grownBy.refl _ _⟩
      case round =>
        obtain ⟨k, u, hk, rfl, rfl, hlp⟩ := hrel
        have HLP := Lib.hid hlp
        have hsz := hlp.gr.size
        have xlr : B < wr.heap.size := hlp.box.box.lt
        obtain ⟨s0, hs0⟩ : ∃ s0, q4 ++ joinM sep ((LL.take k).map allTx) = s0 := ⟨_, rfl⟩
        rw [hs0]
        have HS0 := Lib.hid hs0
        clear hlp hs0
        by_cases hlt : k < LL.length
        · have hlti : (k : Int) < (LL.length : Int) := by omega
          obtain ⟨xk, hxk⟩ : ∃ xk, LL[k] = xk := ⟨_, rfl⟩
          obtain ⟨ck, ⟨uk, hck, hak⟩, hgk⟩ := ListAt.get (sz := 1) (fun x c ⟨u, e, _⟩ => by rw [e]; rfl) HLD.out k hlt
          rw [hxk] at hak
          have hck0 := hgk 0 (by decide)
          rw [hck, Nat.mul_one, Nat.add_zero] at hck0
          have HXK : Hid (LL[k]? = some xk) := Lib.hid (by rw [List.getElem?_eq_getElem hlt, hxk])
          have e0 : wr.cell? ⟨g7, k, none⟩ = some uk := HLP.out.gr.cell ((HGC.out k (by omega)).trans hck0) (fun e => by have h := Option.some.inj e; simp only at h; omega)
          clear hgk hck hck0 hxk
          obtain ⟨es, ⟨ak, nk, rfl, hnk, hmk, hek, hbk⟩, hlk⟩ := hak
          have HLK := Lib.hid hlk
          have HBK := Lib.hid hbk
          have HEK := Lib.hid hek
          clear hlk hbk hek
          have hk3 : (0 : Int) ≤ (k : Int) := by omega
          have hkc : (k : Int) < (c8 : Int) := by omega
          have glr : g7 < wr.heap.size := Nat.lt_of_lt_of_le hgl7 hsz
          have hmem : xk ∈ LL := List.mem_of_getElem? HXK.out
          have hk4 : xk.length ≤ 4 := anyL_b HB.out.2 xk (by rw [HLL.out]; exact hmem)
          have HRK : Hid (∀ r ∈ xk, r.rs.length ≤ 5) := Lib.hid (anyL_r HR.out xk (by rw [HLL.out]; exact hmem))
          clear hmem
          have BWR := Lib.hid (below_gr H6.out.bel HLP.out.gr (by omega))
          obtain ⟨i0, hi, hz0, hz1, hz2⟩ := info_parts infoRelM
          have nki : (nk : Int) ≤ 9223372036854775807 := by unfold maxLen at hmk; omega
          go_upto_region 11 with fail
          go_cut [10] from 49 to 101 (fun v10 w' => w'.ownsRow wr.heap.size 58 5 v10 xk.length es ∧ Below wr.heap.size wr w')
          case first =>
            have HOW := Lib.hid (show (wr.alloc (.cells #[] 58)).ownsRow wr.heap.size 58 5 (.slice (some ⟨wr.heap.size, 0, none⟩) 0 0) 0 [] from World.ownsRow_lit wr #[] 0 (Nat.le_refl _) (by decide) rfl)
            by_cases hrs : 0 < xk.length
            · obtain ⟨b, off, rfl, hbl, hbc⟩ := HBK.out hrs
              have HCE : Hid (∀ j u, es[j]? = some u → (wr.alloc (.cells #[] 58)).cell? ((⟨b, off, none⟩ : Addr).add j) = some u) := Lib.hid (fun j u hu => by
                have hj : j < xk.length * 5 := by rw [← HEK.out]; exact (List.getElem?_eq_some_iff.1 hu).1
                rw [show (⟨b, off, none⟩ : Addr).add j = ⟨b, off + j, none⟩ from by simp [Addr.add], (BWR.out.alloc BWR.out.size _).cell (p := ⟨b, off + j, none⟩) hbl, hbc j hj]; exact hu)
              have h63 : 0 + xk.length ≤ maxLen := by unfold maxLen; omega
              have hby : (0 + xk.length) * 56 ≤ 140737488355328 := by omega
              have HBA : Hid (wr.heap.size ≤ (wr.alloc (.cells #[] 58)).heap.size) := Lib.hid (by simp)
              have hlen2 := HEK.out
              have HON := Lib.hid (relm_one HLK.out)
              go_wp2_with (at_builtin; refine wpList_append_own _ rfl _ _ 59 rfl wr.heap.size 58 i0 (.agg #[.int .i64 0, .int .i64 0, .int .i64 0, .bool false, .slice none 0 0]) 5 56 Tryz.underlying59 hi hz0 hz1 hz2 rfl (by decide) (.slice (some ⟨wr.heap.size, 0, none⟩) 0 0) 0 [] rfl HOW.out ⟨b, off, none⟩ xk.length nk es rfl hlen2 HCE.out HON.out h63 hby HBA.out ?_; intro v8 w8 hown8 hgr8 _)
              have HO8 : Hid (w8.ownsRow wr.heap.size 58 5 v8 xk.length es) := Lib.hid (by have h := hown8; rw [Nat.zero_add] at h; exact h)
              have B8 : Hid (Below wr.heap.size wr w8) := Lib.hid (below_gr ((Below.refl wr.heap.size wr).alloc (Nat.le_refl _) _) hgr8 (Nat.le_refl _))
              clear hown8 hgr8
              go_meet
              case rel => exact ⟨HO8.out, B8.out⟩
            · obtain rfl : xk = [] := List.eq_nil_of_length_eq_zero (by omega)
              obtain rfl : es = [] := List.eq_nil_of_length_eq_zero (by simpa using HEK.out)
              cases ak with
              | none =>
                go_wp2
                go_meet
                case rel => exact ⟨HOW.out, (Below.refl wr.heap.size wr).alloc (Nat.le_refl _) _⟩
              | some ad =>
                go_wp2
                go_meet
                case rel => exact ⟨HOW.out, (Below.refl wr.heap.size wr).alloc (Nat.le_refl _) _⟩
          case rest =>
          obtain ⟨how, hbw⟩ := hcut
          have OW5 := Lib.hid how
          have B5 := Lib.hid hbw
          have hbz := hbw.size
          clear how hbw e0 glr
          obtain ⟨a9, c9, hv9, hc9, hm9, _⟩ := InN.own OW5.out
          subst hv9
          obtain ⟨KK, hKK⟩ : ∃ KK, lstL xk = KK := ⟨_, rfl⟩
          obtain ⟨fs, hfs⟩ : ∃ fs, (if xk = [] then [.int .i64 0, .int .i64 0, .int .i64 0, .bool false, .slice none 0 0] else es) = fs := ⟨_, rfl⟩
          have hK4 : KK.length ≤ 4 := by rw [← hKK]; exact lstL_len hk4
          have hK1 : 0 < KK.length := by rw [← hKK]; exact List.length_pos_iff.2 (lstL_ne _)
          have HKK := Lib.hid hKK
          have HFS := Lib.hid hfs
          have HLF : Hid (ListAt (RelmAt w) KK fs) := Lib.hid (by
            rw [← hKK, ← hfs]
            unfold lstL
            by_cases h0 : xk = []
            · rw [if_pos h0, if_pos h0]; exact ⟨_, [], rfl, relm_zero w, rfl⟩
            · rw [if_neg h0, if_neg h0]; exact HLK.out)
          have HRR : Hid (∀ r ∈ KK, r.rs.length ≤ 5) := Lib.hid (by rw [← hKK]; exact lstL_r HRK.out)
          clear hKK hfs
          go_upto_if 57 with fail
          go_cut [10] from 49 to 101 (fun v10 w' => w'.ownsRow wr.heap.size 58 5 v10 KK.length fs ∧ Below wr.heap.size wr w')
          case first =>
            by_cases hrs : xk = []
            · subst hrs
              obtain rfl : [⟨0, 0, 0, false, []⟩] = KK := by rw [← HKK.out]; rfl
              obtain rfl : [Value.int .i64 0, .int .i64 0, .int .i64 0, .bool false, .slice none 0 0] = fs := by rw [← HFS.out]; rfl
              obtain rfl : es = [] := List.eq_nil_of_length_eq_zero (by simpa using HEK.out)
              have hby : (0 + 1) * 56 ≤ 140737488355328 := by omega
              have h63 : 0 + 1 ≤ maxLen := by unfold maxLen; omega
              have HOW := Lib.hid (OW5.out.alloc (.cells #[.int .i64 0, .int .i64 0, .int .i64 0, .bool false, .slice none 0 0] 58))
              have HBA : Hid (wr.heap.size ≤ (wc.alloc (.cells #[.int .i64 0, .int .i64 0, .int .i64 0, .bool false, .slice none 0 0] 58)).heap.size) := Lib.hid (by simp; omega)
              go_wp2_with (at_builtin; refine wpList_append_own _ rfl _ _ 59 rfl wr.heap.size 58 i0 (.agg #[.int .i64 0, .int .i64 0, .int .i64 0, .bool false, .slice none 0 0]) 5 56 Tryz.underlying59 hi hz0 hz1 hz2 rfl (by decide) (.slice a9 0 c9) 0 [] rfl HOW.out ⟨wc.heap.size, 0, none⟩ 1 1 [.int .i64 0, .int .i64 0, .int .i64 0, .bool false, .slice none 0 0] rfl rfl (lit_cells wc #[.int .i64 0, .int .i64 0, .int .i64 0, .bool false, .slice none 0 0] 58) (by simp [Value.oneCell']) h63 hby HBA.out ?_; intro v8 w8 hown8 hgr8 _)
              have HO8 : Hid (w8.ownsRow wr.heap.size 58 5 v8 1 [.int .i64 0, .int .i64 0, .int .i64 0, .bool false, .slice none 0 0]) := Lib.hid hown8
              have B8 : Hid (Below wr.heap.size wr w8) := Lib.hid (below_own (B5.out.alloc B5.out.size _) hgr8 (fun q hq => (HOW.out.lt q hq).1))
              clear hown8 hgr8
              go_meet
              case rel => exact ⟨HO8.out, B8.out⟩
            · obtain rfl : xk = KK := by rw [← HKK.out]; unfold lstL; rw [if_neg hrs]
              obtain rfl : es = fs := by rw [← HFS.out, if_neg hrs]
              have h0i : ¬ (xk.length : Int) = 0 := by omega
              have h0b : ((xk.length : Int) == 0) = false := by simpa using h0i
              go_wp2
              go_meet
              case rel => exact ⟨OW5.out, B5.out⟩
          case rest =>
          obtain ⟨how, hbw⟩ := hcut
          obtain ⟨wz, hwz⟩ : ∃ wz : World, wz = wc := ⟨_, rfl⟩
          subst hwz
          have OW7 := Lib.hid how
          have B7 := Lib.hid hbw
          have hbz7 := hbw.size
          clear how hbw OW5 B5 hbz hi hz0 hz1 hz2 HEK HBK HLK HFS hnk hmk nki
          obtain ⟨s1, hs1⟩ : ∃ s1, (if k = 0 then s0 else s0 ++ [32, 111, 114] ++ g ++ [32]) = s1 := ⟨_, rfl⟩
          have HS1 := Lib.hid hs1
          clear hs1
          have s0b : s0.length ≤ 4000 := by
            rw [← HS0.out, List.length_append]
            have h1 := joinM_len sep 800 ((LL.take k).map allTx) (fun l hl => by
              obtain ⟨x, hx, rfl⟩ := List.mem_map.1 hl
              have hx' := List.mem_of_mem_take hx
              exact allTx_len (anyL_b HB.out.2 x (by rw [HLL.out]; exact hx')) (anyL_r HR.out x (by rw [HLL.out]; exact hx')))
            rw [List.length_map, List.length_take] at h1
            have h2 : min k LL.length * (800 + sep.length) ≤ 4 * 806 := Nat.mul_le_mul (by omega) (by omega)
            omega
          go_upto_if 63 with fail
          go_cut [6] from 49 to 101 (fun v6 w' => v6 = S s1 ∧ wz = w')
          case first =>
            by_cases hk0 : k = 0
            · obtain rfl : s0 = s1 := by rw [← HS1.out, if_pos hk0]
              have hk0i : ¬ (0 : Int) < (k : Int) := by omega
              clear hk0
              go_wp2
              go_meet
              case rel => exact ⟨rfl, rfl⟩
            · have hk0i : (0 : Int) < (k : Int) := by omega
              obtain ⟨t1, ht1⟩ : ∃ t1, s0 ++ [32, 111, 114] = t1 := ⟨_, rfl⟩
              have t1l : t1.length = s0.length + 3 := by rw [← ht1, List.length_append]; rfl
              have SBt1 : (⟨s0.toArray⟩ : ByteArray) ++ (⟨#[32, 111, 114]⟩ : ByteArray) = ⟨t1.toArray⟩ := by rw [← ht1]; exact arr_append s0 [32, 111, 114]
              have cbt1 : ¬ 9223372036854775807 < s0.length + 3 := by omega
              have Ht1 := Lib.hid ht1
              clear ht1
              obtain ⟨t2, ht2⟩ : ∃ t2, t1 ++ g = t2 := ⟨_, rfl⟩
              have t2l : t2.length = t1.length + g.length := by rw [← ht2, List.length_append]
              have SBt2 : (⟨t1.toArray⟩ : ByteArray) ++ (⟨g.toArray⟩ : ByteArray) = ⟨t2.toArray⟩ := by rw [← ht2]; exact arr_append t1 g
              have cbt2 : ¬ 9223372036854775807 < t1.length + g.length := by omega
              have Ht2 := Lib.hid ht2
              clear ht2
              obtain ⟨t3, ht3⟩ : ∃ t3, t2 ++ [32] = t3 := ⟨_, rfl⟩
              have t3l : t3.length = t2.length + 1 := by rw [← ht3, List.length_append]; rfl
              have SBt3 : (⟨t2.toArray⟩ : ByteArray) ++ (⟨#[32]⟩ : ByteArray) = ⟨t3.toArray⟩ := by rw [← ht3]; exact arr_append t2 [32]
              have cbt3 : ¬ 9223372036854775807 < t2.length + 1 := by omega
              have Ht3 := Lib.hid ht3
              clear ht3
              obtain rfl : t3 = s1 := by rw [← HS1.out, if_neg hk0, Ht1.out, Ht2.out, Ht3.out]
              clear hk0
              go_wp2
              go_meet
              case rel => exact ⟨rfl, rfl⟩
          case rest =>
          obtain ⟨rfl, rfl⟩ := hcut
          have s1b : s1.length ≤ 4010 := by rw [← HS1.out]; by_cases h0 : k = 0; rw [if_pos h0]; omega; rw [if_neg h0]; simp; omega
          clear s0b
          obtain ⟨g10, c10, hv10, hc10, hm10, hlo10, hgl10, hgc10⟩ := own_blk OW7.out hK1
          subst hv10
          have HGT := Lib.hid hgc10
          have m10i : (c10 : Int) ≤ 9223372036854775807 := by unfold maxLen at hm10; omega
          clear hgc10 OW7
          obtain ⟨i1, hi, hz0, hz1, hz2⟩ := info_parts infoRel
          go_wp2_with fail
          go_loopw [6, 11, 72] (fun v6 v11 i wq => ∃ (j : Nat), j ≤ KK.length ∧ i = .int .i64 j ∧ v6 = S (s1 ++ joinM [32, 97, 110, 100, 32] ((KK.take j).map relTx)) ∧ AllAt wq wz.heap.size ((KK.take j).map relMn) v11 ∧ Below wz.heap.size wz wq) (fun _ _ i _ => KK.length - (intOf i).toNat)
          case atStart => exact ⟨0, Nat.zero_le _, rfl, by simp [joinM, List.intercalate], ⟨[], World.ownsRow_lit wz #[] 0 (Nat.le_refl _) (by decide) rfl, rfl⟩, (Below.refl _ _).alloc (Nat.le_refl _) _⟩
          case round =>
            obtain ⟨j, hj, rfl, rfl, hal, hbq⟩ := hrel
            obtain ⟨wq, hwq⟩ : ∃ W : World, W = wr := ⟨_, rfl⟩
            subst hwq
            have BQ := Lib.hid hbq
            have hsq := hbq.size
            obtain ⟨ar, har, hrl⟩ := hal
            have hlenj : ((KK.take j).map relMn).length = j := by rw [List.length_map, List.length_take]; omega
            rw [hlenj] at har
            have HLJ := Lib.hid hlenj
            clear hlenj
            obtain ⟨a9, c9, hu⟩ := own_cap har
            subst hu
            have HAR := Lib.hid har
            have HRL := Lib.hid hrl
            obtain ⟨r0, hr0⟩ : ∃ r0, s1 ++ joinM [32, 97, 110, 100, 32] ((KK.take j).map relTx) = r0 := ⟨_, rfl⟩
            rw [hr0]
            have HR0 := Lib.hid hr0
            clear har hrl hr0 hbq
            by_cases hjt : j < KK.length
            · have hjti : (j : Int) < (KK.length : Int) := by omega
              obtain ⟨xj, hxj⟩ : ∃ xj, KK[j] = xj := ⟨_, rfl⟩
              have HXJ : Hid (KK[j]? = some xj) := Lib.hid (by rw [List.getElem?_eq_getElem hjt, hxj])
              clear hxj
              obtain ⟨vj, hnj, e0, e1, e2, e3, e4⟩ := relm_cells HLF.out HGT.out hgl10 BQ.out HXJ.out
              obtain ⟨av, cv, hvj⟩ : ∃ av cv, vj = .slice av xj.rs.length cv := by obtain ⟨x, y, e, _⟩ := hnj; exact ⟨x, y, e⟩
              subst hvj
              have hxl5 : xj.rs.length ≤ 5 := HRR.out xj (List.mem_of_getElem? HXJ.out)
              have HNJ := Lib.hid hnj
              have BWQ := Lib.hid (below_mid BWR.out B7.out BQ.out)
              clear hnj
              have hj3 : (0 : Int) ≤ (j : Int) := Int.natCast_nonneg j
              have hjc : (j : Int) < (c10 : Int) := Int.ofNat_lt.2 (Nat.lt_of_lt_of_le hjt hc10)
              have glq : g10 < wq.heap.size := Nat.lt_of_lt_of_le hgl10 hsq
              have HRA : Hid (Calls Tryz.prog 55 #[.agg #[.int .i64 xj.op, .int .i64 xj.md, .int .i64 xj.gp, .bool xj.nt, .slice av xj.rs.length cv]] (wq.alloc (.cells #[.int .i64 xj.op, .int .i64 xj.md, .int .i64 xj.gp, .bool xj.nt, .slice av xj.rs.length cv] 58)) fun e w' => ∃ u, e = .returned (.tuple #[.agg #[.int .u8 (((relMn xj).op : UInt8).toNat : Int), .int .i64 (((relMn xj).mod : Nat) : Int), .bool (relMn xj).nt, u], S (relTx xj)]) ∧ Rngs w' (wq.alloc (.cells #[.int .i64 xj.op, .int .i64 xj.md, .int .i64 xj.gp, .bool xj.nt, .slice av xj.rs.length cv] 58)).heap.size (relMn xj).rs u ∧ Below (wq.alloc (.cells #[.int .i64 xj.op, .int .i64 xj.md, .int .i64 xj.gp, .bool xj.nt, .slice av xj.rs.length cv] 58)).heap.size (wq.alloc (.cells #[.int .i64 xj.op, .int .i64 xj.md, .int .i64 xj.gp, .bool xj.nt, .slice av xj.rs.length cv] 58)) w') := Lib.hid (relation_as xj (.slice av xj.rs.length cv) _ (HT.out.below (BWQ.out.alloc BWQ.out.size _)) (HNJ.out.below (BWQ.out.alloc BWQ.out.size _)) hxl5)
              go_wp2_with fail
              refine (HRA.out).mono ?_
              rintro x w10 ⟨u2, rfl, hrg, hb⟩
              obtain ⟨a2, c2, hu2⟩ := own_cap hrg
              subst hu2
              have HRG := Lib.hid hrg
              have HB10 := Lib.hid hb
              obtain ⟨tx, htx⟩ : ∃ tx, relTx xj = tx := ⟨_, rfl⟩
              have txl : tx.length ≤ 190 := by rw [← htx]; exact relTx_len hxl5
              rw [htx]
              have HTX := Lib.hid htx
              have BQ10 : Hid (Below wq.heap.size wq w10) := Lib.hid (((Below.refl wq.heap.size wq).alloc (Nat.le_refl _) _).trans (HB10.out.mono (by simp)))
              have HX14 := Lib.hid (BoxT.new w10 (#[.int .u8 (((relMn xj).op : UInt8).toNat : Int), .int .i64 (((relMn xj).mod : Nat) : Int), .bool (relMn xj).nt, .slice a2 (relMn xj).rs.length c2] : Array Value) 50).box
              have B11 := Lib.hid ((Below.refl w10.heap.size w10).alloc (Nat.le_refl _) (.cells (#[.int .u8 (((relMn xj).op : UInt8).toNat : Int), .int .i64 (((relMn xj).mod : Nat) : Int), .bool (relMn xj).nt, .slice a2 (relMn xj).rs.length c2] : Array Value) 50))
              clear hrg hb htx e0 e1 e2 e3 e4 HRA HNJ BWQ glq hjc hj3 HB10
              go_upto_region 21 with fail
              generalize w10.alloc (.cells (#[.int .u8 (((relMn xj).op : UInt8).toNat : Int), .int .i64 (((relMn xj).mod : Nat) : Int), .bool (relMn xj).nt, .slice a2 (relMn xj).rs.length c2] : Array Value) 50) = w11 at *
              have c14 := HX14.out.lt
              have d0 := HX14.out.cell 0
              have d1 := HX14.out.cell 1
              have d2 := HX14.out.cell 2
              have d3 := HX14.out.cell 3
              simp only [List.getElem?_toArray, List.getElem?_cons_zero, List.getElem?_cons_succ] at d0 d1 d2 d3
              have HAR11 : Hid (w11.ownsRow wz.heap.size 50 4 (.slice a9 j c9) j ar) := Lib.hid (own_tag (own_tag HAR.out (grown_of_below BQ10.out none) (fun _ _ e => by cases e)) (grown_of_below B11.out none) (fun _ _ e => by cases e))
              have HRL11 : Hid (ListAt (RelAt w11) ((KK.take j).map relMn) ar) := Lib.hid (HRL.out.mono (fun y c h => (h.kept (grown_of_below BQ10.out none) (Apart.none _ _)).kept (grown_of_below B11.out none) (Apart.none _ _)))
              have HRG11 : Hid (Rngs w11 0 (relMn xj).rs (.slice a2 (relMn xj).rs.length c2)) := Lib.hid (own_mono (Rngs.kept HRG.out (grown_of_below B11.out none) (Apart.none _ _)) (Nat.zero_le _))
              have BZ11 : Hid (Below wz.heap.size wz w11) := Lib.hid (below_mid BQ.out BQ10.out B11.out)
              have hz11 := BZ11.out.size
              have hj9 : j ≤ 4 := Nat.le_trans hj hK4
              have h63 : j + 1 ≤ maxLen := Nat.le_trans (Nat.succ_le_succ hj9) (by unfold maxLen; decide)
              have hby : (j + 1) * 48 ≤ 140737488355328 := Nat.le_trans (Nat.mul_le_mul_right 48 (Nat.succ_le_succ hj9)) (by decide)
              have HBA : Hid (wz.heap.size ≤ (w11.alloc (.cells (#[.int .u8 (((relMn xj).op : UInt8).toNat : Int), .int .i64 (((relMn xj).mod : Nat) : Int), .bool (relMn xj).nt, .slice a2 (relMn xj).rs.length c2] : Array Value) 50)).heap.size) := Lib.hid (Nat.le_trans hz11 (by simp))
              have HARA := Lib.hid (HAR11.out.alloc (.cells (#[.int .u8 (((relMn xj).op : UInt8).toNat : Int), .int .i64 (((relMn xj).mod : Nat) : Int), .bool (relMn xj).nt, .slice a2 (relMn xj).rs.length c2] : Array Value) 50))
              clear HAR HRL HRG
              go_upto_region 22 with (at_builtin; refine wpList_append_own _ rfl _ _ 47 rfl wz.heap.size 50 i1 (.agg #[.int .u8 0, .int .i64 0, .bool false, .slice none 0 0]) 4 48 Tryz.underlying47 hi hz0 hz1 hz2 rfl (by decide) (.slice a9 j c9) j ar rfl HARA.out ⟨w11.heap.size, 0, none⟩ 1 1 [.int .u8 (((relMn xj).op : UInt8).toNat : Int), .int .i64 (((relMn xj).mod : Nat) : Int), .bool (relMn xj).nt, .slice a2 (relMn xj).rs.length c2] rfl rfl (lit_cells w11 #[.int .u8 (((relMn xj).op : UInt8).toNat : Int), .int .i64 (((relMn xj).mod : Nat) : Int), .bool (relMn xj).nt, .slice a2 (relMn xj).rs.length c2] 50) (by simp [Value.oneCell']) h63 hby HBA.out ?_; intro v8 w8 hown8 hgr8 _; have HALL8 : Hid (AllAt w8 wz.heap.size ((KK.take (j + 1)).map relMn) v8) := Lib.hid (by rw [takeM_snoc relMn HXJ.out]; exact all_append (by rw [HLJ.out]; exact HAR11.out) HRL11.out (relMn xj) _ HRG11.out (by rw [HLJ.out]; exact hown8) hgr8); have BZ8 : Hid (Below wz.heap.size wz w8) := Lib.hid (below_own (BZ11.out.alloc hz11 _) hgr8 (fun q hq => (HARA.out.lt q hq).1)); clear hown8 hgr8)
              clear HAR11 HRL11 HRG11 BZ11 HARA HBA d0 d1 d2 d3 c14 hz11 HX14 B11 BQ10 h63 hby
              obtain ⟨r1, hr1⟩ : ∃ r1, (if j = 0 then r0 else r0 ++ [32, 97, 110, 100, 32]) = r1 := ⟨_, rfl⟩
              have HR1 := Lib.hid hr1
              clear hr1
              have r0b : r0.length ≤ 4800 := by
                rw [← HR0.out, List.length_append]
                have h1 := joinM_len [32, 97, 110, 100, 32] 190 ((KK.take j).map relTx) (fun l hl => by
                  obtain ⟨x, hx, rfl⟩ := List.mem_map.1 hl
                  exact relTx_len (HRR.out x (List.mem_of_mem_take hx)))
                rw [List.length_map, List.length_take] at h1
                have h2 : min j KK.length * (190 + ([32, 97, 110, 100, 32] : List UInt8).length) ≤ 4 * 195 := Nat.mul_le_mul (by omega) (by simp)
                omega
              have r1b : r1.length ≤ 4805 := by rw [← HR1.out]; by_cases h0 : j = 0; rw [if_pos h0]; omega; rw [if_neg h0]; simp; omega
              go_upto_if 87 with fail
              go_cut [6] from 73 to 94 (fun v6 w' => v6 = S r1 ∧ w8 = w')
              case first =>
                by_cases hj0 : j = 0
                · obtain rfl : r0 = r1 := by rw [← HR1.out, if_pos hj0]
                  have hj0i : ¬ (0 : Int) < (j : Int) := by omega
                  clear hj0
                  go_wp2
                  go_meet
                  case rel => exact ⟨rfl, rfl⟩
                · have hj0i : (0 : Int) < (j : Int) := by omega
                  obtain ⟨t4, ht4⟩ : ∃ t4, r0 ++ [32, 97, 110, 100] = t4 := ⟨_, rfl⟩
                  have t4l : t4.length = r0.length + 4 := by rw [← ht4, List.length_append]; rfl
                  have SBt4 : (⟨r0.toArray⟩ : ByteArray) ++ (⟨#[32, 97, 110, 100]⟩ : ByteArray) = ⟨t4.toArray⟩ := by rw [← ht4]; exact arr_append r0 [32, 97, 110, 100]
                  have cbt4 : ¬ 9223372036854775807 < r0.length + 4 := by omega
                  have Ht4 := Lib.hid ht4
                  clear ht4
                  obtain ⟨t5, ht5⟩ : ∃ t5, t4 ++ [32] = t5 := ⟨_, rfl⟩
                  have t5l : t5.length = t4.length + 1 := by rw [← ht5, List.length_append]; rfl
                  have SBt5 : (⟨t4.toArray⟩ : ByteArray) ++ (⟨#[32]⟩ : ByteArray) = ⟨t5.toArray⟩ := by rw [← ht5]; exact arr_append t4 [32]
                  have cbt5 : ¬ 9223372036854775807 < t4.length + 1 := by omega
                  have Ht5 := Lib.hid ht5
                  clear ht5
                  obtain rfl : t5 = r1 := by rw [← HR1.out, if_neg hj0, ← Ht5.out, ← Ht4.out]; simp
                  clear hj0
                  go_wp2
                  go_meet
                  case rel => exact ⟨rfl, rfl⟩
              case rest =>
              obtain ⟨rfl, rfl⟩ := hcut
              obtain ⟨t6, ht6⟩ : ∃ t6, r1 ++ tx = t6 := ⟨_, rfl⟩
              have t6l : t6.length = r1.length + tx.length := by rw [← ht6, List.length_append]
              have SBt6 : (⟨r1.toArray⟩ : ByteArray) ++ (⟨tx.toArray⟩ : ByteArray) = ⟨t6.toArray⟩ := by rw [← ht6]; exact arr_append r1 tx
              have cbt6 : ¬ 9223372036854775807 < r1.length + tx.length := by omega
              have Ht6 := Lib.hid ht6
              clear ht6
              go_wp2_with fail
              go_roundw
              case rel => exact ⟨j + 1, hjt, by go_num, by rw [take_join _ _ HXJ.out, HR0.out, HTX.out, HR1.out, Ht6.out], HALL8.out, BZ8.out⟩
              case measure => simp [intOf]; omega
            · obtain rfl : j = KK.length := by omega
              have hjni : ¬ (KK.length : Int) < (KK.length : Int) := by omega
              have HALL : Hid (AllAt wq 0 (allMn xk) (.slice a9 KK.length c9)) := Lib.hid (by
                have h := AllAt.mono (show AllAt wq wz.heap.size ((KK.take KK.length).map relMn) (.slice a9 KK.length c9) from ⟨ar, by rw [HLJ.out]; exact HAR.out, HRL.out⟩)
                rw [List.take_length] at h
                unfold allMn
                rw [HKK.out]
                exact h)
              have XB1 : Hid (BoxT wq B #[.int .i64 ((C : Nat) : Int), u, .string ⟨#[]⟩] 39) := Lib.hid (BoxT.grown (BoxT.grown HLP.out.box (grown_of_below B7.out none) (by simp)) (grown_of_below BQ.out none) (by simp))
              have hcq := (HLP.out.cond.kept (grown_of_below B7.out none) (Apart.none _ _)).kept (grown_of_below BQ.out none) (Apart.none _ _)
              obtain ⟨cu9, hco, hcl⟩ := hcq
              have hlenk : ((LL.take k).map allMn).length = k := by rw [List.length_map, List.length_take]; omega
              rw [hlenk] at hco
              have HLK9 := Lib.hid hlenk
              obtain ⟨au, cu, hu⟩ := own_cap hco
              subst hu
              have G6 : Hid (w6.grownBy wq (some B)) := Lib.hid (gr_none (gr_none HLP.out.gr B7.out) BQ.out)
              have hr9 : q4 ++ joinM sep ((LL.take (k + 1)).map allTx) = r0 := by
                rw [take_join sep allTx HXK.out, HS0.out, ← HR0.out, List.take_length, ← HS1.out]
                unfold allTx
                rw [HKK.out, ← HSEP.out]
                by_cases h0 : k = 0
                · rw [if_pos h0, if_pos h0]
                · rw [if_neg h0, if_neg h0]; simp
              have HR9 := Lib.hid hr9
              have HCO := Lib.hid hco
              have HCL := Lib.hid hcl
              clear hlenk hco hcl hr9 HAR HRL hi hz0 hz1 hz2 HLJ
              obtain ⟨i2, ki, kz0, kz1, kz2⟩ := info_parts infoAll
              have e1 : wq.cell? ⟨B, 1, none⟩ = some (.slice au k cu) := XB1.out.box.cell 1
              have el := XB1.out.box.lt
              have hw6q := G6.out.size
              have hk9 : k ≤ 4 := Nat.le_trans hk hl4
              have h63 : k + 1 ≤ maxLen := Nat.le_trans (Nat.succ_le_succ hk9) (by unfold maxLen; decide)
              have hby : (k + 1) * 24 ≤ 140737488355328 := Nat.le_trans (Nat.mul_le_mul_right 24 (Nat.succ_le_succ hk9)) (by decide)
              have HBA : Hid (w6.heap.size ≤ (wq.alloc (.cells (#[.slice a9 KK.length c9] : Array Value) 47)).heap.size) := Lib.hid (Nat.le_trans hw6q (by simp))
              have HCA := Lib.hid (HCO.out.alloc (.cells (#[.slice a9 KK.length c9] : Array Value) 47))
              go_upto_region 27 with (at_builtin; refine wpList_append_own _ rfl _ _ 37 rfl w6.heap.size 47 i2 (.slice none 0 0) 1 24 Tryz.underlying37 ki kz0 kz1 kz2 rfl (by decide) (.slice au k cu) k cu9 rfl HCA.out ⟨wq.heap.size, 0, none⟩ 1 1 [.slice a9 KK.length c9] rfl rfl (lit_cells wq #[.slice a9 KK.length c9] 47) (by simp [Value.oneCell']) h63 hby HBA.out ?_; intro v8 w8 hown8 hgr8 _; obtain ⟨b8, d8, hv8⟩ := own_cap hown8; subst hv8; have XB8 := Lib.hid (BoxT.grown (XB1.out.alloc _) hgr8 (own_ne HCA.out xl)); have HC8 : Hid (CondAt w8 w6.heap.size ((LL.take k).map allMn ++ [allMn xk]) (.slice b8 (k + 1) d8)) := Lib.hid (cond_append (by rw [HLK9.out]; exact HCO.out) HCL.out (allMn xk) _ HALL.out (by rw [HLK9.out]; exact hown8) hgr8); have G8 : Hid (w6.grownBy w8 (some B)) := Lib.hid (gr_step (gr_step G6.out (World.grownBy_alloc wq _ none) (fun _ e => by cases e)) hgr8 (fun q hq => (HCA.out.lt q hq).1)); have f1 : w8.cell? ⟨B, 1, none⟩ = some (.slice au k cu) := XB8.out.box.cell 1; have f2 := XB8.out.box.frozen 1; have f3 := XB8.out.box.lt; clear hown8 hgr8)
              have HLPN : Hid (LpC w6 (w8.setCell ⟨B, 1, none⟩ (.slice b8 (k + 1) d8)) B #[.int .i64 ((C : Nat) : Int), .slice b8 (k + 1) d8, .string ⟨#[]⟩] ((LL.take (k + 1)).map allMn) (.slice b8 (k + 1) d8)) := Lib.hid ⟨XB8.out.set 1 (.slice b8 (k + 1) d8), by rw [takeM_snoc allMn HXK.out]; exact HC8.out.kept (grown_set (World.grownBy.refl w8 _) 1 (.slice b8 (k + 1) d8)) (BoxT.apart XB8.out (by decide)), grown_set G8.out 1 (.slice b8 (k + 1) d8)⟩
              clear f1 f2 f3 e1 XB8 HC8 G8
              generalize w8.setCell ⟨B, 1, none⟩ (.slice b8 (k + 1) d8) = w9 at *
              go_wp2_with fail
              go_roundw
              case rel => exact ⟨k + 1, .slice b8 (k + 1) d8, hlt, by go_num, by rw [HR9.out], HLPN.out⟩
              case measure => simp [intOf]; omega
        · obtain rfl : k = LL.length := by omega
          have hlni : ¬ (LL.length : Int) < (LL.length : Int) := by omega
          go_wp2
          go_meet
          case rel => exact ⟨u, by rw [← HS0.out, List.take_length], by have h := HLP.out; rw [List.take_length] at h; exact h⟩
  case rest =>
  obtain ⟨u, rfl, hh⟩ := hcut
  have HLP := Lib.hid hh
  obtain ⟨cu9, hco, hcl⟩ := hh.cond
  obtain ⟨au, cu, hu⟩ := own_cap hco
  subst hu
  clear hh hco hcl
  obtain ⟨P, hP⟩ : ∃ P, modM sp 5 = P := ⟨_, rfl⟩
  have hPm := modM_is sp 5 (by decide) (by decide)
  rw [hP] at hPm
  have hP5 : P < 5 := by have := hPm.2; omega
  have hPe := hPm.1
  have hPi : (P : Int) < 5 := hPm.2
  have HPP := Lib.hid hP
  clear hP hPm
  have hBw : w.heap.size + 1 < B := by omega
  have m2 : wc.cell? ⟨w.heap.size, 2, none⟩ = some (.int .i64 sp) := HLP.out.gr.cell ((H6.out.f (List.Mem.tail _ (List.Mem.tail _ (List.Mem.head _)))).cell 2) (fun e => by have h := Option.some.inj e; simp only at h; omega)
  have ml6 : w.heap.size < wc.heap.size := by have := HLP.out.gr.size; omega
  have HS5 := Lib.hid (BoxT.new wc (#[.string ⟨#[]⟩, .string ⟨#[64, 105, 110, 116, 101, 103, 101, 114, 32, 49, 44, 32, 50, 49, 126, 50, 52, 44, 32, 226, 128, 166]⟩, .string ⟨#[64, 100, 101, 99, 105, 109, 97, 108, 32, 48, 46, 48]⟩, .string ⟨#[64, 32, 119, 104, 97, 116, 32, 101, 118, 101, 114, 32, 64]⟩, .string ⟨#[]⟩] : Array Value) 9)
  have l5 : (wc.alloc (.cells (#[.string ⟨#[]⟩, .string ⟨#[64, 105, 110, 116, 101, 103, 101, 114, 32, 49, 44, 32, 50, 49, 126, 50, 52, 44, 32, 226, 128, 166]⟩, .string ⟨#[64, 100, 101, 99, 105, 109, 97, 108, 32, 48, 46, 48]⟩, .string ⟨#[64, 32, 119, 104, 97, 116, 32, 101, 118, 101, 114, 32, 64]⟩, .string ⟨#[]⟩] : Array Value) 9)).cell? ⟨wc.heap.size, P, none⟩ = some (S (smpB P)) := (HS5.out.box.cell P).trans (smp_at P hP5)
  have XBc := Lib.hid (HLP.out.box.alloc (.cells (#[.string ⟨#[]⟩, .string ⟨#[64, 105, 110, 116, 101, 103, 101, 114, 32, 49, 44, 32, 50, 49, 126, 50, 52, 44, 32, 226, 128, 166]⟩, .string ⟨#[64, 100, 101, 99, 105, 109, 97, 108, 32, 48, 46, 48]⟩, .string ⟨#[64, 32, 119, 104, 97, 116, 32, 101, 118, 101, 114, 32, 64]⟩, .string ⟨#[]⟩] : Array Value) 9))
  have e2 : (wc.alloc (.cells (#[.string ⟨#[]⟩, .string ⟨#[64, 105, 110, 116, 101, 103, 101, 114, 32, 49, 44, 32, 50, 49, 126, 50, 52, 44, 32, 226, 128, 166]⟩, .string ⟨#[64, 100, 101, 99, 105, 109, 97, 108, 32, 48, 46, 48]⟩, .string ⟨#[64, 32, 119, 104, 97, 116, 32, 101, 118, 101, 114, 32, 64]⟩, .string ⟨#[]⟩] : Array Value) 9)).cell? ⟨B, 2, none⟩ = some (.string ⟨#[]⟩) := XBc.out.box.cell 2
  have e3 := XBc.out.box.frozen 2
  have e4 := XBc.out.box.lt
  obtain ⟨sm, hsm⟩ : ∃ sm, smpB P = sm := ⟨_, rfl⟩
  have sml : sm.length ≤ 22 := by rw [← hsm]; exact smp_len P hP5
  rw [hsm] at l5
  have HSM := Lib.hid hsm
  clear hsm
  go_upto_region 29 with fail
  have XN := Lib.hid (XBc.out.set 2 (S sm))
  have ZN := Lib.hid (BoxT.other (a := ⟨B, 2, none⟩) ((BoxT.grown ZT6.out HLP.out.gr (fun e => by have h := Option.some.inj e; omega)).alloc (.cells (#[.string ⟨#[]⟩, .string ⟨#[64, 105, 110, 116, 101, 103, 101, 114, 32, 49, 44, 32, 50, 49, 126, 50, 52, 44, 32, 226, 128, 166]⟩, .string ⟨#[64, 100, 101, 99, 105, 109, 97, 108, 32, 48, 46, 48]⟩, .string ⟨#[64, 32, 119, 104, 97, 116, 32, 101, 118, 101, 114, 32, 64]⟩, .string ⟨#[]⟩] : Array Value) 9)) (by simp only; omega) (S sm))
  have CN := Lib.hid ((HLP.out.cond.kept (World.grownBy_alloc wc (.cells (#[.string ⟨#[]⟩, .string ⟨#[64, 105, 110, 116, 101, 103, 101, 114, 32, 49, 44, 32, 50, 49, 126, 50, 52, 44, 32, 226, 128, 166]⟩, .string ⟨#[64, 100, 101, 99, 105, 109, 97, 108, 32, 48, 46, 48]⟩, .string ⟨#[64, 32, 119, 104, 97, 116, 32, 101, 118, 101, 114, 32, 64]⟩, .string ⟨#[]⟩] : Array Value) 9) none) (Apart.none _ _)).kept (grown_set (World.grownBy.refl _ _) 2 (S sm)) (BoxT.apart XBc.out (by decide)))
  have BN := Lib.hid (below_gr (below_gr H6.out.bel HLP.out.gr (by omega)) (grown_set (World.grownBy_alloc wc (.cells (#[.string ⟨#[]⟩, .string ⟨#[64, 105, 110, 116, 101, 103, 101, 114, 32, 49, 44, 32, 50, 49, 126, 50, 52, 44, 32, 226, 128, 166]⟩, .string ⟨#[64, 100, 101, 99, 105, 109, 97, 108, 32, 48, 46, 48]⟩, .string ⟨#[64, 32, 119, 104, 97, 116, 32, 101, 118, 101, 114, 32, 64]⟩, .string ⟨#[]⟩] : Array Value) 9) (some B)) 2 (S sm)) (by omega))
  clear l5 m2 e2 e3 e4 HS5 XBc
  generalize (wc.alloc (.cells (#[.string ⟨#[]⟩, .string ⟨#[64, 105, 110, 116, 101, 103, 101, 114, 32, 49, 44, 32, 50, 49, 126, 50, 52, 44, 32, 226, 128, 166]⟩, .string ⟨#[64, 100, 101, 99, 105, 109, 97, 108, 32, 48, 46, 48]⟩, .string ⟨#[64, 32, 119, 104, 97, 116, 32, 101, 118, 101, 114, 32, 64]⟩, .string ⟨#[]⟩] : Array Value) 9)).setCell ⟨B, 2, none⟩ (S sm) = w9 at *
  have TCb : TC.length ≤ 3300 := by
    rw [← HTC.out]
    by_cases h5 : C = 5
    · rw [if_pos h5]; simp
    · rw [if_neg h5]
      have h1 := joinM_len sep 800 (LL.map allTx) (fun l hl => by
        obtain ⟨x, hx, rfl⟩ := List.mem_map.1 hl
        exact allTx_len (anyL_b HB.out.2 x (by rw [HLL.out]; exact hx)) (anyL_r HR.out x (by rw [HLL.out]; exact hx)))
      rw [List.length_map] at h1
      have h2 : LL.length * (800 + sep.length) ≤ 4 * 806 := Nat.mul_le_mul (by omega) (by omega)
      omega
  obtain ⟨s9, hs9⟩ : ∃ s9, q4 ++ TC = s9 := ⟨_, rfl⟩
  have s9b : s9.length ≤ 3312 := by rw [← hs9, List.length_append]; omega
  rw [hs9]
  have HS9 := Lib.hid hs9
  clear hs9
  obtain ⟨p1, hp1⟩ : ∃ p1, s9 ++ [32] = p1 := ⟨_, rfl⟩
  have p1l : p1.length = s9.length + 1 := by rw [← hp1, List.length_append]; rfl
  have SBp1 : (⟨s9.toArray⟩ : ByteArray) ++ (⟨#[32]⟩ : ByteArray) = ⟨p1.toArray⟩ := by rw [← hp1]; exact arr_append s9 [32]
  have cbp1 : ¬ 9223372036854775807 < s9.length + 1 := by omega
  have Hp1 := Lib.hid hp1
  clear hp1
  obtain ⟨p2, hp2⟩ : ∃ p2, p1 ++ sm = p2 := ⟨_, rfl⟩
  have p2l : p2.length = p1.length + sm.length := by rw [← hp2, List.length_append]
  have SBp2 : (⟨p1.toArray⟩ : ByteArray) ++ (⟨sm.toArray⟩ : ByteArray) = ⟨p2.toArray⟩ := by rw [← hp2]; exact arr_append p1 sm
  have cbp2 : ¬ 9223372036854775807 < p1.length + sm.length := by omega
  have Hp2 := Lib.hid hp2
  clear hp2
  obtain ⟨p3, hp3⟩ : ∃ p3, p2 ++ g = p3 := ⟨_, rfl⟩
  have p3l : p3.length = p2.length + g.length := by rw [← hp3, List.length_append]
  have SBp3 : (⟨p2.toArray⟩ : ByteArray) ++ (⟨g.toArray⟩ : ByteArray) = ⟨p3.toArray⟩ := by rw [← hp3]; exact arr_append p2 g
  have cbp3 : ¬ 9223372036854775807 < p2.length + g.length := by omega
  have Hp3 := Lib.hid hp3
  clear hp3
  have y0 : w9.drew.cell? ⟨B, 0, none⟩ = some (.int .i64 ((C : Nat) : Int)) := XN.out.box.cell 0
  have y1 : w9.drew.cell? ⟨B, 1, none⟩ = some (.slice au MC.length cu) := XN.out.box.cell 1
  have y2 : w9.drew.cell? ⟨B, 2, none⟩ = some (S sm) := XN.out.box.cell 2
  have yl : B < w9.drew.heap.size := XN.out.box.lt
  have z0 : w9.drew.cell? ⟨w.heap.size + 1, 0, none⟩ = some (.int .i64 0) := ZN.out.box.cell 0
  have z1 : w9.drew.cell? ⟨w.heap.size + 1, 1, none⟩ = some (.slice none 0 0) := ZN.out.box.cell 1
  have z2 : w9.drew.cell? ⟨w.heap.size + 1, 2, none⟩ = some (.string ⟨#[]⟩) := ZN.out.box.cell 2
  have z3 : w9.drew.frozen? ⟨w.heap.size + 1, 0, none⟩ = false := ZN.out.box.frozen 0
  have z4 : w9.drew.frozen? ⟨w.heap.size + 1, 1, none⟩ = false := ZN.out.box.frozen 1
  have z5 : w9.drew.frozen? ⟨w.heap.size + 1, 2, none⟩ = false := ZN.out.box.frozen 2
  have zl9 : w.heap.size + 1 < w9.drew.heap.size := ZN.out.box.lt
  have x0' : w9.cell? ⟨w.heap.size + 1, 0, none⟩ = some (.int .i64 0) := z0
  have x1' : w9.cell? ⟨w.heap.size + 1, 1, none⟩ = some (.slice none 0 0) := z1
  have x2' : w9.cell? ⟨w.heap.size + 1, 2, none⟩ = some (.string ⟨#[]⟩) := z2
  have x3' : w9.frozen? ⟨w.heap.size + 1, 0, none⟩ = false := z3
  have x4' : w9.frozen? ⟨w.heap.size + 1, 1, none⟩ = false := z4
  have x5' : w9.frozen? ⟨w.heap.size + 1, 2, none⟩ = false := z5
  have xl9 : w.heap.size + 1 < w9.heap.size := zl9
  have y0' : w9.cell? ⟨B, 0, none⟩ = some (.int .i64 ((C : Nat) : Int)) := y0
  have y1' : w9.cell? ⟨B, 1, none⟩ = some (.slice au MC.length cu) := y1
  have y2' : w9.cell? ⟨B, 2, none⟩ = some (S sm) := y2
  have hne1 : ¬ w.heap.size + 1 = B := by omega
  have hne2 : ¬ B = w.heap.size + 1 := by omega
  clear p1l p2l p3l
  go_region
  have ZF := Lib.hid ((Box.store3 ZN.out.box (.int .i64 ((C : Nat) : Int)) (.slice au MC.length cu) (S sm)).drew)
  have GF := Lib.hid (grown_set (grown_set (grown_set (World.grownBy.refl w9 (some (w.heap.size + 1))) 0 (.int .i64 ((C : Nat) : Int))) 1 (.slice au MC.length cu)) 2 (S sm))
  have CF := Lib.hid ((CN.out.kept GF.out (BoxT.apart ZN.out (by decide))).kept (grown_of_below ((Below.refl _ _).drew) none) (Apart.none _ _))
  have BF := Lib.hid ((below_gr BN.out GF.out (by omega)).drew)
  have e2 : msmp ⟨ct, gp, sp, any⟩ = sm := by show smpB (modM sp 5) = sm; rw [HPP.out]; exact HSM.out
  have e1 : mcat ⟨ct, gp, sp, any⟩ = C := HCC.out
  have e4 : (madeMn ⟨ct, gp, sp, any⟩).any = MC := by unfold madeMn condMn; dsimp only; rw [e1, HLL.out, HMC.out]
  have e3 : madeTx ⟨ct, gp, sp, any⟩ = p3 := by
    unfold madeTx
    rw [HQ4.out, e2, show bl (mqN ⟨ct, gp, sp, any⟩) = g from HG.out, e1]
    unfold condTx
    dsimp only
    rw [HLL.out, HSEP.out, HTC.out, HS9.out, Hp1.out, Hp2.out, Hp3.out]
  have hle : w.heap.size ≤ w6.heap.size := H6.out.bel.size
  have HE := Lib.hid e1
  have HE2 := Lib.hid e2
  have HE3 := Lib.hid e3
  have HE4 := Lib.hid e4
  clear e1 e2 e3 e4 y0 y1 y2 z0 z1 z2 z3 z4 z5 x0' x1' x2' x3' x4' x5' y0' y1' y2'
  generalize ((((w9.setCell ⟨w.heap.size + 1, 0, none⟩ (.int .i64 ((C : Nat) : Int))).setCell ⟨w.heap.size + 1, 1, none⟩ (.slice au MC.length cu)).setCell ⟨w.heap.size + 1, 2, none⟩ (S sm)).drew) = wF at *
  have r0 : wF.cell? ⟨w.heap.size + 1, 0, none⟩ = some (.int .i64 ((C : Nat) : Int)) := ZF.out.cell 0
  have r1 : wF.cell? ⟨w.heap.size + 1, 1, none⟩ = some (.slice au MC.length cu) := ZF.out.cell 1
  have r2 : wF.cell? ⟨w.heap.size + 1, 2, none⟩ = some (S sm) := ZF.out.cell 2
  go_wp2
  exact bodyPost_ret (v := .tuple #[.agg #[.int .i64 ((C : Nat) : Int), .slice au MC.length cu, S sm], S p3]) (by simp [results, Tryz.results30, go_sem, r0, r1, r2]) rfl ⟨_, by rw [HE.out, HE2.out, HE3.out], by rw [HE4.out]; exact CF.out.lower hle, BF.out⟩

end Go.Proofs.YtkjhdehpcanciaaGreatDoor

namespace Go.Proofs.YtkjhdehpcanciaaGreatDoor
open Go.RowKit Florin
set_option linter.unusedVariables false
set_option linter.unusedSimpArgs false
theorem keep_snoc (x : MadeM) : ∀ (l : List MadeM) (s : List Nat), keepM s (l ++ [x]) = if (s.contains (mcat x) || (keepM s l).any (fun m => mcat m == mcat x)) = true then keepM s l else keepM s l ++ [x]
  | [], s => by
    show keepM s [x] = _
    unfold keepM
    by_cases h : s.contains (mcat x) = true
    · rw [if_pos h, if_pos (by rw [h]; rfl)]; rfl
    · have h' : s.contains (mcat x) = false := by simpa using h
      rw [if_neg h, if_neg (by rw [h']; simp [keepM])]; rfl
  | m :: l, s => by
    show keepM s (m :: (l ++ [x])) = _
    unfold keepM
    by_cases h : s.contains (mcat m) = true
    · rw [if_pos h, if_pos h]; exact keep_snoc x l s
    · rw [if_neg h, if_neg h, keep_snoc x l (mcat m :: s)]
      have e : ((mcat m :: s).contains (mcat x) || (keepM (mcat m :: s) l).any fun m => mcat m == mcat x) = (s.contains (mcat x) || (m :: keepM (mcat m :: s) l).any fun m => mcat m == mcat x) := by
        rw [List.contains_cons, List.any_cons, Bool.beq_comm (a := mcat x)]
        cases (mcat m == mcat x) <;> cases s.contains (mcat x) <;> simp
      rw [e]
      by_cases h2 : (s.contains (mcat x) || (m :: keepM (mcat m :: s) l).any fun m => mcat m == mcat x) = true
      · rw [if_pos h2, if_pos h2]
      · rw [if_neg h2, if_neg h2]; rfl
/-- Which categories there are already. -/
noncomputable def sfM (ks : List MadeM) (c : Nat) : Bool := ks.any (fun m => mcat m == c)
def seenA (f : Nat → Bool) : Array Value := #[.bool (f 0), .bool (f 1), .bool (f 2), .bool (f 3), .bool (f 4), .bool (f 5)]
theorem seen_get (f : Nat → Bool) : ∀ c, c < 6 → (seenA f)[c]? = some (.bool (f c))
  | 0, _ => rfl
  | 1, _ => rfl
  | 2, _ => rfl
  | 3, _ => rfl
  | 4, _ => rfl
  | 5, _ => rfl
  | c + 6, h => absurd h (by omega)
theorem seen_set (f : Nat → Bool) : ∀ c, c < 6 → (seenA f).setIfInBounds c (.bool true) = seenA (fun i => if i = c then true else f i)
  | 0, _ => rfl
  | 1, _ => rfl
  | 2, _ => rfl
  | 3, _ => rfl
  | 4, _ => rfl
  | 5, _ => rfl
  | c + 6, h => absurd h (by omega)
theorem sf_snoc (ks : List MadeM) (m : MadeM) : sfM (ks ++ [m]) = fun i => if i = mcat m then true else sfM ks i := by
  funext i
  unfold sfM
  rw [List.any_append]
  by_cases h : i = mcat m
  · simp [h]
  · have : (mcat m == i) = false := by simpa using fun e => h e.symm
    simp [h, this]
theorem keep_take {ms : List MadeM} {k : Nat} {m : MadeM} (h : ms[k]? = some m) : keepM [] (ms.take (k + 1)) = if sfM (keepM [] (ms.take k)) (mcat m) = true then keepM [] (ms.take k) else keepM [] (ms.take k) ++ [m] := by
  obtain ⟨hj, hx⟩ := List.getElem?_eq_some_iff.1 h
  rw [List.take_succ_eq_append_getElem hj, hx, keep_snoc]
  simp [sfM]
theorem made_cells {w wq : World} {ms : List MadeM} {cs : List Value} {b off k : Nat} {m : MadeM} (h : ListAt (MadeAt w) ms cs) (hc : ∀ j, j < ms.length * 4 → w.cell? ⟨b, off + j, none⟩ = cs[j]?) (hb : b < w.heap.size) (hq : Below w.heap.size w wq) (hx : ms[k]? = some m) :
    ∃ v, AnymAt w m.any v ∧ wq.cell? ⟨b, off + k * 4, none⟩ = some (.int .i64 m.cat) ∧ wq.cell? ⟨b, off + k * 4 + 1, none⟩ = some (.int .i64 m.gp) ∧ wq.cell? ⟨b, off + k * 4 + 2, none⟩ = some (.int .i64 m.smp) ∧ wq.cell? ⟨b, off + k * 4 + 3, none⟩ = some v := by
  obtain ⟨hj, hxj⟩ := List.getElem?_eq_some_iff.1 hx
  obtain ⟨cj, ⟨vj, hcj, hnj⟩, hgj⟩ := ListAt.get (sz := 4) (fun x c ⟨u, e, _⟩ => by rw [e]; rfl) h k hj
  rw [hxj] at hcj hnj
  have CE : ∀ i, i < 4 → wq.cell? ⟨b, off + k * 4 + i, none⟩ = cj[i]? := fun i hi => by
    rw [Nat.add_assoc]
    exact (hq.cell (p := ⟨b, off + (k * 4 + i), none⟩) hb).trans ((hc (k * 4 + i) (by omega)).trans (hgj i hi))
  rw [hcj] at CE
  exact ⟨vj, hnj, CE 0 (by decide), CE 1 (by decide), CE 2 (by decide), CE 3 (by decide)⟩
theorem madeTx_len {m : MadeM} (hb : madeB m) (hr : ∀ a ∈ m.any, ∀ r ∈ a, r.rs.length ≤ 5) : (madeTx m).length ≤ 3400 := by
  have hg : (bl (mqN m)).length ≤ 2 := gapB_len (andN m.gp 3)
  have hw : ∀ k, k < 6 → (wordW k).length ≤ 5 := by decide
  have h1 := hw (mcat m) (mcat_lt m)
  have h5 : (msmp m).length ≤ 22 := smp_len _ (by have := (modM_is m.smp 5 (by decide) (by decide)).2; omega)
  have h6 : (if mcat m = 5 then [] else condTx (bl (mqN m)) m.any).length ≤ 3300 := by
    split
    · simp
    · unfold condTx
      have h1 := joinM_len ([32, 111, 114] ++ bl (mqN m) ++ [32]) 800 ((anyL m.any).map allTx) (fun l hl => by
        obtain ⟨x, hx, rfl⟩ := List.mem_map.1 hl
        exact allTx_len (anyL_b hb.2 x hx) (anyL_r hr x hx))
      rw [List.length_map] at h1
      have h3 := anyL_len hb.1
      have h2 : (anyL m.any).length * (800 + ([32, 111, 114] ++ bl (mqN m) ++ [32]).length) ≤ 4 * 806 := Nat.mul_le_mul h3 (by rw [List.length_append, List.length_append]; simp only [List.length_cons, List.length_nil]; omega)
      omega
  unfold madeTx
  simp only [List.length_append, List.length_cons, List.length_nil]
  omega
theorem RulesAt.move {w w' : World} {base : Nat} {xs : List RuleT} {v : Value} (h : RulesAt w base xs v) (hb : Below w.heap.size w w') : RulesAt w' base xs v := RulesAt.kept h (grown_of_below hb none) (Apart.none _ _)
end Go.Proofs.YtkjhdehpcanciaaGreatDoor

namespace Go.Proofs.YtkjhdehpcanciaaGreatDoor
open Go.RowKit Florin
set_option linter.unusedVariables false
set_option linter.unusedSimpArgs false
attribute [local go_sem ↓] Go.wp_at_zero Go.wp_at_succ
theorem BoxT.rowX {w w' : World} {B : Nat} {e : TypeId} {size : Nat} {v : Value} {n : Nat} {xs : List Value} {b : Nat} {cs : Array Value} {t : TypeId} (h : BoxT w b cs t) (ho : w.ownsRow B e size v n xs) (hg : w.grownBy w' v.ownBlock) (ht : t ≠ e) : BoxT w' b cs t := by
  rcases ho.2 with ⟨rfl, _⟩ | ⟨g, cap, cur, rfl, _, hq, _⟩
  · exact h.grown hg (by simp [Value.ownBlock])
  · refine h.grown hg (fun hh => ht ?_)
    have hbg : b = g := by simpa [Value.ownBlock] using hh
    subst hbg
    have h1 : w.heap[b]? = some (.cells cs t) := h
    rw [h1] at hq
    injection hq with h2
    injection h2
theorem keep_len (ms : List MadeM) (k : Nat) : (keepM [] (ms.take k)).length ≤ ms.length := by
  have h := (keep_sub (ms.take k) []).2.2
  rw [List.length_take] at h
  omega
theorem keep_mem {ms : List MadeM} {k : Nat} {m : MadeM} (h : m ∈ keepM [] (ms.take k)) : m ∈ ms := List.mem_of_mem_take ((keep_sub (ms.take k) []).1 m h).1
set_option maxRecDepth 100000 in
set_option maxHeartbeats 12800000 in
theorem allM_as (ms : List MadeM) (v : Value) (e : Int) (w : World) (ht : Tab w) (hW : Wds w) (hv : MadesAt w ms v) (hn : ms.length ≤ 8) (hb : ∀ m ∈ ms, madeB m) (hr : ∀ m ∈ ms, ∀ a ∈ m.any, ∀ r ∈ a, r.rs.length ≤ 5) :
    Calls Tryz.prog 12 #[v, .int .i64 e] w fun x w' => ∃ u, x = .returned (.tuple #[u, S (madesTx ms e)]) ∧ RulesAt w' w.heap.size (madesMn ms) u ∧ Below w.heap.size w w' := by
  obtain ⟨cs, ⟨a, c, rfl, hnc, hcm, hlen, hcell⟩, hL⟩ := hv
  have HC : Hid (0 < ms.length → ∃ b off, a = some ⟨b, off, none⟩ ∧ b < w.heap.size ∧ ∀ j, j < ms.length * 4 → w.cell? ⟨b, off + j, none⟩ = cs[j]?) := Lib.hid hcell
  have HL := Lib.hid hL
  have HT := Lib.hid ht
  have HW := Lib.hid hW
  have HB := Lib.hid hb
  have HR := Lib.hid hr
  have hcmi : (c : Int) ≤ 9223372036854775807 := by unfold maxLen at hcm; omega
  clear hcell hL ht hW hb hr hlen
  go_enter Tryz.func12, Tryz.ntmps12
  go_wp2_with fail
  go_loopw [6, 7, 17] (fun v6 v7 i wr => ∃ k : Nat, k ≤ ms.length ∧ i = .int .i64 (k : Int) ∧ RulesAt wr w.heap.size ((keepM [] (ms.take k)).map madeMn) v6 ∧ v7 = S (joinM [59] ((keepM [] (ms.take k)).map madeTx)) ∧ BoxT wr (w.heap.size + 1) (seenA (sfM (keepM [] (ms.take k)))) 70 ∧ Below w.heap.size w wr) (fun _ _ i _ => ms.length - (intOf i).toNat)
  case atStart =>
    refine ⟨0, Nat.zero_le _, rfl, ⟨[], World.ownsRow.alloc (World.ownsRow_lit w #[] 0 (Nat.le_refl _) (by decide) rfl) _, rfl⟩, by simp [keepM, joinM, List.intercalate], ?_, ((Below.refl _ _).alloc (Nat.le_refl _) _).alloc (by simp) _⟩
    have h := BoxT.new (w.alloc (.cells #[] 39)) (#[.bool false, .bool false, .bool false, .bool false, .bool false, .bool false] : Array Value) 70
    rw [show (w.alloc (.cells #[] 39)).heap.size = w.heap.size + 1 by simp] at h
    rw [show seenA (sfM (keepM [] (ms.take 0))) = #[.bool false, .bool false, .bool false, .bool false, .bool false, .bool false] by simp [keepM, sfM, seenA]]
    exact h
  case round =>
    obtain ⟨k, hk, rfl, hru, rfl, hsb, hbw⟩ := hrel
    obtain ⟨KP, hKP⟩ : ∃ KP, keepM [] (ms.take k) = KP := ⟨_, rfl⟩
    have hKl : KP.length ≤ 8 := by rw [← hKP]; exact Nat.le_trans (keep_len ms k) hn
    have HKM : Hid (∀ m ∈ KP, m ∈ ms) := Lib.hid (by rw [← hKP]; exact fun m hm => keep_mem hm)
    rw [hKP] at hru hsb
    rw [hKP]
    have HKP := Lib.hid hKP
    obtain ⟨rs6, hro, hrl⟩ := hru
    rw [List.length_map] at hro
    obtain ⟨a6, c6, h6⟩ := own_cap hro
    subst h6
    have HRU : Hid (RulesAt wr w.heap.size (KP.map madeMn) (.slice a6 KP.length c6)) := Lib.hid ⟨rs6, by rw [List.length_map]; exact hro, hrl⟩
    have HSB := Lib.hid hsb
    have HBW := Lib.hid hbw
    have hsz := hbw.size
    have hsl := hsb.box.lt
    obtain ⟨s0, hs0⟩ : ∃ s0, joinM [59] (KP.map madeTx) = s0 := ⟨_, rfl⟩
    rw [hs0]
    have HS0 := Lib.hid hs0
    clear hKP hro hrl hsb hbw hs0
    have s0b : s0.length ≤ 27300 := by
      rw [← HS0.out]
      have h1 := joinM_len [59] 3400 (KP.map madeTx) (fun l hl => by
        obtain ⟨x, hx, rfl⟩ := List.mem_map.1 hl
        exact madeTx_len (HB.out x (HKM.out x hx)) (HR.out x (HKM.out x hx)))
      rw [List.length_map] at h1
      have h2 : KP.length * (3400 + ([59] : List UInt8).length) ≤ 8 * 3401 := Nat.mul_le_mul hKl (by simp)
      omega
    by_cases hlt : k < ms.length
    · have hlti : (k : Int) < (ms.length : Int) := Int.ofNat_lt.2 hlt
      obtain ⟨m, hm⟩ : ∃ m, ms[k] = m := ⟨_, rfl⟩
      have HMK : Hid (ms[k]? = some m) := Lib.hid (by rw [List.getElem?_eq_getElem hlt, hm])
      have HMM : Hid (m ∈ ms) := Lib.hid (List.mem_of_getElem? HMK.out)
      clear hm
      obtain ⟨b, off, rfl, hbl, hbc⟩ := HC.out (Nat.lt_of_le_of_lt (Nat.zero_le _) hlt)
      obtain ⟨v4, hnv, e0, e1, e2, e3⟩ := made_cells HL.out hbc hbl HBW.out HMK.out
      clear hbc
      obtain ⟨a4, n4, h4⟩ : ∃ a4 n4, v4 = .slice a4 m.any.length n4 := by obtain ⟨_, ⟨x, y, e, _⟩, _⟩ := hnv; exact ⟨x, y, e⟩
      subst h4
      have HNV := Lib.hid hnv
      clear hnv
      have hk0 : (0 : Int) ≤ (k : Int) := Int.natCast_nonneg k
      have hkc : (k : Int) < (c : Int) := Int.ofNat_lt.2 (Nat.lt_of_lt_of_le hlt hnc)
      have glr : b < wr.heap.size := Nat.lt_of_lt_of_le hbl hsz
      obtain ⟨C, hC⟩ : ∃ C, mcat m = C := ⟨_, rfl⟩
      have hC6 : C < 6 := by rw [← hC]; exact mcat_lt m
      have hC6i : (C : Int) < 6 := Int.ofNat_lt.2 hC6
      have hC0i : (0 : Int) ≤ (C : Int) := Int.natCast_nonneg C
      have HCC := Lib.hid hC
      have HCM : Hid (∀ w', Calls Tryz.prog 29 #[.agg #[.int .i64 m.cat, .int .i64 m.gp, .int .i64 m.smp, .slice a4 m.any.length n4]] w' fun x w'' => x = .returned (.int .i64 (C : Int)) ∧ Below w'.heap.size w' w'') := Lib.hid (fun w' => by
        have h := mcat_as m a4 m.any.length n4 w'
        rw [show modM m.cat 6 = C from hC] at h
        exact h)
      clear hC
      have HMB := Lib.hid (BoxT.new wr (#[.int .i64 m.cat, .int .i64 m.gp, .int .i64 m.smp, .slice a4 m.any.length n4] : Array Value) 62)
      have NB0 := Lib.hid ((Below.refl wr.heap.size wr).alloc (Nat.le_refl _) (.cells (#[.int .i64 m.cat, .int .i64 m.gp, .int .i64 m.smp, .slice a4 m.any.length n4] : Array Value) 62))
      go_wp2_with fail
      with_reducible refine (HCM.out _).mono ?_
      rintro x w1 ⟨rfl, hb1⟩
      have NB1 : Hid (Below wr.heap.size wr w1) := Lib.hid (NB0.out.trans (hb1.mono NB0.out.size))
      have MB1 := Lib.hid (BoxT.grown HMB.out (grown_of_below hb1 none) (by simp))
      have SB1 := Lib.hid (BoxT.grown HSB.out (grown_of_below NB1.out none) (by simp))
      have RU1 := Lib.hid (HRU.out.move NB1.out)
      have BW1 : Hid (Below w.heap.size w w1) := Lib.hid (HBW.out.trans (NB1.out.mono hsz))
      clear hb1 HMB NB0 HRU HSB e0 e1 e2 e3 glr hbl hkc hk0
      obtain ⟨sc, hsc⟩ : ∃ sc, sfM KP C = sc := ⟨_, rfl⟩
      have f0 : w1.cell? ⟨w.heap.size + 1, C, none⟩ = some (.bool sc) := (SB1.out.box.cell C).trans (by rw [seen_get _ C hC6, hsc])
      have f1 := SB1.out.box.frozen C
      have f2 := SB1.out.box.lt
      have m0 : w1.cell? ⟨wr.heap.size, 0, none⟩ = some (.int .i64 m.cat) := MB1.out.box.cell 0
      have m1 : w1.cell? ⟨wr.heap.size, 1, none⟩ = some (.int .i64 m.gp) := MB1.out.box.cell 1
      have m2 : w1.cell? ⟨wr.heap.size, 2, none⟩ = some (.int .i64 m.smp) := MB1.out.box.cell 2
      have m3 : w1.cell? ⟨wr.heap.size, 3, none⟩ = some (.slice a4 m.any.length n4) := MB1.out.box.cell 3
      have HSC := Lib.hid hsc
      clear hsc
      cases sc with
      | true =>
        have HKT : Hid (keepM [] (ms.take (k + 1)) = KP) := Lib.hid (by rw [keep_take HMK.out, HKP.out, HCC.out, if_pos HSC.out])
        go_wp2_with fail
        go_roundw
        case rel =>
          refine ⟨k + 1, hlt, by go_num, ?_⟩
          rw [HKT.out]
          exact ⟨RU1.out, by rw [HS0.out], SB1.out, BW1.out⟩
        case measure => simp [intOf]; omega
      | false =>
        have HKT : Hid (keepM [] (ms.take (k + 1)) = KP ++ [m]) := Lib.hid (by rw [keep_take HMK.out, HKP.out, HCC.out, if_neg (by rw [HSC.out]; decide)])
        go_wp2_with fail
        with_reducible refine (HCM.out _).mono ?_
        rintro x w2 ⟨rfl, hb2⟩
        have MB2 := Lib.hid (BoxT.grown MB1.out (grown_of_below hb2 none) (by simp))
        have SB2 := Lib.hid (BoxT.grown SB1.out (grown_of_below hb2 none) (by simp))
        have RU2 := Lib.hid (RU1.out.move hb2)
        have BW2 : Hid (Below w.heap.size w w2) := Lib.hid (BW1.out.trans (hb2.mono BW1.out.size))
        have g0 : w2.cell? ⟨w.heap.size + 1, C, none⟩ = some (.bool false) := (hb2.cell (p := ⟨w.heap.size + 1, C, none⟩) f2).trans f0
        have g1 := SB2.out.box.frozen C
        have g2 := SB2.out.box.lt
        clear hb2 f0 f1 f2 m0 m1 m2 m3 MB1 SB1 RU1
        go_upto_region 9 with fail
        have MB3 := Lib.hid (BoxT.other (a := ⟨w.heap.size + 1, C, none⟩) MB2.out (by simp only; omega) (.bool true))
        have SB3 : Hid (BoxT (w2.setCell ⟨w.heap.size + 1, C, none⟩ (.bool true)) (w.heap.size + 1) (seenA (sfM (KP ++ [m]))) 70) := Lib.hid (by
          have h := SB2.out.set C (.bool true)
          rw [seen_set _ C hC6, ← HCC.out, ← sf_snoc] at h
          rw [← HCC.out]
          exact h)
        have RU3 : Hid (RulesAt (w2.setCell ⟨w.heap.size + 1, C, none⟩ (.bool true)) w.heap.size (KP.map madeMn) (.slice a6 KP.length c6)) := Lib.hid (RU2.out.kept (grown_set (World.grownBy.refl w2 _) C (.bool true)) (BoxT.apart SB2.out (by decide)))
        have BW3 := Lib.hid (below_gr BW2.out (grown_set (World.grownBy.refl w2 (some (w.heap.size + 1))) C (.bool true)) (by omega))
        clear g0 g1 g2 MB2 SB2 RU2
        generalize w2.setCell ⟨w.heap.size + 1, C, none⟩ (.bool true) = w3 at *
        have m0 : w3.cell? ⟨wr.heap.size, 0, none⟩ = some (.int .i64 m.cat) := MB3.out.box.cell 0
        have m1 : w3.cell? ⟨wr.heap.size, 1, none⟩ = some (.int .i64 m.gp) := MB3.out.box.cell 1
        have m2 : w3.cell? ⟨wr.heap.size, 2, none⟩ = some (.int .i64 m.smp) := MB3.out.box.cell 2
        have m3 : w3.cell? ⟨wr.heap.size, 3, none⟩ = some (.slice a4 m.any.length n4) := MB3.out.box.cell 3
        have HWR := Lib.hid (write_as m (.slice a4 m.any.length n4) w3 (HT.out.below BW3.out) (HW.out.below BW3.out) (HNV.out.below BW3.out) (HB.out m HMM.out) (HR.out m HMM.out))
        go_wp2_with fail
        with_reducible refine (HWR.out).mono ?_
        rintro x w4 ⟨u4, rfl, hcn, hb4⟩
        obtain ⟨a5, n5, c5, h5⟩ : ∃ a5 n5 c5, u4 = .slice a5 n5 c5 := by obtain ⟨_, ho, _⟩ := hcn; obtain ⟨x, y, e⟩ := own_cap ho; exact ⟨x, _, y, e⟩
        subst h5
        rw [show mcat m = C from HCC.out]
        obtain ⟨tx, htx⟩ : ∃ tx, madeTx m = tx := ⟨_, rfl⟩
        have txl : tx.length ≤ 3400 := by rw [← htx]; exact madeTx_len (HB.out m HMM.out) (HR.out m HMM.out)
        obtain ⟨sm, hsm⟩ : ∃ sm, msmp m = sm := ⟨_, rfl⟩
        rw [htx, hsm]
        have HTX := Lib.hid htx
        have HSM := Lib.hid hsm
        have CN4 := Lib.hid hcn
        have RU4 := Lib.hid (RU3.out.move hb4)
        have SB4 := Lib.hid (BoxT.grown SB3.out (grown_of_below hb4 none) (by simp))
        have BW4 : Hid (Below w.heap.size w w4) := Lib.hid (BW3.out.trans (hb4.mono BW3.out.size))
        clear htx hsm hcn hb4 m0 m1 m2 m3 MB3 RU3 SB3 HWR
        have X5 := Lib.hid (BoxT.new w4 (#[.int .i64 (C : Int), .slice a5 n5 c5, S sm] : Array Value) 39)
        have N5 := Lib.hid ((Below.refl w4.heap.size w4).alloc (Nat.le_refl _) (.cells (#[.int .i64 (C : Int), .slice a5 n5 c5, S sm] : Array Value) 39))
        go_upto_region 10 with fail
        generalize w4.alloc (.cells (#[.int .i64 (C : Int), .slice a5 n5 c5, S sm] : Array Value) 39) = w5 at *
        have RU5 := Lib.hid (RU4.out.move N5.out)
        have SB5 := Lib.hid (BoxT.grown SB4.out (grown_of_below N5.out none) (by simp))
        have CN5 := Lib.hid (CondAt.kept (CN4.out.lower (Nat.zero_le _)) (grown_of_below N5.out none) (Apart.none _ _))
        have BW5 : Hid (Below w.heap.size w w5) := Lib.hid (BW4.out.trans (N5.out.mono BW4.out.size))
        have y0 : w5.cell? ⟨w4.heap.size, 0, none⟩ = some (.int .i64 (C : Int)) := X5.out.box.cell 0
        have y1 : w5.cell? ⟨w4.heap.size, 1, none⟩ = some (.slice a5 n5 c5) := X5.out.box.cell 1
        have y2 : w5.cell? ⟨w4.heap.size, 2, none⟩ = some (S sm) := X5.out.box.cell 2
        have yl := X5.out.box.lt
        clear X5 N5 RU4 SB4 CN4 BW4
        obtain ⟨r1, hr1⟩ : ∃ r1, (if KP.length = 0 then s0 else s0 ++ [59]) = r1 := ⟨_, rfl⟩
        have r1b : r1.length ≤ 27301 := by rw [← hr1]; by_cases h0 : KP.length = 0; rw [if_pos h0]; omega; rw [if_neg h0, List.length_append]; simp; omega
        have HR1 := Lib.hid hr1
        clear hr1
        go_upto_if 35 with fail
        go_cut [7] from 19 to 45 (fun v7 w' => v7 = S r1 ∧ w5 = w')
        case first =>
          by_cases h0 : KP.length = 0
          · obtain rfl : s0 = r1 := by rw [← HR1.out, if_pos h0]
            have h0i : ¬ (0 : Int) < (KP.length : Int) := by omega
            clear h0
            go_wp2
            go_meet
            case rel => exact ⟨rfl, rfl⟩
          · have h0i : (0 : Int) < (KP.length : Int) := by omega
            obtain ⟨t1, ht1⟩ : ∃ t1, s0 ++ [59] = t1 := ⟨_, rfl⟩
            have t1l : t1.length = s0.length + 1 := by rw [← ht1, List.length_append]; rfl
            have SBt1 : (⟨s0.toArray⟩ : ByteArray) ++ (⟨#[59]⟩ : ByteArray) = ⟨t1.toArray⟩ := by rw [← ht1]; exact arr_append s0 [59]
            have cbt1 : ¬ 9223372036854775807 < s0.length + 1 := by omega
            have Ht1 := Lib.hid ht1
            clear ht1
            obtain rfl : t1 = r1 := by rw [← HR1.out, if_neg h0, Ht1.out]
            clear h0
            go_wp2
            go_meet
            case rel => exact ⟨rfl, rfl⟩
        case rest =>
        obtain ⟨rfl, rfl⟩ := hcut
        obtain ⟨rs9, hro, hrl⟩ := RU5.out
        rw [List.length_map] at hro
        have HRO := Lib.hid hro
        have HRL := Lib.hid hrl
        clear hro hrl
        obtain ⟨i0, hi, hz0, hz1, hz2⟩ := info_parts infoRule
        have hw5 := BW5.out.size
        have h63 : KP.length + 1 ≤ maxLen := Nat.le_trans (Nat.succ_le_succ hKl) (by unfold maxLen; decide)
        have hby : (KP.length + 1) * 48 ≤ 140737488355328 := Nat.le_trans (Nat.mul_le_mul_right 48 (Nat.succ_le_succ hKl)) (by decide)
        have HBA : Hid (w.heap.size ≤ (w5.alloc (.cells (#[.int .i64 (C : Int), .slice a5 n5 c5, S sm] : Array Value) 39)).heap.size) := Lib.hid (Nat.le_trans hw5 (by simp))
        have HOA := Lib.hid (HRO.out.alloc (.cells (#[.int .i64 (C : Int), .slice a5 n5 c5, S sm] : Array Value) 39))
        go_upto_region 13 with (at_builtin; refine wpList_append_own _ rfl _ _ 26 rfl w.heap.size 39 i0 (.agg #[.int .i64 0, .slice none 0 0, .string ⟨#[]⟩]) 3 48 Tryz.underlying26 hi hz0 hz1 hz2 rfl (by decide) (.slice a6 KP.length c6) KP.length rs9 rfl HOA.out ⟨w5.heap.size, 0, none⟩ 1 1 [.int .i64 (C : Int), .slice a5 n5 c5, S sm] rfl rfl (lit_cells w5 #[.int .i64 (C : Int), .slice a5 n5 c5, S sm] 39) (by simp [Value.oneCell']) h63 hby HBA.out ?_; intro v8 w8 hown8 hgr8 _; have RU8 : Hid (RulesAt w8 w.heap.size (KP.map madeMn ++ [madeMn m]) v8) := Lib.hid (rules_append (by rw [List.length_map]; exact HRO.out) HRL.out (madeMn m) _ CN5.out (by rw [List.length_map]; have h := hown8; rw [← HSM.out, ← HCC.out] at h; exact h) hgr8); have SB8 := Lib.hid (BoxT.rowX (SB5.out.alloc _) HOA.out hgr8 (by decide)); have BW8 : Hid (Below w.heap.size w w8) := Lib.hid (below_own (BW5.out.alloc hw5 _) hgr8 (fun q hq => (HOA.out.lt q hq).1)); clear hown8 hgr8)
        clear HRO HRL HOA HBA RU5 SB5 CN5 BW5 y0 y1 y2 yl hi hz0 hz1 hz2
        obtain ⟨t2, ht2⟩ : ∃ t2, r1 ++ tx = t2 := ⟨_, rfl⟩
        have t2l : t2.length = r1.length + tx.length := by rw [← ht2, List.length_append]
        have SBt2 : (⟨r1.toArray⟩ : ByteArray) ++ (⟨tx.toArray⟩ : ByteArray) = ⟨t2.toArray⟩ := by rw [← ht2]; exact arr_append r1 tx
        have cbt2 : ¬ 9223372036854775807 < r1.length + tx.length := by omega
        have Ht2 := Lib.hid ht2
        clear ht2
        go_wp2_with fail
        go_roundw
        case rel =>
          refine ⟨k + 1, hlt, by go_num, ?_⟩
          rw [HKT.out]
          refine ⟨by rw [List.map_append]; exact RU8.out, ?_, SB8.out, BW8.out⟩
          rw [List.map_append, List.map_cons, List.map_nil, HTX.out, ← Ht2.out, ← HR1.out, ← HS0.out]
          by_cases h0 : KP.length = 0
          · rw [if_pos h0]
            obtain rfl : KP = [] := List.eq_nil_of_length_eq_zero h0
            simp [joinM, List.intercalate]
          · rw [if_neg h0, joinM_snoc [59] tx (KP.map madeTx) (fun e => h0 (by have := congrArg List.length e; simpa using this))]
        case measure => simp [intOf]; omega
    · obtain rfl : k = ms.length := by omega
      have hlni : ¬ (ms.length : Int) < (ms.length : Int) := by omega
      have hKP2 : keepM [] ms = KP := by have h := HKP.out; rwa [List.take_length] at h
      have HK2 := Lib.hid hKP2
      clear hKP2
      obtain ⟨hand, hand1⟩ := andN_is e 1 (by decide)
      have hfin : madesTx ms e = s0 ++ endT KP e := by unfold madesTx; rw [HK2.out, HS0.out]
      have hmn : madesMn ms = KP.map madeMn := by unfold madesMn; rw [HK2.out]
      have HFIN := Lib.hid hfin
      have HMN := Lib.hid hmn
      clear hfin hmn
      by_cases hK : KP.length = 0
      · have hKi : ¬ (0 : Int) < (KP.length : Int) := by omega
        have he : endT KP e = [] := by unfold endT; rw [if_neg (fun h => h.1 (List.eq_nil_of_length_eq_zero hK))]
        have HE := Lib.hid he
        clear he hK hand hand1
        go_wp2
        exact bodyPost_ret (v := .tuple #[.slice a6 KP.length c6, S s0]) (by simp [results, Tryz.results12, go_sem]) rfl ⟨_, by rw [HFIN.out, HE.out, List.append_nil], by rw [HMN.out]; exact HRU.out, HBW.out⟩
      have hKi : (0 : Int) < (KP.length : Int) := by omega
      have hKn : KP ≠ [] := fun h => hK (by rw [h]; rfl)
      by_cases h1 : andN e 1 = 1
      · have hb1 : bits .and .i64 e 1 = 1 := by have h := hand; rw [h1] at h; exact h
        have he : endT KP e = ([59] : List UInt8) ++ gapB (andN (e / 2) 3) := by unfold endT; rw [if_pos ⟨hKn, h1⟩, show (e >>> 1 : Int) = e / 2 from by rw [Int.shiftRight_eq_div_pow]; rfl]; rfl
        have HE := Lib.hid he
        obtain ⟨g, hg⟩ : ∃ g, gapB (andN (e / 2) 3) = g := ⟨_, rfl⟩
        have gl : g.length ≤ 2 := by rw [← hg]; exact gapB_len _
        have HG := Lib.hid hg
        clear he hand hand1 h1 hg hK hKn
        obtain ⟨t3, ht3⟩ : ∃ t3, s0 ++ [59] = t3 := ⟨_, rfl⟩
        have t3l : t3.length = s0.length + 1 := by rw [← ht3, List.length_append]; rfl
        have SBt3 : (⟨s0.toArray⟩ : ByteArray) ++ (⟨#[59]⟩ : ByteArray) = ⟨t3.toArray⟩ := by rw [← ht3]; exact arr_append s0 [59]
        have cbt3 : ¬ 9223372036854775807 < s0.length + 1 := by omega
        have Ht3 := Lib.hid ht3
        clear ht3
        obtain ⟨t4, ht4⟩ : ∃ t4, t3 ++ g = t4 := ⟨_, rfl⟩
        have t4l : t4.length = t3.length + g.length := by rw [← ht4, List.length_append]
        have SBt4 : (⟨t3.toArray⟩ : ByteArray) ++ (⟨g.toArray⟩ : ByteArray) = ⟨t4.toArray⟩ := by rw [← ht4]; exact arr_append t3 g
        have cbt4 : ¬ 9223372036854775807 < t3.length + g.length := by omega
        have Ht4 := Lib.hid ht4
        clear ht4
        go_wp2_with fail
        refine (gap_as (e / 2) _ g HG.out).mono ?_
        rintro x w1 ⟨rfl, hb⟩
        have BW1 : Hid (Below w.heap.size w w1) := Lib.hid (HBW.out.trans (hb.mono hsz))
        have RU1 := Lib.hid (HRU.out.move hb)
        clear hb
        go_wp2
        exact bodyPost_ret (v := .tuple #[.slice a6 KP.length c6, S t4]) (by simp [results, Tryz.results12, go_sem]) rfl ⟨_, by rw [HFIN.out, HE.out, HG.out, ← List.append_assoc, Ht3.out, Ht4.out], by rw [HMN.out]; exact RU1.out, BW1.out⟩
      · have h0 : andN e 1 = 0 := by omega
        have hb1 : bits .and .i64 e 1 = 0 := by have h := hand; rw [h0] at h; exact h
        have he : endT KP e = [] := by unfold endT; rw [if_neg (fun h => h1 h.2)]
        have HE := Lib.hid he
        clear he hand hand1 h1 h0 hK hKn
        go_wp2
        exact bodyPost_ret (v := .tuple #[.slice a6 KP.length c6, S s0]) (by simp [results, Tryz.results12, go_sem]) rfl ⟨_, by rw [HFIN.out, HE.out, List.append_nil], by rw [HMN.out]; exact HRU.out, HBW.out⟩
end Go.Proofs.YtkjhdehpcanciaaGreatDoor

namespace Go.Proofs.YtkjhdehpcanciaaGreatDoor
open Go.RowKit Florin
set_option linter.unusedVariables false
set_option linter.unusedSimpArgs false
attribute [local go_sem ↓] Go.wp_at_zero Go.wp_at_succ
def fewR (ms : List MadeM) : Prop := ms.length ≤ 8 ∧ ∀ m ∈ ms, m.any.length ≤ 4 ∧ ∀ a ∈ m.any, a.length ≤ 4 ∧ ∀ r ∈ a, r.rs.length ≤ 5
/-- What Few tells. -/
def FewE (x : Ending) (ms : List MadeM) : Prop := ∃ b, x = .returned (.bool b) ∧ (b = true → fewR ms)
theorem takeM_all {α : Type} {P : α → Prop} {l : List α} {k : Nat} {x : α} (h : ∀ y ∈ l.take k, P y) (hx : l[k]? = some x) (hp : P x) : ∀ y ∈ l.take (k + 1), P y := by
  obtain ⟨hj, hxj⟩ := List.getElem?_eq_some_iff.1 hx
  rw [List.take_succ_eq_append_getElem hj, hxj]
  intro y hy
  rcases List.mem_append.1 hy with h1 | h1
  · exact h y h1
  · rw [List.mem_singleton.1 h1]; exact hp
theorem all_cells {w wq : World} {xs : List (List RelM)} {cs : List Value} {b off k : Nat} {x : List RelM} (h : ListAt (fun x c => ∃ u, c = [u] ∧ AllmAt w x u) xs cs) (hc : ∀ j, j < xs.length * 1 → w.cell? ⟨b, off + j, none⟩ = cs[j]?) (hb : b < w.heap.size) (hq : Below w.heap.size w wq) (hx : xs[k]? = some x) :
    ∃ a n, AllmAt w x (.slice a x.length n) ∧ wq.cell? ⟨b, off + k, none⟩ = some (.slice a x.length n) := by
  obtain ⟨hj, hxj⟩ := List.getElem?_eq_some_iff.1 hx
  obtain ⟨cj, ⟨vj, hcj, hnj⟩, hgj⟩ := ListAt.get (sz := 1) (fun x c ⟨u, e, _⟩ => by rw [e]; rfl) h k hj
  rw [hxj] at hnj
  have h0 := hgj 0 (by decide)
  rw [hcj, Nat.mul_one, Nat.add_zero] at h0
  obtain ⟨_, ⟨a, n, e, _⟩, _⟩ := id hnj
  subst e
  exact ⟨a, n, hnj, (hq.cell (p := ⟨b, off + k, none⟩) hb).trans ((hc k (by omega)).trans h0)⟩
theorem rel_cells {w wq : World} {xs : List RelM} {cs : List Value} {b off k : Nat} {x : RelM} (h : ListAt (RelmAt w) xs cs) (hc : ∀ j, j < xs.length * 5 → w.cell? ⟨b, off + j, none⟩ = cs[j]?) (hb : b < w.heap.size) (hq : Below w.heap.size w wq) (hx : xs[k]? = some x) :
    ∃ a n, wq.cell? ⟨b, off + k * 5, none⟩ = some (.int .i64 x.op) ∧ wq.cell? ⟨b, off + k * 5 + 1, none⟩ = some (.int .i64 x.md) ∧ wq.cell? ⟨b, off + k * 5 + 2, none⟩ = some (.int .i64 x.gp) ∧ wq.cell? ⟨b, off + k * 5 + 3, none⟩ = some (.bool x.nt) ∧ wq.cell? ⟨b, off + k * 5 + 4, none⟩ = some (.slice a x.rs.length n) := by
  obtain ⟨hj, hxj⟩ := List.getElem?_eq_some_iff.1 hx
  obtain ⟨cj, ⟨vj, hcj, hnj⟩, hgj⟩ := ListAt.get (sz := 5) (fun x c ⟨u, e, _⟩ => by rw [e]; rfl) h k hj
  rw [hxj] at hcj hnj
  have CE : ∀ i, i < 5 → wq.cell? ⟨b, off + k * 5 + i, none⟩ = cj[i]? := fun i hi => by
    rw [Nat.add_assoc]
    exact (hq.cell (p := ⟨b, off + (k * 5 + i), none⟩) hb).trans ((hc (k * 5 + i) (by omega)).trans (hgj i hi))
  obtain ⟨a, n, e, _⟩ := hnj
  subst e
  rw [hcj] at CE
  exact ⟨a, n, CE 0 (by decide), CE 1 (by decide), CE 2 (by decide), CE 3 (by decide), CE 4 (by decide)⟩
set_option maxRecDepth 100000 in
set_option maxHeartbeats 6400000 in
theorem few_as (ms : List MadeM) (v : Value) (w : World) (hv : MadesAt w ms v) :
    Calls Tryz.prog 11 #[v] w fun x w' => FewE x ms ∧ Below w.heap.size w w' := by
  obtain ⟨cs, ⟨a, c, rfl, hnc, hcm, hlen, hcell⟩, hL⟩ := hv
  have HC : Hid (0 < ms.length → ∃ b off, a = some ⟨b, off, none⟩ ∧ b < w.heap.size ∧ ∀ j, j < ms.length * 4 → w.cell? ⟨b, off + j, none⟩ = cs[j]?) := Lib.hid hcell
  have HL := Lib.hid hL
  have hcmi : (c : Int) ≤ 9223372036854775807 := by unfold maxLen at hcm; omega
  clear hcell hL hlen
  go_enter Tryz.func11, Tryz.ntmps11
  by_cases hn : 8 < ms.length
  · have hni : (8 : Int) < (ms.length : Int) := by omega
    go_wp2
    go_ret
    exact ⟨⟨false, rfl, fun h => (by cases h)⟩, Below.refl _ _⟩
  have hni : ¬ (8 : Int) < (ms.length : Int) := by omega
  have hn8 : ms.length ≤ 8 := by omega
  go_wp2_with fail
  go_loopw [14] (fun i wr => ∃ k : Nat, k ≤ ms.length ∧ i = .int .i64 (k : Int) ∧ (∀ m ∈ ms.take k, m.any.length ≤ 4 ∧ ∀ a ∈ m.any, a.length ≤ 4 ∧ ∀ r ∈ a, r.rs.length ≤ 5) ∧ Below w.heap.size w wr) (fun i _ => ms.length - (intOf i).toNat)
  case atStart => exact ⟨0, Nat.zero_le _, rfl, fun m h => (by cases h), Below.refl _ _⟩
  case round =>
    obtain ⟨k, hk, rfl, hall, hbw⟩ := hrel
    obtain ⟨wo, hwo⟩ : ∃ W : World, W = wr := ⟨_, rfl⟩
    subst hwo
    have HA := Lib.hid hall
    have HBW := Lib.hid hbw
    have hsz := hbw.size
    clear hall hbw
    by_cases hlt : k < ms.length
    · have hlti : (k : Int) < (ms.length : Int) := Int.ofNat_lt.2 hlt
      obtain ⟨m, hm⟩ : ∃ m, ms[k] = m := ⟨_, rfl⟩
      have HMK : Hid (ms[k]? = some m) := Lib.hid (by rw [List.getElem?_eq_getElem hlt, hm])
      clear hm
      obtain ⟨b, off, rfl, hbl, hbc⟩ := HC.out (Nat.lt_of_le_of_lt (Nat.zero_le _) hlt)
      obtain ⟨v4, hnv, e0, e1, e2, e3⟩ := made_cells HL.out hbc hbl HBW.out HMK.out
      clear hbc
      obtain ⟨cs4, ⟨a4, n4, h4, hn4, hm4, hl4, hc4⟩, hL4⟩ := hnv
      subst h4
      have HC4 := Lib.hid hc4
      have HL4 := Lib.hid hL4
      have n4i : (n4 : Int) ≤ 9223372036854775807 := by unfold maxLen at hm4; omega
      clear hc4 hL4 hl4
      have hk0 : (0 : Int) ≤ (k : Int) := Int.natCast_nonneg k
      have hkc : (k : Int) < (c : Int) := Int.ofNat_lt.2 (Nat.lt_of_lt_of_le hlt hnc)
      have glr : b < wo.heap.size := Nat.lt_of_lt_of_le hbl hsz
      have HMB := Lib.hid (BoxT.new wo (#[.int .i64 m.cat, .int .i64 m.gp, .int .i64 m.smp, .slice a4 m.any.length n4] : Array Value) 62).box
      have NB := Lib.hid ((Below.refl wo.heap.size wo).alloc (Nat.le_refl _) (.cells (#[.int .i64 m.cat, .int .i64 m.gp, .int .i64 m.smp, .slice a4 m.any.length n4] : Array Value) 62))
      go_upto_region 6 with fail
      generalize wo.alloc (.cells (#[.int .i64 m.cat, .int .i64 m.gp, .int .i64 m.smp, .slice a4 m.any.length n4] : Array Value) 62) = w1 at *
      have B1 : Hid (Below w.heap.size w w1) := Lib.hid (HBW.out.trans (NB.out.mono hsz))
      have hs1 := B1.out.size
      have m3 : w1.cell? ⟨wo.heap.size, 3, none⟩ = some (.slice a4 m.any.length n4) := HMB.out.cell 3
      have ml := HMB.out.lt
      clear NB HMB e0 e1 e2 e3 glr
      by_cases h4 : 4 < m.any.length
      · have h4i : (4 : Int) < (m.any.length : Int) := by omega
        go_wp2
        go_ret
        exact ⟨⟨false, rfl, fun h => (by cases h)⟩, B1.out⟩
      have h4i : ¬ (4 : Int) < (m.any.length : Int) := by omega
      have h4n : m.any.length ≤ 4 := by omega
      go_wp2_with fail
      clear m3 ml
      go_loopw [25] (fun i wr => ∃ j : Nat, j ≤ m.any.length ∧ i = .int .i64 (j : Int) ∧ (∀ a ∈ m.any.take j, a.length ≤ 4 ∧ ∀ r ∈ a, r.rs.length ≤ 5) ∧ Below w.heap.size w wr) (fun i _ => m.any.length - (intOf i).toNat)
      case atStart => exact ⟨0, Nat.zero_le _, rfl, fun m h => (by cases h), B1.out⟩
      case round =>
        obtain ⟨j, hj, rfl, hall2, hbw2⟩ := hrel
        obtain ⟨wp, hwp⟩ : ∃ W : World, W = wr := ⟨_, rfl⟩
        subst hwp
        have HA2 := Lib.hid hall2
        have HB2 := Lib.hid hbw2
        have hsz2 := hbw2.size
        clear hall2 hbw2
        by_cases hjt : j < m.any.length
        · have hjti : (j : Int) < (m.any.length : Int) := Int.ofNat_lt.2 hjt
          obtain ⟨xs, hxs⟩ : ∃ xs, m.any[j] = xs := ⟨_, rfl⟩
          have HXK : Hid (m.any[j]? = some xs) := Lib.hid (by rw [List.getElem?_eq_getElem hjt, hxs])
          clear hxs
          obtain ⟨b5, off5, h5, hbl5, hbc5⟩ := HC4.out (Nat.lt_of_le_of_lt (Nat.zero_le _) hjt)
          subst h5
          obtain ⟨a6, n6, hnv6, d0⟩ := all_cells HL4.out hbc5 hbl5 HB2.out HXK.out
          clear hbc5
          obtain ⟨cs6, ⟨a7, n7, h7, hn7, hm7, hl7, hc7⟩, hL7⟩ := hnv6
          injection h7 with h71 h72 h73
          subst h71 h73
          have HC7 := Lib.hid hc7
          have HL7 := Lib.hid hL7
          have n6i : (n6 : Int) ≤ 9223372036854775807 := by unfold maxLen at hm7; omega
          clear hc7 hL7 hl7 h72
          have hj0 : (0 : Int) ≤ (j : Int) := Int.natCast_nonneg j
          have hjc : (j : Int) < (n4 : Int) := Int.ofNat_lt.2 (Nat.lt_of_lt_of_le hjt hn4)
          by_cases h6 : 4 < xs.length
          · have h6i : (4 : Int) < (xs.length : Int) := by omega
            go_wp2
            go_ret
            exact ⟨⟨false, rfl, fun h => (by cases h)⟩, HB2.out⟩
          have h6i : ¬ (4 : Int) < (xs.length : Int) := by omega
          have h6n : xs.length ≤ 4 := by omega
          go_wp2_with fail
          clear d0 hj0 hjc
          go_loopw [34] (fun i wr => ∃ g : Nat, g ≤ xs.length ∧ i = .int .i64 (g : Int) ∧ (∀ r ∈ xs.take g, r.rs.length ≤ 5) ∧ Below w.heap.size w wr) (fun i _ => xs.length - (intOf i).toNat)
          case atStart => exact ⟨0, Nat.zero_le _, rfl, fun m h => (by cases h), HB2.out⟩
          case round =>
            obtain ⟨g, hg, rfl, hall3, hbw3⟩ := hrel
            obtain ⟨wz, hwz⟩ : ∃ W : World, W = wr := ⟨_, rfl⟩
            subst hwz
            have HA3 := Lib.hid hall3
            have HB3 := Lib.hid hbw3
            have hsz3 := hbw3.size
            clear hall3 hbw3
            by_cases hgt : g < xs.length
            · have hgti : (g : Int) < (xs.length : Int) := Int.ofNat_lt.2 hgt
              obtain ⟨x, hx⟩ : ∃ x, xs[g] = x := ⟨_, rfl⟩
              have HXG : Hid (xs[g]? = some x) := Lib.hid (by rw [List.getElem?_eq_getElem hgt, hx])
              clear hx
              obtain ⟨b8, off8, h8, hbl8, hbc8⟩ := HC7.out (Nat.lt_of_le_of_lt (Nat.zero_le _) hgt)
              subst h8
              obtain ⟨a9, n9, q0, q1, q2, q3, q4⟩ := rel_cells HL7.out hbc8 hbl8 HB3.out HXG.out
              clear hbc8
              have hg0 : (0 : Int) ≤ (g : Int) := Int.natCast_nonneg g
              have hgc : (g : Int) < (n6 : Int) := Int.ofNat_lt.2 (Nat.lt_of_lt_of_le hgt hn7)
              have glz : b8 < wz.heap.size := Nat.lt_of_lt_of_le hbl8 hsz3
              have B9 : Hid (Below w.heap.size w (wz.alloc (.cells (#[.int .i64 x.op, .int .i64 x.md, .int .i64 x.gp, .bool x.nt, .slice a9 x.rs.length n9] : Array Value) 58))) := Lib.hid (HB3.out.alloc hsz3 _)
              by_cases h9 : 5 < x.rs.length
              · have h9i : (5 : Int) < (x.rs.length : Int) := by omega
                go_wp2
                go_ret
                exact ⟨⟨false, rfl, fun h => (by cases h)⟩, B9.out⟩
              have h9i : ¬ (5 : Int) < (x.rs.length : Int) := by omega
              have h9n : x.rs.length ≤ 5 := by omega
              go_wp2_with fail
              go_roundw
              case rel => exact ⟨g + 1, hgt, by go_num, takeM_all HA3.out HXG.out h9n, B9.out⟩
              case measure => simp [intOf]; omega
            · obtain rfl : g = xs.length := by omega
              have hgni : ¬ (xs.length : Int) < (xs.length : Int) := by omega
              go_wp2_with fail
              go_roundw
              case rel => exact ⟨j + 1, hjt, by go_num, takeM_all HA2.out HXK.out ⟨h6n, by have h := HA3.out; rwa [List.take_length] at h⟩, HB3.out⟩
              case measure => simp [intOf]; omega
        · obtain rfl : j = m.any.length := by omega
          have hjni : ¬ (m.any.length : Int) < (m.any.length : Int) := by omega
          go_wp2_with fail
          go_roundw
          case rel => exact ⟨k + 1, hlt, by go_num, takeM_all HA.out HMK.out ⟨h4n, by have h := HA2.out; rwa [List.take_length] at h⟩, HB2.out⟩
          case measure => simp [intOf]; omega
    · obtain rfl : k = ms.length := by omega
      have hkni : ¬ (ms.length : Int) < (ms.length : Int) := by omega
      go_wp2
      go_ret
      exact ⟨⟨true, rfl, fun _ => ⟨hn8, by have h := HA.out; rwa [List.take_length] at h⟩⟩, HBW.out⟩
end Go.Proofs.YtkjhdehpcanciaaGreatDoor
