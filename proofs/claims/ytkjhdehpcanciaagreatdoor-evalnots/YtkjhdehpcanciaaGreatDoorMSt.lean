/- StA, StB, StC, StD, StE, Hd6, in one text. -/
import Derived.Test.YtkjhdehpcanciaaGreatDoorMRd3
import Derived.Test.YtkjhdehpcanciaaGreatDoorShelf2
import Derived.Deep.RegionWith
namespace Florin
def itoaL (n : Nat) : List UInt8 := if n = 0 then [48] else dig n
def rngT (x : Nat × Nat) : List UInt8 := if x.1 = x.2 then itoaL x.1 else itoaL x.1 ++ [46, 46] ++ itoaL x.2
def joinT (sep : List UInt8) (ls : List (List UInt8)) : List UInt8 := sep.intercalate ls
def signT (b : Bool) : List UInt8 := if b then [32, 33, 61, 32] else [32, 61, 32]
def modT (m : Nat) : List UInt8 := if m = 0 then [] else [32, 37, 32] ++ itoaL m
def relT (x : RelT) : List UInt8 := [x.op] ++ modT x.mod ++ signT x.nt ++ joinT [44] (x.rs.map rngT)
def condT (xs : List (List RelT)) : List UInt8 := joinT [32, 111, 114, 32] (xs.map fun a => joinT [32, 97, 110, 100, 32] (a.map relT))
def wordT (c : Nat) : List UInt8 := wordB.getD c []
def ruleT (x : RuleT) : List UInt8 := wordT x.cat ++ [58] ++ (if condT x.any = [] then [] else 32 :: condT x.any) ++ (if x.smp = [] then [] else 32 :: x.smp)
def rulesT (xs : List RuleT) : List UInt8 := joinT [59, 32] (xs.map ruleT)
theorem join_cons (sep x y : List UInt8) (r : List (List UInt8)) : joinT sep (x :: y :: r) = x ++ sep ++ joinT sep (y :: r) := by
  unfold joinT; simp [List.intercalate, List.intersperse]
theorem join_one (sep x : List UInt8) : joinT sep [x] = x := by unfold joinT; simp [List.intercalate]
theorem join_mem (sep : List UInt8) : ∀ (ls : List (List UInt8)) (l : List UInt8), l ∈ ls → l.length ≤ (joinT sep ls).length
  | [x], l, h => by simp at h; subst h; rw [join_one]; exact Nat.le_refl _
  | x :: y :: r, l, h => by
    rw [join_cons, List.length_append, List.length_append]
    cases h with
    | head => omega
    | tail _ h => have := join_mem sep (y :: r) l h; omega
theorem join_count (sep : List UInt8) (hs : sep ≠ []) : ∀ (ls : List (List UInt8)), ls.length ≤ (joinT sep ls).length + 1
  | [] => by simp
  | [x] => by simp
  | x :: y :: r => by
    rw [join_cons, List.length_append, List.length_append]
    have := join_count sep hs (y :: r)
    have h2 := List.length_pos_iff.2 hs
    simp at this ⊢
    omega
theorem itoa_le (n : Nat) (h : n < 10 ^ 18) : (itoaL n).length ≤ 18 := by
  unfold itoaL; split
  · decide
  · exact (dig_length_le n 18).2 h
end Florin
namespace Go.Proofs.YtkjhdehpcanciaaGreatDoor
open Go.RowKit Florin
set_option linter.unusedVariables false
set_option linter.unusedSimpArgs false
attribute [local go_sem ↓] Go.wp_at_zero Go.wp_at_succ

theorem itoaN (n : Nat) (w : World) (h : n < 10 ^ 18) (ht : Tab w) (t : List UInt8) (hT : itoaL n = t) : Calls Tryz.prog 54 #[.int .i64 (n : Int)] w fun e w' => e = .returned (S t) ∧ Below w.heap.size w w' := by
  subst hT
  have h18 : (10 : Nat) ^ 18 = 1000000000000000000 := by decide
  refine (Tryz.strconv_Itoa n (by omega) (by omega) w ht).mono ?_
  rintro e w' ⟨rfl, k, os, rfl⟩
  refine ⟨ret_S ?_, below_grow' _ _ _⟩
  unfold itoaL
  split
  · rename_i h0; subst h0; unfold Lib.itoa; rw [if_neg (by omega)]; unfold Lib.decDigits; rfl
  · rename_i h0
    have := itoa_dig (n : Int) (by omega)
    simpa using this
theorem join_as (bk : Nat) (ls : List (List UInt8)) (sep t : List UInt8) (w : World) (hcells : ∀ (j : Nat) l, ls[j]? = some l → w.cell? ⟨bk, j, none⟩ = some (S l)) (hbk : bk < w.heap.size) (hN : ls.length ≤ 2000000) (ht : joinT sep ls = t) (hlen : t.length ≤ 2000000) :
    Calls Tryz.prog 59 #[.slice (some ⟨bk, 0, none⟩) ls.length ls.length, S sep] w fun e w' => e = .returned (S t) ∧ Below w.heap.size w w' := by
  have hm : (ls.map fun l => (⟨l.toArray⟩ : ByteArray)).map (·.data.toList) = ls := by
    rw [List.map_map]
    conv => rhs; rw [← List.map_id ls]
    apply List.map_congr_left
    intro a _
    exact arr_list a
  have hj : Lib.join ((ls.map fun l => (⟨l.toArray⟩ : ByteArray)).map (·.data.toList)) (⟨sep.toArray⟩ : ByteArray).data.toList = t := by rw [hm, arr_list, ← ht]; rfl
  have h := Tryz.strings_Join bk 0 ls.length (ls.map fun l => (⟨l.toArray⟩ : ByteArray)) ⟨sep.toArray⟩ w (by
    intro j x hx
    rw [List.getElem?_map, Option.map_eq_some_iff] at hx
    obtain ⟨l, hl, rfl⟩ := hx
    rw [Nat.zero_add]; exact hcells j l hl) hbk (by simp; omega) (by simp) (by rw [hj]; omega)
  rw [hj, List.length_map] at h
  exact h

set_option maxRecDepth 100000 in
set_option maxHeartbeats 1600000 in
theorem rstr_eq (lo hi : Nat) (w : World) (heq : lo = hi) (h1 : lo < 10 ^ 18) (ht : Tab w) (a : List UInt8) (ha : itoaL lo = a) :
    Calls Tryz.prog 195 #[.agg #[.int .i64 ((lo : Nat) : Int), .int .i64 ((hi : Nat) : Int)]] w fun e w' => e = .returned (S a) ∧ Below w.heap.size w w' := by
  subst heq
  have HT := Lib.hid ht
  have HA := Lib.hid ha
  clear ht ha
  go_enter Tryz.func195, Tryz.ntmps195
  go_wp2_with fail
  with_reducible refine (itoaN lo _ h1 (HT.out.below (HeldL.alloc (HeldL.refl w) (w.heap.size) #[.int .i64 ((lo : Nat) : Int), .int .i64 ((lo : Nat) : Int)] 64 (by simp)).bel) a HA.out).mono ?_
  rintro x w1 ⟨rfl, hb⟩
  have H1 : Hid (HeldL w [(w.heap.size, #[.int .i64 ((lo : Nat) : Int), .int .i64 ((lo : Nat) : Int)])] w1) := Lib.hid (HeldL.keep (HeldL.alloc (HeldL.refl w) (w.heap.size) #[.int .i64 ((lo : Nat) : Int), .int .i64 ((lo : Nat) : Int)] 64 (by simp)) hb)
  clear hb
  go_wp2
  go_ret
  exact ⟨rfl, H1.out.bel⟩

set_option maxRecDepth 100000 in
set_option maxHeartbeats 1600000 in
theorem rstr_ne (lo hi : Nat) (w : World) (heq : lo ≠ hi) (h1 : lo < 10 ^ 18) (h2 : hi < 10 ^ 18) (ht : Tab w) (a c : List UInt8) (ha : itoaL lo = a) (hb : itoaL hi = c) :
    Calls Tryz.prog 195 #[.agg #[.int .i64 ((lo : Nat) : Int), .int .i64 ((hi : Nat) : Int)]] w fun e w' => e = .returned (S (a ++ [46, 46] ++ c)) ∧ Below w.heap.size w w' := by
  have hne : ¬ (lo : Int) = (hi : Int) := by omega
  have HT := Lib.hid ht
  have HA := Lib.hid ha
  have HB := Lib.hid hb
  have al := itoa_le lo h1
  have bl := itoa_le hi h2
  rw [ha] at al
  rw [hb] at bl
  clear ht ha hb
  have SA1 : (⟨a.toArray⟩ : ByteArray) ++ (⟨#[46, 46]⟩ : ByteArray) = ⟨(a ++ [46, 46]).toArray⟩ := arr_append a [46, 46]
  obtain ⟨a2, ha2⟩ : ∃ a2, a ++ [46, 46] = a2 := ⟨_, rfl⟩
  have a2l : a2.length = a.length + 2 := by rw [← ha2]; simp
  rw [ha2] at SA1
  have SA2 : (⟨a2.toArray⟩ : ByteArray) ++ (⟨c.toArray⟩ : ByteArray) = ⟨(a2 ++ c).toArray⟩ := arr_append a2 c
  have cc1 : ¬ 9223372036854775807 < a.length + 2 := by omega
  have cc2 : ¬ 9223372036854775807 < a2.length + c.length := by omega
  have HA2 := Lib.hid ha2
  clear ha2 a2l
  go_enter Tryz.func195, Tryz.ntmps195
  go_wp2_with fail
  have ALL1 : Hid (∀ w' : World, HeldL w [(w.heap.size, #[.int .i64 ((lo : Nat) : Int), .int .i64 ((hi : Nat) : Int)])] w' → w'.cell? ⟨w.heap.size, 0, none⟩ = some (.int .i64 ((lo : Nat) : Int)) ∧ w'.cell? ⟨w.heap.size, 1, none⟩ = some (.int .i64 ((hi : Nat) : Int)) ∧ HeldL w [(w.heap.size, #[.int .i64 ((lo : Nat) : Int), .int .i64 ((hi : Nat) : Int)])] w') := Lib.hid (fun w' h => ⟨(h.f (List.Mem.head _)).cell 0, (h.f (List.Mem.head _)).cell 1, h⟩)
  have KEEP1 : Hid (∀ w' w'' : World, (w'.cell? ⟨w.heap.size, 0, none⟩ = some (.int .i64 ((lo : Nat) : Int)) ∧ w'.cell? ⟨w.heap.size, 1, none⟩ = some (.int .i64 ((hi : Nat) : Int)) ∧ HeldL w [(w.heap.size, #[.int .i64 ((lo : Nat) : Int), .int .i64 ((hi : Nat) : Int)])] w') → Below w'.heap.size w' w'' → (w''.cell? ⟨w.heap.size, 0, none⟩ = some (.int .i64 ((lo : Nat) : Int)) ∧ w''.cell? ⟨w.heap.size, 1, none⟩ = some (.int .i64 ((hi : Nat) : Int)) ∧ HeldL w [(w.heap.size, #[.int .i64 ((lo : Nat) : Int), .int .i64 ((hi : Nat) : Int)])] w'')) := Lib.hid (fun w' w'' h hb => ALL1.out _ (HeldL.keep (h.2.2) hb))
  have HS1 : Hid (HeldL w [(w.heap.size, #[.int .i64 ((lo : Nat) : Int), .int .i64 ((hi : Nat) : Int)])] _) := Lib.hid (HeldL.alloc (HeldL.refl w) (w.heap.size) #[.int .i64 ((lo : Nat) : Int), .int .i64 ((hi : Nat) : Int)] 64 (by simp))
  have TAB1 : Hid (∀ w' : World, (w'.cell? ⟨w.heap.size, 0, none⟩ = some (.int .i64 ((lo : Nat) : Int)) ∧ w'.cell? ⟨w.heap.size, 1, none⟩ = some (.int .i64 ((hi : Nat) : Int)) ∧ HeldL w [(w.heap.size, #[.int .i64 ((lo : Nat) : Int), .int .i64 ((hi : Nat) : Int)])] w') → Tab w') := Lib.hid (fun w' h => HT.out.below (h.2.2).bel)
  refine wp_region_held_drew (S := fun w' => w'.cell? ⟨w.heap.size, 0, none⟩ = some (.int .i64 ((lo : Nat) : Int)) ∧ w'.cell? ⟨w.heap.size, 1, none⟩ = some (.int .i64 ((hi : Nat) : Int)) ∧ HeldL w [(w.heap.size, #[.int .i64 ((lo : Nat) : Int), .int .i64 ((hi : Nat) : Int)])] w') (by kernel_rfl) (ALL1.out _ (HeldL.drew HS1.out)) (fun hHeld => ?_)
  refine wpAnyH_take (i := 0) (oi := { dst := some 11, op := Go.Op.fieldAddr 64 (Go.Operand.tmp 1) 0, type := 0, pos := "rule.go:90", after := #[], guard := none }) (v := ?_) rfl (by kernel_rfl) (by kernel_rfl) (by kernel_rfl) (fun _ _ _ h => h) (Or.inl ⟨by rfl, ?_⟩) hHeld ?_
  case refine_2 => (intro w hSw; (try dsimp only at hSw); go_simp <;> with_reducible rfl)
  try simp only [Act.put, List.setIfInBounds_toArray, List.set_cons_zero, List.set_cons_succ]
  refine wpAnyH_take (i := 1) (oi := { dst := some 12, op := Go.Op.load 3 (Go.Operand.tmp 11), type := 3, pos := "rule.go:90", after := #[{ on := 0, ground := Go.Ground.data }], guard := none }) (v := ?_) rfl (by kernel_rfl) (by kernel_rfl) (by kernel_rfl) (fun _ _ _ h => h) (Or.inl ⟨by rfl, ?_⟩) hHeld ?_
  case refine_2 => (intro w hSw; (try dsimp only at hSw); go_simp <;> with_reducible rfl)
  try simp only [Act.put, List.setIfInBounds_toArray, List.set_cons_zero, List.set_cons_succ]
  refine wpAnyH_take (i := 4) (oi := { dst := some 15, op := Go.Op.fieldAddr 64 (Go.Operand.tmp 1) 1, type := 0, pos := "rule.go:90", after := #[], guard := none }) (v := ?_) rfl (by kernel_rfl) (by kernel_rfl) (by kernel_rfl) (fun _ _ _ h => h) (Or.inl ⟨by rfl, ?_⟩) hHeld ?_
  case refine_2 => (intro w hSw; (try dsimp only at hSw); go_simp <;> with_reducible rfl)
  try simp only [Act.put, List.setIfInBounds_toArray, List.set_cons_zero, List.set_cons_succ]
  refine wpAnyH_take (i := 5) (oi := { dst := some 16, op := Go.Op.load 3 (Go.Operand.tmp 15), type := 3, pos := "rule.go:90", after := #[{ on := 4, ground := Go.Ground.data }], guard := none }) (v := ?_) rfl (by kernel_rfl) (by kernel_rfl) (by kernel_rfl) (fun _ _ _ h => h) (Or.inl ⟨by rfl, ?_⟩) hHeld ?_
  case refine_2 => (intro w hSw; (try dsimp only at hSw); go_simp <;> with_reducible rfl)
  try simp only [Act.put, List.setIfInBounds_toArray, List.set_cons_zero, List.set_cons_succ]
  refine wpAnyH_ready (rs := [2]) (by kernel_rfl) (by simp) ?_
  refine AllReadyH.cons (o := { dst := some 13, op := Go.Op.call { callee := Go.Callee.value (Go.Operand.func 54), args := #[Go.Operand.tmp 12], argTypes := #[3] }, type := 9, pos := "rule.go:90", after := #[{ on := 1, ground := Go.Ground.data }], guard := none }) rfl (fun KK hK => ?_) AllReadyH.nil
  go_simp
  with_reducible refine (itoaN lo _ h1 (TAB1.out _ hHeld) a HA.out).mono ?_
  rintro x wA ⟨rfl, hb⟩
  go_wp2_with fail
  refine hK.out _ _ (KEEP1.out _ _ hHeld hb) (fun hHeld2 => ?_)
  clear hK hHeld hb
  have hHeld := hHeld2
  clear hHeld2
  try simp only [Act.put, List.setIfInBounds_toArray, List.set_cons_zero, List.set_cons_succ]
  refine wpAnyH_take (i := 3) (oi := { dst := some 14, op := Go.Op.binOp Go.BinOp.add 9 (Go.Operand.tmp 13) (Go.Operand.const (Go.Value.string { data := #[46, 46] })) 9, type := 9, pos := "rule.go:90", after := #[{ on := 2, ground := Go.Ground.data }], guard := none }) (v := ?_) rfl (by kernel_rfl) (by kernel_rfl) (by kernel_rfl) (fun _ _ _ h => h) (Or.inl ⟨by rfl, ?_⟩) hHeld ?_
  case refine_2 => (intro w hSw; (try dsimp only at hSw); go_simp <;> with_reducible rfl)
  try simp only [Act.put, List.setIfInBounds_toArray, List.set_cons_zero, List.set_cons_succ]
  refine wpAnyH_ready (rs := [6]) (by kernel_rfl) (by simp) ?_
  refine AllReadyH.cons (o := { dst := some 17, op := Go.Op.call { callee := Go.Callee.value (Go.Operand.func 54), args := #[Go.Operand.tmp 16], argTypes := #[3] }, type := 9, pos := "rule.go:90", after := #[{ on := 5, ground := Go.Ground.data }, { on := 2, ground := Go.Ground.chain }], guard := none }) rfl (fun KK hK => ?_) AllReadyH.nil
  go_simp
  with_reducible refine (itoaN hi _ h2 (TAB1.out _ hHeld) c HB.out).mono ?_
  rintro x wB ⟨rfl, hb⟩
  go_wp2_with fail
  refine hK.out _ _ (KEEP1.out _ _ hHeld hb) (fun hHeld2 => ?_)
  clear hK hHeld hb
  have hHeld := hHeld2
  clear hHeld2
  try simp only [Act.put, List.setIfInBounds_toArray, List.set_cons_zero, List.set_cons_succ]
  refine wpAnyH_take (i := 7) (oi := { dst := some 18, op := Go.Op.binOp Go.BinOp.add 9 (Go.Operand.tmp 14) (Go.Operand.tmp 17) 9, type := 9, pos := "rule.go:90", after := #[{ on := 3, ground := Go.Ground.data }, { on := 6, ground := Go.Ground.data }], guard := none }) (v := ?_) rfl (by kernel_rfl) (by kernel_rfl) (by kernel_rfl) (fun _ _ _ h => h) (Or.inl ⟨by rfl, ?_⟩) hHeld ?_
  case refine_2 => (intro w hSw; (try dsimp only at hSw); go_simp <;> with_reducible rfl)
  try simp only [Act.put, List.setIfInBounds_toArray, List.set_cons_zero, List.set_cons_succ]
  refine wpAnyH_take (i := 8) (oi := { dst := some 2, op := Go.Op.assign (Go.Operand.tmp 18), type := 9, pos := "rule.go:90", after := #[{ on := 7, ground := Go.Ground.data }, { on := 6, ground := Go.Ground.chain }, { on := 0, ground := Go.Ground.phase }, { on := 1, ground := Go.Ground.phase }, { on := 2, ground := Go.Ground.phase }, { on := 3, ground := Go.Ground.phase }, { on := 4, ground := Go.Ground.phase }, { on := 5, ground := Go.Ground.phase }, { on := 6, ground := Go.Ground.phase }, { on := 7, ground := Go.Ground.phase }], guard := none }) (v := ?_) rfl (by kernel_rfl) (by kernel_rfl) (by kernel_rfl) (fun _ _ _ h => h) (Or.inl ⟨by rfl, ?_⟩) hHeld ?_
  case refine_2 => (intro w hSw; (try dsimp only at hSw); go_simp <;> with_reducible rfl)
  try simp only [Act.put, List.setIfInBounds_toArray, List.set_cons_zero, List.set_cons_succ]
  refine wpAnyH_done (by kernel_rfl) ?_ _
  have H1 : Hid (HeldL w [(w.heap.size, #[.int .i64 ((lo : Nat) : Int), .int .i64 ((hi : Nat) : Int)])] wB) := Lib.hid (hHeld.2.2)
  clear hHeld ALL1 KEEP1 HS1 TAB1
  go_wp2
  go_ret
  exact ⟨by rw [HA2.out]; rfl, H1.out.bel⟩

theorem rstr_as (x : Nat × Nat) (w : World) (h1 : x.1 < 10 ^ 18) (h2 : x.2 < 10 ^ 18) (ht : Tab w) (t : List UInt8) (hT : rngT x = t) :
    Calls Tryz.prog 195 #[.agg #[.int .i64 ((x.1 : Nat) : Int), .int .i64 ((x.2 : Nat) : Int)]] w fun e w' => e = .returned (S t) ∧ Below w.heap.size w w' := by
  unfold rngT at hT
  subst hT
  split
  · rename_i h; exact rstr_eq x.1 x.2 w h h1 ht _ rfl
  · rename_i h; exact rstr_ne x.1 x.2 w h h1 h2 ht _ _ rfl rfl
end Go.Proofs.YtkjhdehpcanciaaGreatDoor

namespace Go.Proofs.YtkjhdehpcanciaaGreatDoor
open Go.RowKit Florin
set_option linter.unusedVariables false
set_option linter.unusedSimpArgs false
attribute [local go_sem ↓] Go.wp_at_zero Go.wp_at_succ

theorem infoStr : (Tryz.prog.info? 9).map (fun i => (i.zero, i.size, i.bytes)) = some (some (.string ⟨#[]⟩), 1, 16) := by kernel_rfl
abbrev TxB (w : World) (B g n : Nat) (L : List (List UInt8)) : Prop := w.ownsRow B 9 1 (.slice (some ⟨g, 0, none⟩) n n) n (L.map S)
theorem TxB.made {w : World} {B g n : Nat} (h : w.ownsRow B 9 1 (.slice (some ⟨g, 0, none⟩) n n) n (madeCells (Value.string ⟨#[]⟩).cells (n * 1)).toList) : TxB w B g n (List.replicate n []) := by
  have e : (madeCells (Value.string ⟨#[]⟩).cells (n * 1)).toList = (List.replicate n ([] : List UInt8)).map S := by
    rw [Nat.mul_one, show (Value.string ⟨#[]⟩).cells = #[.string ⟨#[]⟩] from rfl, toList_madeCells_one, List.map_replicate]
  rw [e] at h; exact h
theorem below_none {w w1 : World} (h : w.grownBy w1 none) : Below w.heap.size w w1 := ⟨h.os, h.tape, h.output, h.size, fun k hk => h.block k hk (by simp)⟩
theorem TxB.below {w w' : World} {B g n : Nat} {L : List (List UInt8)} (h : TxB w B g n L) (hb : Below w.heap.size w w') : TxB w' B g n L := own_tag h (grown_of_below hb none) (fun _ _ hh => by cases hh)
theorem TxB.stored {w : World} {B g n : Nat} {L : List (List UInt8)} (h : TxB w B g n L) (j : Nat) (l : List UInt8) : TxB (w.setCell ⟨g, j, none⟩ (S l)) B g n (L.set j l) := by
  have := (World.ownsRow.stored h j (S l)).1
  rw [← List.map_set] at this; exact this
theorem TxB.cell {w : World} {B g n : Nat} {L : List (List UInt8)} (h : TxB w B g n L) (j : Nat) (l : List UInt8) (hl : L[j]? = some l) : w.cell? ⟨g, j, none⟩ = some (S l) := by
  have hj : j < n * 1 := by
    have h1 := h.1
    have h2 := (List.getElem?_eq_some_iff.1 hl).1
    rw [List.length_map] at h1; omega
  rw [World.ownsRow.cellAt h j hj, List.getElem?_map, hl]; rfl
theorem ListAt.get {α : Type} {A : α → List Value → Prop} {sz : Nat} (hA : ∀ x c, A x c → c.length = sz) : ∀ {xs : List α} {cs : List Value}, ListAt A xs cs → ∀ (k : Nat) (hk : k < xs.length), ∃ c, A xs[k] c ∧ ∀ j, j < sz → cs[k * sz + j]? = c[j]?
  | x :: xs, cs, ⟨c, d, e, a, r⟩, 0, hk => ⟨c, a, fun j hj => by rw [e, Nat.zero_mul, Nat.zero_add, List.getElem?_append_left (by rw [hA x c a]; exact hj)]⟩
  | x :: xs, cs, ⟨c, d, e, a, r⟩, k + 1, hk => by
    obtain ⟨c2, a2, h2⟩ := ListAt.get hA r k (by simp at hk; omega)
    refine ⟨c2, a2, fun j hj => ?_⟩
    rw [e, List.getElem?_append_right (by rw [hA x c a, Nat.add_mul]; omega), hA x c a, ← h2 j hj]
    congr 1
    rw [Nat.add_mul]; omega
theorem take_put {α : Type} (L : List α) (d : α) (n k : Nat) (x : α) (hk : k < n) (hn : n = L.length) (hx : L[k]? = some x) : (L.take k ++ List.replicate (n - k) d).set k x = L.take (k + 1) ++ List.replicate (n - (k + 1)) d := by
  subst hn
  have h1 : (L.take k).length = k := by rw [List.length_take]; omega
  rw [List.set_append_right _ _ (by omega), h1, Nat.sub_self, show L.length - k = (L.length - (k + 1)) + 1 by omega, List.replicate_succ, List.set_cons_zero]
  rw [List.take_add_one, hx]
  simp
theorem mthR (v : Value) (w : World) : Sem.run Tryz.prog (method 330 64 v "String") w = .ok (195, v) w := by kernel_rfl
attribute [local go_sem ↓] mthR
def RngAt (w : World) (x : Nat × Nat) (c : List Value) : Prop := c = [.int .i64 ((x.1 : Nat) : Int), .int .i64 ((x.2 : Nat) : Int)]
theorem rng_list (w : World) : ∀ xs, ListAt (RngAt w) xs (rngC xs)
  | [] => rfl
  | x :: xs => ⟨_, rngC xs, rfl, rfl, rng_list w xs⟩

set_option maxRecDepth 100000 in
set_option maxHeartbeats 1600000 in
theorem joinR_n (v : Value) (xs : List (Nat × Nat)) (base : Nat) (sep t : List UInt8) (w : World) (h : Rngs w base xs v) (hx : ∀ x ∈ xs, x.1 < 10 ^ 18 ∧ x.2 < 10 ^ 18) (ht : Tab w) (hw : Wds w) (hT : joinT sep (xs.map rngT) = t) (tl : t.length ≤ 1000000) (hn : xs.length ≤ 1000000) (hv : v = .slice none 0 0) (h0 : xs = []) :
    Calls Tryz.prog 194 #[v, S sep] w fun e w' => e = .returned (S t) ∧ Below w.heap.size w w' := by
  subst hv h0
  have HT : Hid (joinT sep [] = t) := Lib.hid hT
  obtain ⟨i0, hi, hz0, hz1, hz2⟩ := info_parts infoStr
  clear h ht hw hT
  go_enter Tryz.func194, Tryz.ntmps194
  go_wp2_with (at_make; refine wpList_make_full _ rfl (.tmp 9) (.tmp 9) 104 rfl w.heap.size 9 i0 (.string ⟨#[]⟩) 1 Tryz.underlying104 hi hz0 hz1 .i64 .i64 _ _ 0 rfl rfl rfl rfl (by rw [hz2]; omega) (by unfold maxLen; omega) (by simp) ?_; intro w1 hown hgrow)
  have TX := Lib.hid (TxB.made hown)
  have BB := Lib.hid (below_none hgrow)
  clear hown hgrow hi hz0 hz1 hz2
  go_wp2_with fail
  go_loopw [13] (fun i wr => i = .int .i64 0 ∧ w1 = wr) (fun _ _ => 0)
  case atStart => exact ⟨rfl, rfl⟩
  case round =>
    obtain ⟨rfl, rfl⟩ := hrel
    go_wp2_with fail
    refine (join_as w.heap.size [] sep t w1 (fun j l hl => by simp at hl) (TX.out.lt _ rfl).2 (by simp) HT.out (by omega)).mono ?_
    rintro x w2 ⟨rfl, hb⟩
    have HB := Lib.hid (BB.out.trans (hb.mono BB.out.size))
    clear hb
    go_wp2
    go_ret
    exact ⟨rfl, HB.out⟩

set_option maxRecDepth 100000 in
set_option maxHeartbeats 3200000 in
theorem joinR_s (v : Value) (xs : List (Nat × Nat)) (base : Nat) (sep t : List UInt8) (w : World) (h : Rngs w base xs v) (hx : ∀ x ∈ xs, x.1 < 10 ^ 18 ∧ x.2 < 10 ^ 18) (ht : Tab w) (hw : Wds w) (hT : joinT sep (xs.map rngT) = t) (tl : t.length ≤ 1000000) (hn : xs.length ≤ 1000000) (g cap : Nat) (cs : List Value) (hv : v = .slice (some ⟨g, 0, none⟩) xs.length cap) (ho : w.ownsRow base 64 2 v xs.length cs) (hl : ListAt (RngAt w) xs cs) (hcap : xs.length ≤ cap) (hcm : cap ≤ maxLen) :
    Calls Tryz.prog 194 #[v, S sep] w fun e w' => e = .returned (S t) ∧ Below w.heap.size w w' := by
  subst hv
  have HT := Lib.hid hT
  have HO := Lib.hid ho
  have HL := Lib.hid hl
  have HTAB := Lib.hid ht
  have HWD := Lib.hid hw
  have HX := Lib.hid hx
  have hgl := (ho.lt g rfl).2
  have hcmi : (cap : Int) ≤ 9223372036854775807 := by unfold maxLen at hcm; omega
  obtain ⟨i0, hi, hz0, hz1, hz2⟩ := info_parts infoStr
  clear h ht hw hT ho hl hx
  go_enter Tryz.func194, Tryz.ntmps194
  go_wp2_with (at_make; refine wpList_make_full _ rfl (.tmp 9) (.tmp 9) 104 rfl w.heap.size 9 i0 (.string ⟨#[]⟩) 1 Tryz.underlying104 hi hz0 hz1 .i64 .i64 _ _ xs.length rfl rfl rfl rfl (by rw [hz2]; omega) (by unfold maxLen; omega) (by simp) ?_; intro w1 hown hgrow)
  have TX := Lib.hid (TxB.made hown)
  have BB := Lib.hid (below_none hgrow)
  clear hown hgrow hi hz0 hz1 hz2
  go_wp2_with fail
  go_loopw [13] (fun i wr => ∃ k : Nat, k ≤ xs.length ∧ i = .int .i64 k ∧ TxB wr w.heap.size w.heap.size xs.length ((xs.map rngT).take k ++ List.replicate (xs.length - k) []) ∧ Below w.heap.size w wr) (fun i _ => xs.length - (intOf i).toNat)
  case atStart => exact ⟨0, Nat.zero_le _, rfl, by simpa using TX.out, BB.out⟩
  case round =>
    obtain ⟨k, hk, rfl, htx, hbb⟩ := hrel
    have TX2 := Lib.hid htx
    have BB2 := Lib.hid hbb
    clear htx hbb TX BB
    by_cases hlt : k < xs.length
    · have hlti : (k : Int) < (xs.length : Int) := by omega
      obtain ⟨xk, hxk⟩ : ∃ xk, xs[k] = xk := ⟨_, rfl⟩
      obtain ⟨c, hA, hc⟩ := ListAt.get (sz := 2) (fun x c h => by obtain rfl := h; rfl) HL.out k hlt
      rw [hxk] at hA
      have hmem : xk ∈ xs := by rw [← hxk]; exact List.getElem_mem hlt
      have HXK : Hid (xs[k]? = some xk) := Lib.hid (by rw [List.getElem?_eq_getElem hlt, hxk])
      clear hxk
      obtain rfl := hA
      have e0 : wr.cell? ⟨g, k * 2, none⟩ = some (.int .i64 ((xk.1 : Nat) : Int)) := by rw [BB2.out.cell (show g < _ from hgl), HO.out.cellAt _ (by omega), show cs[k * 2]? = _ from hc 0 (by decide)]; rfl
      have e1 : wr.cell? ⟨g, k * 2 + 1, none⟩ = some (.int .i64 ((xk.2 : Nat) : Int)) := by rw [BB2.out.cell (show g < _ from hgl), HO.out.cellAt _ (by omega), show cs[k * 2 + 1]? = _ from hc 1 (by decide)]; rfl
      clear hc
      have hk3 : (0 : Int) ≤ (k : Int) := by omega
      have hkc : (k : Int) < (cap : Int) := by omega
      have glr : g < wr.heap.size := Nat.lt_of_lt_of_le hgl BB2.out.size
      have gs : w.heap.size < wr.heap.size := (TX2.out.lt _ rfl).2
      go_wp2_with fail
      with_reducible refine (rstr_as xk _ (HX.out xk hmem).1 (HX.out xk hmem).2 (HTAB.out.below (BB2.out.alloc BB2.out.size _)) (rngT xk) rfl).mono ?_
      rintro x w3 ⟨rfl, hb⟩
      have TX3 := Lib.hid ((TxB.below TX2.out (Below.alloc (Below.refl _ _) (Nat.le_refl _) _)).below hb)
      have BB3 := Lib.hid ((BB2.out.alloc BB2.out.size (.cells #[.int .i64 ((xk.1 : Nat) : Int), .int .i64 ((xk.2 : Nat) : Int)] 64)).trans (hb.mono (by simp; omega)))
      have tz := World.ownsRow.frozenAt TX3.out k
      have tg := (TX3.out.lt _ rfl).2
      obtain ⟨tv, tcell⟩ : ∃ tv, w3.cell? ⟨w.heap.size, k, none⟩ = some (.string tv) := by
        have hlen := TX3.out.1
        have := World.ownsRow.cellAt TX3.out k (by omega)
        rw [List.getElem?_map] at this
        rw [List.length_map] at hlen
        obtain ⟨q, hq⟩ : ∃ q, ((xs.map rngT).take k ++ List.replicate (xs.length - k) ([] : List UInt8))[k]? = some q := ⟨_, List.getElem?_eq_getElem (by omega)⟩
        rw [hq] at this
        exact ⟨_, this⟩
      clear hb
      go_wp2
      go_roundw
      case rel => exact ⟨k + 1, by omega, by go_num, by rw [← take_put (xs.map rngT) [] xs.length k (rngT xk) hlt (by simp) (by rw [List.getElem?_map, HXK.out]; rfl)]; exact TX3.out.stored k _, BB3.out.setCell (by simp) _⟩
      case measure => simp [intOf]; omega
    · obtain rfl : k = xs.length := by omega
      have hlti : ¬ (xs.length : Int) < (xs.length : Int) := by omega
      have HTX : Hid (TxB wr w.heap.size w.heap.size xs.length (xs.map rngT)) := Lib.hid (by have := TX2.out; rw [Nat.sub_self, List.replicate_zero, List.append_nil, List.take_of_length_le (by simp)] at this; exact this)
      go_wp2_with fail
      have hj := join_as w.heap.size (xs.map rngT) sep t wr (fun j l hl => HTX.out.cell j l hl) (HTX.out.lt _ rfl).2 (by simp; omega) HT.out (by omega)
      rw [List.length_map] at hj
      with_reducible refine hj.mono ?_
      rintro x w2 ⟨rfl, hb⟩
      have HB := Lib.hid (BB2.out.trans (hb.mono BB2.out.size))
      clear hb hj
      go_wp2
      go_ret
      exact ⟨rfl, HB.out⟩

theorem joinR_as (v : Value) (xs : List (Nat × Nat)) (base : Nat) (sep t : List UInt8) (w : World) (h : Rngs w base xs v) (hx : ∀ x ∈ xs, x.1 < 10 ^ 18 ∧ x.2 < 10 ^ 18) (ht : Tab w) (hw : Wds w) (hT : joinT sep (xs.map rngT) = t) (tl : t.length ≤ 1000000) (hn : xs.length ≤ 1000000) :
    Calls Tryz.prog 194 #[v, S sep] w fun e w' => e = .returned (S t) ∧ Below w.heap.size w w' := by
  have h2 := h
  obtain ⟨cs, ho, hl⟩ : ∃ cs, w.ownsRow base 64 2 v xs.length cs ∧ ListAt (RngAt w) xs cs := ⟨_, h, rng_list w xs⟩
  rcases ho.2 with ⟨hv, h0⟩ | ⟨g, cap, cur, hv, _, _, hcap, hcm, _⟩
  · exact joinR_n v xs base sep t w h2 hx ht hw hT tl hn hv (List.eq_nil_of_length_eq_zero h0)
  · exact joinR_s v xs base sep t w h2 hx ht hw hT tl hn g cap cs hv ho hl hcap hcm
end Go.Proofs.YtkjhdehpcanciaaGreatDoor

namespace Go.Proofs.YtkjhdehpcanciaaGreatDoor
open Go.RowKit Florin
set_option linter.unusedVariables false
set_option linter.unusedSimpArgs false
attribute [local go_sem ↓] Go.wp_at_zero Go.wp_at_succ 


set_option maxRecDepth 100000 in
set_option maxHeartbeats 1600000 in
theorem relS_z_e (op : UInt8) (sa : Option Addr) (sn sc : Nat) (rs : List (Nat × Nat)) (base : Nat) (js : List UInt8) (w : World) (hr : Rngs w base rs (.slice sa sn sc)) (hrx : ∀ x ∈ rs, x.1 < 10 ^ 18 ∧ x.2 < 10 ^ 18) (ht : Tab w) (hw : Wds w) (hj : joinT [44] (rs.map rngT) = js) (jl : js.length ≤ 900000) (hn : rs.length ≤ 1000000) :
    Calls Tryz.prog 193 #[.agg #[.int .u8 ((op : UInt8).toNat : Int), .int .i64 0, .bool false, .slice sa sn sc]] w fun e w' => e = .returned (S ([op] ++ [32, 61, 32] ++ js)) ∧ Below w.heap.size w w' := by
  have HT := Lib.hid ht
  have HW := Lib.hid hw
  have HR := Lib.hid hr
  have HRX := Lib.hid hrx
  have HJ := Lib.hid hj
  obtain ⟨t2, ht2⟩ : ∃ t2, [op] ++ [32, 61, 32] = t2 := ⟨_, rfl⟩
  have t2l : t2.length = 1 + 3 := by rw [← ht2]; simp
  have SB3 : (⟨#[op]⟩ : ByteArray) ++ (⟨#[32, 61, 32]⟩ : ByteArray) = ⟨t2.toArray⟩ := by rw [← ht2]; exact arr_append [op] [32, 61, 32]
  have cb3 : ¬ 9223372036854775807 < 1 + 3 := by omega
  have SB4 : (⟨t2.toArray⟩ : ByteArray) ++ (⟨js.toArray⟩ : ByteArray) = ⟨(t2 ++ js).toArray⟩ := arr_append t2 js
  have cb4 : ¬ 9223372036854775807 < t2.length + js.length := by omega
  have Kht2 := Lib.hid ht2
  clear ht hw hr hrx hj t2l ht2
  have cv : ∀ W : World, Sem.run Tryz.prog (convert 40 9 (.slice (some ⟨W.heap.size, 0, none⟩) 1 1)) (W.alloc (.cells #[.int .u8 ((op : UInt8).toNat : Int)] 5)) = .ok (.string ⟨#[op]⟩) (W.alloc (.cells #[.int .u8 ((op : UInt8).toNat : Int)] 5)) := fun W => conv_one W op _ rfl
  have cv1 := cv (w.alloc (.cells #[.int .u8 ((op : UInt8).toNat : Int), .int .i64 0, .bool false, .slice sa sn sc] 50))
  simp at cv1
  go_enter Tryz.func193, Tryz.ntmps193
  go_wp2_with fail
  with_reducible refine (joinR_as (.slice sa sn sc) rs base [44] js _ (Rngs.kept HR.out (grown_of_below (HeldL.alloc (HeldL.alloc (HeldL.refl w) (w.heap.size) #[.int .u8 ((op : UInt8).toNat : Int), .int .i64 0, .bool false, .slice sa sn sc] 50 (by simp)) (w.heap.size + 1) #[.int .u8 ((op : UInt8).toNat : Int)] 5 (by simp)).bel none) (Apart.none _ _)) HRX.out (HT.out.below (HeldL.alloc (HeldL.alloc (HeldL.refl w) (w.heap.size) #[.int .u8 ((op : UInt8).toNat : Int), .int .i64 0, .bool false, .slice sa sn sc] 50 (by simp)) (w.heap.size + 1) #[.int .u8 ((op : UInt8).toNat : Int)] 5 (by simp)).bel) (HW.out.below (HeldL.alloc (HeldL.alloc (HeldL.refl w) (w.heap.size) #[.int .u8 ((op : UInt8).toNat : Int), .int .i64 0, .bool false, .slice sa sn sc] 50 (by simp)) (w.heap.size + 1) #[.int .u8 ((op : UInt8).toNat : Int)] 5 (by simp)).bel) HJ.out (by omega) hn).mono ?_
  rintro x w1 ⟨rfl, hb⟩
  have H1 : Hid (HeldL w [(w.heap.size + 1, #[.int .u8 ((op : UInt8).toNat : Int)]), (w.heap.size, #[.int .u8 ((op : UInt8).toNat : Int), .int .i64 0, .bool false, .slice sa sn sc])] w1) := Lib.hid (HeldL.keep (HeldL.alloc (HeldL.alloc (HeldL.refl w) (w.heap.size) #[.int .u8 ((op : UInt8).toNat : Int), .int .i64 0, .bool false, .slice sa sn sc] 50 (by simp)) (w.heap.size + 1) #[.int .u8 ((op : UInt8).toNat : Int)] 5 (by simp)) hb)
  clear hb
  go_wp2
  go_ret
  exact ⟨by rw [← Kht2.out]; rfl, H1.out.bel⟩

set_option maxRecDepth 100000 in
set_option maxHeartbeats 1600000 in
theorem relS_z_n (op : UInt8) (sa : Option Addr) (sn sc : Nat) (rs : List (Nat × Nat)) (base : Nat) (js : List UInt8) (w : World) (hr : Rngs w base rs (.slice sa sn sc)) (hrx : ∀ x ∈ rs, x.1 < 10 ^ 18 ∧ x.2 < 10 ^ 18) (ht : Tab w) (hw : Wds w) (hj : joinT [44] (rs.map rngT) = js) (jl : js.length ≤ 900000) (hn : rs.length ≤ 1000000) :
    Calls Tryz.prog 193 #[.agg #[.int .u8 ((op : UInt8).toNat : Int), .int .i64 0, .bool true, .slice sa sn sc]] w fun e w' => e = .returned (S ([op] ++ [32, 33, 61, 32] ++ js)) ∧ Below w.heap.size w w' := by
  have HT := Lib.hid ht
  have HW := Lib.hid hw
  have HR := Lib.hid hr
  have HRX := Lib.hid hrx
  have HJ := Lib.hid hj
  obtain ⟨t2, ht2⟩ : ∃ t2, [op] ++ [32, 33, 61, 32] = t2 := ⟨_, rfl⟩
  have t2l : t2.length = 1 + 4 := by rw [← ht2]; simp
  have SB3 : (⟨#[op]⟩ : ByteArray) ++ (⟨#[32, 33, 61, 32]⟩ : ByteArray) = ⟨t2.toArray⟩ := by rw [← ht2]; exact arr_append [op] [32, 33, 61, 32]
  have cb3 : ¬ 9223372036854775807 < 1 + 4 := by omega
  have SB4 : (⟨t2.toArray⟩ : ByteArray) ++ (⟨js.toArray⟩ : ByteArray) = ⟨(t2 ++ js).toArray⟩ := arr_append t2 js
  have cb4 : ¬ 9223372036854775807 < t2.length + js.length := by omega
  have Kht2 := Lib.hid ht2
  clear ht hw hr hrx hj t2l ht2
  have cv : ∀ W : World, Sem.run Tryz.prog (convert 40 9 (.slice (some ⟨W.heap.size, 0, none⟩) 1 1)) (W.alloc (.cells #[.int .u8 ((op : UInt8).toNat : Int)] 5)) = .ok (.string ⟨#[op]⟩) (W.alloc (.cells #[.int .u8 ((op : UInt8).toNat : Int)] 5)) := fun W => conv_one W op _ rfl
  have cv1 := cv (w.alloc (.cells #[.int .u8 ((op : UInt8).toNat : Int), .int .i64 0, .bool true, .slice sa sn sc] 50))
  simp at cv1
  go_enter Tryz.func193, Tryz.ntmps193
  go_wp2_with fail
  with_reducible refine (joinR_as (.slice sa sn sc) rs base [44] js _ (Rngs.kept HR.out (grown_of_below (HeldL.alloc (HeldL.alloc (HeldL.refl w) (w.heap.size) #[.int .u8 ((op : UInt8).toNat : Int), .int .i64 0, .bool true, .slice sa sn sc] 50 (by simp)) (w.heap.size + 1) #[.int .u8 ((op : UInt8).toNat : Int)] 5 (by simp)).bel none) (Apart.none _ _)) HRX.out (HT.out.below (HeldL.alloc (HeldL.alloc (HeldL.refl w) (w.heap.size) #[.int .u8 ((op : UInt8).toNat : Int), .int .i64 0, .bool true, .slice sa sn sc] 50 (by simp)) (w.heap.size + 1) #[.int .u8 ((op : UInt8).toNat : Int)] 5 (by simp)).bel) (HW.out.below (HeldL.alloc (HeldL.alloc (HeldL.refl w) (w.heap.size) #[.int .u8 ((op : UInt8).toNat : Int), .int .i64 0, .bool true, .slice sa sn sc] 50 (by simp)) (w.heap.size + 1) #[.int .u8 ((op : UInt8).toNat : Int)] 5 (by simp)).bel) HJ.out (by omega) hn).mono ?_
  rintro x w1 ⟨rfl, hb⟩
  have H1 : Hid (HeldL w [(w.heap.size + 1, #[.int .u8 ((op : UInt8).toNat : Int)]), (w.heap.size, #[.int .u8 ((op : UInt8).toNat : Int), .int .i64 0, .bool true, .slice sa sn sc])] w1) := Lib.hid (HeldL.keep (HeldL.alloc (HeldL.alloc (HeldL.refl w) (w.heap.size) #[.int .u8 ((op : UInt8).toNat : Int), .int .i64 0, .bool true, .slice sa sn sc] 50 (by simp)) (w.heap.size + 1) #[.int .u8 ((op : UInt8).toNat : Int)] 5 (by simp)) hb)
  clear hb
  go_wp2
  go_ret
  exact ⟨by rw [← Kht2.out]; rfl, H1.out.bel⟩

set_option maxRecDepth 100000 in
set_option maxHeartbeats 1600000 in
theorem relS_m_e (op : UInt8) (md : Nat) (h0 : md ≠ 0) (h18 : md < 10 ^ 18) (mt : List UInt8) (hm : itoaL md = mt) (sa : Option Addr) (sn sc : Nat) (rs : List (Nat × Nat)) (base : Nat) (js : List UInt8) (w : World) (hr : Rngs w base rs (.slice sa sn sc)) (hrx : ∀ x ∈ rs, x.1 < 10 ^ 18 ∧ x.2 < 10 ^ 18) (ht : Tab w) (hw : Wds w) (hj : joinT [44] (rs.map rngT) = js) (jl : js.length ≤ 900000) (hn : rs.length ≤ 1000000) :
    Calls Tryz.prog 193 #[.agg #[.int .u8 ((op : UInt8).toNat : Int), .int .i64 ((md : Nat) : Int), .bool false, .slice sa sn sc]] w fun e w' => e = .returned (S ([op] ++ ([32, 37, 32] ++ mt) ++ [32, 61, 32] ++ js)) ∧ Below w.heap.size w w' := by
  have HT := Lib.hid ht
  have HW := Lib.hid hw
  have HR := Lib.hid hr
  have HRX := Lib.hid hrx
  have HJ := Lib.hid hj
  have HM := Lib.hid hm
  have ml := itoa_le md h18
  rw [hm] at ml
  have hmd : ¬ (md : Int) = 0 := by omega
  clear hm
  obtain ⟨m1, hm1⟩ : ∃ m1, [32, 37, 32] ++ mt = m1 := ⟨_, rfl⟩
  have m1l : m1.length = 3 + mt.length := by rw [← hm1]; simp; omega
  have SB1 : (⟨#[32, 37, 32]⟩ : ByteArray) ++ (⟨mt.toArray⟩ : ByteArray) = ⟨m1.toArray⟩ := by rw [← hm1]; exact arr_append [32, 37, 32] mt
  have cb1 : ¬ 9223372036854775807 < 3 + mt.length := by omega
  obtain ⟨t1, ht1⟩ : ∃ t1, [op] ++ m1 = t1 := ⟨_, rfl⟩
  have t1l : t1.length = 1 + m1.length := by rw [← ht1]; simp; omega
  have SB2 : (⟨#[op]⟩ : ByteArray) ++ (⟨m1.toArray⟩ : ByteArray) = ⟨t1.toArray⟩ := by rw [← ht1]; exact arr_append [op] m1
  have cb2 : ¬ 9223372036854775807 < 1 + m1.length := by omega
  obtain ⟨t2, ht2⟩ : ∃ t2, t1 ++ [32, 61, 32] = t2 := ⟨_, rfl⟩
  have t2l : t2.length = t1.length + 3 := by rw [← ht2]; simp
  have SB3 : (⟨t1.toArray⟩ : ByteArray) ++ (⟨#[32, 61, 32]⟩ : ByteArray) = ⟨t2.toArray⟩ := by rw [← ht2]; exact arr_append t1 [32, 61, 32]
  have cb3 : ¬ 9223372036854775807 < t1.length + 3 := by omega
  have SB4 : (⟨t2.toArray⟩ : ByteArray) ++ (⟨js.toArray⟩ : ByteArray) = ⟨(t2 ++ js).toArray⟩ := arr_append t2 js
  have cb4 : ¬ 9223372036854775807 < t2.length + js.length := by omega
  have Kht2 := Lib.hid ht2
  have Khm1 := Lib.hid hm1
  have Kht1 := Lib.hid ht1
  clear ht hw hr hrx hj t2l t1l m1l ht2 hm1 ht1
  have cv : ∀ W : World, Sem.run Tryz.prog (convert 40 9 (.slice (some ⟨W.heap.size, 0, none⟩) 1 1)) (W.alloc (.cells #[.int .u8 ((op : UInt8).toNat : Int)] 5)) = .ok (.string ⟨#[op]⟩) (W.alloc (.cells #[.int .u8 ((op : UInt8).toNat : Int)] 5)) := fun W => conv_one W op _ rfl
  have cv1 := cv (w.alloc (.cells #[.int .u8 ((op : UInt8).toNat : Int), .int .i64 ((md : Nat) : Int), .bool false, .slice sa sn sc] 50))
  simp at cv1
  go_enter Tryz.func193, Tryz.ntmps193
  go_wp2_with fail
  with_reducible refine (itoaN md _ h18 (HT.out.below (HeldL.alloc (HeldL.alloc (HeldL.refl w) (w.heap.size) #[.int .u8 ((op : UInt8).toNat : Int), .int .i64 ((md : Nat) : Int), .bool false, .slice sa sn sc] 50 (by simp)) (w.heap.size + 1) #[.int .u8 ((op : UInt8).toNat : Int)] 5 (by simp)).bel) mt HM.out).mono ?_
  rintro x w1 ⟨rfl, hb⟩
  have H1 : Hid (HeldL w [(w.heap.size + 1, #[.int .u8 ((op : UInt8).toNat : Int)]), (w.heap.size, #[.int .u8 ((op : UInt8).toNat : Int), .int .i64 ((md : Nat) : Int), .bool false, .slice sa sn sc])] w1) := Lib.hid (HeldL.keep (HeldL.alloc (HeldL.alloc (HeldL.refl w) (w.heap.size) #[.int .u8 ((op : UInt8).toNat : Int), .int .i64 ((md : Nat) : Int), .bool false, .slice sa sn sc] 50 (by simp)) (w.heap.size + 1) #[.int .u8 ((op : UInt8).toNat : Int)] 5 (by simp)) hb)
  clear hb
  have bx0 : w1.cell? ⟨w.heap.size, 0, none⟩ = some (.int .u8 ((op : UInt8).toNat : Int)) := (H1.out.f (List.Mem.tail _ (List.Mem.head _))).cell 0
  have bx1 : w1.cell? ⟨w.heap.size, 1, none⟩ = some (.int .i64 ((md : Nat) : Int)) := (H1.out.f (List.Mem.tail _ (List.Mem.head _))).cell 1
  have bx2 : w1.cell? ⟨w.heap.size, 2, none⟩ = some (.bool false) := (H1.out.f (List.Mem.tail _ (List.Mem.head _))).cell 2
  have bx3 : w1.cell? ⟨w.heap.size, 3, none⟩ = some (.slice sa sn sc) := (H1.out.f (List.Mem.tail _ (List.Mem.head _))).cell 3
  have bxl : w.heap.size < w1.heap.size := (H1.out.f (List.Mem.tail _ (List.Mem.head _))).lt
  go_wp2_with fail
  with_reducible refine (joinR_as (.slice sa sn sc) rs base [44] js _ (Rngs.kept HR.out (grown_of_below H1.out.bel none) (Apart.none _ _)) HRX.out (HT.out.below H1.out.bel) (HW.out.below H1.out.bel) HJ.out (by omega) hn).mono ?_
  rintro x w2 ⟨rfl, hb⟩
  clear bx0 bx1 bx2 bx3 bxl
  have H2 : Hid (HeldL w [(w.heap.size + 1, #[.int .u8 ((op : UInt8).toNat : Int)]), (w.heap.size, #[.int .u8 ((op : UInt8).toNat : Int), .int .i64 ((md : Nat) : Int), .bool false, .slice sa sn sc])] w2) := Lib.hid (HeldL.keep H1.out hb)
  clear H1
  clear hb
  go_wp2
  go_ret
  exact ⟨by rw [← Kht2.out, ← Kht1.out, ← Khm1.out]; rfl, H2.out.bel⟩

set_option maxRecDepth 100000 in
set_option maxHeartbeats 1600000 in
theorem relS_m_n (op : UInt8) (md : Nat) (h0 : md ≠ 0) (h18 : md < 10 ^ 18) (mt : List UInt8) (hm : itoaL md = mt) (sa : Option Addr) (sn sc : Nat) (rs : List (Nat × Nat)) (base : Nat) (js : List UInt8) (w : World) (hr : Rngs w base rs (.slice sa sn sc)) (hrx : ∀ x ∈ rs, x.1 < 10 ^ 18 ∧ x.2 < 10 ^ 18) (ht : Tab w) (hw : Wds w) (hj : joinT [44] (rs.map rngT) = js) (jl : js.length ≤ 900000) (hn : rs.length ≤ 1000000) :
    Calls Tryz.prog 193 #[.agg #[.int .u8 ((op : UInt8).toNat : Int), .int .i64 ((md : Nat) : Int), .bool true, .slice sa sn sc]] w fun e w' => e = .returned (S ([op] ++ ([32, 37, 32] ++ mt) ++ [32, 33, 61, 32] ++ js)) ∧ Below w.heap.size w w' := by
  have HT := Lib.hid ht
  have HW := Lib.hid hw
  have HR := Lib.hid hr
  have HRX := Lib.hid hrx
  have HJ := Lib.hid hj
  have HM := Lib.hid hm
  have ml := itoa_le md h18
  rw [hm] at ml
  have hmd : ¬ (md : Int) = 0 := by omega
  clear hm
  obtain ⟨m1, hm1⟩ : ∃ m1, [32, 37, 32] ++ mt = m1 := ⟨_, rfl⟩
  have m1l : m1.length = 3 + mt.length := by rw [← hm1]; simp; omega
  have SB1 : (⟨#[32, 37, 32]⟩ : ByteArray) ++ (⟨mt.toArray⟩ : ByteArray) = ⟨m1.toArray⟩ := by rw [← hm1]; exact arr_append [32, 37, 32] mt
  have cb1 : ¬ 9223372036854775807 < 3 + mt.length := by omega
  obtain ⟨t1, ht1⟩ : ∃ t1, [op] ++ m1 = t1 := ⟨_, rfl⟩
  have t1l : t1.length = 1 + m1.length := by rw [← ht1]; simp; omega
  have SB2 : (⟨#[op]⟩ : ByteArray) ++ (⟨m1.toArray⟩ : ByteArray) = ⟨t1.toArray⟩ := by rw [← ht1]; exact arr_append [op] m1
  have cb2 : ¬ 9223372036854775807 < 1 + m1.length := by omega
  obtain ⟨t2, ht2⟩ : ∃ t2, t1 ++ [32, 33, 61, 32] = t2 := ⟨_, rfl⟩
  have t2l : t2.length = t1.length + 4 := by rw [← ht2]; simp
  have SB3 : (⟨t1.toArray⟩ : ByteArray) ++ (⟨#[32, 33, 61, 32]⟩ : ByteArray) = ⟨t2.toArray⟩ := by rw [← ht2]; exact arr_append t1 [32, 33, 61, 32]
  have cb3 : ¬ 9223372036854775807 < t1.length + 4 := by omega
  have SB4 : (⟨t2.toArray⟩ : ByteArray) ++ (⟨js.toArray⟩ : ByteArray) = ⟨(t2 ++ js).toArray⟩ := arr_append t2 js
  have cb4 : ¬ 9223372036854775807 < t2.length + js.length := by omega
  have Kht2 := Lib.hid ht2
  have Khm1 := Lib.hid hm1
  have Kht1 := Lib.hid ht1
  clear ht hw hr hrx hj t2l t1l m1l ht2 hm1 ht1
  have cv : ∀ W : World, Sem.run Tryz.prog (convert 40 9 (.slice (some ⟨W.heap.size, 0, none⟩) 1 1)) (W.alloc (.cells #[.int .u8 ((op : UInt8).toNat : Int)] 5)) = .ok (.string ⟨#[op]⟩) (W.alloc (.cells #[.int .u8 ((op : UInt8).toNat : Int)] 5)) := fun W => conv_one W op _ rfl
  have cv1 := cv (w.alloc (.cells #[.int .u8 ((op : UInt8).toNat : Int), .int .i64 ((md : Nat) : Int), .bool true, .slice sa sn sc] 50))
  simp at cv1
  go_enter Tryz.func193, Tryz.ntmps193
  go_wp2_with fail
  with_reducible refine (itoaN md _ h18 (HT.out.below (HeldL.alloc (HeldL.alloc (HeldL.refl w) (w.heap.size) #[.int .u8 ((op : UInt8).toNat : Int), .int .i64 ((md : Nat) : Int), .bool true, .slice sa sn sc] 50 (by simp)) (w.heap.size + 1) #[.int .u8 ((op : UInt8).toNat : Int)] 5 (by simp)).bel) mt HM.out).mono ?_
  rintro x w1 ⟨rfl, hb⟩
  have H1 : Hid (HeldL w [(w.heap.size + 1, #[.int .u8 ((op : UInt8).toNat : Int)]), (w.heap.size, #[.int .u8 ((op : UInt8).toNat : Int), .int .i64 ((md : Nat) : Int), .bool true, .slice sa sn sc])] w1) := Lib.hid (HeldL.keep (HeldL.alloc (HeldL.alloc (HeldL.refl w) (w.heap.size) #[.int .u8 ((op : UInt8).toNat : Int), .int .i64 ((md : Nat) : Int), .bool true, .slice sa sn sc] 50 (by simp)) (w.heap.size + 1) #[.int .u8 ((op : UInt8).toNat : Int)] 5 (by simp)) hb)
  clear hb
  have bx0 : w1.cell? ⟨w.heap.size, 0, none⟩ = some (.int .u8 ((op : UInt8).toNat : Int)) := (H1.out.f (List.Mem.tail _ (List.Mem.head _))).cell 0
  have bx1 : w1.cell? ⟨w.heap.size, 1, none⟩ = some (.int .i64 ((md : Nat) : Int)) := (H1.out.f (List.Mem.tail _ (List.Mem.head _))).cell 1
  have bx2 : w1.cell? ⟨w.heap.size, 2, none⟩ = some (.bool true) := (H1.out.f (List.Mem.tail _ (List.Mem.head _))).cell 2
  have bx3 : w1.cell? ⟨w.heap.size, 3, none⟩ = some (.slice sa sn sc) := (H1.out.f (List.Mem.tail _ (List.Mem.head _))).cell 3
  have bxl : w.heap.size < w1.heap.size := (H1.out.f (List.Mem.tail _ (List.Mem.head _))).lt
  go_wp2_with fail
  with_reducible refine (joinR_as (.slice sa sn sc) rs base [44] js _ (Rngs.kept HR.out (grown_of_below H1.out.bel none) (Apart.none _ _)) HRX.out (HT.out.below H1.out.bel) (HW.out.below H1.out.bel) HJ.out (by omega) hn).mono ?_
  rintro x w2 ⟨rfl, hb⟩
  clear bx0 bx1 bx2 bx3 bxl
  have H2 : Hid (HeldL w [(w.heap.size + 1, #[.int .u8 ((op : UInt8).toNat : Int)]), (w.heap.size, #[.int .u8 ((op : UInt8).toNat : Int), .int .i64 ((md : Nat) : Int), .bool true, .slice sa sn sc])] w2) := Lib.hid (HeldL.keep H1.out hb)
  clear H1
  clear hb
  go_wp2
  go_ret
  exact ⟨by rw [← Kht2.out, ← Kht1.out, ← Khm1.out]; rfl, H2.out.bel⟩

/-- Numbers of relations are small. -/
def RelOK (x : RelT) : Prop := x.mod < 10 ^ 18 ∧ (∀ y ∈ x.rs, y.1 < 10 ^ 18 ∧ y.2 < 10 ^ 18)
theorem relS_as (x : RelT) (u : Value) (base : Nat) (w : World) (hr : Rngs w base x.rs u) (hx : RelOK x) (ht : Tab w) (hw : Wds w) (t : List UInt8) (hT : relT x = t) (tl : t.length ≤ 900000) :
    Calls Tryz.prog 193 #[.agg #[.int .u8 ((x.op : UInt8).toNat : Int), .int .i64 ((x.mod : Nat) : Int), .bool x.nt, u]] w fun e w' => e = .returned (S t) ∧ Below w.heap.size w w' := by
  obtain ⟨sa, sn, sc, rfl⟩ := own_slice hr
  obtain ⟨op, md, nt, rs⟩ := x
  obtain ⟨h1, h2⟩ := hx
  simp only at hr h1 h2 ⊢
  unfold relT at hT
  simp only at hT
  obtain ⟨js, hj⟩ : ∃ js, joinT [44] (rs.map rngT) = js := ⟨_, rfl⟩
  have hc := join_count [44] (by simp) (rs.map rngT)
  rw [hj] at hT hc
  rw [List.length_map] at hc
  have hl := congrArg List.length hT
  rw [List.length_append] at hl
  have jl : js.length ≤ 900000 := by omega
  subst hT
  by_cases h0 : md = 0
  · subst h0
    rw [show modT 0 = [] from rfl, List.append_nil]
    cases nt with
    | true => exact relS_z_n op sa sn sc rs base js w hr h2 ht hw hj jl (by omega)
    | false => exact relS_z_e op sa sn sc rs base js w hr h2 ht hw hj jl (by omega)
  · rw [show modT md = [32, 37, 32] ++ itoaL md from if_neg h0]
    cases nt with
    | true => exact relS_m_n op md h0 h1 _ rfl sa sn sc rs base js w hr h2 ht hw hj jl (by omega)
    | false => exact relS_m_e op md h0 h1 _ rfl sa sn sc rs base js w hr h2 ht hw hj jl (by omega)
end Go.Proofs.YtkjhdehpcanciaaGreatDoor

namespace Go.Proofs.YtkjhdehpcanciaaGreatDoor
open Go.RowKit Florin
set_option linter.unusedVariables false
set_option linter.unusedSimpArgs false
attribute [local go_sem ↓] Go.wp_at_zero Go.wp_at_succ 

theorem box_after {w w1 : World} {cs : Array Value} {t : TypeId} (h : (w.alloc (.cells cs t)).grownBy w1 none) (i : Nat) : w1.cell? ⟨w.heap.size, i, none⟩ = cs[i]? := by
  have hb := h.block w.heap.size (by simp) (by simp)
  rw [World.cell?_of_block (a := ⟨w.heap.size, i, none⟩) hb]
  exact (BoxT.new w cs t).box.cell i
theorem mthL (v : Value) (w : World) : Sem.run Tryz.prog (method 330 50 v "String") w = .ok (193, v) w := by kernel_rfl
attribute [local go_sem ↓] mthL

set_option maxRecDepth 100000 in
set_option maxHeartbeats 1600000 in
theorem joinL_n (v : Value) (xs : List (RelT)) (base : Nat) (sep t : List UInt8) (w : World) (h : AllAt w base xs v) (hx : ∀ x ∈ xs, RelOK x) (ht : Tab w) (hw : Wds w) (hT : joinT sep (xs.map relT) = t) (tl : t.length ≤ 900000) (hn : xs.length ≤ 1000000) (hv : v = .slice none 0 0) (h0 : xs = []) :
    Calls Tryz.prog 60 #[v, S sep] w fun e w' => e = .returned (S t) ∧ Below w.heap.size w w' := by
  subst hv h0
  have HT : Hid (joinT sep [] = t) := Lib.hid hT
  obtain ⟨i0, hi, hz0, hz1, hz2⟩ := info_parts infoStr
  clear h ht hw hT
  go_enter Tryz.func60, Tryz.ntmps60
  go_wp2_with (at_make; refine wpList_make_full _ rfl (.tmp 9) (.tmp 9) 104 rfl w.heap.size 9 i0 (.string ⟨#[]⟩) 1 Tryz.underlying104 hi hz0 hz1 .i64 .i64 _ _ 0 rfl rfl rfl rfl (by rw [hz2]; omega) (by unfold maxLen; omega) (by simp) ?_; intro w1 hown hgrow)
  have TX := Lib.hid (TxB.made hown)
  have BB := Lib.hid (below_none hgrow)
  clear hown hgrow hi hz0 hz1 hz2
  go_wp2_with fail
  go_loopw [13] (fun i wr => i = .int .i64 0 ∧ w1 = wr) (fun _ _ => 0)
  case atStart => exact ⟨rfl, rfl⟩
  case round =>
    obtain ⟨rfl, rfl⟩ := hrel
    go_wp2_with fail
    refine (join_as w.heap.size [] sep t w1 (fun j l hl => by simp at hl) (TX.out.lt _ rfl).2 (by simp) HT.out (by omega)).mono ?_
    rintro x w2 ⟨rfl, hb⟩
    have HB := Lib.hid (BB.out.trans (hb.mono BB.out.size))
    clear hb
    go_wp2
    go_ret
    exact ⟨rfl, HB.out⟩

set_option maxRecDepth 100000 in
set_option maxHeartbeats 3200000 in
theorem joinL_s (v : Value) (xs : List (RelT)) (base : Nat) (sep t : List UInt8) (w : World) (h : AllAt w base xs v) (hx : ∀ x ∈ xs, RelOK x) (ht : Tab w) (hw : Wds w) (hT : joinT sep (xs.map relT) = t) (tl : t.length ≤ 900000) (hn : xs.length ≤ 1000000) (g cap : Nat) (cs : List Value) (hv : v = .slice (some ⟨g, 0, none⟩) xs.length cap) (ho : w.ownsRow base 50 4 v xs.length cs) (hl : ListAt (RelAt w) xs cs) (hcap : xs.length ≤ cap) (hcm : cap ≤ maxLen) :
    Calls Tryz.prog 60 #[v, S sep] w fun e w' => e = .returned (S t) ∧ Below w.heap.size w w' := by
  subst hv
  have HT := Lib.hid hT
  have HO := Lib.hid ho
  have HL := Lib.hid hl
  have HTAB := Lib.hid ht
  have HWD := Lib.hid hw
  have HX := Lib.hid hx
  have hgl := (ho.lt g rfl).2
  have hcmi : (cap : Int) ≤ 9223372036854775807 := by unfold maxLen at hcm; omega
  obtain ⟨i0, hi, hz0, hz1, hz2⟩ := info_parts infoStr
  clear h ht hw hT ho hl hx
  go_enter Tryz.func60, Tryz.ntmps60
  go_wp2_with (at_make; refine wpList_make_full _ rfl (.tmp 9) (.tmp 9) 104 rfl w.heap.size 9 i0 (.string ⟨#[]⟩) 1 Tryz.underlying104 hi hz0 hz1 .i64 .i64 _ _ xs.length rfl rfl rfl rfl (by rw [hz2]; omega) (by unfold maxLen; omega) (by simp) ?_; intro w1 hown hgrow)
  have TX := Lib.hid (TxB.made hown)
  have BB := Lib.hid (below_none hgrow)
  clear hown hgrow hi hz0 hz1 hz2
  go_wp2_with fail
  go_loopw [13] (fun i wr => ∃ k : Nat, k ≤ xs.length ∧ i = .int .i64 k ∧ TxB wr w.heap.size w.heap.size xs.length ((xs.map relT).take k ++ List.replicate (xs.length - k) []) ∧ Below w.heap.size w wr) (fun i _ => xs.length - (intOf i).toNat)
  case atStart => exact ⟨0, Nat.zero_le _, rfl, by simpa using TX.out, BB.out⟩
  case round =>
    obtain ⟨k, hk, rfl, htx, hbb⟩ := hrel
    have TX2 := Lib.hid htx
    have BB2 := Lib.hid hbb
    clear htx hbb TX BB
    by_cases hlt : k < xs.length
    · have hlti : (k : Int) < (xs.length : Int) := by omega
      obtain ⟨xk, hxk⟩ : ∃ xk, xs[k] = xk := ⟨_, rfl⟩
      obtain ⟨c, hA, hc⟩ := ListAt.get (sz := 4) (fun x c h => by obtain ⟨u, rfl, _⟩ := h; rfl) HL.out k hlt
      rw [hxk] at hA
      have hmem : xk ∈ xs := by rw [← hxk]; exact List.getElem_mem hlt
      have HXK : Hid (xs[k]? = some xk) := Lib.hid (by rw [List.getElem?_eq_getElem hlt, hxk])
      clear hxk
      obtain ⟨u, rfl, hrg⟩ := hA
      obtain ⟨sa, sn, sc, hsv⟩ := own_slice hrg
      subst hsv
      have HRG := Lib.hid hrg
      clear hrg
      have hxl : (relT xk).length ≤ t.length := by rw [← HT.out]; exact join_mem _ _ _ (List.mem_map_of_mem hmem)
      have HXL := Lib.hid hxl
      clear hxl
      have e0 : wr.cell? ⟨g, k * 4, none⟩ = some (.int .u8 ((xk.op : UInt8).toNat : Int)) := by rw [BB2.out.cell (show g < _ from hgl), HO.out.cellAt _ (by omega), show cs[k * 4]? = _ from hc 0 (by decide)]; rfl
      have e1 : wr.cell? ⟨g, k * 4 + 1, none⟩ = some (.int .i64 ((xk.mod : Nat) : Int)) := by rw [BB2.out.cell (show g < _ from hgl), HO.out.cellAt _ (by omega), show cs[k * 4 + 1]? = _ from hc 1 (by decide)]; rfl
      have e2 : wr.cell? ⟨g, k * 4 + 2, none⟩ = some (.bool xk.nt) := by rw [BB2.out.cell (show g < _ from hgl), HO.out.cellAt _ (by omega), show cs[k * 4 + 2]? = _ from hc 2 (by decide)]; rfl
      have e3 : wr.cell? ⟨g, k * 4 + 3, none⟩ = some (.slice sa sn sc) := by rw [BB2.out.cell (show g < _ from hgl), HO.out.cellAt _ (by omega), show cs[k * 4 + 3]? = _ from hc 3 (by decide)]; rfl
      clear hc
      have hk3 : (0 : Int) ≤ (k : Int) := by omega
      have hkc : (k : Int) < (cap : Int) := by omega
      have glr : g < wr.heap.size := Nat.lt_of_lt_of_le hgl BB2.out.size
      have gs : w.heap.size < wr.heap.size := (TX2.out.lt _ rfl).2
      go_wp2_with fail
      with_reducible refine (relS_as xk (.slice sa sn sc) 0 _ (Rngs.kept HRG.out (grown_of_below (BB2.out.alloc BB2.out.size _) none) (Apart.none _ _)) (HX.out xk hmem) (HTAB.out.below (BB2.out.alloc BB2.out.size _)) (HWD.out.below (BB2.out.alloc BB2.out.size _)) (relT xk) rfl (Nat.le_trans HXL.out tl)).mono ?_
      rintro x w3 ⟨rfl, hb⟩
      have TX3 := Lib.hid ((TxB.below TX2.out (Below.alloc (Below.refl _ _) (Nat.le_refl _) _)).below hb)
      have BB3 := Lib.hid ((BB2.out.alloc BB2.out.size (.cells #[.int .u8 ((xk.op : UInt8).toNat : Int), .int .i64 ((xk.mod : Nat) : Int), .bool xk.nt, .slice sa sn sc] 50)).trans (hb.mono (by simp; omega)))
      have tz := World.ownsRow.frozenAt TX3.out k
      have tg := (TX3.out.lt _ rfl).2
      obtain ⟨tv, tcell⟩ : ∃ tv, w3.cell? ⟨w.heap.size, k, none⟩ = some (.string tv) := by
        have hlen := TX3.out.1
        have := World.ownsRow.cellAt TX3.out k (by omega)
        rw [List.getElem?_map] at this
        rw [List.length_map] at hlen
        obtain ⟨q, hq⟩ : ∃ q, ((xs.map relT).take k ++ List.replicate (xs.length - k) ([] : List UInt8))[k]? = some q := ⟨_, List.getElem?_eq_getElem (by omega)⟩
        rw [hq] at this
        exact ⟨_, this⟩
      clear hb
      go_wp2
      go_roundw
      case rel => exact ⟨k + 1, by omega, by go_num, by rw [← take_put (xs.map relT) [] xs.length k (relT xk) hlt (by simp) (by rw [List.getElem?_map, HXK.out]; rfl)]; exact TX3.out.stored k _, BB3.out.setCell (by simp) _⟩
      case measure => simp [intOf]; omega
    · obtain rfl : k = xs.length := by omega
      have hlti : ¬ (xs.length : Int) < (xs.length : Int) := by omega
      have HTX : Hid (TxB wr w.heap.size w.heap.size xs.length (xs.map relT)) := Lib.hid (by have := TX2.out; rw [Nat.sub_self, List.replicate_zero, List.append_nil, List.take_of_length_le (by simp)] at this; exact this)
      go_wp2_with fail
      have hj := join_as w.heap.size (xs.map relT) sep t wr (fun j l hl => HTX.out.cell j l hl) (HTX.out.lt _ rfl).2 (by simp; omega) HT.out (by omega)
      rw [List.length_map] at hj
      with_reducible refine hj.mono ?_
      rintro x w2 ⟨rfl, hb⟩
      have HB := Lib.hid (BB2.out.trans (hb.mono BB2.out.size))
      clear hb hj
      go_wp2
      go_ret
      exact ⟨rfl, HB.out⟩

theorem joinL_as (v : Value) (xs : List (RelT)) (base : Nat) (sep t : List UInt8) (w : World) (h : AllAt w base xs v) (hx : ∀ x ∈ xs, RelOK x) (ht : Tab w) (hw : Wds w) (hT : joinT sep (xs.map relT) = t) (tl : t.length ≤ 900000) (hn : xs.length ≤ 1000000) :
    Calls Tryz.prog 60 #[v, S sep] w fun e w' => e = .returned (S t) ∧ Below w.heap.size w w' := by
  have h2 := h
  obtain ⟨cs, ho, hl⟩ := h
  rcases ho.2 with ⟨hv, h0⟩ | ⟨g, cap, cur, hv, _, _, hcap, hcm, _⟩
  · exact joinL_n v xs base sep t w h2 hx ht hw hT tl hn hv (List.eq_nil_of_length_eq_zero h0)
  · exact joinL_s v xs base sep t w h2 hx ht hw hT tl hn g cap cs hv ho hl hcap hcm

set_option maxRecDepth 100000 in
set_option maxHeartbeats 1600000 in
theorem cond_n0 (cat : Int) (sm t : List UInt8) (w : World) (hT : condT [] = t) :
    Calls Tryz.prog 38 #[.agg #[.int .i64 cat, .slice none 0 0, S sm]] w fun e w' => e = .returned (S t) ∧ Below w.heap.size w w' := by
  have HT : Hid (joinT [32, 111, 114, 32] [] = t) := Lib.hid hT
  have tl : t.length = 0 := by rw [← hT]; rfl
  obtain ⟨i0, hi, hz0, hz1, hz2⟩ := info_parts infoStr
  clear hT
  go_enter Tryz.func38, Tryz.ntmps38
  go_wp2_with (at_make; refine wpList_make_full _ rfl (.tmp 8) (.tmp 8) 104 rfl w.heap.size 9 i0 (.string ⟨#[]⟩) 1 Tryz.underlying104 hi hz0 hz1 .i64 .i64 _ _ 0 rfl rfl rfl rfl (by rw [hz2]; omega) (by unfold maxLen; omega) (by simp) ?_; intro w1 hown hgrow; have nb : w1.cell? ⟨w.heap.size, 1, none⟩ = some (.slice none 0 0) := box_after hgrow 1)
  simp at hown
  have TX := Lib.hid (TxB.made (n := 0) hown)
  have BB := Lib.hid ((Below.alloc (Below.refl w.heap.size w) (Nat.le_refl _) _).trans ((below_none hgrow).mono (by simp)))
  clear hown hgrow hi hz0 hz1 hz2
  go_wp2_with fail
  go_loopw [13] (fun i wr => i = .int .i64 0 ∧ w1 = wr) (fun _ _ => 0)
  case atStart => exact ⟨rfl, rfl⟩
  case round =>
    obtain ⟨rfl, rfl⟩ := hrel
    go_wp2_with fail
    refine (join_as (w.heap.size + 1) [] [32, 111, 114, 32] t w1 (fun j l hl => by simp at hl) (TX.out.lt _ rfl).2 (by simp) HT.out (by omega)).mono ?_
    rintro x w2 ⟨rfl, hb⟩
    have HB := Lib.hid (BB.out.trans (hb.mono BB.out.size))
    clear hb
    go_wp2
    go_ret
    exact ⟨rfl, HB.out⟩

set_option maxRecDepth 100000 in
set_option maxHeartbeats 3200000 in
theorem cond_s (cat : Int) (sm : List UInt8) (v : Value) (xs : List (List RelT)) (base : Nat) (t : List UInt8) (w : World) (h : CondAt w base xs v) (hx : ∀ a ∈ xs, ∀ x ∈ a, RelOK x) (ht : Tab w) (hw : Wds w) (hT : condT xs = t) (tl : t.length ≤ 800000) (hn : xs.length ≤ 1000000) (g cap : Nat) (cs : List Value) (hv : v = .slice (some ⟨g, 0, none⟩) xs.length cap) (ho : w.ownsRow base 47 1 v xs.length cs) (hl : ListAt (fun x c => ∃ u, c = [u] ∧ AllAt w 0 x u) xs cs) (hcap : xs.length ≤ cap) (hcm : cap ≤ maxLen) :
    Calls Tryz.prog 38 #[.agg #[.int .i64 cat, v, S sm]] w fun e w' => e = .returned (S t) ∧ Below w.heap.size w w' := by
  subst hv
  have HT : Hid (joinT [32, 111, 114, 32] (xs.map (fun a => joinT [32, 97, 110, 100, 32] (a.map relT))) = t) := Lib.hid hT
  have HO := Lib.hid ho
  have HL := Lib.hid hl
  have HTAB := Lib.hid ht
  have HWD := Lib.hid hw
  have HX := Lib.hid hx
  have hgl := (ho.lt g rfl).2
  have hcmi : (cap : Int) ≤ 9223372036854775807 := by unfold maxLen at hcm; omega
  obtain ⟨i0, hi, hz0, hz1, hz2⟩ := info_parts infoStr
  clear h ht hw hT ho hl hx
  go_enter Tryz.func38, Tryz.ntmps38
  go_wp2_with (at_make; refine wpList_make_full _ rfl (.tmp 8) (.tmp 8) 104 rfl w.heap.size 9 i0 (.string ⟨#[]⟩) 1 Tryz.underlying104 hi hz0 hz1 .i64 .i64 _ _ xs.length rfl rfl rfl rfl (by rw [hz2]; omega) (by unfold maxLen; omega) (by simp) ?_; intro w1 hown hgrow; have nb : w1.cell? ⟨w.heap.size, 1, none⟩ = some (.slice (some ⟨g, 0, none⟩) xs.length cap) := box_after hgrow 1)
  simp at hown
  have TX := Lib.hid (TxB.made (n := xs.length) (by rw [Nat.mul_one]; exact hown))
  have BB := Lib.hid ((Below.alloc (Below.refl w.heap.size w) (Nat.le_refl _) _).trans ((below_none hgrow).mono (by simp)))
  clear hown hgrow hi hz0 hz1 hz2
  clear nb
  go_wp2_with fail
  go_loopw [13] (fun i wr => ∃ k : Nat, k ≤ xs.length ∧ i = .int .i64 k ∧ TxB wr w.heap.size (w.heap.size + 1) xs.length ((xs.map (fun a => joinT [32, 97, 110, 100, 32] (a.map relT))).take k ++ List.replicate (xs.length - k) []) ∧ Below w.heap.size w wr) (fun i _ => xs.length - (intOf i).toNat)
  case atStart => exact ⟨0, Nat.zero_le _, rfl, by simpa using TX.out, BB.out⟩
  case round =>
    obtain ⟨k, hk, rfl, htx, hbb⟩ := hrel
    have TX2 := Lib.hid htx
    have BB2 := Lib.hid hbb
    clear htx hbb TX BB
    by_cases hlt : k < xs.length
    · have hlti : (k : Int) < (xs.length : Int) := by omega
      obtain ⟨xk, hxk⟩ : ∃ xk, xs[k] = xk := ⟨_, rfl⟩
      obtain ⟨c, hA, hc⟩ := ListAt.get (sz := 1) (fun x c h => by obtain ⟨u, rfl, _⟩ := h; rfl) HL.out k hlt
      rw [hxk] at hA
      have hmem : xk ∈ xs := by rw [← hxk]; exact List.getElem_mem hlt
      have HXK : Hid (xs[k]? = some xk) := Lib.hid (by rw [List.getElem?_eq_getElem hlt, hxk])
      clear hxk
      obtain ⟨u, rfl, hal⟩ := hA
      obtain ⟨sa, sn, sc, hsv⟩ : ∃ a m c, u = .slice a m c := by obtain ⟨cs2, h1, _⟩ := hal; exact own_slice h1
      subst hsv
      have HAL := Lib.hid hal
      have hxl : (joinT [32, 97, 110, 100, 32] (xk.map relT)).length ≤ t.length := by rw [← HT.out]; exact join_mem _ _ _ (List.mem_map_of_mem (f := (fun a => joinT [32, 97, 110, 100, 32] (a.map relT))) hmem)
      have hxc := join_count [32, 97, 110, 100, 32] (by simp) (xk.map relT)
      rw [List.length_map] at hxc
      have hxn : xk.length ≤ 1000000 := by omega
      have HXL := Lib.hid hxl
      clear hal hxl hxc
      have e0 : wr.cell? ⟨g, k, none⟩ = some (.slice sa sn sc) := by rw [BB2.out.cell (show g < _ from hgl), HO.out.cellAt _ (by omega)]; have := hc 0 (by decide); rw [Nat.mul_one, Nat.add_zero] at this; rw [this]; rfl
      clear hc
      have hk3 : (0 : Int) ≤ (k : Int) := by omega
      have hkc : (k : Int) < (cap : Int) := by omega
      have glr : g < wr.heap.size := Nat.lt_of_lt_of_le hgl BB2.out.size
      have gs : w.heap.size + 1 < wr.heap.size := (TX2.out.lt _ rfl).2
      go_wp2_with fail
      with_reducible refine (joinL_as (.slice sa sn sc) xk 0 [32, 97, 110, 100, 32] _ _ (AllAt.kept HAL.out (grown_of_below BB2.out none) (Apart.none _ _)) (HX.out xk hmem) (HTAB.out.below BB2.out) (HWD.out.below BB2.out) rfl (Nat.le_trans HXL.out (by omega)) hxn).mono ?_
      rintro x w3 ⟨rfl, hb⟩
      have TX3 := Lib.hid (TX2.out.below hb)
      have BB3 := Lib.hid (BB2.out.trans (hb.mono BB2.out.size))
      have tz := World.ownsRow.frozenAt TX3.out k
      have tg := (TX3.out.lt _ rfl).2
      obtain ⟨tv, tcell⟩ : ∃ tv, w3.cell? ⟨w.heap.size + 1, k, none⟩ = some (.string tv) := by
        have hlen := TX3.out.1
        have := World.ownsRow.cellAt TX3.out k (by omega)
        rw [List.getElem?_map] at this
        rw [List.length_map] at hlen
        obtain ⟨q, hq⟩ : ∃ q, ((xs.map (fun a => joinT [32, 97, 110, 100, 32] (a.map relT))).take k ++ List.replicate (xs.length - k) ([] : List UInt8))[k]? = some q := ⟨_, List.getElem?_eq_getElem (by omega)⟩
        rw [hq] at this
        exact ⟨_, this⟩
      clear hb
      go_wp2
      go_roundw
      case rel => exact ⟨k + 1, by omega, by go_num, by rw [← take_put (xs.map (fun a => joinT [32, 97, 110, 100, 32] (a.map relT))) [] xs.length k _ hlt (by simp) (by rw [List.getElem?_map, HXK.out]; rfl)]; exact TX3.out.stored k _, BB3.out.setCell (by simp) _⟩
      case measure => simp [intOf]; omega
    · obtain rfl : k = xs.length := by omega
      have hlti : ¬ (xs.length : Int) < (xs.length : Int) := by omega
      have HTX : Hid (TxB wr w.heap.size (w.heap.size + 1) xs.length (xs.map (fun a => joinT [32, 97, 110, 100, 32] (a.map relT)))) := Lib.hid (by have := TX2.out; rw [Nat.sub_self, List.replicate_zero, List.append_nil, List.take_of_length_le (by simp)] at this; exact this)
      go_wp2_with fail
      have hj := join_as (w.heap.size + 1) (xs.map (fun a => joinT [32, 97, 110, 100, 32] (a.map relT))) [32, 111, 114, 32] t wr (fun j l hl => HTX.out.cell j l hl) (HTX.out.lt _ rfl).2 (by simp; omega) HT.out (by omega)
      rw [List.length_map] at hj
      with_reducible refine hj.mono ?_
      rintro x w2 ⟨rfl, hb⟩
      have HB := Lib.hid (BB2.out.trans (hb.mono BB2.out.size))
      clear hb hj
      go_wp2
      go_ret
      exact ⟨rfl, HB.out⟩

theorem condS_as (cat : Int) (sm : List UInt8) (v : Value) (xs : List (List RelT)) (base : Nat) (t : List UInt8) (w : World) (h : CondAt w base xs v) (hx : ∀ a ∈ xs, ∀ x ∈ a, RelOK x) (ht : Tab w) (hw : Wds w) (hT : condT xs = t) (tl : t.length ≤ 800000) (hn : xs.length ≤ 1000000) :
    Calls Tryz.prog 38 #[.agg #[.int .i64 cat, v, S sm]] w fun e w' => e = .returned (S t) ∧ Below w.heap.size w w' := by
  have h2 := h
  obtain ⟨cs, ho, hl⟩ := h
  rcases ho.2 with ⟨hv, h0⟩ | ⟨g, cap, cur, hv, _, _, hcap, hcm, _⟩
  · subst hv
    have := List.eq_nil_of_length_eq_zero h0
    subst this
    exact cond_n0 cat sm t w hT
  · exact cond_s cat sm v xs base t w h2 hx ht hw hT tl hn g cap cs hv ho hl hcap hcm
end Go.Proofs.YtkjhdehpcanciaaGreatDoor

namespace Go.Proofs.YtkjhdehpcanciaaGreatDoor
open Go.RowKit Florin
set_option linter.unusedVariables false
set_option linter.unusedSimpArgs false
attribute [local go_sem ↓] Go.wp_at_zero Go.wp_at_succ 

def catT (n : Int) : List UInt8 := if 0 ≤ n ∧ n ≤ 5 then wordT n.toNat else []
set_option maxRecDepth 100000 in
set_option maxHeartbeats 800000 in
theorem catS_0 (w : World) (h : Wds w) : Calls Tryz.prog 37 #[.int .i64 0] w fun e w' => e = .returned (.string ⟨#[122, 101, 114, 111]⟩) ∧ w = w' := by
  have g0 : w.cell? ⟨0, 0, none⟩ = some (.string ⟨#[122, 101, 114, 111]⟩) := h.cell 0
  have g1 : w.cell? ⟨0, 1, none⟩ = some (.string ⟨#[111, 110, 101]⟩) := h.cell 1
  have g2 : w.cell? ⟨0, 2, none⟩ = some (.string ⟨#[116, 119, 111]⟩) := h.cell 2
  have g3 : w.cell? ⟨0, 3, none⟩ = some (.string ⟨#[102, 101, 119]⟩) := h.cell 3
  have g4 : w.cell? ⟨0, 4, none⟩ = some (.string ⟨#[109, 97, 110, 121]⟩) := h.cell 4
  have g5 : w.cell? ⟨0, 5, none⟩ = some (.string ⟨#[111, 116, 104, 101, 114]⟩) := h.cell 5
  have gl := h.lt
  clear h
  go_enter Tryz.func37, Tryz.ntmps37
  go_wp2
  go_ret
  exact ⟨rfl, rfl⟩
set_option maxRecDepth 100000 in
set_option maxHeartbeats 800000 in
theorem catS_1 (w : World) (h : Wds w) : Calls Tryz.prog 37 #[.int .i64 1] w fun e w' => e = .returned (.string ⟨#[111, 110, 101]⟩) ∧ w = w' := by
  have g0 : w.cell? ⟨0, 0, none⟩ = some (.string ⟨#[122, 101, 114, 111]⟩) := h.cell 0
  have g1 : w.cell? ⟨0, 1, none⟩ = some (.string ⟨#[111, 110, 101]⟩) := h.cell 1
  have g2 : w.cell? ⟨0, 2, none⟩ = some (.string ⟨#[116, 119, 111]⟩) := h.cell 2
  have g3 : w.cell? ⟨0, 3, none⟩ = some (.string ⟨#[102, 101, 119]⟩) := h.cell 3
  have g4 : w.cell? ⟨0, 4, none⟩ = some (.string ⟨#[109, 97, 110, 121]⟩) := h.cell 4
  have g5 : w.cell? ⟨0, 5, none⟩ = some (.string ⟨#[111, 116, 104, 101, 114]⟩) := h.cell 5
  have gl := h.lt
  clear h
  go_enter Tryz.func37, Tryz.ntmps37
  go_wp2
  go_ret
  exact ⟨rfl, rfl⟩
set_option maxRecDepth 100000 in
set_option maxHeartbeats 800000 in
theorem catS_2 (w : World) (h : Wds w) : Calls Tryz.prog 37 #[.int .i64 2] w fun e w' => e = .returned (.string ⟨#[116, 119, 111]⟩) ∧ w = w' := by
  have g0 : w.cell? ⟨0, 0, none⟩ = some (.string ⟨#[122, 101, 114, 111]⟩) := h.cell 0
  have g1 : w.cell? ⟨0, 1, none⟩ = some (.string ⟨#[111, 110, 101]⟩) := h.cell 1
  have g2 : w.cell? ⟨0, 2, none⟩ = some (.string ⟨#[116, 119, 111]⟩) := h.cell 2
  have g3 : w.cell? ⟨0, 3, none⟩ = some (.string ⟨#[102, 101, 119]⟩) := h.cell 3
  have g4 : w.cell? ⟨0, 4, none⟩ = some (.string ⟨#[109, 97, 110, 121]⟩) := h.cell 4
  have g5 : w.cell? ⟨0, 5, none⟩ = some (.string ⟨#[111, 116, 104, 101, 114]⟩) := h.cell 5
  have gl := h.lt
  clear h
  go_enter Tryz.func37, Tryz.ntmps37
  go_wp2
  go_ret
  exact ⟨rfl, rfl⟩
set_option maxRecDepth 100000 in
set_option maxHeartbeats 800000 in
theorem catS_3 (w : World) (h : Wds w) : Calls Tryz.prog 37 #[.int .i64 3] w fun e w' => e = .returned (.string ⟨#[102, 101, 119]⟩) ∧ w = w' := by
  have g0 : w.cell? ⟨0, 0, none⟩ = some (.string ⟨#[122, 101, 114, 111]⟩) := h.cell 0
  have g1 : w.cell? ⟨0, 1, none⟩ = some (.string ⟨#[111, 110, 101]⟩) := h.cell 1
  have g2 : w.cell? ⟨0, 2, none⟩ = some (.string ⟨#[116, 119, 111]⟩) := h.cell 2
  have g3 : w.cell? ⟨0, 3, none⟩ = some (.string ⟨#[102, 101, 119]⟩) := h.cell 3
  have g4 : w.cell? ⟨0, 4, none⟩ = some (.string ⟨#[109, 97, 110, 121]⟩) := h.cell 4
  have g5 : w.cell? ⟨0, 5, none⟩ = some (.string ⟨#[111, 116, 104, 101, 114]⟩) := h.cell 5
  have gl := h.lt
  clear h
  go_enter Tryz.func37, Tryz.ntmps37
  go_wp2
  go_ret
  exact ⟨rfl, rfl⟩
set_option maxRecDepth 100000 in
set_option maxHeartbeats 800000 in
theorem catS_4 (w : World) (h : Wds w) : Calls Tryz.prog 37 #[.int .i64 4] w fun e w' => e = .returned (.string ⟨#[109, 97, 110, 121]⟩) ∧ w = w' := by
  have g0 : w.cell? ⟨0, 0, none⟩ = some (.string ⟨#[122, 101, 114, 111]⟩) := h.cell 0
  have g1 : w.cell? ⟨0, 1, none⟩ = some (.string ⟨#[111, 110, 101]⟩) := h.cell 1
  have g2 : w.cell? ⟨0, 2, none⟩ = some (.string ⟨#[116, 119, 111]⟩) := h.cell 2
  have g3 : w.cell? ⟨0, 3, none⟩ = some (.string ⟨#[102, 101, 119]⟩) := h.cell 3
  have g4 : w.cell? ⟨0, 4, none⟩ = some (.string ⟨#[109, 97, 110, 121]⟩) := h.cell 4
  have g5 : w.cell? ⟨0, 5, none⟩ = some (.string ⟨#[111, 116, 104, 101, 114]⟩) := h.cell 5
  have gl := h.lt
  clear h
  go_enter Tryz.func37, Tryz.ntmps37
  go_wp2
  go_ret
  exact ⟨rfl, rfl⟩
set_option maxRecDepth 100000 in
set_option maxHeartbeats 800000 in
theorem catS_5 (w : World) (h : Wds w) : Calls Tryz.prog 37 #[.int .i64 5] w fun e w' => e = .returned (.string ⟨#[111, 116, 104, 101, 114]⟩) ∧ w = w' := by
  have g0 : w.cell? ⟨0, 0, none⟩ = some (.string ⟨#[122, 101, 114, 111]⟩) := h.cell 0
  have g1 : w.cell? ⟨0, 1, none⟩ = some (.string ⟨#[111, 110, 101]⟩) := h.cell 1
  have g2 : w.cell? ⟨0, 2, none⟩ = some (.string ⟨#[116, 119, 111]⟩) := h.cell 2
  have g3 : w.cell? ⟨0, 3, none⟩ = some (.string ⟨#[102, 101, 119]⟩) := h.cell 3
  have g4 : w.cell? ⟨0, 4, none⟩ = some (.string ⟨#[109, 97, 110, 121]⟩) := h.cell 4
  have g5 : w.cell? ⟨0, 5, none⟩ = some (.string ⟨#[111, 116, 104, 101, 114]⟩) := h.cell 5
  have gl := h.lt
  clear h
  go_enter Tryz.func37, Tryz.ntmps37
  go_wp2
  go_ret
  exact ⟨rfl, rfl⟩
set_option maxHeartbeats 800000 in
theorem catS_lo (n : Int) (w : World) (hn : n < 0) : Calls Tryz.prog 37 #[.int .i64 n] w fun e w' => e = .returned (.string ⟨#[]⟩) ∧ w = w' := by
  go_enter Tryz.func37, Tryz.ntmps37
  go_wp2
  go_ret
  exact ⟨rfl, rfl⟩
set_option maxHeartbeats 800000 in
theorem catS_hi (n : Int) (w : World) (hn : 5 < n) : Calls Tryz.prog 37 #[.int .i64 n] w fun e w' => e = .returned (.string ⟨#[]⟩) ∧ w = w' := by
  have hn2 : ¬ n < 0 := by omega
  go_enter Tryz.func37, Tryz.ntmps37
  go_wp2
  go_ret
  exact ⟨rfl, rfl⟩
theorem catS_as (n : Int) (w : World) (h : Wds w) (t : List UInt8) (hT : catT n = t) : Calls Tryz.prog 37 #[.int .i64 n] w fun e w' => e = .returned (S t) ∧ w = w' := by
  subst hT
  by_cases h1 : n < 0
  · rw [show catT n = [] from if_neg (by omega)]; exact catS_lo n w h1
  by_cases h2 : 5 < n
  · rw [show catT n = [] from if_neg (by omega)]; exact catS_hi n w h2
  rcases (show n = 0 ∨ n = 1 ∨ n = 2 ∨ n = 3 ∨ n = 4 ∨ n = 5 by omega) with rfl | rfl | rfl | rfl | rfl | rfl
  · exact catS_0 w h
  · exact catS_1 w h
  · exact catS_2 w h
  · exact catS_3 w h
  · exact catS_4 w h
  · exact catS_5 w h
theorem catN_as (c : Nat) (w : World) (h : Wds w) (hc : c < 6) (t : List UInt8) (hT : wordT c = t) : Calls Tryz.prog 37 #[.int .i64 (c : Int)] w fun e w' => e = .returned (S t) ∧ Below w.heap.size w w' :=
  (catS_as c w h t (by rw [← hT]; unfold catT; rw [if_pos (by omega)]; rfl)).mono fun e w' ⟨he, hw⟩ => ⟨he, hw ▸ Below.refl _ _⟩
theorem word_len (c : Nat) : (wordT c).length ≤ 5 := by
  unfold wordT
  by_cases h : c < 6
  · rcases (show c = 0 ∨ c = 1 ∨ c = 2 ∨ c = 3 ∨ c = 4 ∨ c = 5 by omega) with rfl | rfl | rfl | rfl | rfl | rfl <;> decide
  · rw [List.getD_eq_getElem?_getD, List.getElem?_eq_none (by simp [wordB]; omega)]; simp

set_option maxRecDepth 100000 in
set_option maxHeartbeats 1600000 in
theorem ruleS_zz (cat : Nat) (hcat : cat < 6) (sm : List UInt8) (sml : sm.length ≤ 900000) (sa : Option Addr) (sn sc : Nat) (xs : List (List RelT)) (base : Nat) (ct wt : List UInt8) (wtl : wt.length ≤ 5) (w : World) (hc : CondAt w base xs (.slice sa sn sc)) (hx : ∀ a ∈ xs, ∀ x ∈ a, RelOK x) (ht : Tab w) (hw : Wds w) (hwt : wordT cat = wt) (hct : condT xs = []) (ctl : ct.length ≤ 800000) (hxn : xs.length ≤ 1000000) :
    Calls Tryz.prog 16 #[.agg #[.int .i64 ((cat : Nat) : Int), .slice sa sn sc, .string ⟨#[]⟩]] w fun e w' => e = .returned (S (wt ++ [58])) ∧ Below w.heap.size w w' := by
  have HT := Lib.hid ht
  have HW := Lib.hid hw
  have HC := Lib.hid hc
  have HX := Lib.hid hx
  have HWT := Lib.hid hwt
  have HCT := Lib.hid hct
  obtain ⟨t1, ht1⟩ : ∃ t1, wt ++ [58] = t1 := ⟨_, rfl⟩
  have t1l : t1.length = wt.length + 1 := by rw [← ht1]; simp
  have SB1 : (⟨wt.toArray⟩ : ByteArray) ++ (⟨#[58]⟩ : ByteArray) = ⟨t1.toArray⟩ := by rw [← ht1]; exact arr_append wt [58]
  have cb1 : ¬ 9223372036854775807 < wt.length + 1 := by omega
  have Kht1 := Lib.hid ht1
  clear ht hw hc hx hwt hct ht1 t1l
  go_enter Tryz.func16, Tryz.ntmps16
  go_wp2_with fail
  with_reducible refine (catN_as cat _ (HW.out.below (HeldL.alloc (HeldL.refl w) (w.heap.size) #[.int .i64 ((cat : Nat) : Int), .slice sa sn sc, .string ⟨#[]⟩] 39 (by simp)).bel) hcat wt HWT.out).mono ?_
  rintro x w1 ⟨rfl, hb⟩
  have H1 : Hid (HeldL w [(w.heap.size, #[.int .i64 ((cat : Nat) : Int), .slice sa sn sc, .string ⟨#[]⟩])] w1) := Lib.hid (HeldL.keep (HeldL.alloc (HeldL.refl w) (w.heap.size) #[.int .i64 ((cat : Nat) : Int), .slice sa sn sc, .string ⟨#[]⟩] 39 (by simp)) hb)
  clear hb
  have bx0 : w1.cell? ⟨w.heap.size, 0, none⟩ = some (.int .i64 ((cat : Nat) : Int)) := (H1.out.f (List.Mem.head _)).cell 0
  have bx1 : w1.cell? ⟨w.heap.size, 1, none⟩ = some (.slice sa sn sc) := (H1.out.f (List.Mem.head _)).cell 1
  have bx2 : w1.cell? ⟨w.heap.size, 2, none⟩ = some (.string ⟨#[]⟩) := (H1.out.f (List.Mem.head _)).cell 2
  have bxl : w.heap.size < w1.heap.size := (H1.out.f (List.Mem.head _)).lt
  go_wp2_with fail
  with_reducible refine (condS_as ((cat : Nat) : Int) [] (.slice sa sn sc) xs base [] _ (CondAt.kept HC.out (grown_of_below H1.out.bel none) (Apart.none _ _)) HX.out (HT.out.below H1.out.bel) (HW.out.below H1.out.bel) HCT.out (by simp) hxn).mono ?_
  rintro x w2 ⟨rfl, hb⟩
  clear bx0 bx1 bx2 bxl
  have H2 : Hid (HeldL w [(w.heap.size, #[.int .i64 ((cat : Nat) : Int), .slice sa sn sc, .string ⟨#[]⟩])] w2) := Lib.hid (HeldL.keep H1.out hb)
  clear H1
  clear hb
  have bx0 : w2.cell? ⟨w.heap.size, 0, none⟩ = some (.int .i64 ((cat : Nat) : Int)) := (H2.out.f (List.Mem.head _)).cell 0
  have bx1 : w2.cell? ⟨w.heap.size, 1, none⟩ = some (.slice sa sn sc) := (H2.out.f (List.Mem.head _)).cell 1
  have bx2 : w2.cell? ⟨w.heap.size, 2, none⟩ = some (.string ⟨#[]⟩) := (H2.out.f (List.Mem.head _)).cell 2
  have bxl : w.heap.size < w2.heap.size := (H2.out.f (List.Mem.head _)).lt
  go_wp2
  go_ret
  exact ⟨by rw [← Kht1.out]; rfl, H2.out.bel⟩

set_option maxRecDepth 100000 in
set_option maxHeartbeats 1600000 in
theorem ruleS_zs (cat : Nat) (hcat : cat < 6) (sm : List UInt8) (sml : sm.length ≤ 900000) (s0 : sm ≠ []) (sa : Option Addr) (sn sc : Nat) (xs : List (List RelT)) (base : Nat) (ct wt : List UInt8) (wtl : wt.length ≤ 5) (w : World) (hc : CondAt w base xs (.slice sa sn sc)) (hx : ∀ a ∈ xs, ∀ x ∈ a, RelOK x) (ht : Tab w) (hw : Wds w) (hwt : wordT cat = wt) (hct : condT xs = []) (ctl : ct.length ≤ 800000) (hxn : xs.length ≤ 1000000) :
    Calls Tryz.prog 16 #[.agg #[.int .i64 ((cat : Nat) : Int), .slice sa sn sc, S sm]] w fun e w' => e = .returned (S (wt ++ [58] ++ ([32] ++ sm))) ∧ Below w.heap.size w w' := by
  have HT := Lib.hid ht
  have HW := Lib.hid hw
  have HC := Lib.hid hc
  have HX := Lib.hid hx
  have HWT := Lib.hid hwt
  have HCT := Lib.hid hct
  obtain ⟨t1, ht1⟩ : ∃ t1, wt ++ [58] = t1 := ⟨_, rfl⟩
  have t1l : t1.length = wt.length + 1 := by rw [← ht1]; simp
  have SB1 : (⟨wt.toArray⟩ : ByteArray) ++ (⟨#[58]⟩ : ByteArray) = ⟨t1.toArray⟩ := by rw [← ht1]; exact arr_append wt [58]
  have cb1 : ¬ 9223372036854775807 < wt.length + 1 := by omega
  have se := empty_of (ne_empty s0)
  have se2 := ne_empty s0
  obtain ⟨t4, ht4⟩ : ∃ t4, [32] ++ sm = t4 := ⟨_, rfl⟩
  have t4l : t4.length = 1 + sm.length := by rw [← ht4]; simp; omega
  have SB4 : (⟨#[32]⟩ : ByteArray) ++ (⟨sm.toArray⟩ : ByteArray) = ⟨t4.toArray⟩ := by rw [← ht4]; exact arr_append [32] sm
  have cb4 : ¬ 9223372036854775807 < 1 + sm.length := by omega
  obtain ⟨t5, ht5⟩ : ∃ t5, t1 ++ t4 = t5 := ⟨_, rfl⟩
  have SB5 : (⟨t1.toArray⟩ : ByteArray) ++ (⟨t4.toArray⟩ : ByteArray) = ⟨t5.toArray⟩ := by rw [← ht5]; exact arr_append t1 t4
  have cb5 : ¬ 9223372036854775807 < t1.length + t4.length := by omega
  have Kht1 := Lib.hid ht1
  have Kht4 := Lib.hid ht4
  have Kht5 := Lib.hid ht5
  clear ht hw hc hx hwt hct ht1 ht4 ht5 t1l t4l
  go_enter Tryz.func16, Tryz.ntmps16
  go_wp2_with fail
  with_reducible refine (catN_as cat _ (HW.out.below (HeldL.alloc (HeldL.refl w) (w.heap.size) #[.int .i64 ((cat : Nat) : Int), .slice sa sn sc, S sm] 39 (by simp)).bel) hcat wt HWT.out).mono ?_
  rintro x w1 ⟨rfl, hb⟩
  have H1 : Hid (HeldL w [(w.heap.size, #[.int .i64 ((cat : Nat) : Int), .slice sa sn sc, S sm])] w1) := Lib.hid (HeldL.keep (HeldL.alloc (HeldL.refl w) (w.heap.size) #[.int .i64 ((cat : Nat) : Int), .slice sa sn sc, S sm] 39 (by simp)) hb)
  clear hb
  have bx0 : w1.cell? ⟨w.heap.size, 0, none⟩ = some (.int .i64 ((cat : Nat) : Int)) := (H1.out.f (List.Mem.head _)).cell 0
  have bx1 : w1.cell? ⟨w.heap.size, 1, none⟩ = some (.slice sa sn sc) := (H1.out.f (List.Mem.head _)).cell 1
  have bx2 : w1.cell? ⟨w.heap.size, 2, none⟩ = some (S sm) := (H1.out.f (List.Mem.head _)).cell 2
  have bxl : w.heap.size < w1.heap.size := (H1.out.f (List.Mem.head _)).lt
  go_wp2_with fail
  with_reducible refine (condS_as ((cat : Nat) : Int) sm (.slice sa sn sc) xs base [] _ (CondAt.kept HC.out (grown_of_below H1.out.bel none) (Apart.none _ _)) HX.out (HT.out.below H1.out.bel) (HW.out.below H1.out.bel) HCT.out (by simp) hxn).mono ?_
  rintro x w2 ⟨rfl, hb⟩
  clear bx0 bx1 bx2 bxl
  have H2 : Hid (HeldL w [(w.heap.size, #[.int .i64 ((cat : Nat) : Int), .slice sa sn sc, S sm])] w2) := Lib.hid (HeldL.keep H1.out hb)
  clear H1
  clear hb
  have bx0 : w2.cell? ⟨w.heap.size, 0, none⟩ = some (.int .i64 ((cat : Nat) : Int)) := (H2.out.f (List.Mem.head _)).cell 0
  have bx1 : w2.cell? ⟨w.heap.size, 1, none⟩ = some (.slice sa sn sc) := (H2.out.f (List.Mem.head _)).cell 1
  have bx2 : w2.cell? ⟨w.heap.size, 2, none⟩ = some (S sm) := (H2.out.f (List.Mem.head _)).cell 2
  have bxl : w.heap.size < w2.heap.size := (H2.out.f (List.Mem.head _)).lt
  go_wp2
  go_ret
  exact ⟨by rw [← Kht5.out, ← Kht4.out, ← Kht1.out]; rfl, H2.out.bel⟩

set_option maxRecDepth 100000 in
set_option maxHeartbeats 1600000 in
theorem ruleS_cz (cat : Nat) (hcat : cat < 6) (sm : List UInt8) (sml : sm.length ≤ 900000) (sa : Option Addr) (sn sc : Nat) (xs : List (List RelT)) (base : Nat) (ct wt : List UInt8) (wtl : wt.length ≤ 5) (w : World) (hc : CondAt w base xs (.slice sa sn sc)) (hx : ∀ a ∈ xs, ∀ x ∈ a, RelOK x) (ht : Tab w) (hw : Wds w) (hwt : wordT cat = wt) (hct : condT xs = ct) (c0 : ct ≠ []) (ctl : ct.length ≤ 800000) (hxn : xs.length ≤ 1000000) :
    Calls Tryz.prog 16 #[.agg #[.int .i64 ((cat : Nat) : Int), .slice sa sn sc, .string ⟨#[]⟩]] w fun e w' => e = .returned (S (wt ++ [58] ++ ([32] ++ ct))) ∧ Below w.heap.size w w' := by
  have HT := Lib.hid ht
  have HW := Lib.hid hw
  have HC := Lib.hid hc
  have HX := Lib.hid hx
  have HWT := Lib.hid hwt
  have HCT := Lib.hid hct
  obtain ⟨t1, ht1⟩ : ∃ t1, wt ++ [58] = t1 := ⟨_, rfl⟩
  have t1l : t1.length = wt.length + 1 := by rw [← ht1]; simp
  have SB1 : (⟨wt.toArray⟩ : ByteArray) ++ (⟨#[58]⟩ : ByteArray) = ⟨t1.toArray⟩ := by rw [← ht1]; exact arr_append wt [58]
  have cb1 : ¬ 9223372036854775807 < wt.length + 1 := by omega
  have ce := empty_of (ne_empty c0)
  have ce2 := ne_empty c0
  obtain ⟨t2, ht2⟩ : ∃ t2, [32] ++ ct = t2 := ⟨_, rfl⟩
  have t2l : t2.length = 1 + ct.length := by rw [← ht2]; simp; omega
  have SB2 : (⟨#[32]⟩ : ByteArray) ++ (⟨ct.toArray⟩ : ByteArray) = ⟨t2.toArray⟩ := by rw [← ht2]; exact arr_append [32] ct
  have cb2 : ¬ 9223372036854775807 < 1 + ct.length := by omega
  obtain ⟨t3, ht3⟩ : ∃ t3, t1 ++ t2 = t3 := ⟨_, rfl⟩
  have t3l : t3.length = t1.length + t2.length := by rw [← ht3]; simp
  have SB3 : (⟨t1.toArray⟩ : ByteArray) ++ (⟨t2.toArray⟩ : ByteArray) = ⟨t3.toArray⟩ := by rw [← ht3]; exact arr_append t1 t2
  have cb3 : ¬ 9223372036854775807 < t1.length + t2.length := by omega
  have Kht1 := Lib.hid ht1
  have Kht2 := Lib.hid ht2
  have Kht3 := Lib.hid ht3
  clear ht hw hc hx hwt hct ht1 ht2 ht3 t1l t2l t3l
  go_enter Tryz.func16, Tryz.ntmps16
  go_wp2_with fail
  with_reducible refine (catN_as cat _ (HW.out.below (HeldL.alloc (HeldL.refl w) (w.heap.size) #[.int .i64 ((cat : Nat) : Int), .slice sa sn sc, .string ⟨#[]⟩] 39 (by simp)).bel) hcat wt HWT.out).mono ?_
  rintro x w1 ⟨rfl, hb⟩
  have H1 : Hid (HeldL w [(w.heap.size, #[.int .i64 ((cat : Nat) : Int), .slice sa sn sc, .string ⟨#[]⟩])] w1) := Lib.hid (HeldL.keep (HeldL.alloc (HeldL.refl w) (w.heap.size) #[.int .i64 ((cat : Nat) : Int), .slice sa sn sc, .string ⟨#[]⟩] 39 (by simp)) hb)
  clear hb
  have bx0 : w1.cell? ⟨w.heap.size, 0, none⟩ = some (.int .i64 ((cat : Nat) : Int)) := (H1.out.f (List.Mem.head _)).cell 0
  have bx1 : w1.cell? ⟨w.heap.size, 1, none⟩ = some (.slice sa sn sc) := (H1.out.f (List.Mem.head _)).cell 1
  have bx2 : w1.cell? ⟨w.heap.size, 2, none⟩ = some (.string ⟨#[]⟩) := (H1.out.f (List.Mem.head _)).cell 2
  have bxl : w.heap.size < w1.heap.size := (H1.out.f (List.Mem.head _)).lt
  go_wp2_with fail
  with_reducible refine (condS_as ((cat : Nat) : Int) [] (.slice sa sn sc) xs base ct _ (CondAt.kept HC.out (grown_of_below H1.out.bel none) (Apart.none _ _)) HX.out (HT.out.below H1.out.bel) (HW.out.below H1.out.bel) HCT.out ctl hxn).mono ?_
  rintro x w2 ⟨rfl, hb⟩
  clear bx0 bx1 bx2 bxl
  have H2 : Hid (HeldL w [(w.heap.size, #[.int .i64 ((cat : Nat) : Int), .slice sa sn sc, .string ⟨#[]⟩])] w2) := Lib.hid (HeldL.keep H1.out hb)
  clear H1
  clear hb
  have bx0 : w2.cell? ⟨w.heap.size, 0, none⟩ = some (.int .i64 ((cat : Nat) : Int)) := (H2.out.f (List.Mem.head _)).cell 0
  have bx1 : w2.cell? ⟨w.heap.size, 1, none⟩ = some (.slice sa sn sc) := (H2.out.f (List.Mem.head _)).cell 1
  have bx2 : w2.cell? ⟨w.heap.size, 2, none⟩ = some (.string ⟨#[]⟩) := (H2.out.f (List.Mem.head _)).cell 2
  have bxl : w.heap.size < w2.heap.size := (H2.out.f (List.Mem.head _)).lt
  go_wp2
  go_ret
  exact ⟨by rw [← Kht3.out, ← Kht2.out, ← Kht1.out]; rfl, H2.out.bel⟩

set_option maxRecDepth 100000 in
set_option maxHeartbeats 1600000 in
theorem ruleS_cs (cat : Nat) (hcat : cat < 6) (sm : List UInt8) (sml : sm.length ≤ 900000) (s0 : sm ≠ []) (sa : Option Addr) (sn sc : Nat) (xs : List (List RelT)) (base : Nat) (ct wt : List UInt8) (wtl : wt.length ≤ 5) (w : World) (hc : CondAt w base xs (.slice sa sn sc)) (hx : ∀ a ∈ xs, ∀ x ∈ a, RelOK x) (ht : Tab w) (hw : Wds w) (hwt : wordT cat = wt) (hct : condT xs = ct) (c0 : ct ≠ []) (ctl : ct.length ≤ 800000) (hxn : xs.length ≤ 1000000) :
    Calls Tryz.prog 16 #[.agg #[.int .i64 ((cat : Nat) : Int), .slice sa sn sc, S sm]] w fun e w' => e = .returned (S (wt ++ [58] ++ ([32] ++ ct) ++ ([32] ++ sm))) ∧ Below w.heap.size w w' := by
  have HT := Lib.hid ht
  have HW := Lib.hid hw
  have HC := Lib.hid hc
  have HX := Lib.hid hx
  have HWT := Lib.hid hwt
  have HCT := Lib.hid hct
  obtain ⟨t1, ht1⟩ : ∃ t1, wt ++ [58] = t1 := ⟨_, rfl⟩
  have t1l : t1.length = wt.length + 1 := by rw [← ht1]; simp
  have SB1 : (⟨wt.toArray⟩ : ByteArray) ++ (⟨#[58]⟩ : ByteArray) = ⟨t1.toArray⟩ := by rw [← ht1]; exact arr_append wt [58]
  have cb1 : ¬ 9223372036854775807 < wt.length + 1 := by omega
  have ce := empty_of (ne_empty c0)
  have ce2 := ne_empty c0
  obtain ⟨t2, ht2⟩ : ∃ t2, [32] ++ ct = t2 := ⟨_, rfl⟩
  have t2l : t2.length = 1 + ct.length := by rw [← ht2]; simp; omega
  have SB2 : (⟨#[32]⟩ : ByteArray) ++ (⟨ct.toArray⟩ : ByteArray) = ⟨t2.toArray⟩ := by rw [← ht2]; exact arr_append [32] ct
  have cb2 : ¬ 9223372036854775807 < 1 + ct.length := by omega
  obtain ⟨t3, ht3⟩ : ∃ t3, t1 ++ t2 = t3 := ⟨_, rfl⟩
  have t3l : t3.length = t1.length + t2.length := by rw [← ht3]; simp
  have SB3 : (⟨t1.toArray⟩ : ByteArray) ++ (⟨t2.toArray⟩ : ByteArray) = ⟨t3.toArray⟩ := by rw [← ht3]; exact arr_append t1 t2
  have cb3 : ¬ 9223372036854775807 < t1.length + t2.length := by omega
  have se := empty_of (ne_empty s0)
  have se2 := ne_empty s0
  obtain ⟨t4, ht4⟩ : ∃ t4, [32] ++ sm = t4 := ⟨_, rfl⟩
  have t4l : t4.length = 1 + sm.length := by rw [← ht4]; simp; omega
  have SB4 : (⟨#[32]⟩ : ByteArray) ++ (⟨sm.toArray⟩ : ByteArray) = ⟨t4.toArray⟩ := by rw [← ht4]; exact arr_append [32] sm
  have cb4 : ¬ 9223372036854775807 < 1 + sm.length := by omega
  obtain ⟨t5, ht5⟩ : ∃ t5, t3 ++ t4 = t5 := ⟨_, rfl⟩
  have SB5 : (⟨t3.toArray⟩ : ByteArray) ++ (⟨t4.toArray⟩ : ByteArray) = ⟨t5.toArray⟩ := by rw [← ht5]; exact arr_append t3 t4
  have cb5 : ¬ 9223372036854775807 < t3.length + t4.length := by omega
  have Kht1 := Lib.hid ht1
  have Kht2 := Lib.hid ht2
  have Kht3 := Lib.hid ht3
  have Kht4 := Lib.hid ht4
  have Kht5 := Lib.hid ht5
  clear ht hw hc hx hwt hct ht1 ht2 ht3 ht4 ht5 t1l t2l t3l t4l
  go_enter Tryz.func16, Tryz.ntmps16
  go_wp2_with fail
  with_reducible refine (catN_as cat _ (HW.out.below (HeldL.alloc (HeldL.refl w) (w.heap.size) #[.int .i64 ((cat : Nat) : Int), .slice sa sn sc, S sm] 39 (by simp)).bel) hcat wt HWT.out).mono ?_
  rintro x w1 ⟨rfl, hb⟩
  have H1 : Hid (HeldL w [(w.heap.size, #[.int .i64 ((cat : Nat) : Int), .slice sa sn sc, S sm])] w1) := Lib.hid (HeldL.keep (HeldL.alloc (HeldL.refl w) (w.heap.size) #[.int .i64 ((cat : Nat) : Int), .slice sa sn sc, S sm] 39 (by simp)) hb)
  clear hb
  have bx0 : w1.cell? ⟨w.heap.size, 0, none⟩ = some (.int .i64 ((cat : Nat) : Int)) := (H1.out.f (List.Mem.head _)).cell 0
  have bx1 : w1.cell? ⟨w.heap.size, 1, none⟩ = some (.slice sa sn sc) := (H1.out.f (List.Mem.head _)).cell 1
  have bx2 : w1.cell? ⟨w.heap.size, 2, none⟩ = some (S sm) := (H1.out.f (List.Mem.head _)).cell 2
  have bxl : w.heap.size < w1.heap.size := (H1.out.f (List.Mem.head _)).lt
  go_wp2_with fail
  with_reducible refine (condS_as ((cat : Nat) : Int) sm (.slice sa sn sc) xs base ct _ (CondAt.kept HC.out (grown_of_below H1.out.bel none) (Apart.none _ _)) HX.out (HT.out.below H1.out.bel) (HW.out.below H1.out.bel) HCT.out ctl hxn).mono ?_
  rintro x w2 ⟨rfl, hb⟩
  clear bx0 bx1 bx2 bxl
  have H2 : Hid (HeldL w [(w.heap.size, #[.int .i64 ((cat : Nat) : Int), .slice sa sn sc, S sm])] w2) := Lib.hid (HeldL.keep H1.out hb)
  clear H1
  clear hb
  have bx0 : w2.cell? ⟨w.heap.size, 0, none⟩ = some (.int .i64 ((cat : Nat) : Int)) := (H2.out.f (List.Mem.head _)).cell 0
  have bx1 : w2.cell? ⟨w.heap.size, 1, none⟩ = some (.slice sa sn sc) := (H2.out.f (List.Mem.head _)).cell 1
  have bx2 : w2.cell? ⟨w.heap.size, 2, none⟩ = some (S sm) := (H2.out.f (List.Mem.head _)).cell 2
  have bxl : w.heap.size < w2.heap.size := (H2.out.f (List.Mem.head _)).lt
  go_wp2
  go_ret
  exact ⟨by rw [← Kht5.out, ← Kht4.out, ← Kht3.out, ← Kht2.out, ← Kht1.out]; rfl, H2.out.bel⟩

def RuleOK (x : RuleT) : Prop := x.cat < 6 ∧ ∀ a ∈ x.any, ∀ y ∈ a, RelOK y
theorem cond_count : ∀ (xs : List (List RelT)), xs.length ≤ (condT xs).length + 1 := by
  intro xs
  have := join_count [32, 111, 114, 32] (by simp) (xs.map fun a => joinT [32, 97, 110, 100, 32] (a.map relT))
  rw [List.length_map] at this
  exact this
theorem ruleS_as (x : RuleT) (u : Value) (base : Nat) (w : World) (hc : CondAt w base x.any u) (hx : RuleOK x) (ht : Tab w) (hw : Wds w) (t : List UInt8) (hT : ruleT x = t) (tl : t.length ≤ 800000) :
    Calls Tryz.prog 16 #[.agg #[.int .i64 ((x.cat : Nat) : Int), u, S x.smp]] w fun e w' => e = .returned (S t) ∧ Below w.heap.size w w' := by
  obtain ⟨sa, sn, sc, rfl⟩ : ∃ a m c, u = .slice a m c := by obtain ⟨cs2, h1, _⟩ := hc; exact own_slice h1
  obtain ⟨cat, xs, sm⟩ := x
  obtain ⟨h1, h2⟩ := hx
  simp only at hc h1 h2 ⊢
  unfold ruleT at hT
  simp only at hT
  have hcc := cond_count xs
  obtain ⟨ct, hct⟩ : ∃ ct, condT xs = ct := ⟨_, rfl⟩
  rw [hct] at hT hcc
  have wl := word_len cat
  have hl := congrArg List.length hT
  rw [List.length_append, List.length_append] at hl
  have cl : ct.length ≤ 800000 := by
    by_cases c0 : ct = []
    · rw [c0]; simp
    · rw [if_neg c0, List.length_cons] at hl; omega
  have sl : sm.length ≤ 900000 := by
    by_cases s0 : sm = []
    · rw [s0]; simp
    · rw [if_neg s0, List.length_cons] at hl; omega
  clear hl
  subst hT
  clear tl
  by_cases c0 : ct = []
  · rw [if_pos c0, List.append_nil]
    by_cases s0 : sm = []
    · subst s0
      rw [if_pos rfl, List.append_nil]
      exact ruleS_zz cat h1 [] (by simp) sa sn sc xs base ct _ wl w hc h2 ht hw rfl (by rw [hct, c0]) cl (by omega)
    · rw [if_neg s0]
      exact ruleS_zs cat h1 sm sl s0 sa sn sc xs base ct _ wl w hc h2 ht hw rfl (by rw [hct, c0]) cl (by omega)
  · rw [if_neg c0]
    by_cases s0 : sm = []
    · subst s0
      rw [if_pos rfl, List.append_nil]
      exact ruleS_cz cat h1 [] (by simp) sa sn sc xs base ct _ wl w hc h2 ht hw rfl hct c0 cl (by omega)
    · rw [if_neg s0]
      exact ruleS_cs cat h1 sm sl s0 sa sn sc xs base ct _ wl w hc h2 ht hw rfl hct c0 cl (by omega)
theorem mthU (v : Value) (w : World) : Sem.run Tryz.prog (method 330 39 v "String") w = .ok (16, v) w := by kernel_rfl
attribute [local go_sem ↓] mthU

set_option maxRecDepth 100000 in
set_option maxHeartbeats 1600000 in
theorem joinU_n (v : Value) (xs : List (RuleT)) (base : Nat) (sep t : List UInt8) (w : World) (h : RulesAt w base xs v) (hx : ∀ x ∈ xs, RuleOK x) (ht : Tab w) (hw : Wds w) (hT : joinT sep (xs.map ruleT) = t) (tl : t.length ≤ 800000) (hn : xs.length ≤ 1000000) (hv : v = .slice none 0 0) (h0 : xs = []) :
    Calls Tryz.prog 36 #[v, S sep] w fun e w' => e = .returned (S t) ∧ Below w.heap.size w w' := by
  subst hv h0
  have HT : Hid (joinT sep [] = t) := Lib.hid hT
  obtain ⟨i0, hi, hz0, hz1, hz2⟩ := info_parts infoStr
  clear h ht hw hT
  go_enter Tryz.func36, Tryz.ntmps36
  go_wp2_with (at_make; refine wpList_make_full _ rfl (.tmp 9) (.tmp 9) 104 rfl w.heap.size 9 i0 (.string ⟨#[]⟩) 1 Tryz.underlying104 hi hz0 hz1 .i64 .i64 _ _ 0 rfl rfl rfl rfl (by rw [hz2]; omega) (by unfold maxLen; omega) (by simp) ?_; intro w1 hown hgrow)
  have TX := Lib.hid (TxB.made hown)
  have BB := Lib.hid (below_none hgrow)
  clear hown hgrow hi hz0 hz1 hz2
  go_wp2_with fail
  go_loopw [13] (fun i wr => i = .int .i64 0 ∧ w1 = wr) (fun _ _ => 0)
  case atStart => exact ⟨rfl, rfl⟩
  case round =>
    obtain ⟨rfl, rfl⟩ := hrel
    go_wp2_with fail
    refine (join_as w.heap.size [] sep t w1 (fun j l hl => by simp at hl) (TX.out.lt _ rfl).2 (by simp) HT.out (by omega)).mono ?_
    rintro x w2 ⟨rfl, hb⟩
    have HB := Lib.hid (BB.out.trans (hb.mono BB.out.size))
    clear hb
    go_wp2
    go_ret
    exact ⟨rfl, HB.out⟩

set_option maxRecDepth 100000 in
set_option maxHeartbeats 3200000 in
theorem joinU_s (v : Value) (xs : List (RuleT)) (base : Nat) (sep t : List UInt8) (w : World) (h : RulesAt w base xs v) (hx : ∀ x ∈ xs, RuleOK x) (ht : Tab w) (hw : Wds w) (hT : joinT sep (xs.map ruleT) = t) (tl : t.length ≤ 800000) (hn : xs.length ≤ 1000000) (g cap : Nat) (cs : List Value) (hv : v = .slice (some ⟨g, 0, none⟩) xs.length cap) (ho : w.ownsRow base 39 3 v xs.length cs) (hl : ListAt (RuleAt w) xs cs) (hcap : xs.length ≤ cap) (hcm : cap ≤ maxLen) :
    Calls Tryz.prog 36 #[v, S sep] w fun e w' => e = .returned (S t) ∧ Below w.heap.size w w' := by
  subst hv
  have HT := Lib.hid hT
  have HO := Lib.hid ho
  have HL := Lib.hid hl
  have HTAB := Lib.hid ht
  have HWD := Lib.hid hw
  have HX := Lib.hid hx
  have hgl := (ho.lt g rfl).2
  have hcmi : (cap : Int) ≤ 9223372036854775807 := by unfold maxLen at hcm; omega
  obtain ⟨i0, hi, hz0, hz1, hz2⟩ := info_parts infoStr
  clear h ht hw hT ho hl hx
  go_enter Tryz.func36, Tryz.ntmps36
  go_wp2_with (at_make; refine wpList_make_full _ rfl (.tmp 9) (.tmp 9) 104 rfl w.heap.size 9 i0 (.string ⟨#[]⟩) 1 Tryz.underlying104 hi hz0 hz1 .i64 .i64 _ _ xs.length rfl rfl rfl rfl (by rw [hz2]; omega) (by unfold maxLen; omega) (by simp) ?_; intro w1 hown hgrow)
  have TX := Lib.hid (TxB.made hown)
  have BB := Lib.hid (below_none hgrow)
  clear hown hgrow hi hz0 hz1 hz2
  go_wp2_with fail
  go_loopw [13] (fun i wr => ∃ k : Nat, k ≤ xs.length ∧ i = .int .i64 k ∧ TxB wr w.heap.size w.heap.size xs.length ((xs.map ruleT).take k ++ List.replicate (xs.length - k) []) ∧ Below w.heap.size w wr) (fun i _ => xs.length - (intOf i).toNat)
  case atStart => exact ⟨0, Nat.zero_le _, rfl, by simpa using TX.out, BB.out⟩
  case round =>
    obtain ⟨k, hk, rfl, htx, hbb⟩ := hrel
    have TX2 := Lib.hid htx
    have BB2 := Lib.hid hbb
    clear htx hbb TX BB
    by_cases hlt : k < xs.length
    · have hlti : (k : Int) < (xs.length : Int) := by omega
      obtain ⟨xk, hxk⟩ : ∃ xk, xs[k] = xk := ⟨_, rfl⟩
      obtain ⟨c, hA, hc⟩ := ListAt.get (sz := 3) (fun x c h => by obtain ⟨u, rfl, _⟩ := h; rfl) HL.out k hlt
      rw [hxk] at hA
      have hmem : xk ∈ xs := by rw [← hxk]; exact List.getElem_mem hlt
      have HXK : Hid (xs[k]? = some xk) := Lib.hid (by rw [List.getElem?_eq_getElem hlt, hxk])
      clear hxk
      obtain ⟨u, rfl, hal⟩ := hA
      obtain ⟨sa, sn, sc, hsv⟩ : ∃ a m c, u = .slice a m c := by obtain ⟨cs2, h1, _⟩ := hal; exact own_slice h1
      subst hsv
      have HRG := Lib.hid hal
      clear hal
      have hxl : (ruleT xk).length ≤ t.length := by rw [← HT.out]; exact join_mem _ _ _ (List.mem_map_of_mem hmem)
      have HXL := Lib.hid hxl
      clear hxl
      have e0 : wr.cell? ⟨g, k * 3, none⟩ = some (.int .i64 ((xk.cat : Nat) : Int)) := by rw [BB2.out.cell (show g < _ from hgl), HO.out.cellAt _ (by omega), show cs[k * 3]? = _ from hc 0 (by decide)]; rfl
      have e1 : wr.cell? ⟨g, k * 3 + 1, none⟩ = some (.slice sa sn sc) := by rw [BB2.out.cell (show g < _ from hgl), HO.out.cellAt _ (by omega), show cs[k * 3 + 1]? = _ from hc 1 (by decide)]; rfl
      have e2 : wr.cell? ⟨g, k * 3 + 2, none⟩ = some (S xk.smp) := by rw [BB2.out.cell (show g < _ from hgl), HO.out.cellAt _ (by omega), show cs[k * 3 + 2]? = _ from hc 2 (by decide)]; rfl
      clear hc
      have hk3 : (0 : Int) ≤ (k : Int) := by omega
      have hkc : (k : Int) < (cap : Int) := by omega
      have glr : g < wr.heap.size := Nat.lt_of_lt_of_le hgl BB2.out.size
      have gs : w.heap.size < wr.heap.size := (TX2.out.lt _ rfl).2
      go_wp2_with fail
      with_reducible refine (ruleS_as xk (.slice sa sn sc) 0 _ (CondAt.kept HRG.out (grown_of_below (BB2.out.alloc BB2.out.size _) none) (Apart.none _ _)) (HX.out xk hmem) (HTAB.out.below (BB2.out.alloc BB2.out.size _)) (HWD.out.below (BB2.out.alloc BB2.out.size _)) (ruleT xk) rfl (Nat.le_trans HXL.out tl)).mono ?_
      rintro x w3 ⟨rfl, hb⟩
      have TX3 := Lib.hid ((TxB.below TX2.out (Below.alloc (Below.refl _ _) (Nat.le_refl _) _)).below hb)
      have BB3 := Lib.hid ((BB2.out.alloc BB2.out.size (.cells #[.int .i64 ((xk.cat : Nat) : Int), .slice sa sn sc, S xk.smp] 39)).trans (hb.mono (by simp; omega)))
      have tz := World.ownsRow.frozenAt TX3.out k
      have tg := (TX3.out.lt _ rfl).2
      obtain ⟨tv, tcell⟩ : ∃ tv, w3.cell? ⟨w.heap.size, k, none⟩ = some (.string tv) := by
        have hlen := TX3.out.1
        have := World.ownsRow.cellAt TX3.out k (by omega)
        rw [List.getElem?_map] at this
        rw [List.length_map] at hlen
        obtain ⟨q, hq⟩ : ∃ q, ((xs.map ruleT).take k ++ List.replicate (xs.length - k) ([] : List UInt8))[k]? = some q := ⟨_, List.getElem?_eq_getElem (by omega)⟩
        rw [hq] at this
        exact ⟨_, this⟩
      clear hb
      go_wp2
      go_roundw
      case rel => exact ⟨k + 1, by omega, by go_num, by rw [← take_put (xs.map ruleT) [] xs.length k (ruleT xk) hlt (by simp) (by rw [List.getElem?_map, HXK.out]; rfl)]; exact TX3.out.stored k _, BB3.out.setCell (by simp) _⟩
      case measure => simp [intOf]; omega
    · obtain rfl : k = xs.length := by omega
      have hlti : ¬ (xs.length : Int) < (xs.length : Int) := by omega
      have HTX : Hid (TxB wr w.heap.size w.heap.size xs.length (xs.map ruleT)) := Lib.hid (by have := TX2.out; rw [Nat.sub_self, List.replicate_zero, List.append_nil, List.take_of_length_le (by simp)] at this; exact this)
      go_wp2_with fail
      have hj := join_as w.heap.size (xs.map ruleT) sep t wr (fun j l hl => HTX.out.cell j l hl) (HTX.out.lt _ rfl).2 (by simp; omega) HT.out (by omega)
      rw [List.length_map] at hj
      with_reducible refine hj.mono ?_
      rintro x w2 ⟨rfl, hb⟩
      have HB := Lib.hid (BB2.out.trans (hb.mono BB2.out.size))
      clear hb hj
      go_wp2
      go_ret
      exact ⟨rfl, HB.out⟩

theorem joinU_as (v : Value) (xs : List (RuleT)) (base : Nat) (sep t : List UInt8) (w : World) (h : RulesAt w base xs v) (hx : ∀ x ∈ xs, RuleOK x) (ht : Tab w) (hw : Wds w) (hT : joinT sep (xs.map ruleT) = t) (tl : t.length ≤ 800000) (hn : xs.length ≤ 1000000) :
    Calls Tryz.prog 36 #[v, S sep] w fun e w' => e = .returned (S t) ∧ Below w.heap.size w w' := by
  have h2 := h
  obtain ⟨cs, ho, hl⟩ := h
  rcases ho.2 with ⟨hv, h0⟩ | ⟨g, cap, cur, hv, _, _, hcap, hcm, _⟩
  · exact joinU_n v xs base sep t w h2 hx ht hw hT tl hn hv (List.eq_nil_of_length_eq_zero h0)
  · exact joinU_s v xs base sep t w h2 hx ht hw hT tl hn g cap cs hv ho hl hcap hcm

set_option maxHeartbeats 800000 in
theorem rulesS_as (xs : List RuleT) (v : Value) (base : Nat) (w : World) (h : RulesAt w base xs v) (hx : ∀ x ∈ xs, RuleOK x) (ht : Tab w) (hw : Wds w) (t : List UInt8) (hT : rulesT xs = t) (tl : t.length ≤ 800000) :
    Calls Tryz.prog 15 #[v] w fun e w' => e = .returned (S t) ∧ Below w.heap.size w w' := by
  have hcc := join_count [59, 32] (by simp) (xs.map ruleT)
  rw [List.length_map, show joinT [59, 32] (xs.map ruleT) = t from hT] at hcc
  have HC := Lib.hid (joinU_as v xs base [59, 32] t w h hx ht hw hT tl (by omega))
  obtain ⟨sa, sn, sc, rfl⟩ : ∃ a m c, v = .slice a m c := by obtain ⟨cs2, h1, _⟩ := h; exact own_slice h1
  clear h hx ht hw hT hcc
  go_enter Tryz.func15, Tryz.ntmps15
  go_wp2_with fail
  with_reducible refine HC.out.mono ?_
  rintro x w1 ⟨rfl, hb⟩
  have HB := Lib.hid hb
  clear hb HC
  go_wp2
  go_ret
  exact ⟨rfl, HB.out⟩
end Go.Proofs.YtkjhdehpcanciaaGreatDoor

namespace Go.Proofs.YtkjhdehpcanciaaGreatDoor
open Go.RowKit Florin
set_option linter.unusedVariables false
set_option linter.unusedSimpArgs false
attribute [local go_sem ↓] Go.wp_at_zero Go.wp_at_succ

abbrev hdX : List RuleT := [⟨1, [[⟨105, 0, false, [(1, 1)]⟩, ⟨118, 0, false, [(0, 0)]⟩]], []⟩, ⟨5, [], []⟩]
theorem hd_read : rulesP [111, 110, 101, 58, 105, 61, 49, 32, 97, 110, 100, 32, 118, 32, 61, 32, 48, 59, 111, 116, 104, 101, 114, 58] = .ok hdX [] := by kernel_rfl
theorem rng11 : rngT (1, 1) = [49] := by
  unfold rngT itoaL
  rw [if_pos rfl, if_neg (by decide), dig_pos (by decide), show 1 / 10 = 0 from rfl, dig_zero]
  rfl
theorem rng00 : rngT (0, 0) = [48] := rfl
theorem hd_text : rulesT hdX = [111, 110, 101, 58, 32, 105, 32, 61, 32, 49, 32, 97, 110, 100, 32, 118, 32, 61, 32, 48, 59, 32, 111, 116, 104, 101, 114, 58] := by
  unfold hdX rulesT ruleT condT relT
  simp only [List.map, rng11, rng00]
  rfl
theorem hd_ok : ∀ x ∈ hdX, RuleOK x := by
  intro x hx
  simp only [hdX, List.mem_cons, List.not_mem_nil, or_false] at hx
  rcases hx with rfl | rfl
  · refine ⟨by decide, ?_⟩
    intro a ha y hy
    simp only [List.mem_cons, List.not_mem_nil, or_false] at ha
    subst ha
    simp only [List.mem_cons, List.not_mem_nil, or_false] at hy
    rcases hy with rfl | rfl
    · exact ⟨by decide, by intro z hz; simp only [List.mem_cons, List.not_mem_nil, or_false] at hz; subst hz; exact ⟨by decide, by decide⟩⟩
    · exact ⟨by decide, by intro z hz; simp only [List.mem_cons, List.not_mem_nil, or_false] at hz; subst hz; exact ⟨by decide, by decide⟩⟩
  · exact ⟨by decide, by intro a ha; simp at ha⟩
/-- A row that isn't empty begins at a block of its own. -/
theorem own_some {w : World} {base : Nat} {e : TypeId} {size : Nat} {v : Value} {n : Nat} {xs : List Value} (h : w.ownsRow base e size v n xs) (hn : 0 < n) :
    ∃ g cap, v = .slice (some ⟨g, 0, none⟩) n cap ∧ n ≤ cap ∧ cap ≤ maxLen ∧ g < w.heap.size ∧ ∀ j, j < n * size → w.cell? ⟨g, j, none⟩ = xs[j]? := by
  have h2 := h
  rcases h.2 with ⟨rfl, h0⟩ | ⟨g, cap, cur, rfl, _, hg, hc, hm, _⟩
  · omega
  · exact ⟨g, cap, rfl, hc, hm, (h2.lt g rfl).2, fun j hj => h2.cellAt j hj⟩

set_option maxRecDepth 100000 in
set_option maxHeartbeats 3200000 in
theorem head6 (w : World) (ht : Tab w) (hw : Wds w) : Calls Tryz.prog 10 #[] w fun x w' => x = .returned (.bool true) ∧ Below w.heap.size w w' := by
  have HT := Lib.hid ht
  have HW := Lib.hid hw
  clear ht hw
  go_enter Tryz.func10, Tryz.ntmps10
  go_wp2_with fail
  with_reducible refine (parse_ok ⟨#[111, 110, 101, 58, 105, 61, 49, 32, 97, 110, 100, 32, 118, 32, 61, 32, 48, 59, 111, 116, 104, 101, 114, 58]⟩ _ (by decide) hdX [] HW.out hd_read).mono ?_
  rintro x w1 ⟨v, rfl, hv, hb⟩
  have HV := Lib.hid hv
  have HB := Lib.hid hb
  obtain ⟨cs, ho, hl⟩ := hv
  obtain ⟨g, cap, rfl, hcap, hcm, hgl, hcell⟩ := own_some ho (by decide)
  obtain ⟨c1, d1, rfl, ⟨v1, rfl, hc1⟩, c2, d2, rfl, ⟨v2, rfl, _⟩, rfl⟩ := hl
  obtain ⟨cs1, ho1, hl1⟩ := hc1
  obtain ⟨g1, cap1, rfl, hcap1, hcm1, hgl1, hcell1⟩ := own_some ho1 (by decide)
  obtain ⟨c3, d3, rfl, ⟨u1, rfl, ha1⟩, rfl⟩ := hl1
  obtain ⟨cs2, ho2, hl2⟩ := ha1
  obtain ⟨g2, cap2, rfl, hcap2, hcm2, hgl2, hcell2⟩ := own_some ho2 (by decide)
  obtain ⟨c4, d4, rfl, ⟨u2, rfl, _⟩, _⟩ := hl2
  have e1 : w1.cell? ⟨g, 1, none⟩ = some (.slice (some ⟨g1, 0, none⟩) 1 cap1) := hcell 1 (by decide)
  have e2 : w1.cell? ⟨g1, 0, none⟩ = some (.slice (some ⟨g2, 0, none⟩) 2 cap2) := hcell1 0 (by decide)
  have e3 : w1.cell? ⟨g2, 0, none⟩ = some (.int .u8 105) := hcell2 0 (by decide)
  have m0 : (cap : Int) ≤ 9223372036854775807 := by unfold maxLen at hcm; omega
  clear hb ho ho1 ho2 hcell hcell1 hcell2
  go_wp2_with fail
  refine (rulesS_as hdX _ _ _ HV.out hd_ok (HT.out.below HB.out) (HW.out.below HB.out) _ hd_text (by decide)).mono ?_
  rintro x w2 ⟨rfl, hb⟩
  have HB2 := Lib.hid (HB.out.trans (hb.mono HB.out.size))
  clear hb
  go_wp2
  go_ret
  exact ⟨rfl, HB2.out⟩
end Go.Proofs.YtkjhdehpcanciaaGreatDoor
