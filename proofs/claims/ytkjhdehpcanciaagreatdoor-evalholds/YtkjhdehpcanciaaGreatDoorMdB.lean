/- A relation as it is made, and how it is written. -/
import Derived.Test.YtkjhdehpcanciaaGreatDoorMdA
namespace Florin
def joinM (sep : List UInt8) (ls : List (List UInt8)) : List UInt8 := sep.intercalate ls
theorem joinM_cons (sep x y : List UInt8) (r : List (List UInt8)) : joinM sep (x :: y :: r) = x ++ sep ++ joinM sep (y :: r) := by
  unfold joinM; simp [List.intercalate, List.intersperse]
theorem joinM_one (sep x : List UInt8) : joinM sep [x] = x := by unfold joinM; simp [List.intercalate]
theorem joinM_snoc (sep x : List UInt8) : ∀ (ls : List (List UInt8)), ls ≠ [] → joinM sep (ls ++ [x]) = joinM sep ls ++ sep ++ x
  | [y], _ => by rw [joinM_one]; exact joinM_cons sep y x []|>.trans (by rw [joinM_one])
  | y :: z :: r, _ => by
    have := joinM_snoc sep x (z :: r) (by simp)
    rw [List.cons_append, List.cons_append, joinM_cons, ← List.cons_append, this, joinM_cons]
    simp [List.append_assoc]
theorem joinM_len (sep : List UInt8) (n : Nat) : ∀ (ls : List (List UInt8)), (∀ l ∈ ls, l.length ≤ n) → (joinM sep ls).length ≤ ls.length * (n + sep.length)
  | [], _ => by simp [joinM, List.intercalate]
  | [x], h => by rw [joinM_one]; have := h x (by simp); simp; omega
  | x :: y :: r, h => by
    have h1 := joinM_len sep n (y :: r) (fun l hl => h l (by simp at hl ⊢; right; exact hl))
    have h2 := h x (by simp)
    rw [joinM_cons, List.length_append, List.length_append, List.length_cons, Nat.add_mul]
    omega
theorem digB_len {n k : Nat} (h : n < 10 ^ k) (hk : 1 ≤ k) : (digB n).length ≤ k := by
  unfold digB; split
  · exact hk
  · exact (dig_length_le n k).2 h
theorem gapB_len (k : Nat) : (gapB k).length ≤ 2 := by unfold gapB; rw [List.length_replicate]; split <;> (try split) <;> omega
end Florin
namespace Go.Proofs.YtkjhdehpcanciaaGreatDoor
open Go.RowKit Florin
set_option linter.unusedVariables false
set_option linter.unusedSimpArgs false
attribute [local go_sem ↓] Go.wp_at_zero Go.wp_at_succ

/-- A range as it is meant, and written. -/
noncomputable def numMn (x : Int × Int) : Nat × Nat := (andN x.1 1048575, andN x.1 1048575 + andN x.2 3)
noncomputable def dotM (x : Int × Int) : Bool := decide ((numMn x).1 ≠ (numMn x).2) || decide (andN x.2 4 = 4)
noncomputable def numTx (g : List UInt8) (x : Int × Int) : List UInt8 := digB (numMn x).1 ++ (if dotM x then g ++ [46, 46] ++ g ++ digB (numMn x).2 else [])
def numL (rs : List (Int × Int)) : List (Int × Int) := if rs = [] then [(0, 0)] else rs
noncomputable def relMn (r : RelM) : RelT := ⟨opsB.getD (andN r.op 7) 0, andN r.md 65535, r.nt, (numL r.rs).map numMn⟩
noncomputable def relPre (r : RelM) (g : List UInt8) : List UInt8 :=
  [opsB.getD (andN r.op 7) 0] ++ g ++ (if andN r.md 65535 = 0 then [] else [37] ++ g ++ digB (andN r.md 65535) ++ g) ++ (if r.nt then [33] else []) ++ [61] ++ g
noncomputable def relTx (r : RelM) : List UInt8 :=
  relPre r (gapB (andN r.gp 3)) ++ joinM (gapB (andN r.gp 3) ++ [44] ++ gapB (andN r.gp 3)) ((numL r.rs).map (numTx (gapB (andN r.gp 3))))
theorem numL_len {rs : List (Int × Int)} (h : rs.length ≤ 5) : (numL rs).length ≤ 5 ∧ 0 < (numL rs).length := by
  unfold numL
  by_cases h0 : rs = []
  · rw [if_pos h0]; exact ⟨by decide, by decide⟩
  · rw [if_neg h0]; exact ⟨h, List.length_pos_iff.2 h0⟩
theorem numMn_le (x : Int × Int) : (numMn x).1 ≤ (numMn x).2 ∧ (numMn x).2 ≤ 1048578 := by
  have h1 := (andN_is x.1 1048575 (by decide)).2
  have h2 := (andN_is x.2 3 (by decide)).2
  unfold numMn
  constructor
  · show andN x.1 1048575 ≤ andN x.1 1048575 + andN x.2 3; omega
  · show andN x.1 1048575 + andN x.2 3 ≤ 1048578; omega
theorem numTx_len (g : List UInt8) (hg : g.length ≤ 2) (x : Int × Int) : (numTx g x).length ≤ 20 := by
  have h := numMn_le x
  have h1 : (digB (numMn x).1).length ≤ 7 := digB_len (by omega) (by omega)
  have h2 : (digB (numMn x).2).length ≤ 7 := digB_len (by omega) (by omega)
  unfold numTx
  split <;> simp <;> omega
theorem tx_step {p3 sep s0 s1 g : List UInt8} {LL : List (Int × Int)} {k : Nat} {xk : Int × Int} (hS0 : p3 ++ joinM sep ((LL.take k).map (numTx g)) = s0) (hS1 : (if k = 0 then s0 else s0 ++ g ++ [44] ++ g) = s1) (hsep : g ++ [44] ++ g = sep) (hk : k < LL.length) (hx : LL[k]? = some xk) :
    p3 ++ joinM sep ((LL.take (k + 1)).map (numTx g)) = s1 ++ numTx g xk := by
  have hm : (LL.take (k + 1)).map (numTx g) = (LL.take k).map (numTx g) ++ [numTx g xk] := by rw [List.take_add_one, hx, List.map_append]; rfl
  rw [hm, ← hS1]
  by_cases hk0 : k = 0
  · rw [if_pos hk0, ← hS0]
    subst hk0
    rw [List.take_zero, List.map_nil, List.nil_append, joinM_one]
    simp [joinM, List.intercalate]
  · rw [if_neg hk0, joinM_snoc sep _ _ (fun h => by
      have h2 := congrArg List.length h
      rw [List.length_map, List.length_take, List.length_nil] at h2
      omega), ← hS0, ← hsep]
    simp only [List.append_assoc]
theorem own_set {W : World} {B : Nat} {e : TypeId} {sz : Nat} {v : Value} {n : Nat} {xs : List Value} (h : W.ownsRow B e sz v n xs) {b : Nat} (hb : b < B) (i : Nat) (x : Value) : (W.setCell ⟨b, i, none⟩ x).ownsRow B e sz v n xs := by
  refine h.kept (grown_set (World.grownBy.refl W (some b)) i x) ?_
  rcases h.2 with ⟨rfl, _⟩ | ⟨g, cap, cur, rfl, hg, _⟩
  · exact Or.inl rfl
  · refine Or.inr fun hh => ?_
    have : g = b := by have := hh; simp [Value.ownBlock] at this; exact this
    omega
/-- A slice whose block isn't older. -/
def InN (w : World) (lo sz : Nat) (v : Value) (n : Nat) (cs : List Value) : Prop :=
  ∃ a c, v = .slice a n c ∧ n ≤ c ∧ c ≤ maxLen ∧ (0 < n → ∃ b off, a = some ⟨b, off, none⟩ ∧ lo ≤ b ∧ b < w.heap.size ∧ ∀ j, j < n * sz → w.cell? ⟨b, off + j, none⟩ = cs[j]?)
theorem InN.own {w : World} {lo sz : Nat} {e : TypeId} {v : Value} {n : Nat} {cs : List Value} (h : w.ownsRow lo e sz v n cs) : InN w lo sz v n cs := by
  have h2 := h
  rcases h.2 with ⟨rfl, h0⟩ | ⟨g, cap, cur, rfl, _, hg, hc, hm, _⟩
  · subst h0; exact ⟨none, 0, rfl, Nat.le_refl _, by unfold maxLen; omega, fun h => absurd h (by omega)⟩
  · exact ⟨_, cap, rfl, hc, hm, fun _ => ⟨g, 0, rfl, (h2.lt g rfl).1, (h2.lt g rfl).2, fun j hj => by rw [Nat.zero_add]; exact h2.cellAt j hj⟩⟩
theorem HeldL.grownOwn {w : World} {L : List (Nat × Array Value)} {W W' : World} {r : Option Nat} (h : HeldL w L W) (hg : W.grownBy W' r) (hr : ∀ k, r = some k → w.heap.size ≤ k ∧ ∀ p ∈ L, p.1 < k) : HeldL w L W' := by
  refine ⟨fun p hp => (h.box p hp).grown hg ?_, h.own, h.desc, ?_⟩
  · intro e; have := (hr p.1 e.symm).2 p hp; omega
  · refine ⟨hg.os.trans h.bel.os, hg.tape.trans h.bel.tape, hg.output.trans h.bel.output, Nat.le_trans h.bel.size hg.size, fun i hi => (hg.block i (Nat.lt_of_lt_of_le hi h.bel.size) ?_).trans (h.bel.block i hi)⟩
    intro e; have := (hr i e.symm).1; omega
theorem own_above {w W : World} {cs0 cs1 cs2 : Array Value} {e : TypeId} {sz : Nat} {v : Value} {n : Nat} {xs : List Value} {N : Nat} (hN : w.heap.size + 1 + 1 < N) (h : W.ownsRow (w.heap.size + 1 + 1 + 1) e sz v n xs) (k : Nat) (hk : v.ownBlock = some k) : w.heap.size ≤ k ∧ ∀ p ∈ [(w.heap.size + 1 + 1, cs0), (w.heap.size + 1, cs1), (w.heap.size, cs2)], p.1 < k := by
  have h1 := (h.lt k hk).1
  refine ⟨by omega, fun p hp => ?_⟩
  simp only [List.mem_cons, List.not_mem_nil, or_false] at hp
  rcases hp with rfl | rfl | rfl <;> simp only <;> omega
theorem numC_one (rs : List (Int × Int)) : ∀ u ∈ numC rs, u.oneCell' = true := by
  intro u hu
  unfold numC at hu
  simp only [List.mem_flatMap, List.mem_cons, List.not_mem_nil, or_false] at hu
  obtain ⟨x, _, rfl | rfl⟩ := hu <;> rfl
theorem own_blk {w : World} {base : Nat} {e : TypeId} {size : Nat} {v : Value} {n : Nat} {xs : List Value} (h : w.ownsRow base e size v n xs) (hn : 0 < n) :
    ∃ g cap, v = .slice (some ⟨g, 0, none⟩) n cap ∧ n ≤ cap ∧ cap ≤ maxLen ∧ base ≤ g ∧ g < w.heap.size ∧ ∀ j, j < n * size → w.cell? ⟨g, j, none⟩ = xs[j]? := by
  have h2 := h
  rcases h.2 with ⟨rfl, h0⟩ | ⟨g, cap, cur, rfl, hb, hg, hc, hm, _⟩
  · omega
  · exact ⟨g, cap, rfl, hc, hm, hb, (h2.lt g rfl).2, fun j hj => h2.cellAt j hj⟩
theorem own_cap {w : World} {base : Nat} {e : TypeId} {size : Nat} {v : Value} {n : Nat} {xs : List Value} (h : w.ownsRow base e size v n xs) : ∃ a c, v = .slice a n c := by
  rcases h.2 with ⟨rfl, rfl⟩ | ⟨g, cap, cur, rfl, _⟩
  · exact ⟨_, _, rfl⟩
  · exact ⟨_, _, rfl⟩
theorem numC_at : ∀ (rs : List (Int × Int)) (k : Nat) (hk : k < rs.length), (numC rs)[k * 2]? = some (.int .i64 rs[k].1) ∧ (numC rs)[k * 2 + 1]? = some (.int .i64 rs[k].2)
  | x :: rs, 0, _ => ⟨rfl, rfl⟩
  | x :: rs, k + 1, hk => by
    have h := numC_at rs k (by simpa using hk)
    have e : numC (x :: rs) = .int .i64 x.1 :: .int .i64 x.2 :: numC rs := rfl
    rw [e, show (k + 1) * 2 = k * 2 + 1 + 1 by omega]
    exact h
theorem Box.own {w w' : World} {b : Nat} {cs : Array Value} {e : TypeId} {base sz n : Nat} {v : Value} {xs : List Value} (h : Box w b cs) (hg : w.grownBy w' v.ownBlock) (hv : w.ownsRow base e sz v n xs) (hb : b < base) : Box w' b cs :=
  h.grown hg (by
    intro he
    have := (hv.lt b he.symm).1
    omega)
/-- What stands in memory while ranges are put one behind the other. -/
structure LpF (wc W : World) (xb : Nat) (X : Array Value) (ms : List (Nat × Nat)) (u : Value) : Prop where
  box : Box W xb X
  row : Rngs W wc.heap.size ms u
  gr : wc.grownBy W (some xb)
theorem LpF.below {wc W W' : World} {xb : Nat} {X : Array Value} {ms : List (Nat × Nat)} {u : Value} (h : LpF wc W xb X ms u) (hb : Below W.heap.size W W') : LpF wc W' xb X ms u :=
  ⟨h.box.below hb h.box.lt, Rngs.kept h.row (grown_of_below hb none) (Apart.none _ _), grown_trans h.gr (grown_of_below hb (some xb))⟩
theorem digitsI (n : Int) (k : Nat) (hk : (k : Int) = n) (w : World) (h : k ≤ 9223372036854775807) (ht : Tab w) (t : List UInt8) (hT : digB k = t) :
    Calls Tryz.prog 76 #[.int .i64 n] w fun e w' => e = .returned (S t) ∧ Below w.heap.size w w' := by
  subst hk; exact digits_as k w h ht t hT
theorem below_gr {w W W' : World} {b : Nat} (h : Below w.heap.size w W) (hg : W.grownBy W' (some b)) (hb : w.heap.size ≤ b) : Below w.heap.size w W' :=
  ⟨hg.os.trans h.os, hg.tape.trans h.tape, hg.output.trans h.output, Nat.le_trans h.size hg.size, fun i hi => (hg.block i (Nat.lt_of_lt_of_le hi h.size) (by intro e; cases e; omega)).trans (h.block i hi)⟩
theorem infoNum : (Tryz.prog.info? 128).map (fun i => (i.zero, i.size, i.bytes)) = some (some (.agg #[.int .i64 0, .int .i64 0]), 2, 16) := by kernel_rfl

set_option maxRecDepth 100000 in
set_option maxHeartbeats 6400000 in
theorem relation_as (r : RelM) (v : Value) (w : World) (ht : Tab w) (hv : NumsAt w r.rs v) (hn : r.rs.length ≤ 5) :
    Calls Tryz.prog 55 #[.agg #[.int .i64 r.op, .int .i64 r.md, .int .i64 r.gp, .bool r.nt, v]] w fun e w' => ∃ u, e = .returned (.tuple #[.agg #[.int .u8 (((relMn r).op : UInt8).toNat : Int), .int .i64 (((relMn r).mod : Nat) : Int), .bool (relMn r).nt, u], S (relTx r)]) ∧ Rngs w' w.heap.size (relMn r).rs u ∧ Below w.heap.size w w' := by
  obtain ⟨op, md, gp, nt, rs⟩ := r
  obtain ⟨a, c, rfl, hnc, hcm, hlen, hcell⟩ := hv
  have hn5 : rs.length ≤ 5 := hn
  have hlen2 : (numC rs).length = rs.length * 2 := hlen
  have hnc2 : rs.length ≤ c := hnc
  have HC : Hid (0 < rs.length → ∃ b off, a = some ⟨b, off, none⟩ ∧ b < w.heap.size ∧ ∀ j, j < rs.length * 2 → w.cell? ⟨b, off + j, none⟩ = (numC rs)[j]?) := Lib.hid hcell
  clear hn hlen hnc hcell
  show Calls Tryz.prog 55 #[.agg #[.int .i64 op, .int .i64 md, .int .i64 gp, .bool nt, .slice a rs.length c]] w _
  obtain ⟨hop, hK⟩ := andN_is op 7 (by decide)
  obtain ⟨hmd, hMD⟩ := andN_is md 65535 (by decide)
  obtain ⟨K, hKe⟩ : ∃ K, andN op 7 = K := ⟨_, rfl⟩
  obtain ⟨MD, hMDe⟩ : ∃ MD, andN md 65535 = MD := ⟨_, rfl⟩
  obtain ⟨g, hg⟩ : ∃ g, gapB (andN gp 3) = g := ⟨_, rfl⟩
  have gl : g.length ≤ 2 := by rw [← hg]; exact gapB_len _
  rw [hKe] at hop hK
  rw [hMDe] at hmd hMD
  have hop' : bits .and .i64 op 7 = (K : Int) := hop
  have hmd' : bits .and .i64 md 65535 = (MD : Int) := hmd
  have hKi : (K : Int) < 8 := by omega
  have HG := Lib.hid hg
  have HT := Lib.hid ht
  have HKE := Lib.hid hKe
  have HMDE := Lib.hid hMDe
  have hcmi : (c : Int) ≤ 9223372036854775807 := by unfold maxLen at hcm; omega
  clear hg ht hop hmd hKe hMDe
  go_enter Tryz.func55, Tryz.ntmps55
  go_wp2_with fail
  go_region
  obtain ⟨o, ho⟩ : ∃ o : UInt8, (⟨#[110, 105, 118, 119, 102, 116, 99, 101]⟩ : ByteArray)[K]'(by show K < 8; omega) = o := ⟨_, rfl⟩
  have HOP : Hid (opsB.getD K 0 = o) := Lib.hid (by
    rw [← ho]
    have hc : K = 0 ∨ K = 1 ∨ K = 2 ∨ K = 3 ∨ K = 4 ∨ K = 5 ∨ K = 6 ∨ K = 7 := by omega
    rcases hc with rfl | rfl | rfl | rfl | rfl | rfl | rfl | rfl <;> rfl)
  simp only [ho]
  clear ho
  go_wp2_with fail
  refine (gap_as gp _ g HG.out).mono ?_
  rintro x w1 ⟨rfl, hb⟩
  have H1 := Lib.hid (HeldL.keep (HeldL.drew (HeldL.alloc (HeldL.alloc (HeldL.alloc (HeldL.refl w) (w.heap.size) #[.int .i64 op, .int .i64 md, .int .i64 gp, .bool nt, .slice a rs.length c] 58 (by simp)) (w.heap.size + 1) #[.int .u8 0, .int .i64 0, .bool false, .slice none 0 0] 50 (by simp)) (w.heap.size + 1 + 1) #[.int .u8 ((o : UInt8).toNat : Int), .int .i64 ((MD : Nat) : Int), .bool nt, .slice none 0 0] 50 (by simp))) hb)
  clear hb
  have x0 : w1.cell? ⟨w.heap.size + 1 + 1, 0, none⟩ = some (.int .u8 ((o : UInt8).toNat : Int)) := (H1.out.f (List.Mem.head _)).cell 0
  have x1 : w1.cell? ⟨w.heap.size + 1 + 1, 1, none⟩ = some (.int .i64 ((MD : Nat) : Int)) := (H1.out.f (List.Mem.head _)).cell 1
  have x2 : w1.cell? ⟨w.heap.size + 1 + 1, 2, none⟩ = some (.bool nt) := (H1.out.f (List.Mem.head _)).cell 2
  have x3 : w1.cell? ⟨w.heap.size + 1 + 1, 3, none⟩ = some (.slice none 0 0) := (H1.out.f (List.Mem.head _)).cell 3
  have xl : w.heap.size + 1 + 1 < w1.heap.size := (H1.out.f (List.Mem.head _)).lt
  have cv : ∀ W : World, Sem.run Tryz.prog (convert 40 9 (.slice (some ⟨W.heap.size, 0, none⟩) 1 1)) (W.alloc (.cells #[.int .u8 ((o : UInt8).toNat : Int)] 5)) = .ok (.string ⟨#[o]⟩) (W.alloc (.cells #[.int .u8 ((o : UInt8).toNat : Int)] 5)) := fun W => conv_one W o _ rfl
  have cv1 := cv w1
  clear cv
  have oh : [o].length = 1 := rfl
  obtain ⟨p0, hp0⟩ : ∃ p0, [o] ++ g = p0 := ⟨_, rfl⟩
  have p0l : p0.length = 1 + g.length := by rw [← hp0, List.length_append]; rfl
  have SBp0 : (⟨#[o]⟩ : ByteArray) ++ (⟨g.toArray⟩ : ByteArray) = ⟨p0.toArray⟩ := by rw [← hp0]; exact arr_append [o] g
  have cbp0 : ¬ 9223372036854775807 < 1 + g.length := by omega
  have Hp0 := Lib.hid hp0
  clear hp0 oh
  obtain ⟨dm, hdm⟩ : ∃ dm, digB MD = dm := ⟨_, rfl⟩
  have dml : dm.length ≤ 7 := by rw [← hdm]; exact digB_len (by omega) (by omega)
  have Hdm := Lib.hid hdm
  clear hdm
  obtain ⟨p1, hp1⟩ : ∃ p1, p0 ++ (if MD = 0 then [] else [37] ++ g ++ dm ++ g) = p1 := ⟨_, rfl⟩
  have p1l : p1.length ≤ 20 := by rw [← hp1, List.length_append]; split <;> simp <;> omega
  have Hp1 := Lib.hid hp1
  clear hp1
  go_upto_if 32 with fail
  go_cut [6] from 11 (fun v6 w' => v6 = S p1 ∧ HeldL w [(w.heap.size + 1 + 1, #[.int .u8 ((o : UInt8).toNat : Int), .int .i64 ((MD : Nat) : Int), .bool nt, .slice none 0 0]), (w.heap.size + 1, #[.int .u8 0, .int .i64 0, .bool false, .slice none 0 0]), (w.heap.size, #[.int .i64 op, .int .i64 md, .int .i64 gp, .bool nt, .slice a rs.length c])] w')
  case first =>
    by_cases hm0 : MD = 0
    · subst hm0
      obtain rfl : p0 = p1 := by rw [← Hp1.out, if_pos rfl, List.append_nil]
      go_wp2
      go_meet
      case rel => exact ⟨rfl, HeldL.skip H1.out _⟩
    · have hm0i : ¬ (MD : Int) = 0 := by omega
      have HP1 : Hid ((((p0 ++ [37]) ++ g) ++ dm) ++ g = p1) := Lib.hid (by rw [← Hp1.out, if_neg hm0]; simp [List.append_assoc])
      obtain ⟨q1, hq1⟩ : ∃ q1, p0 ++ [37] = q1 := ⟨_, rfl⟩
      have q1l : q1.length = p0.length + 1 := by rw [← hq1, List.length_append]; rfl
      have SBq1 : (⟨p0.toArray⟩ : ByteArray) ++ (⟨#[37]⟩ : ByteArray) = ⟨q1.toArray⟩ := by rw [← hq1]; exact arr_append p0 [37]
      have cbq1 : ¬ 9223372036854775807 < p0.length + 1 := by omega
      have Hq1 := Lib.hid hq1
      clear hq1
      obtain ⟨q2, hq2⟩ : ∃ q2, q1 ++ g = q2 := ⟨_, rfl⟩
      have q2l : q2.length = q1.length + g.length := by rw [← hq2, List.length_append]
      have SBq2 : (⟨q1.toArray⟩ : ByteArray) ++ (⟨g.toArray⟩ : ByteArray) = ⟨q2.toArray⟩ := by rw [← hq2]; exact arr_append q1 g
      have cbq2 : ¬ 9223372036854775807 < q1.length + g.length := by omega
      have Hq2 := Lib.hid hq2
      clear hq2
      obtain ⟨q3, hq3⟩ : ∃ q3, q2 ++ dm = q3 := ⟨_, rfl⟩
      have q3l : q3.length = q2.length + dm.length := by rw [← hq3, List.length_append]
      have SBq3 : (⟨q2.toArray⟩ : ByteArray) ++ (⟨dm.toArray⟩ : ByteArray) = ⟨q3.toArray⟩ := by rw [← hq3]; exact arr_append q2 dm
      have cbq3 : ¬ 9223372036854775807 < q2.length + dm.length := by omega
      have Hq3 := Lib.hid hq3
      clear hq3
      obtain ⟨q4, hq4⟩ : ∃ q4, q3 ++ g = q4 := ⟨_, rfl⟩
      have q4l : q4.length = q3.length + g.length := by rw [← hq4, List.length_append]
      have SBq4 : (⟨q3.toArray⟩ : ByteArray) ++ (⟨g.toArray⟩ : ByteArray) = ⟨q4.toArray⟩ := by rw [← hq4]; exact arr_append q3 g
      have cbq4 : ¬ 9223372036854775807 < q3.length + g.length := by omega
      have Hq4 := Lib.hid hq4
      clear hq4
      obtain rfl : q4 = p1 := by rw [← HP1.out, Hq1.out, Hq2.out, Hq3.out, Hq4.out]
      go_wp2_with fail
      refine (digits_as MD _ (by omega) (HT.out.below (HeldL.skip H1.out _).bel) dm Hdm.out).mono ?_
      rintro x w2 ⟨rfl, hb⟩
      have H2 := Lib.hid (HeldL.keep (HeldL.skip H1.out _) hb)
      clear hb
      go_wp2
      go_meet
      case rel => exact ⟨rfl, H2.out⟩
  case rest =>
  obtain ⟨rfl, hh⟩ := hcut
  have H3 := Lib.hid hh
  clear hh H1 x0 x1 x2 x3 xl cv1 SBp0 cbp0 p0l
  have x2 := (H3.out.f (List.Mem.head _)).cell 2
  have xl := (H3.out.f (List.Mem.head _)).lt
  obtain ⟨p2, hp2⟩ : ∃ p2, p1 ++ (if nt then [33] else []) = p2 := ⟨_, rfl⟩
  have p2l : p2.length ≤ 21 := by rw [← hp2, List.length_append]; split <;> simp <;> omega
  have Hp2 := Lib.hid hp2
  clear hp2
  go_upto_if 44 with fail
  go_cut [6] from 11 (fun v6 w' => v6 = S p2 ∧ HeldL w [(w.heap.size + 1 + 1, #[.int .u8 ((o : UInt8).toNat : Int), .int .i64 ((MD : Nat) : Int), .bool nt, .slice none 0 0]), (w.heap.size + 1, #[.int .u8 0, .int .i64 0, .bool false, .slice none 0 0]), (w.heap.size, #[.int .i64 op, .int .i64 md, .int .i64 gp, .bool nt, .slice a rs.length c])] w')
  case first =>
    cases nt with
    | false =>
      obtain rfl : p1 = p2 := by rw [← Hp2.out]; simp
      go_wp2
      go_meet
      case rel => exact ⟨rfl, H3.out⟩
    | true =>
      obtain ⟨q5, hq5⟩ : ∃ q5, p1 ++ [33] = q5 := ⟨_, rfl⟩
      have q5l : q5.length = p1.length + 1 := by rw [← hq5, List.length_append]; rfl
      have SBq5 : (⟨p1.toArray⟩ : ByteArray) ++ (⟨#[33]⟩ : ByteArray) = ⟨q5.toArray⟩ := by rw [← hq5]; exact arr_append p1 [33]
      have cbq5 : ¬ 9223372036854775807 < p1.length + 1 := by omega
      have Hq5 := Lib.hid hq5
      clear hq5
      obtain rfl : q5 = p2 := by rw [← Hp2.out, ← Hq5.out]; rfl
      go_wp2
      go_meet
      case rel => exact ⟨rfl, H3.out⟩
  case rest =>
  obtain ⟨rfl, hh⟩ := hcut
  have H4 := Lib.hid hh
  clear hh H3 x2 xl
  obtain ⟨q6, hq6⟩ : ∃ q6, p2 ++ [61] = q6 := ⟨_, rfl⟩
  have q6l : q6.length = p2.length + 1 := by rw [← hq6, List.length_append]; rfl
  have SBq6 : (⟨p2.toArray⟩ : ByteArray) ++ (⟨#[61]⟩ : ByteArray) = ⟨q6.toArray⟩ := by rw [← hq6]; exact arr_append p2 [61]
  have cbq6 : ¬ 9223372036854775807 < p2.length + 1 := by omega
  have Hq6 := Lib.hid hq6
  clear hq6
  obtain ⟨p3, hp3⟩ : ∃ p3, q6 ++ g = p3 := ⟨_, rfl⟩
  have p3l : p3.length = q6.length + g.length := by rw [← hp3, List.length_append]
  have SBp3 : (⟨q6.toArray⟩ : ByteArray) ++ (⟨g.toArray⟩ : ByteArray) = ⟨p3.toArray⟩ := by rw [← hp3]; exact arr_append q6 g
  have cbp3 : ¬ 9223372036854775807 < q6.length + g.length := by omega
  have Hp3 := Lib.hid hp3
  clear hp3
  have p3b : p3.length ≤ 24 := by omega
  obtain ⟨i0, hi, hz0, hz1, hz2⟩ := info_parts infoNum
  have r4 := (H4.out.f (List.Mem.tail _ (List.Mem.tail _ (List.Mem.head _)))).cell 4
  have rl := (H4.out.f (List.Mem.tail _ (List.Mem.tail _ (List.Mem.head _)))).lt
  have hxl := (H4.out.f (List.Mem.head _)).lt
  go_upto_region 9 with fail
  go_cut [7] from 11 (fun v7 w' => w'.ownsRow (w.heap.size + 1 + 1 + 1) 128 2 v7 rs.length (numC rs) ∧ HeldL w [(w.heap.size + 1 + 1, #[.int .u8 ((o : UInt8).toNat : Int), .int .i64 ((MD : Nat) : Int), .bool nt, .slice none 0 0]), (w.heap.size + 1, #[.int .u8 0, .int .i64 0, .bool false, .slice none 0 0]), (w.heap.size, #[.int .i64 op, .int .i64 md, .int .i64 gp, .bool nt, .slice a rs.length c])] w')
  case first =>
    have OWN : (wc.alloc (.cells #[] 128)).ownsRow (w.heap.size + 1 + 1 + 1) 128 2 (.slice (some ⟨wc.heap.size, 0, none⟩) 0 0) 0 [] := World.ownsRow_lit wc #[] 0 hxl (by decide) rfl
    have HOW := Lib.hid OWN
    clear OWN
    by_cases hrs : 0 < rs.length
    · obtain ⟨b, off, rfl, hbl, hbc⟩ := HC.out hrs
      have CELLS : ∀ j u, (numC rs)[j]? = some u → (wc.alloc (.cells #[] 128)).cell? ((⟨b, off, none⟩ : Addr).add j) = some u := fun j u hu => by
        have hj : j < rs.length * 2 := by rw [← hlen2]; exact (List.getElem?_eq_some_iff.1 hu).1
        rw [show (⟨b, off, none⟩ : Addr).add j = ⟨b, off + j, none⟩ from by simp [Addr.add], (HeldL.skip H4.out _).bel.cell (p := ⟨b, off + j, none⟩) hbl, hbc j hj]; exact hu
      have h63 : 0 + rs.length ≤ maxLen := by unfold maxLen; omega
      have hby : (0 + rs.length) * 16 ≤ 140737488355328 := by omega
      have hba : w.heap.size + 1 + 1 + 1 ≤ (wc.alloc (.cells #[] 128)).heap.size := by simp; omega
      have HCE := Lib.hid CELLS
      have HBA := Lib.hid hba
      clear CELLS hba
      go_wp2_with (at_builtin; refine wpList_append_own _ rfl _ _ 56 rfl (w.heap.size + 1 + 1 + 1) 128 i0 (.agg #[.int .i64 0, .int .i64 0]) 2 16 Tryz.underlying56 hi hz0 hz1 hz2 rfl (by decide) (.slice (some ⟨wc.heap.size, 0, none⟩) 0 0) 0 [] rfl HOW.out ⟨b, off, none⟩ rs.length c (numC rs) rfl hlen2 HCE.out (numC_one rs) h63 hby HBA.out ?_; intro v8 w8 hown8 hgr8 _)
      have HO8 : Hid (w8.ownsRow (w.heap.size + 1 + 1 + 1) 128 2 v8 rs.length (numC rs)) := Lib.hid (by have h := hown8; rw [Nat.zero_add] at h; exact h)
      have H8 := Lib.hid (HeldL.grownOwn (HeldL.skip H4.out _) hgr8 (fun k hk => own_above hxl HOW.out k hk))
      clear hown8 hgr8
      go_meet
      case rel => exact ⟨HO8.out, H8.out⟩
    · obtain rfl : rs = [] := List.eq_nil_of_length_eq_zero (by omega)
      cases a with
      | none =>
        go_wp2
        go_meet
        case rel => exact ⟨HOW.out, HeldL.skip H4.out _⟩
      | some ad =>
        go_wp2
        go_meet
        case rel => exact ⟨HOW.out, HeldL.skip H4.out _⟩
  case rest =>
  obtain ⟨how, hh⟩ := hcut
  have OW5 := Lib.hid how
  have H5 := Lib.hid hh
  clear hh how H4 r4 rl hxl
  have hxl := (H5.out.f (List.Mem.head _)).lt
  obtain ⟨a7, c7, hv7, hc7, hm7, _⟩ := InN.own OW5.out
  subst hv7
  obtain ⟨LL, hLL⟩ : ∃ LL, numL rs = LL := ⟨_, rfl⟩
  have HLL := Lib.hid hLL
  have hl5 : LL.length ≤ 5 := by rw [← hLL]; exact (numL_len hn5).1
  have hl1 : 0 < LL.length := by rw [← hLL]; exact (numL_len hn5).2
  clear hLL
  go_upto_if 57 with fail
  go_cut [7] from 11 (fun v7 w' => w'.ownsRow (w.heap.size + 1 + 1 + 1) 128 2 v7 LL.length (numC LL) ∧ HeldL w [(w.heap.size + 1 + 1, #[.int .u8 ((o : UInt8).toNat : Int), .int .i64 ((MD : Nat) : Int), .bool nt, .slice none 0 0]), (w.heap.size + 1, #[.int .u8 0, .int .i64 0, .bool false, .slice none 0 0]), (w.heap.size, #[.int .i64 op, .int .i64 md, .int .i64 gp, .bool nt, .slice a rs.length c])] w')
  case first =>
    by_cases hrs : rs = []
    · subst hrs
      obtain rfl : [(0, 0)] = LL := by rw [← HLL.out]; rfl
      have hby : (0 + 1) * 16 ≤ 140737488355328 := by omega
      have h63 : 0 + 1 ≤ maxLen := by unfold maxLen; omega
      have HOW := Lib.hid (OW5.out.alloc (.cells #[.int .i64 0, .int .i64 0] 128))
      have HBA : Hid (w.heap.size + 1 + 1 + 1 ≤ (wc.alloc (.cells #[.int .i64 0, .int .i64 0] 128)).heap.size) := Lib.hid (by simp; omega)
      go_wp2_with (at_builtin; refine wpList_append_own _ rfl _ _ 56 rfl (w.heap.size + 1 + 1 + 1) 128 i0 (.agg #[.int .i64 0, .int .i64 0]) 2 16 Tryz.underlying56 hi hz0 hz1 hz2 rfl (by decide) (.slice a7 0 c7) 0 (numC []) rfl HOW.out ⟨wc.heap.size, 0, none⟩ 1 1 [.int .i64 0, .int .i64 0] rfl rfl (lit_cells wc #[.int .i64 0, .int .i64 0] 128) (numC_one [(0, 0)]) h63 hby HBA.out ?_; intro v8 w8 hown8 hgr8 _)
      have HO8 : Hid (w8.ownsRow (w.heap.size + 1 + 1 + 1) 128 2 v8 1 (numC [(0, 0)])) := Lib.hid hown8
      have H8 := Lib.hid (HeldL.grownOwn (HeldL.skip H5.out _) hgr8 (fun k hk => own_above hxl HOW.out k hk))
      clear hown8 hgr8
      go_meet
      case rel => exact ⟨HO8.out, H8.out⟩
    · obtain rfl : rs = LL := by rw [← HLL.out]; unfold numL; rw [if_neg hrs]
      have h0i : ¬ (rs.length : Int) = 0 := by omega
      have h0b : ((rs.length : Int) == 0) = false := by simpa using h0i
      go_wp2
      go_meet
      case rel => exact ⟨OW5.out, H5.out⟩
  case rest =>
  obtain ⟨how, hh⟩ := hcut
  obtain ⟨w6, hw6⟩ : ∃ w6 : World, w6 = wc := ⟨_, rfl⟩
  subst hw6
  have OW6 := Lib.hid how
  have H6 := Lib.hid hh
  have HSZ6 : Hid (w.heap.size + 1 + 1 < w6.heap.size) := Lib.hid (hh.f (List.Mem.head _)).lt
  clear hh how H5 OW5 hxl hc7 hm7 hi hz0 hz1 hz2
  obtain ⟨g7, c8, hv7, hc8, hm8, hlo7, hgl7, hgc7⟩ := own_blk OW6.out hl1
  subst hv7
  have HGC := Lib.hid hgc7
  have m8i : (c8 : Int) ≤ 9223372036854775807 := by unfold maxLen at hm8; omega
  clear hgc7
  obtain ⟨i1, hi, hz0, hz1, hz2⟩ := info_parts infoRange
  obtain ⟨sep, hsep⟩ : ∃ sep, g ++ [44] ++ g = sep := ⟨_, rfl⟩
  have sepl : sep.length ≤ 5 := by rw [← hsep]; simp; omega
  have HSEP := Lib.hid hsep
  clear hsep
  go_wp2_with fail
  go_loopw [6, 8, 64] (fun v6 v8 i wr => ∃ (k : Nat) (u : Value), k ≤ LL.length ∧ i = .int .i64 k ∧ v6 = S (p3 ++ joinM sep ((LL.take k).map (numTx g))) ∧ LpF w6 wr (w.heap.size + 1 + 1) #[.int .u8 ((o : UInt8).toNat : Int), .int .i64 ((MD : Nat) : Int), .bool nt, u] ((LL.take k).map numMn) u) (fun _ _ i _ => LL.length - (intOf i).toNat)
  case atStart => exact ⟨0, .slice none 0 0, Nat.zero_le _, rfl, by simp [joinM, List.intercalate], H6.out.f (List.Mem.head _), World.ownsRow_nil _ _ _ _, World.grownBy.refl _ _⟩
  case round =>
    obtain ⟨k, u, hk, rfl, rfl, hlp⟩ := hrel
    obtain ⟨a9, c9, hu⟩ := own_cap hlp.row
    subst hu
    have HLP := Lib.hid hlp
    have hlenk : ((LL.take k).map numMn).length = k := by rw [List.length_map, List.length_take]; omega
    have x3 : wr.cell? ⟨w.heap.size + 1 + 1, 3, none⟩ = some (.slice a9 k c9) := by have h := hlp.box.cell 3; rw [hlenk] at h; exact h
    have xz3 : wr.frozen? ⟨w.heap.size + 1 + 1, 3, none⟩ = false := hlp.box.frozen 3
    have xl : w.heap.size + 1 + 1 < wr.heap.size := hlp.box.lt
    have xl1 : w.heap.size + 1 < wr.heap.size := by omega
    have xl0 : w.heap.size < wr.heap.size := by omega
    have xn2 : ¬ w.heap.size + 1 + 1 = wr.heap.size := by omega
    have xn1 : ¬ w.heap.size + 1 = wr.heap.size := by omega
    have xn0 : ¬ w.heap.size = wr.heap.size := by omega
    have xm2 : ¬ wr.heap.size = w.heap.size + 1 + 1 := by omega
    have xm1 : ¬ wr.heap.size = w.heap.size + 1 := by omega
    have xm0 : ¬ wr.heap.size = w.heap.size := by omega
    have hsz := hlp.gr.size
    obtain ⟨s0, hs0⟩ : ∃ s0, p3 ++ joinM sep ((LL.take k).map (numTx g)) = s0 := ⟨_, rfl⟩
    have s0l : s0.length ≤ 24 + 125 := by
      have h1 := joinM_len sep 20 ((LL.take k).map (numTx g)) (fun l hl => by
        obtain ⟨x, _, rfl⟩ := List.mem_map.1 hl
        exact numTx_len g gl x)
      rw [List.length_map, List.length_take] at h1
      have h2 : min k LL.length * (20 + sep.length) ≤ 5 * 25 := Nat.mul_le_mul (by omega) (by omega)
      rw [← hs0, List.length_append]
      omega
    rw [hs0]
    have HS0 := Lib.hid hs0
    clear hlp hs0
    by_cases hlt : k < LL.length
    · have hlti : (k : Int) < (LL.length : Int) := by omega
      obtain ⟨xk, hxk⟩ : ∃ xk, LL[k] = xk := ⟨_, rfl⟩
      have hA := numC_at LL k hlt
      rw [hxk] at hA
      have HXK : Hid (LL[k]? = some xk) := Lib.hid (by rw [List.getElem?_eq_getElem hlt, hxk])
      clear hxk
      have e0 : wr.cell? ⟨g7, k * 2, none⟩ = some (.int .i64 xk.1) := HLP.out.gr.cell ((HGC.out (k * 2) (by omega)).trans hA.1) (fun e => by have h := Option.some.inj e; simp only at h; omega)
      have e1 : wr.cell? ⟨g7, k * 2 + 1, none⟩ = some (.int .i64 xk.2) := HLP.out.gr.cell ((HGC.out (k * 2 + 1) (by omega)).trans hA.2) (fun e => by have h := Option.some.inj e; simp only at h; omega)
      clear hA
      have hk3 : (0 : Int) ≤ (k : Int) := by omega
      have hkc : (k : Int) < (c8 : Int) := by omega
      have glr : g7 < wr.heap.size := Nat.lt_of_lt_of_le hgl7 hsz
      obtain ⟨hb1, hlo⟩ := andN_is xk.1 1048575 (by decide)
      obtain ⟨hb2, hmo⟩ := andN_is xk.2 3 (by decide)
      obtain ⟨hb4, hd4⟩ := andN_is xk.2 4 (by decide)
      obtain ⟨Lo, hLo⟩ : ∃ Lo, andN xk.1 1048575 = Lo := ⟨_, rfl⟩
      obtain ⟨mo, hMo⟩ : ∃ mo, andN xk.2 3 = mo := ⟨_, rfl⟩
      obtain ⟨q4, hQ4⟩ : ∃ q4, andN xk.2 4 = q4 := ⟨_, rfl⟩
      rw [hLo] at hb1 hlo
      rw [hMo] at hb2 hmo
      rw [hQ4] at hb4 hd4
      have bb1 : bits .and .i64 xk.1 1048575 = (Lo : Int) := hb1
      have bb2 : bits .and .i64 xk.2 3 = (mo : Int) := hb2
      have bb4 : bits .and .i64 xk.2 4 = (q4 : Int) := hb4
      have HNM : Hid (numMn xk = (Lo, Lo + mo)) := Lib.hid (by unfold numMn; rw [hLo, hMo])
      have HQ := Lib.hid hQ4
      clear hb1 hb2 hb4 hLo hMo hQ4
      have HOW : Hid ((((wr.alloc (.cells #[.int .i64 xk.1, .int .i64 xk.2] 128)).alloc (.cells #[.int .i64 ((Lo : Nat) : Int), .int .i64 ((Lo : Int) + (mo : Int))] 64)).alloc (.cells #[.int .i64 ((Lo : Nat) : Int), .int .i64 ((Lo : Int) + (mo : Int))] 64)).ownsRow w6.heap.size 64 2 (.slice a9 ((LL.take k).map numMn).length c9) ((LL.take k).map numMn).length (rngC ((LL.take k).map numMn))) := Lib.hid (((HLP.out.row.alloc _).alloc _).alloc _)
      have HBA : Hid (w6.heap.size ≤ (((wr.alloc (.cells #[.int .i64 xk.1, .int .i64 xk.2] 128)).alloc (.cells #[.int .i64 ((Lo : Nat) : Int), .int .i64 ((Lo : Int) + (mo : Int))] 64)).alloc (.cells #[.int .i64 ((Lo : Nat) : Int), .int .i64 ((Lo : Int) + (mo : Int))] 64)).heap.size) := Lib.hid (by simp; omega)
      have HCE : Hid (∀ j u, ([.int .i64 ((Lo : Nat) : Int), .int .i64 ((Lo : Int) + (mo : Int))] : List Value)[j]? = some u → (((wr.alloc (.cells #[.int .i64 xk.1, .int .i64 xk.2] 128)).alloc (.cells #[.int .i64 ((Lo : Nat) : Int), .int .i64 ((Lo : Int) + (mo : Int))] 64)).alloc (.cells #[.int .i64 ((Lo : Nat) : Int), .int .i64 ((Lo : Int) + (mo : Int))] 64)).cell? ((⟨wr.heap.size + 1 + 1, 0, none⟩ : Addr).add j) = some u) := Lib.hid (by
        have h := lit_cells ((wr.alloc (.cells #[.int .i64 xk.1, .int .i64 xk.2] 128)).alloc (.cells #[.int .i64 ((Lo : Nat) : Int), .int .i64 ((Lo : Int) + (mo : Int))] 64)) #[.int .i64 ((Lo : Nat) : Int), .int .i64 ((Lo : Int) + (mo : Int))] 64
        simpa using h)
      have HOW : Hid ((((wr.alloc (.cells #[.int .i64 xk.1, .int .i64 xk.2] 128)).alloc (.cells #[.int .i64 ((Lo : Nat) : Int), .int .i64 ((Lo : Int) + (mo : Int))] 64)).alloc (.cells #[.int .i64 ((Lo : Nat) : Int), .int .i64 ((Lo : Int) + (mo : Int))] 64)).ownsRow w6.heap.size 64 2 (.slice a9 k c9) k (rngC ((LL.take k).map numMn))) := Lib.hid (by have h := HOW.out; rw [hlenk] at h; exact h)
      have h63 : k + 1 ≤ maxLen := by unfold maxLen; omega
      have hby : (k + 1) * 16 ≤ 140737488355328 := by omega
      obtain ⟨s1, hs1⟩ : ∃ s1, (if k = 0 then s0 else s0 ++ g ++ [44] ++ g) = s1 := ⟨_, rfl⟩
      have s1l : s1.length ≤ 24 + 125 + 5 := by rw [← hs1]; split <;> simp <;> omega
      have HS1 := Lib.hid hs1
      clear hs1
      have HXB : Hid (Box wr (w.heap.size + 1 + 1) #[.int .u8 ((o : UInt8).toNat : Int), .int .i64 ((MD : Nat) : Int), .bool nt, .slice a9 k c9]) := Lib.hid (by have h := HLP.out.box; rw [hlenk] at h; exact h)
      have HNR : Hid (∀ q, (Value.slice a9 k c9).ownBlock = some q → w6.heap.size ≤ q ∧ q < wr.heap.size) := Lib.hid (by have h := HLP.out.row.lt; rw [hlenk] at h; exact h)
      clear hlenk
      obtain ⟨dLo, hdLo⟩ : ∃ dLo, digB Lo = dLo := ⟨_, rfl⟩
      have dLol : dLo.length ≤ 7 := by rw [← hdLo]; exact digB_len (by omega) (by omega)
      have HdLo := Lib.hid hdLo
      obtain ⟨dHi, hdHi⟩ : ∃ dHi, digB (Lo + mo) = dHi := ⟨_, rfl⟩
      have dHil : dHi.length ≤ 7 := by rw [← hdHi]; exact digB_len (by omega) (by omega)
      have HdHi := Lib.hid hdHi
      have HTX : Hid (p3 ++ joinM sep ((LL.take (k + 1)).map (numTx g)) = s1 ++ (dLo ++ (if dotM xk then g ++ [46, 46] ++ g ++ dHi else []))) := Lib.hid (by
        rw [tx_step HS0.out HS1.out HSEP.out hlt HXK.out]
        unfold numTx
        rw [HNM.out, hdLo, hdHi])
      have HDT : Hid (dotM xk = (decide (Lo ≠ Lo + mo) || decide (q4 = 4))) := Lib.hid (by unfold dotM; rw [HNM.out, HQ.out])
      clear hdLo hdHi
      obtain ⟨s2, hs2⟩ : ∃ s2, s1 ++ dLo = s2 := ⟨_, rfl⟩
      have s2l : s2.length = s1.length + dLo.length := by rw [← hs2, List.length_append]
      have SBs2 : (⟨s1.toArray⟩ : ByteArray) ++ (⟨dLo.toArray⟩ : ByteArray) = ⟨s2.toArray⟩ := by rw [← hs2]; exact arr_append s1 dLo
      have cbs2 : ¬ 9223372036854775807 < s1.length + dLo.length := by omega
      have Hs2 := Lib.hid hs2
      clear hs2
      obtain ⟨s3, hs3⟩ : ∃ s3, s2 ++ g = s3 := ⟨_, rfl⟩
      have s3l : s3.length = s2.length + g.length := by rw [← hs3, List.length_append]
      have SBs3 : (⟨s2.toArray⟩ : ByteArray) ++ (⟨g.toArray⟩ : ByteArray) = ⟨s3.toArray⟩ := by rw [← hs3]; exact arr_append s2 g
      have cbs3 : ¬ 9223372036854775807 < s2.length + g.length := by omega
      have Hs3 := Lib.hid hs3
      clear hs3
      obtain ⟨s4, hs4⟩ : ∃ s4, s3 ++ [46, 46] = s4 := ⟨_, rfl⟩
      have s4l : s4.length = s3.length + 2 := by rw [← hs4, List.length_append]; rfl
      have SBs4 : (⟨s3.toArray⟩ : ByteArray) ++ (⟨#[46, 46]⟩ : ByteArray) = ⟨s4.toArray⟩ := by rw [← hs4]; exact arr_append s3 [46, 46]
      have cbs4 : ¬ 9223372036854775807 < s3.length + 2 := by omega
      have Hs4 := Lib.hid hs4
      clear hs4
      obtain ⟨s5, hs5⟩ : ∃ s5, s4 ++ g = s5 := ⟨_, rfl⟩
      have s5l : s5.length = s4.length + g.length := by rw [← hs5, List.length_append]
      have SBs5 : (⟨s4.toArray⟩ : ByteArray) ++ (⟨g.toArray⟩ : ByteArray) = ⟨s5.toArray⟩ := by rw [← hs5]; exact arr_append s4 g
      have cbs5 : ¬ 9223372036854775807 < s4.length + g.length := by omega
      have Hs5 := Lib.hid hs5
      clear hs5
      obtain ⟨s6, hs6⟩ : ∃ s6, s5 ++ dHi = s6 := ⟨_, rfl⟩
      have s6l : s6.length = s5.length + dHi.length := by rw [← hs6, List.length_append]
      have SBs6 : (⟨s5.toArray⟩ : ByteArray) ++ (⟨dHi.toArray⟩ : ByteArray) = ⟨s6.toArray⟩ := by rw [← hs6]; exact arr_append s5 dHi
      have cbs6 : ¬ 9223372036854775807 < s5.length + dHi.length := by omega
      have Hs6 := Lib.hid hs6
      clear hs6
      have nn1 : wr.heap.size ≠ w.heap.size + 1 + 1 := by omega
      have nn2 : wr.heap.size + 1 ≠ w.heap.size + 1 + 1 := by omega
      by_cases hk0 : k = 0
      · have hk0i : ¬ (0 : Int) < (k : Int) := by omega
        obtain rfl : s0 = s1 := by rw [← HS1.out, if_pos hk0]
        clear hk0
        go_wp2_with (at_builtin; refine wpList_append_own _ rfl _ _ 48 rfl w6.heap.size 64 i1 (.agg #[.int .i64 0, .int .i64 0]) 2 16 Tryz.underlying48 hi hz0 hz1 hz2 rfl (by decide) (.slice a9 k c9) k (rngC ((LL.take k).map numMn)) rfl HOW.out ⟨wr.heap.size + 1 + 1, 0, none⟩ 1 1 [.int .i64 ((Lo : Nat) : Int), .int .i64 ((Lo : Int) + (mo : Int))] rfl rfl HCE.out (by simp [Value.oneCell']) h63 hby HBA.out ?_; intro v9 w8 hown8 hgr8 _; obtain ⟨a10, c10, hv9⟩ := own_cap hown8; subst hv9; have B8 := Lib.hid (Box.own (((HXB.out.alloc (.cells #[.int .i64 xk.1, .int .i64 xk.2] 128)).alloc (.cells #[.int .i64 ((Lo : Nat) : Int), .int .i64 ((Lo : Int) + (mo : Int))] 64)).alloc (.cells #[.int .i64 ((Lo : Nat) : Int), .int .i64 ((Lo : Int) + (mo : Int))] 64)) hgr8 HOW.out HSZ6.out); have x38 : w8.cell? ⟨w.heap.size + 1 + 1, 3, none⟩ = some (.slice a9 k c9) := B8.out.cell 3; have xz8 : w8.frozen? ⟨w.heap.size + 1 + 1, 3, none⟩ = false := B8.out.frozen 3; have xl8 : w.heap.size + 1 + 1 < w8.heap.size := B8.out.lt; have N8 : Hid (Box w8 wr.heap.size #[.int .i64 xk.1, .int .i64 xk.2]) := Lib.hid (Box.grown (((Box.new wr #[.int .i64 xk.1, .int .i64 xk.2] 128).alloc (.cells #[.int .i64 ((Lo : Nat) : Int), .int .i64 ((Lo : Int) + (mo : Int))] 64)).alloc (.cells #[.int .i64 ((Lo : Nat) : Int), .int .i64 ((Lo : Int) + (mo : Int))] 64)) hgr8 (fun e => by have h := (HNR.out _ e.symm).2; omega)); have Y8 : Hid (Box w8 (wr.heap.size + 1) #[.int .i64 ((Lo : Nat) : Int), .int .i64 ((Lo : Int) + (mo : Int))]) := Lib.hid (Box.grown ((by have h := Box.new (wr.alloc (.cells #[.int .i64 xk.1, .int .i64 xk.2] 128)) #[.int .i64 ((Lo : Nat) : Int), .int .i64 ((Lo : Int) + (mo : Int))] 64; simpa using h : Box ((wr.alloc (.cells #[.int .i64 xk.1, .int .i64 xk.2] 128)).alloc (.cells #[.int .i64 ((Lo : Nat) : Int), .int .i64 ((Lo : Int) + (mo : Int))] 64)) (wr.heap.size + 1) #[.int .i64 ((Lo : Nat) : Int), .int .i64 ((Lo : Int) + (mo : Int))]).alloc (.cells #[.int .i64 ((Lo : Nat) : Int), .int .i64 ((Lo : Int) + (mo : Int))] 64)) hgr8 (fun e => by have h := (HNR.out _ e.symm).2; omega)); have y08 : w8.cell? ⟨wr.heap.size + 1, 0, none⟩ = some (.int .i64 ((Lo : Nat) : Int)) := Y8.out.cell 0; have yl8 : wr.heap.size + 1 < w8.heap.size := Y8.out.lt)
        have HOW8 := Lib.hid hown8
        have HGR8 := Lib.hid hgr8
        clear hown8 hgr8
        have G8 : Hid (w6.grownBy w8 (some (w.heap.size + 1 + 1))) := Lib.hid (grown_own (grown_alloc (grown_alloc (grown_alloc HLP.out.gr _) _) _) HGR8.out (fun q hq => (HNR.out q hq).1))
        have hmap : (LL.take (k + 1)).map numMn = (LL.take k).map numMn ++ [(Lo, Lo + mo)] := by rw [List.take_add_one, HXK.out, List.map_append]; simp [HNM.out]
        have R8 : Hid (Rngs w8 w6.heap.size ((LL.take (k + 1)).map numMn) (.slice a10 (k + 1) c10)) := Lib.hid (by
          have h := HOW8.out
          have hl : ((LL.take (k + 1)).map numMn).length = k + 1 := by rw [List.length_map, List.length_take]; omega
          unfold Rngs
          rw [hl, hmap, rngC_snoc]
          exact h)
        have LP8 : Hid (LpF w6 (w8.setCell ⟨w.heap.size + 1 + 1, 3, none⟩ (.slice a10 (k + 1) c10)) (w.heap.size + 1 + 1) #[.int .u8 ((o : UInt8).toNat : Int), .int .i64 ((MD : Nat) : Int), .bool nt, .slice a10 (k + 1) c10] ((LL.take (k + 1)).map numMn) (.slice a10 (k + 1) c10)) := Lib.hid ⟨B8.out.set 3 (.slice a10 (k + 1) c10), own_set R8.out HSZ6.out 3 _, grown_set G8.out 3 _⟩
        have HMAP := Lib.hid hmap
        clear hmap x3 xz3 xl x38 xz8 xl8
        have BW9 : Hid (Below w.heap.size w (w8.setCell ⟨w.heap.size + 1 + 1, 3, none⟩ (.slice a10 (k + 1) c10))) := Lib.hid (below_gr H6.out.bel LP8.out.gr (by omega))
        have HN9 := Lib.hid (N8.out.other (a := ⟨w.heap.size + 1 + 1, 3, none⟩) nn1 (.slice a10 (k + 1) c10))
        have HY9 := Lib.hid (Y8.out.other (a := ⟨w.heap.size + 1 + 1, 3, none⟩) nn2 (.slice a10 (k + 1) c10))
        clear y08 yl8 HLP e0 e1 glr
        refine (digits_as Lo _ (by omega) (HT.out.below BW9.out) dLo HdLo.out).mono ?_
        rintro x w10 ⟨rfl, hb⟩
        have B10 := Lib.hid (BW9.out.trans (hb.mono BW9.out.size))
        have HLP10 := Lib.hid (LP8.out.below hb)
        have HN10 := Lib.hid (HN9.out.below hb HN9.out.lt)
        have HY10 := Lib.hid (HY9.out.below hb HY9.out.lt)
        clear hb HN9 HY9 BW9
        have y0 : w10.cell? ⟨wr.heap.size + 1, 0, none⟩ = some (.int .i64 ((Lo : Nat) : Int)) := HY10.out.cell 0
        have y1 : w10.cell? ⟨wr.heap.size + 1, 1, none⟩ = some (.int .i64 ((Lo : Int) + (mo : Int))) := HY10.out.cell 1
        have n1 : w10.cell? ⟨wr.heap.size, 1, none⟩ = some (.int .i64 xk.2) := HN10.out.cell 1
        have yl : wr.heap.size + 1 < w10.heap.size := HY10.out.lt
        have nl : wr.heap.size < w10.heap.size := HN10.out.lt
        by_cases hmo0 : mo = 0
        · by_cases hq : q4 = 4
          · have HD : Hid (dotM xk = true) := Lib.hid (by rw [HDT.out, hq]; simp)
            subst hmo0
            have hqi : (q4 : Int) = 4 := by omega
            have hqb : ((q4 : Int) == 4) = true := by simpa using hqi
            go_wp2_with fail
            refine (digitsI _ (Lo + 0) (by simp) _ (by omega) (HT.out.below B10.out) dHi HdHi.out).mono ?_
            rintro x w11 ⟨rfl, hb⟩
            have HLP11 := Lib.hid (HLP10.out.below hb)
            clear hb
            go_wp2
            go_roundw
            case rel => exact ⟨k + 1, .slice a10 (k + 1) c10, Nat.succ_le_of_lt hlt, by go_num, by rw [HTX.out, HD.out, ← Hs6.out, ← Hs5.out, ← Hs4.out, ← Hs3.out, ← Hs2.out]; simp [List.append_assoc], HLP11.out⟩
            case measure => simp [intOf]; omega
          · have HD : Hid (dotM xk = false) := Lib.hid (by rw [HDT.out, hmo0]; simp [hq])
            subst hmo0
            have hqi : ¬ (q4 : Int) = 4 := by omega
            have hqb : ((q4 : Int) == 4) = false := by simpa using hqi
            go_wp2
            go_roundw
            case rel => exact ⟨k + 1, .slice a10 (k + 1) c10, Nat.succ_le_of_lt hlt, by go_num, by rw [HTX.out, HD.out, ← Hs2.out]; simp, HLP10.out⟩
            case measure => simp [intOf]; omega
        · have HD : Hid (dotM xk = true) := Lib.hid (by rw [HDT.out]; simp; omega)
          have hmi : ¬ (mo : Int) = 0 := by omega
          have hmj : ¬ (Lo : Int) = (Lo : Int) + (mo : Int) := by omega
          have hmb : (((Lo : Nat) : Int) != (Lo : Int) + (mo : Int)) = true := by simpa using hmj
          go_wp2_with fail
          refine (digitsI _ (Lo + mo) (by simp) _ (by omega) (HT.out.below B10.out) dHi HdHi.out).mono ?_
          rintro x w11 ⟨rfl, hb⟩
          have HLP11 := Lib.hid (HLP10.out.below hb)
          clear hb
          go_wp2
          go_roundw
          case rel => exact ⟨k + 1, .slice a10 (k + 1) c10, Nat.succ_le_of_lt hlt, by go_num, by rw [HTX.out, HD.out, ← Hs6.out, ← Hs5.out, ← Hs4.out, ← Hs3.out, ← Hs2.out]; simp [List.append_assoc], HLP11.out⟩
          case measure => simp [intOf]; omega
      · have hk0i : (0 : Int) < (k : Int) := by omega
        obtain ⟨t1, ht1⟩ : ∃ t1, s0 ++ g = t1 := ⟨_, rfl⟩
        have t1l : t1.length = s0.length + g.length := by rw [← ht1, List.length_append]
        have SBt1 : (⟨s0.toArray⟩ : ByteArray) ++ (⟨g.toArray⟩ : ByteArray) = ⟨t1.toArray⟩ := by rw [← ht1]; exact arr_append s0 g
        have cbt1 : ¬ 9223372036854775807 < s0.length + g.length := by omega
        have Ht1 := Lib.hid ht1
        clear ht1
        obtain ⟨t2, ht2⟩ : ∃ t2, t1 ++ [44] = t2 := ⟨_, rfl⟩
        have t2l : t2.length = t1.length + 1 := by rw [← ht2, List.length_append]; rfl
        have SBt2 : (⟨t1.toArray⟩ : ByteArray) ++ (⟨#[44]⟩ : ByteArray) = ⟨t2.toArray⟩ := by rw [← ht2]; exact arr_append t1 [44]
        have cbt2 : ¬ 9223372036854775807 < t1.length + 1 := by omega
        have Ht2 := Lib.hid ht2
        clear ht2
        obtain ⟨t3, ht3⟩ : ∃ t3, t2 ++ g = t3 := ⟨_, rfl⟩
        have t3l : t3.length = t2.length + g.length := by rw [← ht3, List.length_append]
        have SBt3 : (⟨t2.toArray⟩ : ByteArray) ++ (⟨g.toArray⟩ : ByteArray) = ⟨t3.toArray⟩ := by rw [← ht3]; exact arr_append t2 g
        have cbt3 : ¬ 9223372036854775807 < t2.length + g.length := by omega
        have Ht3 := Lib.hid ht3
        clear ht3
        obtain rfl : t3 = s1 := by rw [← HS1.out, if_neg hk0, Ht1.out, Ht2.out, Ht3.out]
        go_wp2_with (at_builtin; refine wpList_append_own _ rfl _ _ 48 rfl w6.heap.size 64 i1 (.agg #[.int .i64 0, .int .i64 0]) 2 16 Tryz.underlying48 hi hz0 hz1 hz2 rfl (by decide) (.slice a9 k c9) k (rngC ((LL.take k).map numMn)) rfl HOW.out ⟨wr.heap.size + 1 + 1, 0, none⟩ 1 1 [.int .i64 ((Lo : Nat) : Int), .int .i64 ((Lo : Int) + (mo : Int))] rfl rfl HCE.out (by simp [Value.oneCell']) h63 hby HBA.out ?_; intro v9 w8 hown8 hgr8 _; obtain ⟨a10, c10, hv9⟩ := own_cap hown8; subst hv9; have B8 := Lib.hid (Box.own (((HXB.out.alloc (.cells #[.int .i64 xk.1, .int .i64 xk.2] 128)).alloc (.cells #[.int .i64 ((Lo : Nat) : Int), .int .i64 ((Lo : Int) + (mo : Int))] 64)).alloc (.cells #[.int .i64 ((Lo : Nat) : Int), .int .i64 ((Lo : Int) + (mo : Int))] 64)) hgr8 HOW.out HSZ6.out); have x38 : w8.cell? ⟨w.heap.size + 1 + 1, 3, none⟩ = some (.slice a9 k c9) := B8.out.cell 3; have xz8 : w8.frozen? ⟨w.heap.size + 1 + 1, 3, none⟩ = false := B8.out.frozen 3; have xl8 : w.heap.size + 1 + 1 < w8.heap.size := B8.out.lt; have N8 : Hid (Box w8 wr.heap.size #[.int .i64 xk.1, .int .i64 xk.2]) := Lib.hid (Box.grown (((Box.new wr #[.int .i64 xk.1, .int .i64 xk.2] 128).alloc (.cells #[.int .i64 ((Lo : Nat) : Int), .int .i64 ((Lo : Int) + (mo : Int))] 64)).alloc (.cells #[.int .i64 ((Lo : Nat) : Int), .int .i64 ((Lo : Int) + (mo : Int))] 64)) hgr8 (fun e => by have h := (HNR.out _ e.symm).2; omega)); have Y8 : Hid (Box w8 (wr.heap.size + 1) #[.int .i64 ((Lo : Nat) : Int), .int .i64 ((Lo : Int) + (mo : Int))]) := Lib.hid (Box.grown ((by have h := Box.new (wr.alloc (.cells #[.int .i64 xk.1, .int .i64 xk.2] 128)) #[.int .i64 ((Lo : Nat) : Int), .int .i64 ((Lo : Int) + (mo : Int))] 64; simpa using h : Box ((wr.alloc (.cells #[.int .i64 xk.1, .int .i64 xk.2] 128)).alloc (.cells #[.int .i64 ((Lo : Nat) : Int), .int .i64 ((Lo : Int) + (mo : Int))] 64)) (wr.heap.size + 1) #[.int .i64 ((Lo : Nat) : Int), .int .i64 ((Lo : Int) + (mo : Int))]).alloc (.cells #[.int .i64 ((Lo : Nat) : Int), .int .i64 ((Lo : Int) + (mo : Int))] 64)) hgr8 (fun e => by have h := (HNR.out _ e.symm).2; omega)); have y08 : w8.cell? ⟨wr.heap.size + 1, 0, none⟩ = some (.int .i64 ((Lo : Nat) : Int)) := Y8.out.cell 0; have yl8 : wr.heap.size + 1 < w8.heap.size := Y8.out.lt)
        have HOW8 := Lib.hid hown8
        have HGR8 := Lib.hid hgr8
        clear hown8 hgr8
        have G8 : Hid (w6.grownBy w8 (some (w.heap.size + 1 + 1))) := Lib.hid (grown_own (grown_alloc (grown_alloc (grown_alloc HLP.out.gr _) _) _) HGR8.out (fun q hq => (HNR.out q hq).1))
        have hmap : (LL.take (k + 1)).map numMn = (LL.take k).map numMn ++ [(Lo, Lo + mo)] := by rw [List.take_add_one, HXK.out, List.map_append]; simp [HNM.out]
        have R8 : Hid (Rngs w8 w6.heap.size ((LL.take (k + 1)).map numMn) (.slice a10 (k + 1) c10)) := Lib.hid (by
          have h := HOW8.out
          have hl : ((LL.take (k + 1)).map numMn).length = k + 1 := by rw [List.length_map, List.length_take]; omega
          unfold Rngs
          rw [hl, hmap, rngC_snoc]
          exact h)
        have LP8 : Hid (LpF w6 (w8.setCell ⟨w.heap.size + 1 + 1, 3, none⟩ (.slice a10 (k + 1) c10)) (w.heap.size + 1 + 1) #[.int .u8 ((o : UInt8).toNat : Int), .int .i64 ((MD : Nat) : Int), .bool nt, .slice a10 (k + 1) c10] ((LL.take (k + 1)).map numMn) (.slice a10 (k + 1) c10)) := Lib.hid ⟨B8.out.set 3 (.slice a10 (k + 1) c10), own_set R8.out HSZ6.out 3 _, grown_set G8.out 3 _⟩
        have HMAP := Lib.hid hmap
        clear hmap x3 xz3 xl x38 xz8 xl8
        have BW9 : Hid (Below w.heap.size w (w8.setCell ⟨w.heap.size + 1 + 1, 3, none⟩ (.slice a10 (k + 1) c10))) := Lib.hid (below_gr H6.out.bel LP8.out.gr (by omega))
        have HN9 := Lib.hid (N8.out.other (a := ⟨w.heap.size + 1 + 1, 3, none⟩) nn1 (.slice a10 (k + 1) c10))
        have HY9 := Lib.hid (Y8.out.other (a := ⟨w.heap.size + 1 + 1, 3, none⟩) nn2 (.slice a10 (k + 1) c10))
        clear y08 yl8 HLP e0 e1 glr
        refine (digits_as Lo _ (by omega) (HT.out.below BW9.out) dLo HdLo.out).mono ?_
        rintro x w10 ⟨rfl, hb⟩
        have B10 := Lib.hid (BW9.out.trans (hb.mono BW9.out.size))
        have HLP10 := Lib.hid (LP8.out.below hb)
        have HN10 := Lib.hid (HN9.out.below hb HN9.out.lt)
        have HY10 := Lib.hid (HY9.out.below hb HY9.out.lt)
        clear hb HN9 HY9 BW9
        have y0 : w10.cell? ⟨wr.heap.size + 1, 0, none⟩ = some (.int .i64 ((Lo : Nat) : Int)) := HY10.out.cell 0
        have y1 : w10.cell? ⟨wr.heap.size + 1, 1, none⟩ = some (.int .i64 ((Lo : Int) + (mo : Int))) := HY10.out.cell 1
        have n1 : w10.cell? ⟨wr.heap.size, 1, none⟩ = some (.int .i64 xk.2) := HN10.out.cell 1
        have yl : wr.heap.size + 1 < w10.heap.size := HY10.out.lt
        have nl : wr.heap.size < w10.heap.size := HN10.out.lt
        by_cases hmo0 : mo = 0
        · by_cases hq : q4 = 4
          · have HD : Hid (dotM xk = true) := Lib.hid (by rw [HDT.out, hq]; simp)
            subst hmo0
            have hqi : (q4 : Int) = 4 := by omega
            have hqb : ((q4 : Int) == 4) = true := by simpa using hqi
            go_wp2_with fail
            refine (digitsI _ (Lo + 0) (by simp) _ (by omega) (HT.out.below B10.out) dHi HdHi.out).mono ?_
            rintro x w11 ⟨rfl, hb⟩
            have HLP11 := Lib.hid (HLP10.out.below hb)
            clear hb
            go_wp2
            go_roundw
            case rel => exact ⟨k + 1, .slice a10 (k + 1) c10, Nat.succ_le_of_lt hlt, by go_num, by rw [HTX.out, HD.out, ← Hs6.out, ← Hs5.out, ← Hs4.out, ← Hs3.out, ← Hs2.out]; simp [List.append_assoc], HLP11.out⟩
            case measure => simp [intOf]; omega
          · have HD : Hid (dotM xk = false) := Lib.hid (by rw [HDT.out, hmo0]; simp [hq])
            subst hmo0
            have hqi : ¬ (q4 : Int) = 4 := by omega
            have hqb : ((q4 : Int) == 4) = false := by simpa using hqi
            go_wp2
            go_roundw
            case rel => exact ⟨k + 1, .slice a10 (k + 1) c10, Nat.succ_le_of_lt hlt, by go_num, by rw [HTX.out, HD.out, ← Hs2.out]; simp, HLP10.out⟩
            case measure => simp [intOf]; omega
        · have HD : Hid (dotM xk = true) := Lib.hid (by rw [HDT.out]; simp; omega)
          have hmi : ¬ (mo : Int) = 0 := by omega
          have hmj : ¬ (Lo : Int) = (Lo : Int) + (mo : Int) := by omega
          have hmb : (((Lo : Nat) : Int) != (Lo : Int) + (mo : Int)) = true := by simpa using hmj
          go_wp2_with fail
          refine (digitsI _ (Lo + mo) (by simp) _ (by omega) (HT.out.below B10.out) dHi HdHi.out).mono ?_
          rintro x w11 ⟨rfl, hb⟩
          have HLP11 := Lib.hid (HLP10.out.below hb)
          clear hb
          go_wp2
          go_roundw
          case rel => exact ⟨k + 1, .slice a10 (k + 1) c10, Nat.succ_le_of_lt hlt, by go_num, by rw [HTX.out, HD.out, ← Hs6.out, ← Hs5.out, ← Hs4.out, ← Hs3.out, ← Hs2.out]; simp [List.append_assoc], HLP11.out⟩
          case measure => simp [intOf]; omega
    · obtain rfl : k = LL.length := by omega
      have hlti : ¬ (LL.length : Int) < (LL.length : Int) := by omega
      have ZB := Lib.hid (Box.grown (H6.out.f (List.Mem.tail _ (List.Mem.head _))) HLP.out.gr (fun e => by have h := Option.some.inj e; omega))
      have x0 : wr.cell? ⟨w.heap.size + 1 + 1, 0, none⟩ = some (.int .u8 ((o : UInt8).toNat : Int)) := HLP.out.box.cell 0
      have x1 : wr.cell? ⟨w.heap.size + 1 + 1, 1, none⟩ = some (.int .i64 ((MD : Nat) : Int)) := HLP.out.box.cell 1
      have x2 : wr.cell? ⟨w.heap.size + 1 + 1, 2, none⟩ = some (.bool nt) := HLP.out.box.cell 2
      have z0 : wr.cell? ⟨w.heap.size + 1, 0, none⟩ = some (.int .u8 0) := ZB.out.cell 0
      have z1 : wr.cell? ⟨w.heap.size + 1, 1, none⟩ = some (.int .i64 0) := ZB.out.cell 1
      have z2 : wr.cell? ⟨w.heap.size + 1, 2, none⟩ = some (.bool false) := ZB.out.cell 2
      have z3 : wr.cell? ⟨w.heap.size + 1, 3, none⟩ = some (.slice none 0 0) := ZB.out.cell 3
      have zz0 : wr.frozen? ⟨w.heap.size + 1, 0, none⟩ = false := ZB.out.frozen 0
      have zz1 : wr.frozen? ⟨w.heap.size + 1, 1, none⟩ = false := ZB.out.frozen 1
      have zz2 : wr.frozen? ⟨w.heap.size + 1, 2, none⟩ = false := ZB.out.frozen 2
      have zz3 : wr.frozen? ⟨w.heap.size + 1, 3, none⟩ = false := ZB.out.frozen 3
      have HMN : Hid (relMn ⟨op, md, gp, nt, rs⟩ = ⟨o, MD, nt, LL.map numMn⟩) := Lib.hid (by
        unfold relMn
        simp only
        rw [HKE.out, HMDE.out, HOP.out, HLL.out])
      have HTT : Hid (relTx ⟨op, md, gp, nt, rs⟩ = s0) := Lib.hid (by
        unfold relTx relPre
        simp only
        rw [HG.out, HKE.out, HMDE.out, HOP.out, HLL.out, HSEP.out, Hdm.out, ← HS0.out, List.take_length, ← Hp3.out, ← Hq6.out, ← Hp2.out, ← Hp1.out, ← Hp0.out])
      have HRW : Hid (Rngs wr w6.heap.size (LL.map numMn) (.slice a9 LL.length c9)) := Lib.hid (by
        have h := HLP.out.row
        rw [hlenk, List.take_length] at h
        exact h)
      have BWR := Lib.hid (below_gr H6.out.bel HLP.out.gr (by omega))
      clear hlenk
      go_wp2
      refine bodyPost_ret (v := .tuple #[.agg #[.int .u8 ((o : UInt8).toNat : Int), .int .i64 ((MD : Nat) : Int), .bool nt, .slice a9 LL.length c9], S s0]) (by simp [results, Tryz.results55, go_sem, z0, z1, z2, z3, xl1]) rfl ?_
      refine ⟨.slice a9 LL.length c9, by rw [HMN.out, HTT.out], ?_, ?_⟩
      · rw [HMN.out]
        have hw1 : w.heap.size + 1 < w6.heap.size := by have := HSZ6.out; omega
        have hw2 : w.heap.size ≤ w6.heap.size := by omega
        exact own_mono (own_set (own_set (own_set (own_set HRW.out hw1 0 _) hw1 1 _) hw1 2 _) hw1 3 _) hw2
      · exact (((BWR.out.setCell (by simp) _).setCell (by simp) _).setCell (by simp) _).setCell (by simp) _
end Go.Proofs.YtkjhdehpcanciaaGreatDoor
