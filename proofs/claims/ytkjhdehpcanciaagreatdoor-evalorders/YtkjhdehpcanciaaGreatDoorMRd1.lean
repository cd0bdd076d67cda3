/- RText, RdA, RdB, RdC, RdD, RdE, RLen, RdF, RdG, RdH, in one text. -/
import Derived.Test.YtkjhdehpcanciaaGreatDoorDText
import Derived.Test.YtkjhdehpcanciaaGreatDoorHold
import Derived.Deep.LoopGhost
import Derived.Deep.Cut
import Derived.OwnWalk
import Derived.Deep.RegionWith
namespace Florin

/-- What a part of the reader tells: a thing and what is left, or an error and what is left where it stands. -/
inductive Res (α : Type) where
  | ok (x : α) (r : List UInt8)
  | bad (e : Int) (r : List UInt8)
structure RelT where
  op : UInt8
  mod : Nat
  nt : Bool
  rs : List (Nat × Nat)
deriving DecidableEq
structure RuleT where
  cat : Nat
  any : List (List RelT)
  smp : List UInt8
deriving DecidableEq

def isL (c : UInt8) : Bool := decide (97 ≤ c.toNat) && decide (c.toNat ≤ 122)
def sk (l : List UInt8) : List UInt8 := l.dropWhile fun c => c == 32
def pre (g l : List UInt8) : Bool := g.isPrefixOf l
/-- Does a sign stand here? What is left behind it, or behind the blanks. -/
def tk (g l : List UInt8) : Bool := pre g (sk l)
def tkR (g l : List UInt8) : List UInt8 := if pre g (sk l) then (sk l).drop g.length else sk l
def wd (k : UInt8 → Bool) (l : List UInt8) : List UInt8 := (sk l).takeWhile k
def wdR (k : UInt8 → Bool) (l : List UInt8) : List UInt8 := (sk l).dropWhile k
def tw (g l : List UInt8) : Bool := wd isL l == g
def twR (g l : List UInt8) : List UInt8 := if wd isL l == g then wdR isL l else sk l
def opsB : List UInt8 := [110, 105, 118, 119, 102, 116, 99, 101]

def numP (least : Nat) (l : List UInt8) : Res Nat :=
  if (wd isD l).isEmpty || (decide (1 < (wd isD l).length) && (wd isD l).head? == some 48) then .bad 1 (sk l)
  else if 9 < (wd isD l).length then .bad 2 (sk l)
  else if val (wd isD l) < least then .bad 3 (sk l)
  else .ok (val (wd isD l)) (wdR isD l)
def rangeP (l : List UInt8) : Res (Nat × Nat) :=
  match numP 0 l with
  | .bad e r => .bad e r
  | .ok lo r => if tk [46, 46] r then (match numP lo (tkR [46, 46] r) with
      | .bad e r => .bad e r
      | .ok hi r => .ok (lo, hi) r) else .ok (lo, lo) (tkR [46, 46] r)
def rangesL : Nat → List (Nat × Nat) → List UInt8 → Res (List (Nat × Nat))
  | 0, _, l => .bad 0 l
  | n + 1, acc, l => if tk [44] l then (match rangeP (tkR [44] l) with
      | .bad e r => .bad e r
      | .ok x r => rangesL n (acc ++ [x]) r) else .ok acc (tkR [44] l)
def rangesP (l : List UInt8) : Res (List (Nat × Nat)) :=
  match rangeP l with
  | .bad e r => .bad e r
  | .ok x r => rangesL (r.length + 1) [x] r
def operP (n : Nat) (l : List UInt8) : Res UInt8 :=
  match wd isL l with
  | [c] => if opsB.contains c then (if n = 200 then .bad 4 (sk l) else .ok c (wdR isL l)) else .bad 1 (sk l)
  | _ => .bad 1 (sk l)
def modP (l : List UInt8) : Res Nat := if tk [37] l then numP 1 (tkR [37] l) else .ok 0 (tkR [37] l)
def signP (l : List UInt8) : Res Bool := if tk [33, 61] l then .ok true (tkR [33, 61] l) else if tk [61] (tkR [33, 61] l) then .ok false (tkR [61] (tkR [33, 61] l)) else .bad 1 (tkR [61] (tkR [33, 61] l))
/-- A relation; n: how many there were ahead of it. -/
def relP (n : Nat) (l : List UInt8) : Res RelT :=
  match operP n l with
  | .bad e r => .bad e r
  | .ok op r => match modP r with
    | .bad e r => .bad e r
    | .ok m r => match signP r with
      | .bad e r => .bad e r
      | .ok b r => match rangesP r with
        | .bad e r => .bad e r
        | .ok xs r => .ok ⟨op, m, b, xs⟩ r
def allL : Nat → Nat → List RelT → List UInt8 → Res (List RelT)
  | 0, _, _, l => .bad 0 l
  | k + 1, n, acc, l => if tw [97, 110, 100] l then (match relP n (twR [97, 110, 100] l) with
      | .bad e r => .bad e r
      | .ok x r => allL k (n + 1) (acc ++ [x]) r) else .ok acc (twR [97, 110, 100] l)
def allP (n : Nat) (l : List UInt8) : Res (List RelT) :=
  match relP n l with
  | .bad e r => .bad e r
  | .ok x r => allL (r.length + 1) (n + 1) [x] r
def condL : Nat → Nat → List (List RelT) → List UInt8 → Res (List (List RelT))
  | 0, _, _, l => .bad 0 l
  | k + 1, n, acc, l => if tw [111, 114] l then (match allP n (twR [111, 114] l) with
      | .bad e r => .bad e r
      | .ok x r => condL k (n + x.length) (acc ++ [x]) r) else .ok acc (twR [111, 114] l)
def condP (n : Nat) (l : List UInt8) : Res (List (List RelT)) :=
  match allP n l with
  | .bad e r => .bad e r
  | .ok x r => condL (r.length + 1) (n + x.length) [x] r
def wordB : List (List UInt8) := [[122, 101, 114, 111], [111, 110, 101], [116, 119, 111], [102, 101, 119], [109, 97, 110, 121], [111, 116, 104, 101, 114]]
/-- The category of a word; 6: none. -/
def catB (l : List UInt8) : Nat := wordB.idxOf l
def catP (seen : List Nat) (l : List UInt8) : Res Nat :=
  if catB (wd isL l) = 6 then .bad 1 (sk l) else if seen.contains (catB (wd isL l)) then .bad 7 (sk l) else .ok (catB (wd isL l)) (wdR isL l)
def colonP (l : List UInt8) : Res Unit := if tk [58] l then .ok () (tkR [58] l) else .bad 1 (tkR [58] l)
def rtB (l : List UInt8) : List UInt8 := (l.reverse.dropWhile fun c => c == 32).reverse
def smpP (l : List UInt8) : List UInt8 := if pre [64] (sk l) then rtB ((sk l).takeWhile fun c => c != 59) else []
def smpR (l : List UInt8) : List UInt8 := if pre [64] (sk l) then (sk l).dropWhile fun c => c != 59 else sk l
def count (x : List (List RelT)) : Nat := (x.map List.length).sum
def bodyP (c n : Nat) (l : List UInt8) : Res (List (List RelT)) := if c = 5 then .ok [] l else condP n l
def ruleP (seen : List Nat) (n : Nat) (l : List UInt8) : Res RuleT :=
  match catP seen l with
  | .bad e r => .bad e r
  | .ok c r => match colonP r with
    | .bad e r => .bad e r
    | .ok _ r => match bodyP c n r with
      | .bad e r => .bad e r
      | .ok x r => .ok ⟨c, x, smpP r⟩ (smpR r)
/-- Behind a rule: a sign, or the end. -/
def rulesL : Nat → List Nat → Nat → List RuleT → List UInt8 → Res (List RuleT)
  | 0, _, _, _, l => .bad 0 l
  | k + 1, seen, n, acc, l => if (sk l).isEmpty then .ok acc (sk l) else
    match ruleP seen n (sk l) with
    | .bad e r => .bad e r
    | .ok x r => if tk [59] r || (sk (tkR [59] r)).isEmpty then rulesL k (x.cat :: seen) (n + count x.any) (acc ++ [x]) (if tk [59] r then tkR [59] r else sk (tkR [59] r)) else .bad 1 (sk (tkR [59] r))
def rulesP (l : List UInt8) : Res (List RuleT) := rulesL (l.length + 1) [] 0 [] l

example : (match rulesP [111, 110, 101, 58, 105, 61, 49, 32, 97, 110, 100, 32, 118, 32, 61, 32, 48, 59, 111, 116, 104, 101, 114, 58] with | .ok x _ => decide (x = [⟨1, [[⟨105, 0, false, [(1, 1)]⟩, ⟨118, 0, false, [(0, 0)]⟩]], []⟩, ⟨5, [], []⟩]) | _ => false) = true := by decide

theorem sk_le (l : List UInt8) : (sk l).length ≤ l.length := (List.dropWhile_sublist _).length_le
theorem tkR_le (g l : List UInt8) : (tkR g l).length ≤ l.length := by
  unfold tkR; split
  · have := sk_le l; rw [List.length_drop]; omega
  · exact sk_le l
end Florin

namespace Go.Proofs.YtkjhdehpcanciaaGreatDoor
open Go.RowKit Florin
set_option linter.unusedVariables false

theorem grown_trans {a b c : World} {r : Option Nat} (h : a.grownBy b r) (k : b.grownBy c r) : a.grownBy c r :=
  ⟨k.os.trans h.os, k.tape.trans h.tape, k.output.trans h.output, Nat.le_trans h.size k.size, fun i hi hn => (k.block i (Nat.lt_of_lt_of_le hi h.size) hn).trans (h.block i hi hn)⟩
theorem grown_of_below {a b : World} (h : Below a.heap.size a b) (r : Option Nat) : a.grownBy b r :=
  ⟨h.os, h.tape, h.output, h.size, fun i hi _ => h.block i hi⟩
theorem grown_drew {a b : World} {r : Option Nat} (h : a.grownBy b r) : a.grownBy b.drew r := ⟨h.os, h.tape, h.output, h.size, h.block⟩
theorem grown_alloc {a b : World} {r : Option Nat} (h : a.grownBy b r) (o : Obj) : a.grownBy (b.alloc o) r := grown_trans h (World.grownBy_alloc b o r)
theorem grown_set {a b : World} {r : Nat} (h : a.grownBy b (some r)) (i : Nat) (v : Value) : a.grownBy (b.setCell ⟨r, i, none⟩ v) (some r) :=
  grown_trans h ⟨rfl, rfl, rfl, by simp [World.setCell], fun k _ hk => Below.heap_setCell _ _ _ _ (fun e => hk (by rw [e]))⟩
theorem Box.grown {w w' : World} {b : Nat} {cs : Array Value} {r : Option Nat} (h : Box w b cs) (hg : w.grownBy w' r) (hn : some b ≠ r) : Box w' b cs := by
  obtain ⟨t, ht⟩ := h
  exact ⟨t, by rw [hg.block b (Box.lt ⟨t, ht⟩) hn]; exact ht⟩
/-- A store into a block that is younger. -/
theorem grown_set_new {a b : World} {r : Option Nat} (h : a.grownBy b r) {c : Nat} (hc : a.heap.size ≤ c) (i : Nat) (v : Value) : a.grownBy (b.setCell ⟨c, i, none⟩ v) r :=
  ⟨h.os, h.tape, h.output, by simpa [World.setCell] using h.size, fun k hk hn => (Below.heap_setCell _ _ _ _ (by simp only; omega)).trans (h.block k hk hn)⟩

/-- The reader's cells: the text, the place, which categories were found, how many relations there were. -/
abbrev RdC (T : ByteArray) (p : Nat) (f : Nat → Bool) (n : Nat) : Array Value :=
  #[.string T, .int .i64 (p : Int), .bool false, .bool (f 0), .bool (f 1), .bool (f 2), .bool (f 3), .bool (f 4), .bool (f 5), .int .i64 (n : Int)]
/-- A block of a type, with these cells. -/
def BoxT (w : World) (b : Nat) (cs : Array Value) (t : TypeId) : Prop := w.heap[b]? = some (.cells cs t)
theorem BoxT.box {w : World} {b : Nat} {cs : Array Value} {t : TypeId} (h : BoxT w b cs t) : Box w b cs := ⟨t, h⟩
theorem BoxT.set {w : World} {b : Nat} {cs : Array Value} {t : TypeId} (h : BoxT w b cs t) (i : Nat) (v : Value) : BoxT (w.setCell ⟨b, i, none⟩ v) b (cs.setIfInBounds i v) t := Joins.block_setCell h v
theorem BoxT.other {w : World} {b : Nat} {cs : Array Value} {t : TypeId} (h : BoxT w b cs t) {a : Addr} (hn : b ≠ a.block) (v : Value) : BoxT (w.setCell a v) b cs t := (Below.heap_setCell w a v b hn).trans h
theorem BoxT.new (w : World) (cs : Array Value) (t : TypeId) : BoxT (w.alloc (.cells cs t)) w.heap.size cs t := by show (w.heap.push _)[w.heap.size]? = _; simp
theorem BoxT.alloc {w : World} {b : Nat} {cs : Array Value} {t : TypeId} (h : BoxT w b cs t) (o : Obj) : BoxT (w.alloc o) b cs t := (Below.heap_alloc w o b h.box.lt).trans h
theorem BoxT.grown {w w' : World} {b : Nat} {cs : Array Value} {t : TypeId} {r : Option Nat} (h : BoxT w b cs t) (hg : w.grownBy w' r) (hn : some b ≠ r) : BoxT w' b cs t := (hg.block b h.box.lt hn).trans h
def Rd (w : World) (b : Nat) (T : ByteArray) (p : Nat) (f : Nat → Bool) (n : Nat) : Prop := BoxT w b (RdC T p f n) 81
theorem Rd.c0 {w : World} {b : Nat} {T : ByteArray} {p : Nat} {f : Nat → Bool} {n : Nat} (h : Rd w b T p f n) : w.cell? ⟨b, 0, none⟩ = some (.string T) := Box.cell (BoxT.box h) 0
theorem Rd.c1 {w : World} {b : Nat} {T : ByteArray} {p : Nat} {f : Nat → Bool} {n : Nat} (h : Rd w b T p f n) : w.cell? ⟨b, 1, none⟩ = some (.int .i64 (p : Int)) := Box.cell (BoxT.box h) 1
theorem Rd.ct {w : World} {b : Nat} {T : ByteArray} {p : Nat} {f : Nat → Bool} {n : Nat} (h : Rd w b T p f n) : w.cell? ⟨b, 2, none⟩ = some (.bool false) := Box.cell (BoxT.box h) 2
theorem Rd.c8 {w : World} {b : Nat} {T : ByteArray} {p : Nat} {f : Nat → Bool} {n : Nat} (h : Rd w b T p f n) : w.cell? ⟨b, 9, none⟩ = some (.int .i64 (n : Int)) := Box.cell (BoxT.box h) 9
theorem Rd.cf {w : World} {b : Nat} {T : ByteArray} {p : Nat} {f : Nat → Bool} {n : Nat} (h : Rd w b T p f n) (i : Nat) : w.cell? ⟨b, i, none⟩ = (RdC T p f n)[i]? := Box.cell (BoxT.box h) i
theorem Rd.z {w : World} {b : Nat} {T : ByteArray} {p : Nat} {f : Nat → Bool} {n : Nat} (h : Rd w b T p f n) (i : Nat) : w.frozen? ⟨b, i, none⟩ = false := Box.frozen (BoxT.box h) i
theorem Rd.lt {w : World} {b : Nat} {T : ByteArray} {p : Nat} {f : Nat → Bool} {n : Nat} (h : Rd w b T p f n) : b < w.heap.size := Box.lt (BoxT.box h)
theorem Rd.drew {w : World} {b : Nat} {T : ByteArray} {p : Nat} {f : Nat → Bool} {n : Nat} (h : Rd w b T p f n) : Rd w.drew b T p f n := h
theorem Rd.to {w : World} {b : Nat} {T : ByteArray} {p : Nat} {f : Nat → Bool} {n : Nat} (h : Rd w b T p f n) (q : Nat) : Rd (w.setCell ⟨b, 1, none⟩ (.int .i64 (q : Int))) b T q f n := BoxT.set h 1 _
theorem Rd.more {w : World} {b : Nat} {T : ByteArray} {p : Nat} {f : Nat → Bool} {n : Nat} (h : Rd w b T p f n) (q : Nat) : Rd (w.setCell ⟨b, 9, none⟩ (.int .i64 (q : Int))) b T p f q := BoxT.set h 9 _
theorem Rd.below {w' : World} {w : World} {b : Nat} {T : ByteArray} {p : Nat} {f : Nat → Bool} {n : Nat} (h : Rd w b T p f n) (hb : Below w.heap.size w w') : Rd w' b T p f n := (hb.block b (Rd.lt h)).trans h
theorem Rd.alloc {w : World} {b : Nat} {T : ByteArray} {p : Nat} {f : Nat → Bool} {n : Nat} (h : Rd w b T p f n) (o : Obj) : Rd (w.alloc o) b T p f n := BoxT.alloc h o
theorem Rd.other {w : World} {b : Nat} {T : ByteArray} {p : Nat} {f : Nat → Bool} {n : Nat} (h : Rd w b T p f n) {a : Addr} (hn : b ≠ a.block) (v : Value) : Rd (w.setCell a v) b T p f n := BoxT.other h hn v
theorem Rd.grown {w' : World} {r : Option Nat} {w : World} {b : Nat} {T : ByteArray} {p : Nat} {f : Nat → Bool} {n : Nat} (h : Rd w b T p f n) (hg : w.grownBy w' r) (hn : some b ≠ r) : Rd w' b T p f n := BoxT.grown h hg hn
/-- No row of elements of this type: the block of the reader. -/
theorem Rd.foreign {w : World} {b : Nat} {T : ByteArray} {p : Nat} {f : Nat → Bool} {n : Nat} (h : Rd w b T p f n) {e : TypeId} (he : e ≠ 81) (cur : Array Value) : w.heap[b]? ≠ some (.cells cur e (0, 0)) := by
  rw [show w.heap[b]? = _ from h]; intro hh; cases hh; exact he rfl

/-- Blocks of a call's own beside the reader's; the youngest stands first; nothing else that was there before has changed. -/
structure HeldR (w : World) (b : Nat) (L : List (Nat × Array Value × TypeId)) (W : World) : Prop where
  box : ∀ p ∈ L, BoxT W p.1 p.2.1 p.2.2
  own : ∀ p ∈ L, w.heap.size ≤ p.1
  desc : L.Pairwise (fun p q => q.1 < p.1)
  lt : b < w.heap.size
  gr : w.grownBy W (some b)
theorem HeldR.refl {w : World} {b : Nat} (h : b < w.heap.size) : HeldR w b [] w := ⟨fun _ h => (List.not_mem_nil h).elim, fun _ h => (List.not_mem_nil h).elim, List.Pairwise.nil, h, World.grownBy.refl w _⟩
theorem HeldR.keep {w : World} {b : Nat} {L : List (Nat × Array Value × TypeId)} {W W' : World} (h : HeldR w b L W) (hb : W.grownBy W' (some b)) : HeldR w b L W' :=
  ⟨fun p hp => (h.box p hp).grown hb (by intro e; cases e; have := h.own p hp; have := h.lt; omega), h.own, h.desc, h.lt, grown_trans h.gr hb⟩
theorem HeldR.drew {w : World} {b : Nat} {L : List (Nat × Array Value × TypeId)} {W : World} (h : HeldR w b L W) : HeldR w b L W.drew := ⟨h.box, h.own, h.desc, h.lt, grown_drew h.gr⟩
theorem HeldR.alloc {w : World} {b : Nat} {L : List (Nat × Array Value × TypeId)} {W : World} (h : HeldR w b L W) (c : Nat) (cs : Array Value) (t : TypeId) (hc : c = W.heap.size) : HeldR w b ((c, cs, t) :: L) (W.alloc (.cells cs t)) := by
  subst hc
  refine ⟨fun p hp => ?_, fun p hp => ?_, List.Pairwise.cons (fun p hp => (h.box p hp).box.lt) h.desc, h.lt, grown_alloc h.gr _⟩
  · cases hp with
    | head => exact BoxT.new W cs t
    | tail _ hp => exact (h.box p hp).alloc _
  · cases hp with
    | head => exact h.gr.size
    | tail _ hp => exact h.own p hp
theorem HeldR.skip {w : World} {b : Nat} {L : List (Nat × Array Value × TypeId)} {W : World} (h : HeldR w b L W) (o : Obj) : HeldR w b L (W.alloc o) :=
  ⟨fun p hp => (h.box p hp).alloc _, h.own, h.desc, h.lt, grown_alloc h.gr _⟩
theorem HeldR.f {w : World} {b : Nat} {L : List (Nat × Array Value × TypeId)} {W : World} (h : HeldR w b L W) {c : Nat} {cs : Array Value} {t : TypeId} (hm : (c, cs, t) ∈ L) : BoxT W c cs t := h.box _ hm
theorem HeldR.set1 {w : World} {b : Nat} {L1 L2 : List (Nat × Array Value × TypeId)} {c : Nat} {cs : Array Value} {t : TypeId} {W : World} (h : HeldR w b (L1 ++ (c, cs, t) :: L2) W) (i : Nat) (x : Value) :
    HeldR w b (L1 ++ (c, cs.setIfInBounds i x, t) :: L2) (W.setCell ⟨c, i, none⟩ x) := by
  have hd := h.desc
  rw [List.pairwise_append] at hd
  obtain ⟨d1, d2, d3⟩ := hd
  rw [List.pairwise_cons] at d2
  have hb : (c, cs, t) ∈ L1 ++ (c, cs, t) :: L2 := List.mem_append_right _ (List.Mem.head _)
  refine ⟨fun p hp => ?_, fun p hp => ?_, ?_, h.lt, grown_set_new h.gr (h.own _ hb) i x⟩
  · rcases List.mem_append.1 hp with h1 | h1
    · have hn : p.1 ≠ c := by have := d3 p h1 (c, cs, t) (List.Mem.head _); simp only at this; omega
      exact (h.box p (List.mem_append_left _ h1)).other hn x
    · cases h1 with
      | head => exact (h.box _ hb).set i x
      | tail _ h2 =>
        have hn : p.1 ≠ c := by have := d2.1 p h2; simp only at this; omega
        exact (h.box p (List.mem_append_right _ (List.Mem.tail _ h2))).other hn x
  · rcases List.mem_append.1 hp with h1 | h1
    · exact h.own p (List.mem_append_left _ h1)
    · cases h1 with
      | head => exact h.own (c, cs, t) hb
      | tail _ h2 => exact h.own p (List.mem_append_right _ (List.Mem.tail _ h2))
  · rw [List.pairwise_append, List.pairwise_cons]
    refine ⟨d1, ⟨d2.1, d2.2⟩, fun p hp q hq => ?_⟩
    cases hq with
    | head => exact d3 p hp (c, cs, t) (List.Mem.head _)
    | tail _ h2 => exact d3 p hp q (List.Mem.tail _ h2)
/-- The reader's own block is none of them. -/
theorem HeldR.ne {w : World} {b : Nat} {L : List (Nat × Array Value × TypeId)} {W : World} (h : HeldR w b L W) {c : Nat} {cs : Array Value} {t : TypeId} (hm : (c, cs, t) ∈ L) : b ≠ c := by
  have h1 := h.own _ hm
  have h2 := h.lt
  simp only at h1; omega

/-! rows of elements -/
theorem own_tag {w w' : World} {base : Nat} {e : TypeId} {size : Nat} {v : Value} {n : Nat} {xs : List Value} {r : Option Nat} (h : w.ownsRow base e size v n xs) (hg : w.grownBy w' r) (ht : ∀ k cur, r = some k → w.heap[k]? ≠ some (.cells cur e (0, 0))) : w'.ownsRow base e size v n xs := by
  refine h.kept hg ?_
  rcases h.2 with ⟨rfl, _⟩ | ⟨g, cap, cur, rfl, _, hg, _⟩
  · exact Or.inl rfl
  · refine Or.inr fun hh => ?_
    exact ht g cur (by rw [← hh]; rfl) hg
theorem own_mono {w : World} {base base' : Nat} {e : TypeId} {size : Nat} {v : Value} {n : Nat} {xs : List Value} (h : w.ownsRow base e size v n xs) (hb : base' ≤ base) : w.ownsRow base' e size v n xs := by
  refine ⟨h.1, ?_⟩
  rcases h.2 with h1 | ⟨g, cap, cur, rfl, h2, rest⟩
  · exact Or.inl h1
  · exact Or.inr ⟨g, cap, cur, rfl, by omega, rest⟩
/-- Elements one behind the other. -/
def ListAt {α : Type} (A : α → List Value → Prop) : List α → List Value → Prop
  | [], cs => cs = []
  | x :: xs, cs => ∃ c d, cs = c ++ d ∧ A x c ∧ ListAt A xs d
theorem ListAt.mono {α : Type} {A B : α → List Value → Prop} (h : ∀ x c, A x c → B x c) : ∀ {xs : List α} {cs : List Value}, ListAt A xs cs → ListAt B xs cs
  | [], _, k => k
  | _ :: _, _, ⟨c, d, e, a, k⟩ => ⟨c, d, e, h _ _ a, ListAt.mono h k⟩
theorem ListAt.snoc {α : Type} {A : α → List Value → Prop} {x : α} {c : List Value} (hx : A x c) : ∀ {xs : List α} {cs : List Value}, ListAt A xs cs → ListAt A (xs ++ [x]) (cs ++ c)
  | [], _, k => by rw [show _ = [] from k]; exact ⟨c, [], by simp, hx, rfl⟩
  | _ :: _, _, ⟨c1, d, e, a, k⟩ => ⟨c1, d ++ c, by rw [e, List.append_assoc], a, ListAt.snoc hx k⟩
def rngC (xs : List (Nat × Nat)) : List Value := xs.flatMap fun x => [.int .i64 (x.1 : Int), .int .i64 (x.2 : Int)]
abbrev Rngs (W : World) (base : Nat) (xs : List (Nat × Nat)) (v : Value) : Prop := W.ownsRow base 64 2 v xs.length (rngC xs)
def RelAt (W : World) (x : RelT) (cs : List Value) : Prop := ∃ v, cs = [.int .u8 (x.op.toNat : Int), .int .i64 (x.mod : Int), .bool x.nt, v] ∧ Rngs W 0 x.rs v
def AllAt (W : World) (base : Nat) (xs : List RelT) (v : Value) : Prop := ∃ cs, W.ownsRow base 50 4 v xs.length cs ∧ ListAt (RelAt W) xs cs
def CondAt (W : World) (base : Nat) (xs : List (List RelT)) (v : Value) : Prop := ∃ cs, W.ownsRow base 47 1 v xs.length cs ∧ ListAt (fun x c => ∃ u, c = [u] ∧ AllAt W 0 x u) xs cs
def RuleAt (W : World) (x : RuleT) (cs : List Value) : Prop := ∃ v, cs = [.int .i64 (x.cat : Int), v, S x.smp] ∧ CondAt W 0 x.any v
def RulesAt (W : World) (base : Nat) (xs : List RuleT) (v : Value) : Prop := ∃ cs, W.ownsRow base 39 3 v xs.length cs ∧ ListAt (RuleAt W) xs cs
/-- What changes is no row of these elements. -/
def Apart (w : World) (r : Option Nat) (es : List TypeId) : Prop := ∀ e ∈ es, ∀ k cur, r = some k → w.heap[k]? ≠ some (.cells cur e (0, 0))
theorem RelAt.kept {w w' : World} {r : Option Nat} {x : RelT} {cs : List Value} (h : RelAt w x cs) (hg : w.grownBy w' r) (ha : Apart w r [64]) : RelAt w' x cs := by
  obtain ⟨v, hc, hr⟩ := h
  exact ⟨v, hc, own_tag hr hg (ha _ (by simp))⟩
theorem AllAt.kept {w w' : World} {r : Option Nat} {base : Nat} {xs : List RelT} {v : Value} (h : AllAt w base xs v) (hg : w.grownBy w' r) (ha : Apart w r [64, 50]) : AllAt w' base xs v := by
  obtain ⟨cs, ho, hl⟩ := h
  exact ⟨cs, own_tag ho hg (ha _ (by simp)), hl.mono fun x c hx => hx.kept hg fun e he => ha e (by simp at he; simp [he])⟩
theorem CondAt.kept {w w' : World} {r : Option Nat} {base : Nat} {xs : List (List RelT)} {v : Value} (h : CondAt w base xs v) (hg : w.grownBy w' r) (ha : Apart w r [64, 50, 47]) : CondAt w' base xs v := by
  obtain ⟨cs, ho, hl⟩ := h
  exact ⟨cs, own_tag ho hg (ha _ (by simp)), hl.mono fun x c ⟨u, hu, hx⟩ => ⟨u, hu, hx.kept hg fun e he => ha e (by simp at he; rcases he with h | h <;> simp [h])⟩⟩
theorem RuleAt.kept {w w' : World} {r : Option Nat} {x : RuleT} {cs : List Value} (h : RuleAt w x cs) (hg : w.grownBy w' r) (ha : Apart w r [64, 50, 47]) : RuleAt w' x cs := by
  obtain ⟨v, hc, hr⟩ := h
  exact ⟨v, hc, hr.kept hg ha⟩
theorem RulesAt.kept {w w' : World} {r : Option Nat} {base : Nat} {xs : List RuleT} {v : Value} (h : RulesAt w base xs v) (hg : w.grownBy w' r) (ha : Apart w r [64, 50, 47, 39]) : RulesAt w' base xs v := by
  obtain ⟨cs, ho, hl⟩ := h
  exact ⟨cs, own_tag ho hg (ha _ (by simp)), hl.mono fun x c hx => hx.kept hg fun e he => ha e (by simp at he; rcases he with h | h | h <;> simp [h])⟩
theorem Apart.none (w : World) (es : List TypeId) : Apart w none es := fun _ _ _ _ h => by cases h
theorem Rd.apart {w : World} {b : Nat} {T : ByteArray} {p : Nat} {f : Nat → Bool} {n : Nat} (h : Rd w b T p f n) {es : List TypeId} (he : 81 ∉ es) : Apart w (some b) es := fun e h1 k cur hk => by
  cases hk; exact Rd.foreign h (fun h2 => he (h2 ▸ h1)) cur
theorem BoxT.apart {w : World} {b : Nat} {cs : Array Value} {t : TypeId} (h : BoxT w b cs t) {es : List TypeId} (he : t ∉ es) : Apart w (some b) es := fun e h1 k cur hk hh => by
  cases hk; rw [show w.heap[b]? = _ from h] at hh; cases hh; exact he h1
theorem own_apart {w : World} {base : Nat} {t : TypeId} {size : Nat} {v : Value} {n : Nat} {xs : List Value} (h : w.ownsRow base t size v n xs) {es : List TypeId} (he : t ∉ es) : Apart w v.ownBlock es := by
  rcases h.2 with ⟨rfl, _⟩ | ⟨g, cap, cur, rfl, _, hg, _⟩
  · exact Apart.none w es
  · exact BoxT.apart (b := g) (cs := cur) (t := t) hg he

/-- At a place of the text this is left. -/
structure At (T : ByteArray) (p : Nat) (l : List UInt8) : Prop where
  le : p ≤ T.size
  eq : T.data.toList.drop p = l
theorem At.len {T : ByteArray} {p : Nat} {l : List UInt8} (h : At T p l) : l.length = T.size - p := by rw [← h.eq, List.length_drop, size_list]
theorem At.nil {T : ByteArray} {p : Nat} {l : List UInt8} (h : At T p l) (hl : ¬ p < T.size) : l = [] := by
  rw [← h.eq, List.drop_eq_nil_iff, size_list]; omega
theorem At.cons {T : ByteArray} {p : Nat} {l : List UInt8} (h : At T p l) (hl : p < T.size) : ∃ t, l = T[p] :: t ∧ At T (p + 1) t := by
  have hq : p < T.data.toList.length := by rw [size_list]; exact hl
  refine ⟨T.data.toList.drop (p + 1), ?_, ⟨by omega, rfl⟩⟩
  rw [← h.eq, List.drop_eq_getElem_cons hq]
  rfl
theorem At.drop {T : ByteArray} {p : Nat} {l : List UInt8} (h : At T p l) (k : Nat) (hk : k ≤ l.length) : At T (p + k) (l.drop k) :=
  ⟨by have := h.len; have := h.le; omega, by rw [← h.eq, List.drop_drop]⟩
theorem At.ext {T : ByteArray} {p q : Nat} {l m : List UInt8} (h : At T p l) (hp : p ≤ q) (hq : q ≤ T.size) (hm : l.take (q - p) = m) : (T.extract p q) = ⟨m.toArray⟩ := by
  rw [← hm, ← h.eq]
  apply ByteArray.ext
  apply Array.toList_inj.1
  simp [ByteArray.data_extract, List.take_drop]

/-- What ends with an error. -/
abbrev Fault (e : Int) (p : Nat) : Ending := .panicked [{ v := .iface 75 (.agg #[.int .i64 e, .int .i64 (p : Int)]), recovered := false }]
/-- What a part of the reader leaves: what it tells (V), or an error and its place. -/
def Told {α : Type} (b : Nat) (T : ByteArray) (f : Nat → Bool) (n : Nat) (w : World) (V : World → α → Value → Prop) (r : Res α) (e : Ending) (w' : World) : Prop :=
  match r with
  | .ok x l => ∃ v p, e = .returned v ∧ V w' x v ∧ At T p l ∧ Rd w' b T p f n ∧ w.grownBy w' (some b)
  | .bad c l => ∃ p, e = Fault c p ∧ At T p l ∧ w.grownBy w' (some b)
end Go.Proofs.YtkjhdehpcanciaaGreatDoor

namespace Go.Proofs.YtkjhdehpcanciaaGreatDoor
open Go.RowKit Florin
set_option linter.unusedVariables false
set_option linter.unusedSimpArgs false
attribute [local go_sem ↓] Go.wp_at_zero Go.wp_at_succ

theorem sk_cons_blank (t : List UInt8) : sk (32 :: t) = sk t := rfl
theorem sk_cons {c : UInt8} (h : c ≠ 32) (t : List UInt8) : sk (c :: t) = c :: t := by
  unfold sk; rw [List.dropWhile_cons, if_neg (by simpa using h)]
theorem sk_nil : sk [] = [] := rfl
/-- What samples are made of. -/
def isSm (c : UInt8) : Bool := c != 59
theorem skB_idem (l : List UInt8) : sk (sk l) = sk l := by
  induction l with
  | nil => rfl
  | cons c t ih =>
    by_cases h : c = 32
    · subst h; rw [sk_cons_blank]; exact ih
    · rw [sk_cons h, sk_cons h]
theorem tkB_sk (g l : List UInt8) : tk g (sk l) = tk g l := by unfold tk; rw [skB_idem]
theorem tkRB_sk (g l : List UInt8) : tkR g (sk l) = tkR g l := by unfold tkR; rw [skB_idem]
theorem wdB_sk (k : UInt8 → Bool) (l : List UInt8) : wd k (sk l) = wd k l := by unfold wd; rw [skB_idem]
theorem wdRB_sk (k : UInt8 → Bool) (l : List UInt8) : wdR k (sk l) = wdR k l := by unfold wdR; rw [skB_idem]
theorem endB {m : List UInt8} (h : (sk m).isEmpty = true) : tk [59] m = false ∧ sk (tkR [59] m) = sk m := by
  have h1 : sk m = [] := by simpa using h
  constructor
  · unfold tk; rw [h1]; rfl
  · unfold tkR; rw [h1]; rfl
theorem noB {m : List UInt8} (h : tk [59] m = false) : sk (tkR [59] m) = sk m ∧ tkR [59] m = sk m := by
  have h1 : tkR [59] m = sk m := by unfold tkR; rw [if_neg (by rw [show pre [59] (sk m) = false from h]; decide)]
  rw [h1]; exact ⟨skB_idem m, rfl⟩

set_option maxRecDepth 100000 in
set_option maxHeartbeats 1600000 in
theorem skip_as (b : Nat) (T : ByteArray) (p : Nat) (f : Nat → Bool) (n : Nat) (l : List UInt8) (w : World) (h : Rd w b T p f n) (ha : At T p l) (hT : T.size ≤ 1000000) :
    Calls Tryz.prog 77 #[.pointer (some ⟨b, 0, none⟩)] w fun e w' => ∃ q, e = .returned (.tuple #[]) ∧ At T q (sk l) ∧ Rd w' b T q f n ∧ w.grownBy w' (some b) := by
  have HR := Lib.hid h
  have HA := Lib.hid ha
  clear h ha
  go_enter Tryz.func77, Tryz.ntmps77
  go_wp2_with fail
  go_loopg [] (T.size - p) (fun k wr => ∃ q m, q ≤ T.size ∧ k = T.size - q ∧ At T q m ∧ sk m = sk l ∧ Rd wr b T q f n ∧ w.grownBy wr (some b))
  case atStart => exact ⟨p, l, HA.out.le, rfl, HA.out, rfl, HR.out, World.grownBy.refl w _⟩
  case round =>
    obtain ⟨q, m, hq, hk, hm, hs, hr, hg⟩ := hrel
    have HM := Lib.hid hm
    have HS := Lib.hid hs
    have HR2 := Lib.hid hr
    have HG := Lib.hid hg
    have c0 := hr.c0
    have c1 := hr.c1
    have c2 := hr.ct
    have z1 := hr.z 1
    have bl := hr.lt
    have HK := Lib.hid hk
    clear hm hs hr hg HA HR hk
    by_cases hlt : q < T.size
    · have hlti : (q : Int) < (T.size : Int) := by omega
      by_cases h32 : T[q] = 32
      · have b32 : (T[q].toNat : Int) = 32 := by rw [h32]; rfl
        have H32 := Lib.hid h32
        clear h32
        go_wp2_with fail
        go_region
        all_goals (try go_wp2)
        all_goals (go_roundg (T.size - (q + 1)))
        case measure => rw [HK.out]; omega
        case rel =>
          obtain ⟨t, ht, hat⟩ := HM.out.cons hlt
          exact ⟨q + 1, t, by omega, rfl, hat, by rw [← HS.out, ht, H32.out, sk_cons_blank], (HR2.out.drew).to (q + 1), grown_set (grown_drew HG.out) 1 _⟩
      · have b32 : ¬ (T[q].toNat : Int) = 32 := fun h => h32 (UInt8.toNat_inj.1 (by show _ = 32; omega))
        have H32 := Lib.hid h32
        clear h32
        go_wp2_with fail
        go_region
        all_goals (try go_wp2)
        all_goals go_end0
        obtain ⟨t, ht, hat⟩ := HM.out.cons hlt
        exact ⟨q, rfl, by rw [← HS.out, ht, sk_cons H32.out, ← ht]; exact HM.out, HR2.out.drew, grown_drew HG.out⟩
    · have hlti : ¬ (q : Int) < (T.size : Int) := by omega
      go_wp2_with fail
      go_region
      all_goals (try go_wp2)
      all_goals go_end0
      exact ⟨q, rfl, by rw [← HS.out, HM.out.nil hlt]; have := HM.out; rw [this.nil hlt] at this; exact this, HR2.out.drew, grown_drew HG.out⟩
end Go.Proofs.YtkjhdehpcanciaaGreatDoor

namespace Go.Proofs.YtkjhdehpcanciaaGreatDoor
open Go.RowKit Florin
set_option linter.unusedVariables false
set_option linter.unusedSimpArgs false
attribute [local go_sem ↓] Go.wp_at_zero Go.wp_at_succ

set_option maxRecDepth 100000 in
set_option maxHeartbeats 1600000 in
theorem giveUp_as (e : Int) (p : Nat) (w : World) : Calls Tryz.prog 82 #[.int .i64 e, .int .i64 (p : Int)] w fun z w' => z = Fault e p ∧ w = w' := by
  go_enter Tryz.func82, Tryz.ntmps82
  go_wp2
  exact ⟨rfl, rfl, rfl⟩

set_option maxRecDepth 100000 in
set_option maxHeartbeats 1600000 in
theorem ended_as (b : Nat) (T : ByteArray) (p : Nat) (f : Nat → Bool) (n : Nat) (l : List UInt8) (w : World) (h : Rd w b T p f n) (ha : At T p l) (hT : T.size ≤ 1000000) (z : Bool) (hz : (sk l).isEmpty = z) :
    Calls Tryz.prog 56 #[.pointer (some ⟨b, 0, none⟩)] w fun e w' => ∃ q, e = .returned (.bool z) ∧ At T q (sk l) ∧ Rd w' b T q f n ∧ w.grownBy w' (some b) := by
  have HR := Lib.hid h
  have HA := Lib.hid ha
  clear h ha
  go_enter Tryz.func56, Tryz.ntmps56
  go_wp2_with fail
  with_reducible refine (skip_as b T p f n l _ HR.out HA.out hT).mono ?_
  rintro x w1 ⟨q, rfl, hat, hr, hg⟩
  have HM := Lib.hid hat
  have HR2 := Lib.hid hr
  have HG := Lib.hid hg
  have c0 := hr.c0
  have c1 := hr.c1
  have bl := hr.lt
  have HE : Hid (z = ((q : Int) == (T.size : Int))) := Lib.hid (by
    have h1 := hat.len
    have h2 := hat.le
    rw [← hz]
    cases hs : sk l with
    | nil => rw [hs] at h1; simp at h1; simp; omega
    | cons c t => rw [hs] at h1; simp at h1; simp; omega)
  clear hat hr hg hz
  go_wp2_with fail
  go_region
  all_goals (try go_wp2)
  all_goals go_ret
  exact ⟨q, by rw [HE.out]; rfl, HM.out, HR2.out.drew, grown_drew HG.out⟩

theorem hasP (s : ByteArray) (g : List UInt8) (r : Bool) (w : World) (h : pre g s.data.toList = r) :
    Calls Tryz.prog 90 #[.string s, S g] w fun e w' => e = .returned (.bool r) ∧ w = w' :=
  (Tryz.strings_HasPrefix s ⟨g.toArray⟩ w).mono fun e w' ⟨he, hw⟩ => ⟨by rw [he, arr_list, ← h]; rfl, hw.symm⟩
theorem pre_le {g l : List UInt8} (h : pre g l = true) : g.length ≤ l.length := (List.isPrefixOf_iff_prefix.1 h).length_le

set_option maxRecDepth 100000 in
set_option maxHeartbeats 1600000 in
theorem takes_true (g : List UInt8) (b : Nat) (T : ByteArray) (p : Nat) (f : Nat → Bool) (n : Nat) (l : List UInt8) (w : World) (h : Rd w b T p f n) (ha : At T p l) (hT : T.size ≤ 1000000) (hr : tk g l = true) :
    Calls Tryz.prog 81 #[.pointer (some ⟨b, 0, none⟩), S g] w fun e w' => ∃ q, e = .returned (.bool true) ∧ At T q (tkR g l) ∧ Rd w' b T q f n ∧ w.grownBy w' (some b) := by
  have HR := Lib.hid h
  have HA := Lib.hid ha
  have HB := Lib.hid hr
  clear h ha hr
  go_enter Tryz.func81, Tryz.ntmps81
  go_wp2_with fail
  with_reducible refine (skip_as b T p f n l _ HR.out HA.out hT).mono ?_
  rintro x w1 ⟨q, rfl, hat, hr, hg⟩
  have HM := Lib.hid hat
  have HR2 := Lib.hid hr
  have HG := Lib.hid hg
  have c0 := hr.c0
  have c1 := hr.c1
  have z1 := hr.z 1
  have bl := hr.lt
  have hq := hat.le
  have hqi : (q : Int) ≤ (T.size : Int) := by omega
  have HP : Hid (pre g (T.extract q T.size).data.toList = true) := Lib.hid (by rw [ext_drop, arr_list, hat.eq]; exact HB.out)
  have gl : g.length ≤ T.size - q := by have h1 := pre_le (show pre g (sk l) = true from HB.out); have h2 := hat.len; omega
  clear hat hr hg HR HA
  go_wp2_with fail
  go_region_with (go_at_call 90; (with_reducible refine (hasP (T.extract q T.size) g true _ HP.out).mono ?_); rintro x wz ⟨rfl, rfl⟩)
  all_goals go_wp2
  all_goals go_ret
  all_goals exact ⟨q + g.length, rfl, by unfold tkR; rw [if_pos (show pre g (sk l) = true from HB.out)]; exact HM.out.drop _ (pre_le (show pre g (sk l) = true from HB.out)), (HR2.out.drew).to (q + g.length), grown_set (grown_drew HG.out) 1 _⟩

set_option maxRecDepth 100000 in
set_option maxHeartbeats 1600000 in
theorem takes_false (g : List UInt8) (b : Nat) (T : ByteArray) (p : Nat) (f : Nat → Bool) (n : Nat) (l : List UInt8) (w : World) (h : Rd w b T p f n) (ha : At T p l) (hT : T.size ≤ 1000000) (hr : tk g l = false) :
    Calls Tryz.prog 81 #[.pointer (some ⟨b, 0, none⟩), S g] w fun e w' => ∃ q, e = .returned (.bool false) ∧ At T q (tkR g l) ∧ Rd w' b T q f n ∧ w.grownBy w' (some b) := by
  have HR := Lib.hid h
  have HA := Lib.hid ha
  have HB := Lib.hid hr
  clear h ha hr
  go_enter Tryz.func81, Tryz.ntmps81
  go_wp2_with fail
  with_reducible refine (skip_as b T p f n l _ HR.out HA.out hT).mono ?_
  rintro x w1 ⟨q, rfl, hat, hr, hg⟩
  have HM := Lib.hid hat
  have HR2 := Lib.hid hr
  have HG := Lib.hid hg
  have c0 := hr.c0
  have c1 := hr.c1
  have z1 := hr.z 1
  have bl := hr.lt
  have hq := hat.le
  have hqi : (q : Int) ≤ (T.size : Int) := by omega
  have HP : Hid (pre g (T.extract q T.size).data.toList = false) := Lib.hid (by rw [ext_drop, arr_list, hat.eq]; exact HB.out)
  clear hat hr hg HR HA
  go_wp2_with fail
  go_region_with (go_at_call 90; (with_reducible refine (hasP (T.extract q T.size) g false _ HP.out).mono ?_); rintro x wz ⟨rfl, rfl⟩)
  all_goals go_wp2
  all_goals go_ret
  all_goals exact ⟨q, rfl, by unfold tkR; rw [if_neg (by rw [show pre g (sk l) = false from HB.out]; decide)]; exact HM.out, HR2.out.drew, grown_drew HG.out⟩

set_option maxRecDepth 100000 in
set_option maxHeartbeats 1600000 in
theorem wants_true (g : List UInt8) (b : Nat) (T : ByteArray) (p : Nat) (f : Nat → Bool) (n : Nat) (l : List UInt8) (w : World) (h : Rd w b T p f n) (ha : At T p l) (hT : T.size ≤ 1000000) (hr : tk g l = true) :
    Calls Tryz.prog 58 #[.pointer (some ⟨b, 0, none⟩), S g] w fun e w' => ∃ q, e = .returned (.tuple #[]) ∧ At T q (tkR g l) ∧ Rd w' b T q f n ∧ w.grownBy w' (some b) := by
  have HR := Lib.hid h
  have HA := Lib.hid ha
  have HB := Lib.hid hr
  clear h ha hr
  go_enter Tryz.func58, Tryz.ntmps58
  go_wp2_with fail
  with_reducible refine (takes_true g b T p f n l _ HR.out HA.out hT HB.out).mono ?_
  rintro x w1 ⟨q, rfl, hat, hr, hg⟩
  have HM := Lib.hid hat
  have HR2 := Lib.hid hr
  have HG := Lib.hid hg
  have c0 := hr.c0
  have c1 := hr.c1
  have bl := hr.lt
  clear hat hr hg HR HA
  go_wp2
  go_end0
  exact ⟨q, rfl, HM.out, HR2.out, HG.out⟩

set_option maxRecDepth 100000 in
set_option maxHeartbeats 1600000 in
theorem wants_false (g : List UInt8) (b : Nat) (T : ByteArray) (p : Nat) (f : Nat → Bool) (n : Nat) (l : List UInt8) (w : World) (h : Rd w b T p f n) (ha : At T p l) (hT : T.size ≤ 1000000) (hr : tk g l = false) :
    Calls Tryz.prog 58 #[.pointer (some ⟨b, 0, none⟩), S g] w fun e w' => ∃ q, e = Fault 1 q ∧ At T q (tkR g l) ∧ w.grownBy w' (some b) := by
  have HR := Lib.hid h
  have HA := Lib.hid ha
  have HB := Lib.hid hr
  clear h ha hr
  go_enter Tryz.func58, Tryz.ntmps58
  go_wp2_with fail
  with_reducible refine (takes_false g b T p f n l _ HR.out HA.out hT HB.out).mono ?_
  rintro x w1 ⟨q, rfl, hat, hr, hg⟩
  have HM := Lib.hid hat
  have HR2 := Lib.hid hr
  have HG := Lib.hid hg
  have c0 := hr.c0
  have c1 := hr.c1
  have bl := hr.lt
  clear hat hr hg HR HA
  go_wp2_with fail
  with_reducible refine (giveUp_as 1 q _).mono ?_
  rintro x wz ⟨rfl, rfl⟩
  go_wp2
  exact ⟨rfl, q, rfl, HM.out, HG.out⟩

set_option maxHeartbeats 800000 in
theorem isLetter_as (c : UInt8) (w : World) : Calls Tryz.prog 105 #[.int .u8 (c.toNat : Int)] w fun e w' => e = .returned (.bool (isL c)) ∧ w = w' := by
  have HE : Hid (isL c = (decide ((97 : Int) ≤ (c.toNat : Int)) && decide ((c.toNat : Int) ≤ 122))) := Lib.hid (by
    unfold isL
    congr 1 <;> exact decide_eq_decide.2 (by omega))
  by_cases h1 : (97 : Int) ≤ (c.toNat : Int)
  · by_cases h2 : (c.toNat : Int) ≤ 122
    · have HV : Hid (isL c = true) := Lib.hid (by rw [HE.out]; simp; omega)
      clear HE
      go_enter Tryz.func105, Tryz.ntmps105
      go_wp2
      go_ret
      exact ⟨by rw [HV.out]; rfl, rfl⟩
    · have HV : Hid (isL c = false) := Lib.hid (by rw [HE.out]; simp; omega)
      clear HE
      go_enter Tryz.func105, Tryz.ntmps105
      go_wp2
      go_ret
      exact ⟨by rw [HV.out]; rfl, rfl⟩
  · have HV : Hid (isL c = false) := Lib.hid (by rw [HE.out]; simp; omega)
    clear HE
    go_enter Tryz.func105, Tryz.ntmps105
    go_wp2
    go_ret
    exact ⟨by rw [HV.out]; rfl, rfl⟩

set_option maxHeartbeats 800000 in
theorem isDigit_as (c : UInt8) (w : World) : Calls Tryz.prog 159 #[.int .u8 (c.toNat : Int)] w fun e w' => e = .returned (.bool (isD c)) ∧ w = w' := by
  have HE : Hid (isD c = (decide ((48 : Int) ≤ (c.toNat : Int)) && decide ((c.toNat : Int) ≤ 57))) := Lib.hid (by
    unfold isD
    congr 1 <;> exact decide_eq_decide.2 (by omega))
  by_cases h1 : (48 : Int) ≤ (c.toNat : Int)
  · by_cases h2 : (c.toNat : Int) ≤ 57
    · have HV : Hid (isD c = true) := Lib.hid (by rw [HE.out]; simp; omega)
      clear HE
      go_enter Tryz.func159, Tryz.ntmps159
      go_wp2
      go_ret
      exact ⟨by rw [HV.out]; rfl, rfl⟩
    · have HV : Hid (isD c = false) := Lib.hid (by rw [HE.out]; simp; omega)
      clear HE
      go_enter Tryz.func159, Tryz.ntmps159
      go_wp2
      go_ret
      exact ⟨by rw [HV.out]; rfl, rfl⟩
  · have HV : Hid (isD c = false) := Lib.hid (by rw [HE.out]; simp; omega)
    clear HE
    go_enter Tryz.func159, Tryz.ntmps159
    go_wp2
    go_ret
    exact ⟨by rw [HV.out]; rfl, rfl⟩
set_option maxHeartbeats 800000 in
theorem isSample_as (c : UInt8) (w : World) : Calls Tryz.prog 110 #[.int .u8 (c.toNat : Int)] w fun e w' => e = .returned (.bool (isSm c)) ∧ w = w' := by
  have HV : Hid (isSm c = ((c.toNat : Int) != 59)) := Lib.hid (by
    unfold isSm
    by_cases h : c = 59
    · subst h; rfl
    · have h2 : ¬ (c.toNat : Int) = 59 := fun hh => h (UInt8.toNat_inj.1 (by show _ = 59; omega))
      rw [bne_iff_ne.2 h, bne_iff_ne.2 h2])
  go_enter Tryz.func110, Tryz.ntmps110
  go_wp2
  go_ret
  exact ⟨by rw [HV.out]; rfl, rfl⟩
end Go.Proofs.YtkjhdehpcanciaaGreatDoor

namespace Go.Proofs.YtkjhdehpcanciaaGreatDoor
open Go.RowKit Florin
set_option linter.unusedVariables false
set_option linter.unusedSimpArgs false
attribute [local go_sem ↓] Go.wp_at_zero Go.wp_at_succ

/-- The bytes from one place to another are all of a kind. -/
structure Ran (T : ByteArray) (k : UInt8 → Bool) (q j : Nat) (l m : List UInt8) : Prop where
  le : q ≤ j
  at0 : At T q l
  at1 : At T j m
  all : ∀ c ∈ l.take (j - q), k c = true
theorem Ran.split {T : ByteArray} {k : UInt8 → Bool} {q j : Nat} {l m : List UInt8} (h : Ran T k q j l m) : l = l.take (j - q) ++ m := by
  have : l.drop (j - q) = m := by rw [← h.at0.eq, List.drop_drop, Nat.add_sub_of_le h.le, h.at1.eq]
  rw [← this, List.take_append_drop]
theorem Ran.start {T : ByteArray} {k : UInt8 → Bool} {q : Nat} {l : List UInt8} (h : At T q l) : Ran T k q q l l := ⟨Nat.le_refl _, h, h, by rw [Nat.sub_self, List.take_zero]; simp⟩
theorem Ran.step {T : ByteArray} {k : UInt8 → Bool} {q j : Nat} {l m : List UInt8} (h : Ran T k q j l m) (hj : j < T.size) (hk : k T[j] = true) : ∃ t, Ran T k q (j + 1) l t := by
  obtain ⟨t, ht, hat⟩ := h.at1.cons hj
  refine ⟨t, Nat.le_succ_of_le h.le, h.at0, hat, fun c hc => ?_⟩
  have hs := h.split
  have hl : (l.take (j - q)).length = j - q := by rw [List.length_take, h.at0.len]; have := h.le; omega
  rw [hs, ht, show j + 1 - q = (l.take (j - q)).length + 1 by rw [hl]; have := h.le; omega, List.take_length_add_append] at hc
  rcases List.mem_append.1 hc with h1 | h1
  · exact h.all c h1
  · simp at h1; rw [h1]; exact hk
theorem Ran.stop {T : ByteArray} {k : UInt8 → Bool} {q j : Nat} {l m : List UInt8} (h : Ran T k q j l m) (hm : m = [] ∨ ∃ c t, m = c :: t ∧ k c = false) : l.takeWhile k = l.take (j - q) ∧ l.dropWhile k = m := by
  have hs := h.split
  have ht := takeWhile_all (l.take (j - q)) m h.all
  rw [← hs] at ht
  rcases hm with rfl | ⟨c, t, rfl, hc⟩
  · exact ⟨by rw [ht.1]; simp, by rw [ht.2]; rfl⟩
  · exact ⟨by rw [ht.1]; simp [hc], by rw [ht.2]; simp [hc]⟩

set_option maxRecDepth 100000 in
set_option maxHeartbeats 3200000 in
theorem ahL_b (b : Nat) (T : ByteArray) (p : Nat) (f : Nat → Bool) (n : Nat) (l : List UInt8) (w : World) (h : Rd w b T p f n) (ha : At T p l) (hT : T.size ≤ 1000000) :
    Calls Tryz.prog 109 #[.pointer (some ⟨b, 0, none⟩), .func (.func 105) #[] #[]] w fun e w' => ∃ (s : ByteArray) (q : Nat), e = .returned (.string s) ∧ s.data.toList = wd isL l ∧ At T q (sk l) ∧ Rd w' b T q f n ∧ w.grownBy w' (some b) := by
  have HR := Lib.hid h
  have HA := Lib.hid ha
  clear h ha
  go_enter Tryz.func109, Tryz.ntmps109
  go_wp2_with fail
  with_reducible refine (skip_as b T p f n l _ HR.out HA.out hT).mono ?_
  rintro x w1 ⟨q, rfl, hat, hr, hg⟩
  have HM := Lib.hid hat
  have HR2 := Lib.hid hr
  have HG := Lib.hid hg
  have c0 := hr.c0
  have c1 := hr.c1
  have bl := hr.lt
  have hqT := hat.le
  clear hat hr hg HR HA
  go_wp2_with fail
  go_loopg [5] (T.size - q) (fun k v wr => ∃ (j : Nat) (m : List UInt8), v = .int .i64 (j : Int) ∧ j ≤ T.size ∧ k = T.size - j ∧ Ran T isL q j (sk l) m ∧ w1 = wr)
  case atStart => exact ⟨q, sk l, rfl, hqT, rfl, Ran.start HM.out, rfl⟩
  case round =>
    obtain ⟨j, m, rfl, hq, hk, hm, rfl⟩ := hrel
    have HN := Lib.hid hm
    have HK := Lib.hid hk
    have hqj := hm.le
    have hqi : (q : Int) ≤ (j : Int) := by omega
    have hji : (j : Int) ≤ (T.size : Int) := by omega
    clear hm hk
    by_cases hlt : j < T.size
    · have hlti : (j : Int) < (T.size : Int) := by omega
      cases hkd : isL T[j] with
      | true =>
        have HKD := Lib.hid hkd
        clear hkd
        go_wp2_with fail
        with_reducible refine (isLetter_as T[j] _).mono ?_
        rintro x wz ⟨rfl, rfl⟩
        rw [HKD.out]
        go_wp2
        go_roundg (T.size - (j + 1))
        case measure => rw [HK.out]; omega
        case rel =>
          obtain ⟨t, ht⟩ := HN.out.step hlt HKD.out
          exact ⟨j + 1, t, by go_num, by omega, rfl, ht, rfl⟩
      | false =>
        have HKD := Lib.hid hkd
        have HX : Hid ((sk l).takeWhile isL = (sk l).take (j - q) ∧ (sk l).dropWhile isL = m) := Lib.hid (HN.out.stop (by
          obtain ⟨t, ht, _⟩ := HN.out.at1.cons hlt
          exact Or.inr ⟨_, t, ht, hkd⟩))
        have HEX : Hid (T.extract q j = ⟨(wd isL l).toArray⟩) := Lib.hid (HM.out.ext hqj hq HX.out.1.symm)
        clear hkd
        go_wp2_with fail
        with_reducible refine (isLetter_as T[j] _).mono ?_
        rintro x wz ⟨rfl, rfl⟩
        rw [HKD.out]
        go_wp2_with fail
        go_region
        all_goals (try go_wp2)
        all_goals go_ret
        all_goals exact ⟨_, q, rfl, by rw [HEX.out, arr_list], HM.out, HR2.out.drew, grown_drew HG.out⟩
    · have hlti : ¬ (j : Int) < (T.size : Int) := by omega
      have HX : Hid ((sk l).takeWhile isL = (sk l).take (j - q) ∧ (sk l).dropWhile isL = m) := Lib.hid (HN.out.stop (Or.inl (HN.out.at1.nil hlt)))
      have HEX : Hid (T.extract q j = ⟨(wd isL l).toArray⟩) := Lib.hid (HM.out.ext hqj hq HX.out.1.symm)
      go_wp2_with fail
      go_region
      all_goals (try go_wp2)
      all_goals go_ret
      all_goals exact ⟨_, q, rfl, by rw [HEX.out, arr_list], HM.out, HR2.out.drew, grown_drew HG.out⟩

set_option maxRecDepth 100000 in
set_option maxHeartbeats 3200000 in
theorem runL_b (b : Nat) (T : ByteArray) (p : Nat) (f : Nat → Bool) (n : Nat) (l : List UInt8) (w : World) (h : Rd w b T p f n) (ha : At T p l) (hT : T.size ≤ 1000000) :
    Calls Tryz.prog 104 #[.pointer (some ⟨b, 0, none⟩), .func (.func 105) #[] #[]] w fun e w' => ∃ (s : ByteArray) (q q2 : Nat), e = .returned (.tuple #[.string s, .int .i64 (q : Int)]) ∧ s.data.toList = wd isL l ∧ At T q (sk l) ∧ At T q2 (wdR isL l) ∧ Rd w' b T q2 f n ∧ w.grownBy w' (some b) := by
  have HR := Lib.hid h
  have HA := Lib.hid ha
  clear h ha
  go_enter Tryz.func104, Tryz.ntmps104
  go_wp2_with fail
  with_reducible refine (ahL_b b T p f n l _ HR.out HA.out hT).mono ?_
  rintro x w1 ⟨s, q, rfl, hs, hat, hr, hg⟩
  have HS := Lib.hid hs
  have HM := Lib.hid hat
  have HR2 := Lib.hid hr
  have HG := Lib.hid hg
  have c0 := hr.c0
  have c1 := hr.c1
  have z1 := hr.z 1
  have bl := hr.lt
  have hqT := hat.le
  have HSL : Hid (s.size ≤ (sk l).length) := Lib.hid (by rw [← size_list, hs]; exact (List.takeWhile_prefix _).length_le)
  have hsq : q + s.size ≤ T.size := by have := HSL.out; have := hat.len; omega
  clear hs hat hr hg HR HA
  go_wp2
  go_ret2
  refine ⟨s, q, q + s.size, rfl, HS.out, HM.out, ?_, HR2.out.to (q + s.size), grown_set HG.out 1 _⟩
  have h1 := HM.out.drop s.size HSL.out
  have h2 : (sk l).drop s.size = wdR isL l := by
    have := List.takeWhile_append_dropWhile (p := isL) (l := sk l)
    rw [show (sk l).takeWhile isL = s.data.toList from HS.out.symm] at this
    conv => lhs; rw [← this]
    rw [← size_list, List.drop_left]; rfl
  rw [h2] at h1; exact h1

set_option maxRecDepth 100000 in
set_option maxHeartbeats 3200000 in
theorem ahD_b (b : Nat) (T : ByteArray) (p : Nat) (f : Nat → Bool) (n : Nat) (l : List UInt8) (w : World) (h : Rd w b T p f n) (ha : At T p l) (hT : T.size ≤ 1000000) :
    Calls Tryz.prog 109 #[.pointer (some ⟨b, 0, none⟩), .func (.func 159) #[] #[]] w fun e w' => ∃ (s : ByteArray) (q : Nat), e = .returned (.string s) ∧ s.data.toList = wd isD l ∧ At T q (sk l) ∧ Rd w' b T q f n ∧ w.grownBy w' (some b) := by
  have HR := Lib.hid h
  have HA := Lib.hid ha
  clear h ha
  go_enter Tryz.func109, Tryz.ntmps109
  go_wp2_with fail
  with_reducible refine (skip_as b T p f n l _ HR.out HA.out hT).mono ?_
  rintro x w1 ⟨q, rfl, hat, hr, hg⟩
  have HM := Lib.hid hat
  have HR2 := Lib.hid hr
  have HG := Lib.hid hg
  have c0 := hr.c0
  have c1 := hr.c1
  have bl := hr.lt
  have hqT := hat.le
  clear hat hr hg HR HA
  go_wp2_with fail
  go_loopg [5] (T.size - q) (fun k v wr => ∃ (j : Nat) (m : List UInt8), v = .int .i64 (j : Int) ∧ j ≤ T.size ∧ k = T.size - j ∧ Ran T isD q j (sk l) m ∧ w1 = wr)
  case atStart => exact ⟨q, sk l, rfl, hqT, rfl, Ran.start HM.out, rfl⟩
  case round =>
    obtain ⟨j, m, rfl, hq, hk, hm, rfl⟩ := hrel
    have HN := Lib.hid hm
    have HK := Lib.hid hk
    have hqj := hm.le
    have hqi : (q : Int) ≤ (j : Int) := by omega
    have hji : (j : Int) ≤ (T.size : Int) := by omega
    clear hm hk
    by_cases hlt : j < T.size
    · have hlti : (j : Int) < (T.size : Int) := by omega
      cases hkd : isD T[j] with
      | true =>
        have HKD := Lib.hid hkd
        clear hkd
        go_wp2_with fail
        with_reducible refine (isDigit_as T[j] _).mono ?_
        rintro x wz ⟨rfl, rfl⟩
        rw [HKD.out]
        go_wp2
        go_roundg (T.size - (j + 1))
        case measure => rw [HK.out]; omega
        case rel =>
          obtain ⟨t, ht⟩ := HN.out.step hlt HKD.out
          exact ⟨j + 1, t, by go_num, by omega, rfl, ht, rfl⟩
      | false =>
        have HKD := Lib.hid hkd
        have HX : Hid ((sk l).takeWhile isD = (sk l).take (j - q) ∧ (sk l).dropWhile isD = m) := Lib.hid (HN.out.stop (by
          obtain ⟨t, ht, _⟩ := HN.out.at1.cons hlt
          exact Or.inr ⟨_, t, ht, hkd⟩))
        have HEX : Hid (T.extract q j = ⟨(wd isD l).toArray⟩) := Lib.hid (HM.out.ext hqj hq HX.out.1.symm)
        clear hkd
        go_wp2_with fail
        with_reducible refine (isDigit_as T[j] _).mono ?_
        rintro x wz ⟨rfl, rfl⟩
        rw [HKD.out]
        go_wp2_with fail
        go_region
        all_goals (try go_wp2)
        all_goals go_ret
        all_goals exact ⟨_, q, rfl, by rw [HEX.out, arr_list], HM.out, HR2.out.drew, grown_drew HG.out⟩
    · have hlti : ¬ (j : Int) < (T.size : Int) := by omega
      have HX : Hid ((sk l).takeWhile isD = (sk l).take (j - q) ∧ (sk l).dropWhile isD = m) := Lib.hid (HN.out.stop (Or.inl (HN.out.at1.nil hlt)))
      have HEX : Hid (T.extract q j = ⟨(wd isD l).toArray⟩) := Lib.hid (HM.out.ext hqj hq HX.out.1.symm)
      go_wp2_with fail
      go_region
      all_goals (try go_wp2)
      all_goals go_ret
      all_goals exact ⟨_, q, rfl, by rw [HEX.out, arr_list], HM.out, HR2.out.drew, grown_drew HG.out⟩

set_option maxRecDepth 100000 in
set_option maxHeartbeats 3200000 in
theorem runD_b (b : Nat) (T : ByteArray) (p : Nat) (f : Nat → Bool) (n : Nat) (l : List UInt8) (w : World) (h : Rd w b T p f n) (ha : At T p l) (hT : T.size ≤ 1000000) :
    Calls Tryz.prog 104 #[.pointer (some ⟨b, 0, none⟩), .func (.func 159) #[] #[]] w fun e w' => ∃ (s : ByteArray) (q q2 : Nat), e = .returned (.tuple #[.string s, .int .i64 (q : Int)]) ∧ s.data.toList = wd isD l ∧ At T q (sk l) ∧ At T q2 (wdR isD l) ∧ Rd w' b T q2 f n ∧ w.grownBy w' (some b) := by
  have HR := Lib.hid h
  have HA := Lib.hid ha
  clear h ha
  go_enter Tryz.func104, Tryz.ntmps104
  go_wp2_with fail
  with_reducible refine (ahD_b b T p f n l _ HR.out HA.out hT).mono ?_
  rintro x w1 ⟨s, q, rfl, hs, hat, hr, hg⟩
  have HS := Lib.hid hs
  have HM := Lib.hid hat
  have HR2 := Lib.hid hr
  have HG := Lib.hid hg
  have c0 := hr.c0
  have c1 := hr.c1
  have z1 := hr.z 1
  have bl := hr.lt
  have hqT := hat.le
  have HSL : Hid (s.size ≤ (sk l).length) := Lib.hid (by rw [← size_list, hs]; exact (List.takeWhile_prefix _).length_le)
  have hsq : q + s.size ≤ T.size := by have := HSL.out; have := hat.len; omega
  clear hs hat hr hg HR HA
  go_wp2
  go_ret2
  refine ⟨s, q, q + s.size, rfl, HS.out, HM.out, ?_, HR2.out.to (q + s.size), grown_set HG.out 1 _⟩
  have h1 := HM.out.drop s.size HSL.out
  have h2 : (sk l).drop s.size = wdR isD l := by
    have := List.takeWhile_append_dropWhile (p := isD) (l := sk l)
    rw [show (sk l).takeWhile isD = s.data.toList from HS.out.symm] at this
    conv => lhs; rw [← this]
    rw [← size_list, List.drop_left]; rfl
  rw [h2] at h1; exact h1

set_option maxRecDepth 100000 in
set_option maxHeartbeats 3200000 in
theorem ahS_b (b : Nat) (T : ByteArray) (p : Nat) (f : Nat → Bool) (n : Nat) (l : List UInt8) (w : World) (h : Rd w b T p f n) (ha : At T p l) (hT : T.size ≤ 1000000) :
    Calls Tryz.prog 109 #[.pointer (some ⟨b, 0, none⟩), .func (.func 110) #[] #[]] w fun e w' => ∃ (s : ByteArray) (q : Nat), e = .returned (.string s) ∧ s.data.toList = wd isSm l ∧ At T q (sk l) ∧ Rd w' b T q f n ∧ w.grownBy w' (some b) := by
  have HR := Lib.hid h
  have HA := Lib.hid ha
  clear h ha
  go_enter Tryz.func109, Tryz.ntmps109
  go_wp2_with fail
  with_reducible refine (skip_as b T p f n l _ HR.out HA.out hT).mono ?_
  rintro x w1 ⟨q, rfl, hat, hr, hg⟩
  have HM := Lib.hid hat
  have HR2 := Lib.hid hr
  have HG := Lib.hid hg
  have c0 := hr.c0
  have c1 := hr.c1
  have bl := hr.lt
  have hqT := hat.le
  clear hat hr hg HR HA
  go_wp2_with fail
  go_loopg [5] (T.size - q) (fun k v wr => ∃ (j : Nat) (m : List UInt8), v = .int .i64 (j : Int) ∧ j ≤ T.size ∧ k = T.size - j ∧ Ran T isSm q j (sk l) m ∧ w1 = wr)
  case atStart => exact ⟨q, sk l, rfl, hqT, rfl, Ran.start HM.out, rfl⟩
  case round =>
    obtain ⟨j, m, rfl, hq, hk, hm, rfl⟩ := hrel
    have HN := Lib.hid hm
    have HK := Lib.hid hk
    have hqj := hm.le
    have hqi : (q : Int) ≤ (j : Int) := by omega
    have hji : (j : Int) ≤ (T.size : Int) := by omega
    clear hm hk
    by_cases hlt : j < T.size
    · have hlti : (j : Int) < (T.size : Int) := by omega
      cases hkd : isSm T[j] with
      | true =>
        have HKD := Lib.hid hkd
        clear hkd
        go_wp2_with fail
        with_reducible refine (isSample_as T[j] _).mono ?_
        rintro x wz ⟨rfl, rfl⟩
        rw [HKD.out]
        go_wp2
        go_roundg (T.size - (j + 1))
        case measure => rw [HK.out]; omega
        case rel =>
          obtain ⟨t, ht⟩ := HN.out.step hlt HKD.out
          exact ⟨j + 1, t, by go_num, by omega, rfl, ht, rfl⟩
      | false =>
        have HKD := Lib.hid hkd
        have HX : Hid ((sk l).takeWhile isSm = (sk l).take (j - q) ∧ (sk l).dropWhile isSm = m) := Lib.hid (HN.out.stop (by
          obtain ⟨t, ht, _⟩ := HN.out.at1.cons hlt
          exact Or.inr ⟨_, t, ht, hkd⟩))
        have HEX : Hid (T.extract q j = ⟨(wd isSm l).toArray⟩) := Lib.hid (HM.out.ext hqj hq HX.out.1.symm)
        clear hkd
        go_wp2_with fail
        with_reducible refine (isSample_as T[j] _).mono ?_
        rintro x wz ⟨rfl, rfl⟩
        rw [HKD.out]
        go_wp2_with fail
        go_region
        all_goals (try go_wp2)
        all_goals go_ret
        all_goals exact ⟨_, q, rfl, by rw [HEX.out, arr_list], HM.out, HR2.out.drew, grown_drew HG.out⟩
    · have hlti : ¬ (j : Int) < (T.size : Int) := by omega
      have HX : Hid ((sk l).takeWhile isSm = (sk l).take (j - q) ∧ (sk l).dropWhile isSm = m) := Lib.hid (HN.out.stop (Or.inl (HN.out.at1.nil hlt)))
      have HEX : Hid (T.extract q j = ⟨(wd isSm l).toArray⟩) := Lib.hid (HM.out.ext hqj hq HX.out.1.symm)
      go_wp2_with fail
      go_region
      all_goals (try go_wp2)
      all_goals go_ret
      all_goals exact ⟨_, q, rfl, by rw [HEX.out, arr_list], HM.out, HR2.out.drew, grown_drew HG.out⟩

set_option maxRecDepth 100000 in
set_option maxHeartbeats 3200000 in
theorem runS_b (b : Nat) (T : ByteArray) (p : Nat) (f : Nat → Bool) (n : Nat) (l : List UInt8) (w : World) (h : Rd w b T p f n) (ha : At T p l) (hT : T.size ≤ 1000000) :
    Calls Tryz.prog 104 #[.pointer (some ⟨b, 0, none⟩), .func (.func 110) #[] #[]] w fun e w' => ∃ (s : ByteArray) (q q2 : Nat), e = .returned (.tuple #[.string s, .int .i64 (q : Int)]) ∧ s.data.toList = wd isSm l ∧ At T q (sk l) ∧ At T q2 (wdR isSm l) ∧ Rd w' b T q2 f n ∧ w.grownBy w' (some b) := by
  have HR := Lib.hid h
  have HA := Lib.hid ha
  clear h ha
  go_enter Tryz.func104, Tryz.ntmps104
  go_wp2_with fail
  with_reducible refine (ahS_b b T p f n l _ HR.out HA.out hT).mono ?_
  rintro x w1 ⟨s, q, rfl, hs, hat, hr, hg⟩
  have HS := Lib.hid hs
  have HM := Lib.hid hat
  have HR2 := Lib.hid hr
  have HG := Lib.hid hg
  have c0 := hr.c0
  have c1 := hr.c1
  have z1 := hr.z 1
  have bl := hr.lt
  have hqT := hat.le
  have HSL : Hid (s.size ≤ (sk l).length) := Lib.hid (by rw [← size_list, hs]; exact (List.takeWhile_prefix _).length_le)
  have hsq : q + s.size ≤ T.size := by have := HSL.out; have := hat.len; omega
  clear hs hat hr hg HR HA
  go_wp2
  go_ret2
  refine ⟨s, q, q + s.size, rfl, HS.out, HM.out, ?_, HR2.out.to (q + s.size), grown_set HG.out 1 _⟩
  have h1 := HM.out.drop s.size HSL.out
  have h2 : (sk l).drop s.size = wdR isSm l := by
    have := List.takeWhile_append_dropWhile (p := isSm) (l := sk l)
    rw [show (sk l).takeWhile isSm = s.data.toList from HS.out.symm] at this
    conv => lhs; rw [← this]
    rw [← size_list, List.drop_left]; rfl
  rw [h2] at h1; exact h1
end Go.Proofs.YtkjhdehpcanciaaGreatDoor

namespace Go.Proofs.YtkjhdehpcanciaaGreatDoor
open Go.RowKit Florin
set_option linter.unusedVariables false
set_option linter.unusedSimpArgs false
attribute [local go_sem ↓] Go.wp_at_zero Go.wp_at_succ

theorem dec_from (l : List UInt8) : ∀ acc, isDig l = true → Lib.decFrom acc l = some (acc * 10 ^ l.length + val l) := by
  induction l with
  | nil => intro acc _; simp [Lib.decFrom, val]
  | cons c t ih =>
    intro acc h
    rw [isDig_cons] at h
    simp only [Bool.and_eq_true] at h
    have hd := (isD_iff c).1 h.1
    have h1 : Lib.digitVal c = some (dv c) := by unfold Lib.digitVal; rw [if_pos hd]; rfl
    rw [Lib.decFrom, h1]
    simp only
    rw [ih _ h.2, val_cons, List.length_cons, Nat.pow_succ]
    congr 1
    rw [Nat.add_mul, Nat.mul_assoc, Nat.mul_comm 10 (10 ^ t.length)]
    omega
theorem atoi_dig {l : List UInt8} (h : isDig l = true) (h0 : l ≠ []) : Lib.atoi l = some (val l : Int) := by
  cases l with
  | nil => exact absurd rfl h0
  | cons c t =>
    have hc : isD c = true := by rw [isDig_cons] at h; simp only [Bool.and_eq_true] at h; exact h.1
    have n1 : (c == 45) = false := by have := isD_ne (d := 45) hc (by decide); simpa using this
    have n2 : (c == 43) = false := by have := isD_ne (d := 43) hc (by decide); simpa using this
    rw [Lib.atoi, n1, n2]
    have : Lib.decNat (c :: t) = some (val (c :: t)) := by
      unfold Lib.decNat
      rw [if_neg (by simp), dec_from _ 0 h, Nat.zero_mul, Nat.zero_add]
    simp [this]
theorem bytes_below (w : World) (e : TypeId) (s : ByteArray) : Below w.heap.size w (Lib.bytesWorld w e s) :=
  ⟨rfl, rfl, rfl, by simp [Lib.bytesWorld, World.freeze], fun k hk => Lib.bytesWorld_at_old w e s k hk⟩
theorem atoi_as (s : ByteArray) (n : Int) (w : World) (hl : s.size ≤ 18) (h : Lib.atoi s.data.toList = some n) :
    Calls Tryz.prog 160 #[.string s] w fun e w' => e = .returned (.tuple #[.int .i64 n, .nilIface]) ∧ Below w.heap.size w w' :=
  (Tryz.strconv_Atoi s n hl h w).mono fun e w' ⟨he, t, ht⟩ => ⟨he, by rw [ht]; exact bytes_below _ _ _⟩
theorem wd_dig (l : List UInt8) : isDig (wd isD l) = true := by
  unfold isDig wd
  exact List.all_takeWhile
theorem byte_of {s : ByteArray} {u : List UInt8} (h : s.data.toList = u) : s = ⟨u.toArray⟩ := by rw [← h, back_data]

theorem word_pre {g l : List UInt8} (h : tw g l = true) : tk g (sk l) = true ∧ tkR g (sk l) = twR g l := by
  have h1 : (sk l).takeWhile isL = g := eq_of_beq h
  have h2 := List.takeWhile_append_dropWhile (p := isL) (l := sk l)
  rw [h1] at h2
  have h3 : pre g (sk l) = true := by unfold pre; rw [← h2]; exact List.isPrefixOf_iff_prefix.2 (List.prefix_append _ _)
  rw [tkB_sk, tkRB_sk]
  refine ⟨h3, ?_⟩
  unfold tkR twR
  rw [if_pos h3, if_pos (show (wd isL l == g) = true from h)]
  conv => lhs; rw [← h2]
  rw [List.drop_left]; rfl

set_option maxRecDepth 100000 in
set_option maxHeartbeats 1600000 in
theorem word_true (g : List UInt8) (b : Nat) (T : ByteArray) (p : Nat) (f : Nat → Bool) (n : Nat) (l : List UInt8) (w : World) (h : Rd w b T p f n) (ha : At T p l) (hT : T.size ≤ 1000000) (hr : tw g l = true) :
    Calls Tryz.prog 108 #[.pointer (some ⟨b, 0, none⟩), S g] w fun e w' => ∃ q, e = .returned (.bool true) ∧ At T q (twR g l) ∧ Rd w' b T q f n ∧ w.grownBy w' (some b) := by
  have HR := Lib.hid h
  have HA := Lib.hid ha
  have HB := Lib.hid hr
  clear h ha hr
  go_enter Tryz.func108, Tryz.ntmps108
  go_wp2_with fail
  with_reducible refine (ahL_b b T p f n l _ HR.out HA.out hT).mono ?_
  rintro x w1 ⟨s, q, rfl, hs, hat, hr, hg⟩
  have HS := Lib.hid hs
  have HM := Lib.hid hat
  have HR2 := Lib.hid hr
  have HG := Lib.hid hg
  obtain rfl : s = ⟨g.toArray⟩ := byte_of (by rw [hs]; exact eq_of_beq HB.out)
  clear hs hat hr hg HR HA
  go_wp2_with fail
  with_reducible refine (takes_true g b T q f n (sk l) _ HR2.out HM.out hT (word_pre HB.out).1).mono ?_
  rintro x w2 ⟨q2, rfl, hat, hr, hg⟩
  have HM2 := Lib.hid hat
  have HR3 := Lib.hid hr
  have HG3 := Lib.hid (grown_trans HG.out hg)
  clear hat hr hg
  go_wp2
  go_ret
  exact ⟨q2, rfl, by rw [← (word_pre HB.out).2]; exact HM2.out, HR3.out, HG3.out⟩

set_option maxRecDepth 100000 in
set_option maxHeartbeats 1600000 in
theorem word_false (g : List UInt8) (b : Nat) (T : ByteArray) (p : Nat) (f : Nat → Bool) (n : Nat) (l : List UInt8) (w : World) (h : Rd w b T p f n) (ha : At T p l) (hT : T.size ≤ 1000000) (hr : tw g l = false) :
    Calls Tryz.prog 108 #[.pointer (some ⟨b, 0, none⟩), S g] w fun e w' => ∃ q, e = .returned (.bool false) ∧ At T q (twR g l) ∧ Rd w' b T q f n ∧ w.grownBy w' (some b) := by
  have HR := Lib.hid h
  have HA := Lib.hid ha
  have HB := Lib.hid hr
  clear h ha hr
  go_enter Tryz.func108, Tryz.ntmps108
  go_wp2_with fail
  with_reducible refine (ahL_b b T p f n l _ HR.out HA.out hT).mono ?_
  rintro x w1 ⟨s, q, rfl, hs, hat, hr, hg⟩
  have HS := Lib.hid hs
  have HM := Lib.hid hat
  have HR2 := Lib.hid hr
  have HG := Lib.hid hg
  have hne : s.data.toList ≠ g := by rw [hs]; intro hh; have h2 := HB.out; unfold tw at h2; rw [hh] at h2; simp at h2
  have n1 : (s.toList == g) = false := by rw [Lib.toList_data]; exact beq_eq_false_iff_ne.2 hne
  clear hs hat hr hg HR HA hne
  go_wp2
  go_ret
  exact ⟨q, rfl, by unfold twR; rw [if_neg (by rw [show (wd isL l == g) = false from HB.out]; decide)]; exact HM.out, HR2.out, HG.out⟩

set_option maxRecDepth 100000 in
set_option maxHeartbeats 6400000 in
theorem num_as (least : Nat) (b : Nat) (T : ByteArray) (p : Nat) (f : Nat → Bool) (n : Nat) (l : List UInt8) (w : World) (h : Rd w b T p f n) (ha : At T p l) (hT : T.size ≤ 1000000) :
    Calls Tryz.prog 152 #[.pointer (some ⟨b, 0, none⟩), .int .i64 (least : Int)] w (Told b T f n w (fun _ x v => v = .int .i64 ((x : Nat) : Int)) (numP least l)) := by
  have HR := Lib.hid h
  have HA := Lib.hid ha
  clear h ha
  go_enter Tryz.func152, Tryz.ntmps152
  go_wp2_with fail
  with_reducible refine (runD_b b T p f n l _ HR.out HA.out hT).mono ?_
  rintro x w1 ⟨s, q, q2, rfl, hs, hat, hat2, hr, hg⟩
  have HS := Lib.hid hs
  have HM := Lib.hid hat
  have HM2 := Lib.hid hat2
  have HR2 := Lib.hid hr
  have HG := Lib.hid hg
  have c0 := hr.c0
  have c1 := hr.c1
  have c8 := hr.c8
  have z1 := hr.z 1
  have z8 := hr.z 9
  have bl := hr.lt
  have hsz : s.size = (wd isD l).length := by rw [← hs, size_list]
  have HSZ := Lib.hid hsz
  have hdg := wd_dig l
  have HDG := Lib.hid hdg
  clear hs hat hat2 hr hg HR HA hdg
  by_cases he : wd isD l = []
  · have HN : Hid (numP least l = .bad 1 (sk l)) := Lib.hid (by unfold numP; rw [he]; rfl)
    have e1 : s.toList.isEmpty = true := by rw [Lib.toList_data, HS.out, he]; rfl
    clear he hsz
    go_wp2_with fail
    with_reducible refine (giveUp_as 1 q _).mono ?_
    rintro x wz ⟨rfl, rfl⟩
    go_wp2
    refine ⟨rfl, ?_⟩
    show Told _ _ _ _ _ _ (numP least l) _ _
    rw [HN.out]
    exact ⟨q, rfl, HM.out, HG.out⟩
  · have e1 : s.toList.isEmpty = false := by rw [Lib.toList_data, HS.out]; exact ne_empty he
    have hz : 0 < s.size := by rw [hsz]; exact List.length_pos_iff.2 he
    have HE := Lib.hid he
    have hhd : (wd isD l).head? = some s[0] := by
      have : s.data.toList.head? = some s[0] := by
        rw [List.head?_eq_getElem?]
        rw [List.getElem?_eq_getElem (by rw [size_list]; exact hz)]
        rfl
      rw [← this, HS.out]
    have HHD := Lib.hid hhd
    clear he hhd
    have main : ∀ (c1 : 1 < s.size → ¬ (s[0].toNat : Int) = 48), (1 < s.size ∨ s.size = 1) → (numP least l = if 9 < (wd isD l).length then .bad 2 (sk l) else if val (wd isD l) < least then .bad 3 (sk l) else .ok (val (wd isD l)) (wdR isD l)) := by
      intro c1 _
      unfold numP
      rw [if_neg]
      rw [ne_empty HE.out, HHD.out]
      simp only [Bool.false_or, Bool.and_eq_true, decide_eq_true_eq, not_and]
      intro h1 h2
      refine c1 (by rw [hsz]; exact h1) ?_
      have : s[0] = 48 := by simpa using h2
      rw [this]; rfl
    have HMAIN := Lib.hid main
    clear main
    by_cases h1 : 1 < s.size
    · have h1i : (1 : Int) < (s.size : Int) := by omega
      by_cases h48 : (s[0].toNat : Int) = 48
      · have HN : Hid (numP least l = .bad 1 (sk l)) := Lib.hid (by
          unfold numP
          rw [if_pos]
          rw [HHD.out]
          have : s[0] = 48 := UInt8.toNat_inj.1 (by show _ = 48; omega)
          rw [this]
          simp; right; rw [← hsz]; exact h1)
        clear hsz HMAIN
        go_wp2_with fail
        with_reducible refine (giveUp_as 1 q _).mono ?_
        rintro x wz ⟨rfl, rfl⟩
        go_wp2
        refine ⟨rfl, ?_⟩
        show Told _ _ _ _ _ _ (numP least l) _ _
        rw [HN.out]
        exact ⟨q, rfl, HM.out, HG.out⟩
      · have HQ := Lib.hid (HMAIN.out (fun _ => h48) (Or.inl h1))
        clear HMAIN
        by_cases h9 : 9 < s.size
        · have h9i : (9 : Int) < (s.size : Int) := by omega
          have HN : Hid (numP least l = .bad 2 (sk l)) := Lib.hid (by rw [HQ.out, if_pos (by rw [← hsz]; exact h9)])
          clear hsz HQ
          go_wp2_with fail
          with_reducible refine (giveUp_as 2 q _).mono ?_
          rintro x wz ⟨rfl, rfl⟩
          go_wp2
          refine ⟨rfl, ?_⟩
          show Told _ _ _ _ _ _ (numP least l) _ _
          rw [HN.out]
          exact ⟨q, rfl, HM.out, HG.out⟩
        · have h9i : ¬ (9 : Int) < (s.size : Int) := by omega
          have HAT : Hid (Lib.atoi s.data.toList = some ((val (wd isD l) : Nat) : Int)) := Lib.hid (by rw [HS.out]; exact atoi_dig HDG.out HE.out)
          have hq9 : ¬ 9 < (wd isD l).length := by rw [← hsz]; exact h9
          have HQ9 := Lib.hid hq9
          clear hq9 hsz
          go_wp2_with fail
          with_reducible refine (atoi_as s ((val (wd isD l) : Nat) : Int) _ (by omega) HAT.out).mono ?_
          rintro x w2 ⟨rfl, hb⟩
          have HR3 := Lib.hid (HR2.out.below hb)
          have HG3 := Lib.hid (grown_trans HG.out (grown_of_below hb (some b)))
          clear hb
          by_cases hv : val (wd isD l) < least
          · have hvi : ((val (wd isD l) : Nat) : Int) < (least : Int) := by omega
            have HN : Hid (numP least l = .bad 3 (sk l)) := Lib.hid (by rw [HQ.out, if_neg HQ9.out, if_pos hv])
            clear HQ
            go_wp2_with fail
            with_reducible refine (giveUp_as 3 q _).mono ?_
            rintro x wz ⟨rfl, rfl⟩
            go_wp2
            refine ⟨rfl, ?_⟩
            show Told _ _ _ _ _ _ (numP least l) _ _
            rw [HN.out]
            exact ⟨q, rfl, HM.out, HG3.out⟩
          · have hvi : ¬ ((val (wd isD l) : Nat) : Int) < (least : Int) := by omega
            have HN : Hid (numP least l = .ok (val (wd isD l)) (wdR isD l)) := Lib.hid (by rw [HQ.out, if_neg HQ9.out, if_neg hv])
            clear HQ
            go_wp2
            go_ret
            show Told _ _ _ _ _ _ (numP least l) _ _
            rw [HN.out]
            exact ⟨_, q2, rfl, rfl, HM2.out, HR3.out, HG3.out⟩
    · have h1i : ¬ (1 : Int) < (s.size : Int) := by omega
      have HQ := Lib.hid (HMAIN.out (fun hh => absurd hh h1) (Or.inr (by omega)))
      clear HMAIN
      have h9 : ¬ 9 < s.size := by omega
      have h9i : ¬ (9 : Int) < (s.size : Int) := by omega
      have HAT : Hid (Lib.atoi s.data.toList = some ((val (wd isD l) : Nat) : Int)) := Lib.hid (by rw [HS.out]; exact atoi_dig HDG.out HE.out)
      have hq9 : ¬ 9 < (wd isD l).length := by rw [← hsz]; exact h9
      have HQ9 := Lib.hid hq9
      clear hq9 hsz
      go_wp2_with fail
      with_reducible refine (atoi_as s ((val (wd isD l) : Nat) : Int) _ (by omega) HAT.out).mono ?_
      rintro x w2 ⟨rfl, hb⟩
      have HR3 := Lib.hid (HR2.out.below hb)
      have HG3 := Lib.hid (grown_trans HG.out (grown_of_below hb (some b)))
      clear hb
      by_cases hv : val (wd isD l) < least
      · have hvi : ((val (wd isD l) : Nat) : Int) < (least : Int) := by omega
        have HN : Hid (numP least l = .bad 3 (sk l)) := Lib.hid (by rw [HQ.out, if_neg HQ9.out, if_pos hv])
        clear HQ
        go_wp2_with fail
        with_reducible refine (giveUp_as 3 q _).mono ?_
        rintro x wz ⟨rfl, rfl⟩
        go_wp2
        refine ⟨rfl, ?_⟩
        show Told _ _ _ _ _ _ (numP least l) _ _
        rw [HN.out]
        exact ⟨q, rfl, HM.out, HG3.out⟩
      · have hvi : ¬ ((val (wd isD l) : Nat) : Int) < (least : Int) := by omega
        have HN : Hid (numP least l = .ok (val (wd isD l)) (wdR isD l)) := Lib.hid (by rw [HQ.out, if_neg HQ9.out, if_neg hv])
        clear HQ
        go_wp2
        go_ret
        show Told _ _ _ _ _ _ (numP least l) _ _
        rw [HN.out]
        exact ⟨_, q2, rfl, rfl, HM2.out, HR3.out, HG3.out⟩
end Go.Proofs.YtkjhdehpcanciaaGreatDoor

namespace Florin

theorem wdR_le (k : UInt8 → Bool) (l : List UInt8) : (wdR k l).length ≤ l.length := Nat.le_trans (List.dropWhile_sublist _).length_le (sk_le l)
theorem twR_le (g l : List UInt8) : (twR g l).length ≤ l.length := by
  unfold twR; split
  · exact wdR_le _ _
  · exact sk_le l
theorem tkR_lt {g l : List UInt8} (h : tk g l = true) (hg : g ≠ []) : (tkR g l).length < l.length := by
  unfold tkR
  rw [if_pos (show pre g (sk l) = true from h), List.length_drop]
  have h1 := (List.isPrefixOf_iff_prefix.1 (show g.isPrefixOf (sk l) = true from h)).length_le
  have h2 := sk_le l
  have h3 := List.length_pos_iff.2 hg
  omega
theorem twR_lt {g l : List UInt8} (h : tw g l = true) (hg : g ≠ []) : (twR g l).length < l.length := by
  unfold twR
  rw [if_pos (show (wd isL l == g) = true from h)]
  have h1 : wd isL l = g := eq_of_beq h
  have h2 : (sk l).length = (wd isL l).length + (wdR isL l).length := by
    have := List.takeWhile_append_dropWhile (p := isL) (l := sk l)
    conv => lhs; rw [← this]
    rw [List.length_append]; rfl
  have h3 := sk_le l
  have h4 := List.length_pos_iff.2 hg
  rw [h1] at h2
  omega
theorem num_len {k : Nat} {l r : List UInt8} {x : Nat} (h : numP k l = .ok x r) : r.length ≤ l.length := by
  unfold numP at h
  split at h
  · cases h
  · split at h
    · cases h
    · split at h
      · cases h
      · cases h; exact wdR_le _ _
theorem range_len {l r : List UInt8} {x : Nat × Nat} (h : rangeP l = .ok x r) : r.length ≤ l.length := by
  unfold rangeP at h
  split at h
  · cases h
  · rename_i lo m h1
    have a1 := num_len h1
    have a2 := tkR_le [46, 46] m
    split at h
    · split at h
      · cases h
      · rename_i h2
        have a3 := num_len h2
        cases h; omega
    · cases h; omega
theorem rangesL_len : ∀ (k : Nat) (acc : List (Nat × Nat)) (l r : List UInt8) (x : List (Nat × Nat)), rangesL k acc l = .ok x r → r.length ≤ l.length
  | 0, _, _, _, _, h => by cases h
  | k + 1, acc, l, r, x, h => by
    unfold rangesL at h
    have a1 := tkR_le [44] l
    split at h
    · split at h
      · cases h
      · rename_i h2
        have a3 := range_len h2
        have a4 := rangesL_len k _ _ _ _ h
        omega
    · cases h; omega
theorem ranges_len {l r : List UInt8} {x : List (Nat × Nat)} (h : rangesP l = .ok x r) : r.length ≤ l.length := by
  unfold rangesP at h
  split at h
  · cases h
  · rename_i h1
    have a1 := range_len h1
    have a2 := rangesL_len _ _ _ _ _ h
    omega
theorem oper_len {n : Nat} {l r : List UInt8} {x : UInt8} (h : operP n l = .ok x r) : r.length ≤ l.length := by
  unfold operP at h
  split at h
  · split at h
    · split at h
      · cases h
      · cases h; exact wdR_le _ _
    · cases h
  · cases h
theorem mod_len {l r : List UInt8} {x : Nat} (h : modP l = .ok x r) : r.length ≤ l.length := by
  unfold modP at h
  have a1 := tkR_le [37] l
  split at h
  · have := num_len h; omega
  · cases h; omega
theorem sign_len {l r : List UInt8} {x : Bool} (h : signP l = .ok x r) : r.length ≤ l.length := by
  unfold signP at h
  have a1 := tkR_le [33, 61] l
  have a2 := tkR_le [61] (tkR [33, 61] l)
  split at h
  · cases h; omega
  · split at h
    · cases h; omega
    · cases h
theorem rel_len {n : Nat} {l r : List UInt8} {x : RelT} (h : relP n l = .ok x r) : r.length ≤ l.length := by
  unfold relP at h
  split at h
  · cases h
  · rename_i h1
    have a1 := oper_len h1
    split at h
    · cases h
    · rename_i h2
      have a2 := mod_len h2
      split at h
      · cases h
      · rename_i h3
        have a3 := sign_len h3
        split at h
        · cases h
        · rename_i h4
          have a4 := ranges_len h4
          cases h; omega
theorem allL_len : ∀ (k n : Nat) (acc : List RelT) (l r : List UInt8) (x : List RelT), allL k n acc l = .ok x r → r.length ≤ l.length
  | 0, _, _, _, _, _, h => by cases h
  | k + 1, n, acc, l, r, x, h => by
    unfold allL at h
    have a1 := twR_le [97, 110, 100] l
    split at h
    · split at h
      · cases h
      · rename_i h2
        have a3 := rel_len h2
        have a4 := allL_len k _ _ _ _ _ h
        omega
    · cases h; omega
theorem all_len {n : Nat} {l r : List UInt8} {x : List RelT} (h : allP n l = .ok x r) : r.length ≤ l.length := by
  unfold allP at h
  split at h
  · cases h
  · rename_i h1
    have a1 := rel_len h1
    have a2 := allL_len _ _ _ _ _ _ h
    omega
theorem condL_len : ∀ (k n : Nat) (acc : List (List RelT)) (l r : List UInt8) (x : List (List RelT)), condL k n acc l = .ok x r → r.length ≤ l.length
  | 0, _, _, _, _, _, h => by cases h
  | k + 1, n, acc, l, r, x, h => by
    unfold condL at h
    have a1 := twR_le [111, 114] l
    split at h
    · split at h
      · cases h
      · rename_i h2
        have a3 := all_len h2
        have a4 := condL_len k _ _ _ _ _ h
        omega
    · cases h; omega
theorem cond_len {n : Nat} {l r : List UInt8} {x : List (List RelT)} (h : condP n l = .ok x r) : r.length ≤ l.length := by
  unfold condP at h
  split at h
  · cases h
  · rename_i h1
    have a1 := all_len h1
    have a2 := condL_len _ _ _ _ _ _ h
    omega
theorem smpR_le (l : List UInt8) : (smpR l).length ≤ l.length := by
  unfold smpR; split
  · exact Nat.le_trans (List.dropWhile_sublist _).length_le (sk_le l)
  · exact sk_le l
theorem cat_len {s : List Nat} {l r : List UInt8} {x : Nat} (h : catP s l = .ok x r) : r.length ≤ l.length := by
  unfold catP at h
  split at h
  · cases h
  · split at h
    · cases h
    · cases h; exact wdR_le _ _
theorem colon_len {l r : List UInt8} {x : Unit} (h : colonP l = .ok x r) : r.length < l.length := by
  unfold colonP at h
  split at h
  · rename_i h1; cases h; exact tkR_lt h1 (by simp)
  · cases h
theorem body_len {c n : Nat} {l r : List UInt8} {x : List (List RelT)} (h : bodyP c n l = .ok x r) : r.length ≤ l.length := by
  unfold bodyP at h
  split at h
  · cases h; exact Nat.le_refl _
  · exact cond_len h
theorem rule_len {s : List Nat} {n : Nat} {l r : List UInt8} {x : RuleT} (h : ruleP s n l = .ok x r) : r.length < l.length := by
  unfold ruleP at h
  split at h
  · cases h
  · rename_i h1
    have a1 := cat_len h1
    split at h
    · cases h
    · rename_i h2
      have a2 := colon_len h2
      split at h
      · cases h
      · rename_i x3 r3 h3
        have a3 := body_len h3
        have a5 := smpR_le r3
        cases h
        omega
end Florin

namespace Go.Proofs.YtkjhdehpcanciaaGreatDoor
open Go.RowKit Florin
set_option linter.unusedVariables false
set_option linter.unusedSimpArgs false
attribute [local go_sem ↓] Go.wp_at_zero Go.wp_at_succ

theorem num_0 (b : Nat) (T : ByteArray) (p : Nat) (f : Nat → Bool) (n : Nat) (l : List UInt8) (w : World) (h : Rd w b T p f n) (ha : At T p l) (hT : T.size ≤ 1000000) :
    Calls Tryz.prog 152 #[.pointer (some ⟨b, 0, none⟩), .int .i64 0] w (Told b T f n w (fun _ x v => v = .int .i64 ((x : Nat) : Int)) (numP 0 l)) := num_as 0 b T p f n l w h ha hT
theorem num_1 (b : Nat) (T : ByteArray) (p : Nat) (f : Nat → Bool) (n : Nat) (l : List UInt8) (w : World) (h : Rd w b T p f n) (ha : At T p l) (hT : T.size ≤ 1000000) :
    Calls Tryz.prog 152 #[.pointer (some ⟨b, 0, none⟩), .int .i64 1] w (Told b T f n w (fun _ x v => v = .int .i64 ((x : Nat) : Int)) (numP 1 l)) := num_as 1 b T p f n l w h ha hT

set_option maxRecDepth 100000 in
set_option maxHeartbeats 1600000 in
theorem range_b1 (c : Int) (m : List UInt8) (b : Nat) (T : ByteArray) (p : Nat) (f : Nat → Bool) (n : Nat) (l : List UInt8) (w : World) (h : Rd w b T p f n) (ha : At T p l) (hT : T.size ≤ 1000000) (hN : numP 0 l = .bad c m) :
    Calls Tryz.prog 161 #[.pointer (some ⟨b, 0, none⟩)] w (Told b T f n w (fun _ x v => v = .agg #[.int .i64 ((x.1 : Nat) : Int), .int .i64 ((x.2 : Nat) : Int)]) (rangeP l)) := by
  have R0 := Lib.hid h
  have A0 := Lib.hid ha
  have HhN := Lib.hid hN
  have HX : Hid (rangeP l = .bad c m) := Lib.hid (by unfold rangeP; rw [hN])
  clear h ha hN
  go_enter Tryz.func161, Tryz.ntmps161
  go_wp2_with fail
  with_reducible refine (num_0 b T p f n l _ (R0.out.alloc _) A0.out hT).mono ?_
  intro x w1 ht
  rw [HhN.out] at ht
  obtain ⟨qe, rfl, hat, hg⟩ := ht
  have HGE := Lib.hid (HeldR.keep (HeldR.alloc (HeldR.refl R0.out.lt) (w.heap.size) #[.int .i64 0, .int .i64 0] 64 (by first | rfl | simp)) hg).gr
  have HAE := Lib.hid hat
  clear hat hg
  go_wp2
  refine ⟨rfl, ?_⟩
  show Told _ _ _ _ _ _ (rangeP l) _ _
  rw [HX.out]
  exact ⟨qe, rfl, HAE.out, HGE.out⟩

set_option maxRecDepth 100000 in
set_option maxHeartbeats 1600000 in
theorem range_o1 (lo : Nat) (m : List UInt8) (b : Nat) (T : ByteArray) (p : Nat) (f : Nat → Bool) (n : Nat) (l : List UInt8) (w : World) (h : Rd w b T p f n) (ha : At T p l) (hT : T.size ≤ 1000000) (hN : numP 0 l = .ok lo m) (hk : tk [46, 46] m = false) :
    Calls Tryz.prog 161 #[.pointer (some ⟨b, 0, none⟩)] w (Told b T f n w (fun _ x v => v = .agg #[.int .i64 ((x.1 : Nat) : Int), .int .i64 ((x.2 : Nat) : Int)]) (rangeP l)) := by
  have R0 := Lib.hid h
  have A0 := Lib.hid ha
  have HhN := Lib.hid hN
  have Hhk := Lib.hid hk
  have HX : Hid (rangeP l = .ok (lo, lo) (tkR [46, 46] m)) := Lib.hid (by unfold rangeP; rw [hN]; simp only; rw [if_neg (by rw [hk]; decide)])
  clear h ha hN hk
  go_enter Tryz.func161, Tryz.ntmps161
  go_wp2_with fail
  with_reducible refine (num_0 b T p f n l _ (R0.out.alloc _) A0.out hT).mono ?_
  intro x w1 ht
  rw [HhN.out] at ht
  obtain ⟨v1, q1, rfl, hv, hat, hr, hg⟩ := ht
  obtain rfl := hv
  have H1 : Hid (HeldR w b [(w.heap.size, #[.int .i64 0, .int .i64 0], 64)] w1) := Lib.hid (HeldR.keep (HeldR.alloc (HeldR.refl R0.out.lt) (w.heap.size) #[.int .i64 0, .int .i64 0] 64 (by first | rfl | simp)) hg)
  have R1 := Lib.hid hr
  have A1 := Lib.hid hat
  clear hat hr hg
  have bx0 : w1.cell? ⟨w.heap.size, 0, none⟩ = some (.int .i64 0) := (H1.out.f (List.Mem.head _)).box.cell 0
  have bxz0 : w1.frozen? ⟨w.heap.size, 0, none⟩ = false := (H1.out.f (List.Mem.head _)).box.frozen 0
  have bx1 : w1.cell? ⟨w.heap.size, 1, none⟩ = some (.int .i64 0) := (H1.out.f (List.Mem.head _)).box.cell 1
  have bxz1 : w1.frozen? ⟨w.heap.size, 1, none⟩ = false := (H1.out.f (List.Mem.head _)).box.frozen 1
  have bxl : w.heap.size < w1.heap.size := (H1.out.f (List.Mem.head _)).box.lt
  have rc0 := R1.out.c0
  have rc1 := R1.out.c1
  have rc8 := R1.out.c8
  have rz1 := R1.out.z 1
  have rz8 := R1.out.z 9
  have rl := R1.out.lt
  go_wp2_with fail
  with_reducible refine (takes_false [46, 46] b T _ f n m _ R1.out A1.out hT Hhk.out).mono ?_
  rintro x w2 ⟨q2, rfl, hat, hr, hg⟩
  have H2 : Hid (HeldR w b [(w.heap.size, #[.int .i64 0, .int .i64 0], 64)] w2) := Lib.hid (HeldR.keep H1.out hg)
  clear bx0 bxz0 bx1 bxz1 bxl rc0 rc1 rc8 rz1 rz8 rl
  have R2 := Lib.hid hr
  have A2 := Lib.hid hat
  clear hat hr hg H1 R1 A1
  have bx0 : w2.cell? ⟨w.heap.size, 0, none⟩ = some (.int .i64 0) := (H2.out.f (List.Mem.head _)).box.cell 0
  have bxz0 : w2.frozen? ⟨w.heap.size, 0, none⟩ = false := (H2.out.f (List.Mem.head _)).box.frozen 0
  have bx1 : w2.cell? ⟨w.heap.size, 1, none⟩ = some (.int .i64 0) := (H2.out.f (List.Mem.head _)).box.cell 1
  have bxz1 : w2.frozen? ⟨w.heap.size, 1, none⟩ = false := (H2.out.f (List.Mem.head _)).box.frozen 1
  have bxl : w.heap.size < w2.heap.size := (H2.out.f (List.Mem.head _)).box.lt
  have rc0 := R2.out.c0
  have rc1 := R2.out.c1
  have rc8 := R2.out.c8
  have rz1 := R2.out.z 1
  have rz8 := R2.out.z 9
  have rl := R2.out.lt
  go_wp2
  refine bodyPost_ret (v := .agg #[.int .i64 ((lo : Nat) : Int), .int .i64 ((lo : Nat) : Int)]) (by simp [results, Tryz.results161, go_sem, bx0, bx1]) rfl ?_
  show Told _ _ _ _ _ _ (rangeP l) _ _
  rw [HX.out]
  exact ⟨_, _, rfl, rfl, A2.out, ((R2.out.other (a := ⟨w.heap.size, 0, none⟩) (HeldR.ne H2.out (List.Mem.head _)) (.int .i64 ((lo : Nat) : Int))).other (a := ⟨w.heap.size, 1, none⟩) (HeldR.ne H2.out (List.Mem.head _)) (.int .i64 ((lo : Nat) : Int))), ((HeldR.set1 (L1 := []) (L2 := []) (c := w.heap.size) (cs := #[.int .i64 ((lo : Nat) : Int), .int .i64 0]) (t := 64) (HeldR.set1 (L1 := []) (L2 := []) (c := w.heap.size) (cs := #[.int .i64 0, .int .i64 0]) (t := 64) H2.out 0 (.int .i64 ((lo : Nat) : Int))) 1 (.int .i64 ((lo : Nat) : Int)))).gr⟩

set_option maxRecDepth 100000 in
set_option maxHeartbeats 1600000 in
theorem range_b2 (lo : Nat) (m m2 : List UInt8) (c : Int) (b : Nat) (T : ByteArray) (p : Nat) (f : Nat → Bool) (n : Nat) (l : List UInt8) (w : World) (h : Rd w b T p f n) (ha : At T p l) (hT : T.size ≤ 1000000) (hN : numP 0 l = .ok lo m) (hk : tk [46, 46] m = true) (hM : numP lo (tkR [46, 46] m) = .bad c m2) :
    Calls Tryz.prog 161 #[.pointer (some ⟨b, 0, none⟩)] w (Told b T f n w (fun _ x v => v = .agg #[.int .i64 ((x.1 : Nat) : Int), .int .i64 ((x.2 : Nat) : Int)]) (rangeP l)) := by
  have R0 := Lib.hid h
  have A0 := Lib.hid ha
  have HhN := Lib.hid hN
  have Hhk := Lib.hid hk
  have HhM := Lib.hid hM
  have HX : Hid (rangeP l = .bad c m2) := Lib.hid (by unfold rangeP; rw [hN]; simp only; rw [if_pos hk, hM])
  clear h ha hN hk hM
  go_enter Tryz.func161, Tryz.ntmps161
  go_wp2_with fail
  with_reducible refine (num_0 b T p f n l _ (R0.out.alloc _) A0.out hT).mono ?_
  intro x w1 ht
  rw [HhN.out] at ht
  obtain ⟨v1, q1, rfl, hv, hat, hr, hg⟩ := ht
  obtain rfl := hv
  have H1 : Hid (HeldR w b [(w.heap.size, #[.int .i64 0, .int .i64 0], 64)] w1) := Lib.hid (HeldR.keep (HeldR.alloc (HeldR.refl R0.out.lt) (w.heap.size) #[.int .i64 0, .int .i64 0] 64 (by first | rfl | simp)) hg)
  have R1 := Lib.hid hr
  have A1 := Lib.hid hat
  clear hat hr hg
  have bx0 : w1.cell? ⟨w.heap.size, 0, none⟩ = some (.int .i64 0) := (H1.out.f (List.Mem.head _)).box.cell 0
  have bxz0 : w1.frozen? ⟨w.heap.size, 0, none⟩ = false := (H1.out.f (List.Mem.head _)).box.frozen 0
  have bx1 : w1.cell? ⟨w.heap.size, 1, none⟩ = some (.int .i64 0) := (H1.out.f (List.Mem.head _)).box.cell 1
  have bxz1 : w1.frozen? ⟨w.heap.size, 1, none⟩ = false := (H1.out.f (List.Mem.head _)).box.frozen 1
  have bxl : w.heap.size < w1.heap.size := (H1.out.f (List.Mem.head _)).box.lt
  have rc0 := R1.out.c0
  have rc1 := R1.out.c1
  have rc8 := R1.out.c8
  have rz1 := R1.out.z 1
  have rz8 := R1.out.z 9
  have rl := R1.out.lt
  go_wp2_with fail
  with_reducible refine (takes_true [46, 46] b T _ f n m _ R1.out A1.out hT Hhk.out).mono ?_
  rintro x w2 ⟨q2, rfl, hat, hr, hg⟩
  have H2 : Hid (HeldR w b [(w.heap.size, #[.int .i64 0, .int .i64 0], 64)] w2) := Lib.hid (HeldR.keep H1.out hg)
  clear bx0 bxz0 bx1 bxz1 bxl rc0 rc1 rc8 rz1 rz8 rl
  have R2 := Lib.hid hr
  have A2 := Lib.hid hat
  clear hat hr hg H1 R1 A1
  have bx0 : w2.cell? ⟨w.heap.size, 0, none⟩ = some (.int .i64 0) := (H2.out.f (List.Mem.head _)).box.cell 0
  have bxz0 : w2.frozen? ⟨w.heap.size, 0, none⟩ = false := (H2.out.f (List.Mem.head _)).box.frozen 0
  have bx1 : w2.cell? ⟨w.heap.size, 1, none⟩ = some (.int .i64 0) := (H2.out.f (List.Mem.head _)).box.cell 1
  have bxz1 : w2.frozen? ⟨w.heap.size, 1, none⟩ = false := (H2.out.f (List.Mem.head _)).box.frozen 1
  have bxl : w.heap.size < w2.heap.size := (H2.out.f (List.Mem.head _)).box.lt
  have rc0 := R2.out.c0
  have rc1 := R2.out.c1
  have rc8 := R2.out.c8
  have rz1 := R2.out.z 1
  have rz8 := R2.out.z 9
  have rl := R2.out.lt
  go_wp2_with fail
  with_reducible refine (num_as lo b T _ f n (tkR [46, 46] m) _ R2.out A2.out hT).mono ?_
  intro x w3 ht
  rw [HhM.out] at ht
  obtain ⟨qe, rfl, hat, hg⟩ := ht
  have HGE := Lib.hid (HeldR.keep H2.out hg).gr
  have HAE := Lib.hid hat
  clear hat hg
  clear bx0 bxz0 bx1 bxz1 bxl rc0 rc1 rc8 rz1 rz8 rl
  go_wp2
  refine ⟨rfl, ?_⟩
  show Told _ _ _ _ _ _ (rangeP l) _ _
  rw [HX.out]
  exact ⟨qe, rfl, HAE.out, HGE.out⟩

set_option maxRecDepth 100000 in
set_option maxHeartbeats 1600000 in
theorem range_o2 (lo hi : Nat) (m m2 : List UInt8) (b : Nat) (T : ByteArray) (p : Nat) (f : Nat → Bool) (n : Nat) (l : List UInt8) (w : World) (h : Rd w b T p f n) (ha : At T p l) (hT : T.size ≤ 1000000) (hN : numP 0 l = .ok lo m) (hk : tk [46, 46] m = true) (hM : numP lo (tkR [46, 46] m) = .ok hi m2) :
    Calls Tryz.prog 161 #[.pointer (some ⟨b, 0, none⟩)] w (Told b T f n w (fun _ x v => v = .agg #[.int .i64 ((x.1 : Nat) : Int), .int .i64 ((x.2 : Nat) : Int)]) (rangeP l)) := by
  have R0 := Lib.hid h
  have A0 := Lib.hid ha
  have HhN := Lib.hid hN
  have Hhk := Lib.hid hk
  have HhM := Lib.hid hM
  have HX : Hid (rangeP l = .ok (lo, hi) m2) := Lib.hid (by unfold rangeP; rw [hN]; simp only; rw [if_pos hk, hM])
  clear h ha hN hk hM
  go_enter Tryz.func161, Tryz.ntmps161
  go_wp2_with fail
  with_reducible refine (num_0 b T p f n l _ (R0.out.alloc _) A0.out hT).mono ?_
  intro x w1 ht
  rw [HhN.out] at ht
  obtain ⟨v1, q1, rfl, hv, hat, hr, hg⟩ := ht
  obtain rfl := hv
  have H1 : Hid (HeldR w b [(w.heap.size, #[.int .i64 0, .int .i64 0], 64)] w1) := Lib.hid (HeldR.keep (HeldR.alloc (HeldR.refl R0.out.lt) (w.heap.size) #[.int .i64 0, .int .i64 0] 64 (by first | rfl | simp)) hg)
  have R1 := Lib.hid hr
  have A1 := Lib.hid hat
  clear hat hr hg
  have bx0 : w1.cell? ⟨w.heap.size, 0, none⟩ = some (.int .i64 0) := (H1.out.f (List.Mem.head _)).box.cell 0
  have bxz0 : w1.frozen? ⟨w.heap.size, 0, none⟩ = false := (H1.out.f (List.Mem.head _)).box.frozen 0
  have bx1 : w1.cell? ⟨w.heap.size, 1, none⟩ = some (.int .i64 0) := (H1.out.f (List.Mem.head _)).box.cell 1
  have bxz1 : w1.frozen? ⟨w.heap.size, 1, none⟩ = false := (H1.out.f (List.Mem.head _)).box.frozen 1
  have bxl : w.heap.size < w1.heap.size := (H1.out.f (List.Mem.head _)).box.lt
  have rc0 := R1.out.c0
  have rc1 := R1.out.c1
  have rc8 := R1.out.c8
  have rz1 := R1.out.z 1
  have rz8 := R1.out.z 9
  have rl := R1.out.lt
  go_wp2_with fail
  with_reducible refine (takes_true [46, 46] b T _ f n m _ R1.out A1.out hT Hhk.out).mono ?_
  rintro x w2 ⟨q2, rfl, hat, hr, hg⟩
  have H2 : Hid (HeldR w b [(w.heap.size, #[.int .i64 0, .int .i64 0], 64)] w2) := Lib.hid (HeldR.keep H1.out hg)
  clear bx0 bxz0 bx1 bxz1 bxl rc0 rc1 rc8 rz1 rz8 rl
  have R2 := Lib.hid hr
  have A2 := Lib.hid hat
  clear hat hr hg H1 R1 A1
  have bx0 : w2.cell? ⟨w.heap.size, 0, none⟩ = some (.int .i64 0) := (H2.out.f (List.Mem.head _)).box.cell 0
  have bxz0 : w2.frozen? ⟨w.heap.size, 0, none⟩ = false := (H2.out.f (List.Mem.head _)).box.frozen 0
  have bx1 : w2.cell? ⟨w.heap.size, 1, none⟩ = some (.int .i64 0) := (H2.out.f (List.Mem.head _)).box.cell 1
  have bxz1 : w2.frozen? ⟨w.heap.size, 1, none⟩ = false := (H2.out.f (List.Mem.head _)).box.frozen 1
  have bxl : w.heap.size < w2.heap.size := (H2.out.f (List.Mem.head _)).box.lt
  have rc0 := R2.out.c0
  have rc1 := R2.out.c1
  have rc8 := R2.out.c8
  have rz1 := R2.out.z 1
  have rz8 := R2.out.z 9
  have rl := R2.out.lt
  go_wp2_with fail
  with_reducible refine (num_as lo b T _ f n (tkR [46, 46] m) _ R2.out A2.out hT).mono ?_
  intro x w3 ht
  rw [HhM.out] at ht
  obtain ⟨v3, q3, rfl, hv, hat, hr, hg⟩ := ht
  obtain rfl := hv
  have H3 : Hid (HeldR w b [(w.heap.size, #[.int .i64 0, .int .i64 0], 64)] w3) := Lib.hid (HeldR.keep H2.out hg)
  clear bx0 bxz0 bx1 bxz1 bxl rc0 rc1 rc8 rz1 rz8 rl
  have R3 := Lib.hid hr
  have A3 := Lib.hid hat
  clear hat hr hg H2 R2 A2
  have bx0 : w3.cell? ⟨w.heap.size, 0, none⟩ = some (.int .i64 0) := (H3.out.f (List.Mem.head _)).box.cell 0
  have bxz0 : w3.frozen? ⟨w.heap.size, 0, none⟩ = false := (H3.out.f (List.Mem.head _)).box.frozen 0
  have bx1 : w3.cell? ⟨w.heap.size, 1, none⟩ = some (.int .i64 0) := (H3.out.f (List.Mem.head _)).box.cell 1
  have bxz1 : w3.frozen? ⟨w.heap.size, 1, none⟩ = false := (H3.out.f (List.Mem.head _)).box.frozen 1
  have bxl : w.heap.size < w3.heap.size := (H3.out.f (List.Mem.head _)).box.lt
  have rc0 := R3.out.c0
  have rc1 := R3.out.c1
  have rc8 := R3.out.c8
  have rz1 := R3.out.z 1
  have rz8 := R3.out.z 9
  have rl := R3.out.lt
  go_wp2
  refine bodyPost_ret (v := .agg #[.int .i64 ((lo : Nat) : Int), .int .i64 ((hi : Nat) : Int)]) (by simp [results, Tryz.results161, go_sem, bx0, bx1]) rfl ?_
  show Told _ _ _ _ _ _ (rangeP l) _ _
  rw [HX.out]
  exact ⟨_, _, rfl, rfl, A3.out, ((R3.out.other (a := ⟨w.heap.size, 0, none⟩) (HeldR.ne H3.out (List.Mem.head _)) (.int .i64 ((lo : Nat) : Int))).other (a := ⟨w.heap.size, 1, none⟩) (HeldR.ne H3.out (List.Mem.head _)) (.int .i64 ((hi : Nat) : Int))), ((HeldR.set1 (L1 := []) (L2 := []) (c := w.heap.size) (cs := #[.int .i64 ((lo : Nat) : Int), .int .i64 0]) (t := 64) (HeldR.set1 (L1 := []) (L2 := []) (c := w.heap.size) (cs := #[.int .i64 0, .int .i64 0]) (t := 64) H3.out 0 (.int .i64 ((lo : Nat) : Int))) 1 (.int .i64 ((hi : Nat) : Int)))).gr⟩

theorem range_as (b : Nat) (T : ByteArray) (p : Nat) (f : Nat → Bool) (n : Nat) (l : List UInt8) (w : World) (h : Rd w b T p f n) (ha : At T p l) (hT : T.size ≤ 1000000) :
    Calls Tryz.prog 161 #[.pointer (some ⟨b, 0, none⟩)] w (Told b T f n w (fun _ x v => v = .agg #[.int .i64 ((x.1 : Nat) : Int), .int .i64 ((x.2 : Nat) : Int)]) (rangeP l)) := by
  cases hN : numP 0 l with
  | bad c m => exact range_b1 c m b T p f n l w h ha hT hN
  | ok lo m => cases hk : tk [46, 46] m with
    | false => exact range_o1 lo m b T p f n l w h ha hT hN hk
    | true => cases hM : numP lo (tkR [46, 46] m) with
      | bad c m2 => exact range_b2 lo m m2 c b T p f n l w h ha hT hN hk hM
      | ok hi m2 => exact range_o2 lo hi m m2 b T p f n l w h ha hT hN hk hM
end Go.Proofs.YtkjhdehpcanciaaGreatDoor

namespace Go.Proofs.YtkjhdehpcanciaaGreatDoor
open Go.RowKit Florin
set_option linter.unusedVariables false
set_option linter.unusedSimpArgs false
attribute [local go_sem ↓] Go.wp_at_zero Go.wp_at_succ

theorem HeldR.of {w W : World} {b : Nat} (hb : b < w.heap.size) (hg : w.grownBy W (some b)) : HeldR w b [] W := ⟨fun _ h => (List.not_mem_nil h).elim, fun _ h => (List.not_mem_nil h).elim, List.Pairwise.nil, hb, hg⟩
theorem grown_own {w a c : World} {b : Nat} {r : Option Nat} (h : w.grownBy a (some b)) (hg : a.grownBy c r) (hr : ∀ k, r = some k → w.heap.size ≤ k) : w.grownBy c (some b) :=
  ⟨hg.os.trans h.os, hg.tape.trans h.tape, hg.output.trans h.output, Nat.le_trans h.size hg.size, fun i hi hn => (hg.block i (Nat.lt_of_lt_of_le hi h.size) (fun e => by have := hr i e.symm; omega)).trans (h.block i hi hn)⟩
theorem lit_cells (w : World) (cs : Array Value) (e : TypeId) : ∀ j u, cs.toList[j]? = some u → (w.alloc (.cells cs e)).cell? ((⟨w.heap.size, 0, none⟩ : Addr).add j) = some u := by
  intro j u hu
  have h := (BoxT.new w cs e).box.cell j
  have : cs[j]? = some u := by rw [← hu]; simp
  rw [this] at h
  rw [show (⟨w.heap.size, 0, none⟩ : Addr).add j = ⟨w.heap.size, j, none⟩ by unfold Addr.add; split <;> simp_all]
  exact h
theorem Rngs.kept {w w' : World} {r : Option Nat} {base : Nat} {xs : List (Nat × Nat)} {v : Value} (h : Rngs w base xs v) (hg : w.grownBy w' r) (ha : Apart w r [64]) : Rngs w' base xs v := own_tag h hg (ha _ (by simp))
theorem rngC_snoc (xs : List (Nat × Nat)) (a c : Nat) : rngC (xs ++ [(a, c)]) = rngC xs ++ [.int .i64 (a : Int), .int .i64 (c : Int)] := by unfold rngC; rw [List.flatMap_append]; rfl
theorem own_ne {w : World} {base : Nat} {e : TypeId} {size : Nat} {v : Value} {n : Nat} {xs : List Value} (h : w.ownsRow base e size v n xs) {b : Nat} (hb : b < base) : some b ≠ v.ownBlock := by
  intro hh; have := (h.lt b hh.symm).1; omega
theorem infoRange : (Tryz.prog.info? 64).map (fun i => (i.zero, i.size, i.bytes)) = some (some (.agg #[.int .i64 0, .int .i64 0]), 2, 16) := by kernel_rfl

set_option maxRecDepth 100000 in
set_option maxHeartbeats 1600000 in
theorem ranges_b (c : Int) (m : List UInt8) (b : Nat) (T : ByteArray) (p : Nat) (f : Nat → Bool) (n : Nat) (l : List UInt8) (w : World) (h : Rd w b T p f n) (ha : At T p l) (hT : T.size ≤ 1000000) (hN : rangeP l = .bad c m) :
    Calls Tryz.prog 153 #[.pointer (some ⟨b, 0, none⟩)] w (Told b T f n w (fun w' x v => Rngs w' w.heap.size x v) (rangesP l)) := by
  have R0 := Lib.hid h
  have A0 := Lib.hid ha
  have HhN := Lib.hid hN
  have HX : Hid (rangesP l = .bad c m) := Lib.hid (by unfold rangesP; rw [hN])
  clear h ha hN
  go_enter Tryz.func153, Tryz.ntmps153
  go_wp2_with fail
  with_reducible refine (range_as b T p f n l _ R0.out A0.out hT).mono ?_
  intro x w1 ht
  rw [HhN.out] at ht
  obtain ⟨qe, rfl, hat, hg⟩ := ht
  have HGE := Lib.hid (HeldR.keep (HeldR.refl R0.out.lt) hg).gr
  have HAE := Lib.hid hat
  clear hat hg
  go_wp2
  refine ⟨rfl, ?_⟩
  show Told _ _ _ _ _ _ (rangesP l) _ _
  rw [HX.out]
  exact ⟨qe, rfl, HAE.out, HGE.out⟩

set_option maxRecDepth 100000 in
set_option maxHeartbeats 3200000 in
theorem ranges_o (x1 x2 : Nat) (r : List UInt8) (b : Nat) (T : ByteArray) (p : Nat) (f : Nat → Bool) (n : Nat) (l : List UInt8) (w : World) (h : Rd w b T p f n) (ha : At T p l) (hT : T.size ≤ 1000000) (hN : rangeP l = .ok (x1, x2) r) :
    Calls Tryz.prog 153 #[.pointer (some ⟨b, 0, none⟩)] w (Told b T f n w (fun w' x v => Rngs w' w.heap.size x v) (rangesP l)) := by
  have R0 := Lib.hid h
  have A0 := Lib.hid ha
  have HhN := Lib.hid hN
  have HX : Hid (rangesP l = rangesL (r.length + 1) [(x1, x2)] r) := Lib.hid (by unfold rangesP; rw [hN])
  have hbl := h.lt
  have HBL := Lib.hid hbl
  have HRL : Hid (1 + r.length ≤ T.size + 1) := Lib.hid (by have h1 := range_len hN; have h2 := ha.len; omega)
  clear h ha hN hbl
  go_enter Tryz.func153, Tryz.ntmps153
  go_wp2_with fail
  with_reducible refine (range_as b T p f n l _ R0.out A0.out hT).mono ?_
  intro x w1 ht
  rw [HhN.out] at ht
  obtain ⟨v1, q1, rfl, hv, hat, hr, hg⟩ := ht
  obtain rfl := hv
  have H1 : Hid (HeldR w b [] w1) := Lib.hid (HeldR.keep (HeldR.refl R0.out.lt) hg)
  have R1 := Lib.hid hr
  have A1 := Lib.hid hat
  clear hat hr hg
  have rc0 := R1.out.c0
  have rc1 := R1.out.c1
  have rc8 := R1.out.c8
  have rz1 := R1.out.z 1
  have rz8 := R1.out.z 9
  have rl := R1.out.lt
  go_wp2_with fail
  clear rc0 rc1 rc8 rz1 rz8 rl
  go_loopg [3] (r.length + 1) (fun k v wr => ∃ (p1 : Nat) (m : List UInt8) (acc : List (Nat × Nat)), m.length < k ∧ acc.length + m.length ≤ T.size + 1 ∧ rangesL k acc m = rangesP l ∧ At T p1 m ∧ Rd wr b T p1 f n ∧ Rngs wr w.heap.size acc v ∧ w.grownBy wr (some b))
  case atStart => exact ⟨_, r, [(x1, x2)], by omega, HRL.out, HX.out.symm, A1.out, (R1.out.alloc _), World.ownsRow_lit _ _ 1 (H1.out).gr.size (by decide) rfl, ((HeldR.alloc H1.out (w1.heap.size) #[.int .i64 ((x1 : Nat) : Int), .int .i64 ((x2 : Nat) : Int)] 64 (by first | rfl | simp))).gr⟩
  case round =>
    obtain ⟨p1, m, acc, hmk, hal, hre, hat, hr, how, hgr⟩ := hrel
    obtain ⟨k0, rfl⟩ : ∃ k0, gk = k0 + 1 := ⟨gk - 1, by omega⟩
    have HRE := Lib.hid hre
    have A5 := Lib.hid hat
    have R5 := Lib.hid hr
    have OW5 := Lib.hid how
    have H5 := Lib.hid (HeldR.of HBL.out hgr)
    clear hre hat hr how hgr H1 R1 A1
    cases hk : tk [44] m with
    | false =>
      have HK := Lib.hid hk
      have HX2 : Hid (rangesP l = .ok acc (tkR [44] m)) := Lib.hid (by rw [← HRE.out]; unfold rangesL; rw [if_neg (by rw [hk]; decide)])
      clear hk
      have rc0 := R5.out.c0
      have rc1 := R5.out.c1
      have rc8 := R5.out.c8
      have rz1 := R5.out.z 1
      have rz8 := R5.out.z 9
      have rl := R5.out.lt
      go_wp2_with fail
      with_reducible refine (takes_false [44] b T _ f n m _ R5.out A5.out hT HK.out).mono ?_
      rintro x w6 ⟨q6, rfl, hat, hr, hg⟩
      have H6 : Hid (HeldR w b [] w6) := Lib.hid (HeldR.keep H5.out hg)
      have OW6 : Hid (Rngs w6 w.heap.size acc u3) := Lib.hid (Rngs.kept OW5.out hg (Rd.apart R5.out (by decide)))
      clear rc0 rc1 rc8 rz1 rz8 rl
      have R6 := Lib.hid hr
      have A6 := Lib.hid hat
      clear hat hr hg H5 R5 A5 OW5
      have rc0 := R6.out.c0
      have rc1 := R6.out.c1
      have rc8 := R6.out.c8
      have rz1 := R6.out.z 1
      have rz8 := R6.out.z 9
      have rl := R6.out.lt
      go_wp2
      go_ret
      show Told _ _ _ _ _ _ (rangesP l) _ _
      rw [HX2.out]
      exact ⟨_, _, rfl, OW6.out, A6.out, R6.out, H6.out.gr⟩
    | true =>
      have HK := Lib.hid hk
      have hmx := tkR_lt hk (by simp)
      cases hM : rangeP (tkR [44] m) with
      | bad c m2 =>
        have HM := Lib.hid hM
        have HX2 : Hid (rangesP l = .bad c m2) := Lib.hid (by rw [← HRE.out]; unfold rangesL; rw [if_pos hk, hM])
        clear hk hM
        have rc0 := R5.out.c0
        have rc1 := R5.out.c1
        have rc8 := R5.out.c8
        have rz1 := R5.out.z 1
        have rz8 := R5.out.z 9
        have rl := R5.out.lt
        go_wp2_with fail
        with_reducible refine (takes_true [44] b T _ f n m _ R5.out A5.out hT HK.out).mono ?_
        rintro x w6 ⟨q6, rfl, hat, hr, hg⟩
        have H6 : Hid (HeldR w b [] w6) := Lib.hid (HeldR.keep H5.out hg)
        have OW6 : Hid (Rngs w6 w.heap.size acc u3) := Lib.hid (Rngs.kept OW5.out hg (Rd.apart R5.out (by decide)))
        clear rc0 rc1 rc8 rz1 rz8 rl
        have R6 := Lib.hid hr
        have A6 := Lib.hid hat
        clear hat hr hg H5 R5 A5 OW5
        have rc0 := R6.out.c0
        have rc1 := R6.out.c1
        have rc8 := R6.out.c8
        have rz1 := R6.out.z 1
        have rz8 := R6.out.z 9
        have rl := R6.out.lt
        go_wp2_with fail
        with_reducible refine (range_as b T _ f n (tkR [44] m) _ R6.out A6.out hT).mono ?_
        intro x w7 ht
        rw [HM.out] at ht
        obtain ⟨qe, rfl, hat, hg⟩ := ht
        have HGE := Lib.hid (HeldR.keep H6.out hg).gr
        have HAE := Lib.hid hat
        clear hat hg
        clear rc0 rc1 rc8 rz1 rz8 rl
        go_wp2
        refine ⟨rfl, ?_⟩
        show Told _ _ _ _ _ _ (rangesP l) _ _
        rw [HX2.out]
        exact ⟨qe, rfl, HAE.out, HGE.out⟩
      | ok xx m2 =>
        obtain ⟨y1, y2⟩ := xx
        have HM := Lib.hid hM
        have hml := range_len hM
        have HX2 : Hid (rangesL k0 (acc ++ [(y1, y2)]) m2 = rangesP l) := Lib.hid (by rw [← HRE.out]; conv => rhs; unfold rangesL; rw [if_pos hk, hM])
        clear hk hM
        have rc0 := R5.out.c0
        have rc1 := R5.out.c1
        have rc8 := R5.out.c8
        have rz1 := R5.out.z 1
        have rz8 := R5.out.z 9
        have rl := R5.out.lt
        go_wp2_with fail
        with_reducible refine (takes_true [44] b T _ f n m _ R5.out A5.out hT HK.out).mono ?_
        rintro x w6 ⟨q6, rfl, hat, hr, hg⟩
        have H6 : Hid (HeldR w b [] w6) := Lib.hid (HeldR.keep H5.out hg)
        have OW6 : Hid (Rngs w6 w.heap.size acc u3) := Lib.hid (Rngs.kept OW5.out hg (Rd.apart R5.out (by decide)))
        clear rc0 rc1 rc8 rz1 rz8 rl
        have R6 := Lib.hid hr
        have A6 := Lib.hid hat
        clear hat hr hg H5 R5 A5 OW5
        have rc0 := R6.out.c0
        have rc1 := R6.out.c1
        have rc8 := R6.out.c8
        have rz1 := R6.out.z 1
        have rz8 := R6.out.z 9
        have rl := R6.out.lt
        go_wp2_with fail
        with_reducible refine (range_as b T _ f n (tkR [44] m) _ R6.out A6.out hT).mono ?_
        intro x w7 ht
        rw [HM.out] at ht
        obtain ⟨v7, q7, rfl, hv, hat, hr, hg⟩ := ht
        obtain rfl := hv
        have H7 : Hid (HeldR w b [] w7) := Lib.hid (HeldR.keep H6.out hg)
        have OW7 : Hid (Rngs w7 w.heap.size acc u3) := Lib.hid (Rngs.kept OW6.out hg (Rd.apart R6.out (by decide)))
        clear rc0 rc1 rc8 rz1 rz8 rl
        have R7 := Lib.hid hr
        have A7 := Lib.hid hat
        clear hat hr hg H6 R6 A6 OW6
        have rc0 := R7.out.c0
        have rc1 := R7.out.c1
        have rc8 := R7.out.c8
        have rz1 := R7.out.z 1
        have rz8 := R7.out.z 9
        have rl := R7.out.lt
        obtain ⟨i0, hi, hz0, hz1, hz2⟩ := info_parts infoRange
        have hsz := H7.out.gr.size
        go_wp2_with (at_builtin; refine wpList_append_own _ rfl _ _ 48 rfl w.heap.size 64 i0 (.agg #[.int .i64 0, .int .i64 0]) 2 16 Tryz.underlying48 hi hz0 hz1 hz2 rfl (by decide) _ _ _ rfl (OW7.out.alloc _) ⟨w7.heap.size, 0, none⟩ 1 1 [.int .i64 ((y1 : Nat) : Int), .int .i64 ((y2 : Nat) : Int)] rfl rfl (lit_cells w7 #[.int .i64 ((y1 : Nat) : Int), .int .i64 ((y2 : Nat) : Int)] 64) (by simp [Value.oneCell']) (by unfold maxLen; omega) (by omega) (by simp; omega) ?_; intro v8 w8 hown8 hgr8 _)
        have OW8 : Hid (Rngs w8 w.heap.size (acc ++ [(y1, y2)]) v8) := Lib.hid (by show w8.ownsRow _ _ _ _ _ _; rw [rngC_snoc, List.length_append]; exact hown8)
        have R8 := Lib.hid ((R7.out.alloc (.cells #[.int .i64 ((y1 : Nat) : Int), .int .i64 ((y2 : Nat) : Int)] 64)).grown hgr8 (own_ne OW7.out HBL.out))
        have G8 := Lib.hid (grown_own (grown_alloc H7.out.gr (.cells #[.int .i64 ((y1 : Nat) : Int), .int .i64 ((y2 : Nat) : Int)] 64)) hgr8 (fun k hk => (OW7.out.lt k hk).1))
        clear rc0 rc1 rc8 rz1 rz8 rl
        clear hown8 hgr8 hsz hi hz0 hz1 hz2 H7 R7 OW7
        go_wp2
        go_roundg k0
        case measure => omega
        case rel => exact ⟨_, m2, acc ++ [(y1, y2)], by omega, by rw [List.length_append]; simp; omega, HX2.out, A7.out, R8.out, OW8.out, G8.out⟩

theorem ranges_as (b : Nat) (T : ByteArray) (p : Nat) (f : Nat → Bool) (n : Nat) (l : List UInt8) (w : World) (h : Rd w b T p f n) (ha : At T p l) (hT : T.size ≤ 1000000) :
    Calls Tryz.prog 153 #[.pointer (some ⟨b, 0, none⟩)] w (Told b T f n w (fun w' x v => Rngs w' w.heap.size x v) (rangesP l)) := by
  cases hN : rangeP l with
  | bad c m => exact ranges_b c m b T p f n l w h ha hT hN
  | ok x r => obtain ⟨x1, x2⟩ := x; exact ranges_o x1 x2 r b T p f n l w h ha hT hN
end Go.Proofs.YtkjhdehpcanciaaGreatDoor

namespace Go.Proofs.YtkjhdehpcanciaaGreatDoor
open Go.RowKit Florin
set_option linter.unusedVariables false
set_option linter.unusedSimpArgs false
attribute [local go_sem ↓] Go.wp_at_zero Go.wp_at_succ

theorem own_slice {w : World} {base : Nat} {e : TypeId} {size : Nat} {v : Value} {n : Nat} {xs : List Value} (h : w.ownsRow base e size v n xs) : ∃ a m c, v = .slice a m c := by
  rcases h.2 with ⟨rfl, _⟩ | ⟨g, cap, cur, rfl, _⟩
  · exact ⟨_, _, _, rfl⟩
  · exact ⟨_, _, _, rfl⟩
theorem indexByte_mem (l : List UInt8) (c : UInt8) : decide (0 ≤ Lib.indexByte l c) = l.contains c := by
  induction l with
  | nil => rfl
  | cons a t ih =>
    rw [Lib.indexByte]
    by_cases h : a = c
    · subst h; simp
    · have h1 : (a == c) = false := by simpa using h
      have h2 : (c == a) = false := by simpa using fun e : c = a => h e.symm
      rw [List.contains_cons, h2, Bool.false_or, ← ih]
      simp only [h1]
      by_cases h3 : Lib.indexByte t c = -1
      · simp [h3, h]
      · have h4 : (Lib.indexByte t c == -1) = false := by simpa using h3
        simp [h4, h]
        omega
theorem cont_as (c : UInt8) (r : Bool) (w : World) (h : opsB.contains c = r) :
    Calls Tryz.prog 158 #[.string ⟨#[110, 105, 118, 119, 102, 116, 99, 101]⟩, .string ⟨#[c]⟩] w fun e w' => e = .returned (.bool r) ∧ w = w' :=
  (Tryz.strings_Contains_one ⟨#[110, 105, 118, 119, 102, 116, 99, 101]⟩ c w).mono fun e w' ⟨he, hw⟩ => ⟨by rw [he, indexByte_mem, ← h]; rfl, hw.symm⟩

set_option maxRecDepth 100000 in
set_option maxHeartbeats 3200000 in
theorem oper_as (b : Nat) (T : ByteArray) (p : Nat) (f : Nat → Bool) (n : Nat) (l : List UInt8) (w : World) (h : Rd w b T p f n) (ha : At T p l) (hT : T.size ≤ 1000000) (hn : n ≤ 200) :
    Calls Tryz.prog 151 #[.pointer (some ⟨b, 0, none⟩)] w (Told b T f (n + 1) w (fun _ x v => v = .int .u8 ((x : UInt8).toNat : Int)) (operP n l)) := by
  have HR := Lib.hid h
  have HA := Lib.hid ha
  clear h ha
  go_enter Tryz.func151, Tryz.ntmps151
  go_wp2_with fail
  with_reducible refine (runL_b b T p f n l _ HR.out HA.out hT).mono ?_
  rintro x w1 ⟨s, q, q2, rfl, hs, hat, hat2, hr, hg⟩
  have HS := Lib.hid hs
  have HM := Lib.hid hat
  have HM2 := Lib.hid hat2
  have HR2 := Lib.hid hr
  have HG := Lib.hid hg
  have c8 := hr.c8
  have z8 := hr.z 9
  have bl := hr.lt
  have hsz : s.size = (wd isL l).length := by rw [← hs, size_list]
  have HSZ := Lib.hid hsz
  clear hs hat hat2 hr hg HR HA hsz
  by_cases h1 : (wd isL l).length = 1
  · obtain ⟨c, hc⟩ := List.length_eq_one_iff.1 h1
    obtain rfl : s = ⟨#[c]⟩ := byte_of (by rw [HS.out, hc])
    clear h1 HSZ
    cases hk : opsB.contains c with
    | false =>
      have HK := Lib.hid hk
      have HN : Hid (operP n l = .bad 1 (sk l)) := Lib.hid (by unfold operP; rw [hc]; simp only; rw [if_neg (by rw [hk]; decide)])
      clear hk hc
      go_wp2_with fail
      with_reducible refine (cont_as c false _ HK.out).mono ?_
      rintro x wz ⟨rfl, rfl⟩
      go_wp2_with fail
      with_reducible refine (giveUp_as 1 q _).mono ?_
      rintro x wz ⟨rfl, rfl⟩
      go_wp2
      refine ⟨rfl, ?_⟩
      show Told _ _ _ _ _ _ (operP n l) _ _
      rw [HN.out]
      exact ⟨q, rfl, HM.out, HG.out⟩
    | true =>
      have HK := Lib.hid hk
      have HC := Lib.hid hc
      clear hk hc
      go_wp2_with fail
      with_reducible refine (cont_as c true _ HK.out).mono ?_
      rintro x wz ⟨rfl, rfl⟩
      by_cases hn2 : n = 200
      · have HN : Hid (operP n l = .bad 4 (sk l)) := Lib.hid (by unfold operP; rw [HC.out]; simp only; rw [if_pos HK.out, if_pos hn2])
        subst hn2
        go_wp2_with fail
        with_reducible refine (giveUp_as 4 q _).mono ?_
        rintro x wz ⟨rfl, rfl⟩
        go_wp2
        refine ⟨rfl, ?_⟩
        show Told _ _ _ _ _ _ (operP 200 l) _ _
        rw [HN.out]
        exact ⟨q, rfl, HM.out, HG.out⟩
      · have hni : ¬ (n : Int) = 200 := by omega
        have HN : Hid (operP n l = .ok c (wdR isL l)) := Lib.hid (by unfold operP; rw [HC.out]; simp only; rw [if_pos HK.out, if_neg hn2])
        go_wp2
        go_ret
        show Told _ _ _ _ _ _ (operP n l) _ _
        rw [HN.out]
        exact ⟨_, q2, rfl, rfl, HM2.out, HR2.out.more (n + 1), grown_set HG.out 9 _⟩
  · have hz : ¬ (s.size : Int) = 1 := by rw [HSZ.out]; omega
    have HN : Hid (operP n l = .bad 1 (sk l)) := Lib.hid (by
      unfold operP
      split
      · rename_i hc; rw [hc] at h1; exact absurd rfl h1
      · rfl)
    clear h1
    go_wp2_with fail
    with_reducible refine (giveUp_as 1 q _).mono ?_
    rintro x wz ⟨rfl, rfl⟩
    go_wp2
    refine ⟨rfl, ?_⟩
    show Told _ _ _ _ _ _ (operP n l) _ _
    rw [HN.out]
    exact ⟨q, rfl, HM.out, HG.out⟩
end Go.Proofs.YtkjhdehpcanciaaGreatDoor
