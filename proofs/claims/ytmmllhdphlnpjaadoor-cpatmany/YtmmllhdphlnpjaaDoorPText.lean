/- Patterns of numbers as they are read: over what is left of a text. -/
import Derived.Test.YtmmllhdphlnpjaaDoorGPlain
import Derived.Lib.IndexMore
namespace Florin
/-- What a part of the reader tells: something, and what is left; or where nothing goes on. -/
inductive PR (α : Type) where
  | ok (x : α) (r : List UInt8)
  | bad (r : List UInt8)
def nxP (l : List UInt8) : List UInt8 := l.take (decL l).2
def marksL : List UInt8 := [35, 48, 49, 50, 51, 52, 53, 54, 55, 56, 57, 44, 46, 59, 64, 42, 45, 43, 37, 226, 128, 176, 194, 164]
def markB (g : List UInt8) : Bool := Go.Lib.contains marksL g
def cntF (g : List UInt8) : Nat → List UInt8 → Nat
  | 0, _ => 0
  | f + 1, l => if g.isPrefixOf l then cntF g f (l.drop g.length) + 1 else 0
def cntP (g l : List UInt8) : Nat := cntF g (l.length + 1) l
def quoP : Nat → List UInt8 → List UInt8 → PR (List UInt8)
  | 0, _, l => .bad l
  | f + 1, acc, l =>
    if [39, 39].isPrefixOf l then quoP f (acc ++ [39]) (l.drop 2)
    else if [39].isPrefixOf l then .ok acc (l.drop 1)
    else if l.isEmpty then .bad l
    else quoP f (acc ++ nxP l) (l.drop (nxP l).length)
def litP (l : List UInt8) : PR (List UInt8) :=
  if [39, 39].isPrefixOf l then .ok [39] (l.drop 2)
  else if [39].isPrefixOf l then quoP (l.length + 1) [] (l.drop 1)
  else if markB (nxP l) then .ok [] l
  else .ok (nxP l) (l.drop (nxP l).length)
def litsP : Nat → List UInt8 → List UInt8 → PR (List UInt8)
  | 0, _, l => .bad l
  | f + 1, acc, l => match litP l with
    | .bad r => .bad r
    | .ok [] r => .ok acc r
    | .ok (c :: x) r => litsP f (acc ++ c :: x) r
structure PcT where
  k : Nat
  t : List UInt8
  n : Nat
deriving DecidableEq
def pieceP (l : List UInt8) : PR (PcT × Bool) :=
  if [45].isPrefixOf l then .ok (⟨1, [], 0⟩, true) (l.drop 1)
  else if [43].isPrefixOf l then .ok (⟨2, [], 0⟩, true) (l.drop 1)
  else if [37].isPrefixOf l then .ok (⟨3, [], 0⟩, true) (l.drop 1)
  else if [226, 128, 176].isPrefixOf l then .ok (⟨4, [], 0⟩, true) (l.drop 3)
  else if 0 < cntP [194, 164] l then .ok (⟨5, [], cntP [194, 164] l⟩, true) (l.drop (cntP [194, 164] l * 2))
  else match litsP (l.length + 1) [] l with
    | .bad r => .bad r
    | .ok t r => .ok (⟨0, t, 0⟩, !t.isEmpty) r
def affP : Nat → List PcT → List UInt8 → PR (List PcT)
  | 0, _, l => .bad l
  | f + 1, acc, l => match pieceP l with
    | .bad r => .bad r
    | .ok (_, false) r => .ok acc r
    | .ok (x, true) r => affP f (acc ++ [x]) r
/-- Places ahead of the point, their groups; places behind it. -/
structure NumT where
  hash : Nat
  int : Nat
  minF : Nat
  maxF : Nat
  grp : Nat
  more : Nat
deriving DecidableEq
def grpP (h m : Nat) (l : List UInt8) : PR (Nat × Nat × Nat) :=
  let a := if m = 0 then cntP [35] l else 0
  let z := cntP [48] (l.drop a)
  if a + z = 0 then .bad (l.drop a) else .ok (h + a, m + z, a + z) ((l.drop a).drop z)
/-- What is left of the places behind so many groups: at most so many more, the last one's size, the one's ahead of it. -/
def plcL : Nat → Nat → Nat → Nat → Nat → List UInt8 → PR NumT
  | 0, h, m, g, o, l => .ok ⟨h, m, 0, 0, g, if o = g then 0 else o⟩ l
  | k + 1, h, m, g, o, l =>
    if [44].isPrefixOf l then match grpP h m (l.drop 1) with
      | .bad r => .bad r
      | .ok x r => plcL k x.1 x.2.1 x.2.2 g r
    else .ok ⟨h, m, 0, 0, g, if o = g then 0 else o⟩ l
def plcP (l : List UInt8) : PR NumT := match grpP 0 0 l with
  | .bad r => .bad r
  | .ok x r => plcL 2 x.1 x.2.1 0 0 r
def numP (l : List UInt8) : PR NumT := match plcP l with
  | .bad r => .bad r
  | .ok p r =>
    if [46].isPrefixOf r then
      let a := cntP [48] (r.drop 1)
      let b := cntP [35] ((r.drop 1).drop a)
      if a + b = 0 then .bad (((r.drop 1).drop a).drop b) else .ok { p with minF := a, maxF := a + b } (((r.drop 1).drop a).drop b)
    else .ok p r
structure HalfT where
  pre : List PcT
  suf : List PcT
  num : NumT
deriving DecidableEq
def halfP (l : List UInt8) : PR HalfT := match affP (l.length + 1) [] l with
  | .bad r => .bad r
  | .ok a r => match numP r with
    | .bad r => .bad r
    | .ok n r => match affP (r.length + 1) [] r with
      | .bad r => .bad r
      | .ok b r => .ok ⟨a, b, n⟩ r
structure PatT where
  pos : HalfT
  neg : Option (List PcT × List PcT)
deriving DecidableEq
def patP (l : List UInt8) : PR PatT := match halfP l with
  | .bad r => .bad r
  | .ok h r =>
    if [59].isPrefixOf r then match halfP (r.drop 1) with
      | .bad r => .bad r
      | .ok g r => if r.isEmpty then .ok ⟨h, some (g.pre, g.suf)⟩ r else .bad r
    else if r.isEmpty then .ok ⟨h, none⟩ r else .bad r
theorem cntF_no {g l : List UInt8} (h : g.isPrefixOf l = false) : ∀ f, cntF g f l = 0
  | 0 => rfl
  | f + 1 => by unfold cntF; rw [if_neg (by rw [h]; decide)]
theorem pre_len2 {g l : List UInt8} (h : g.isPrefixOf l = true) : g.length ≤ l.length := (List.isPrefixOf_iff_prefix.1 h).length_le
theorem cntF_more {g : List UInt8} (hg : g ≠ []) : ∀ (f k : Nat) (l : List UInt8), l.length < f → l.length < k → cntF g f l = cntF g k l
  | 0, _, l, h, _ => absurd h (by omega)
  | _ + 1, 0, l, _, h => absurd h (by omega)
  | f + 1, k + 1, l, hf, hk => by
    unfold cntF
    by_cases hp : g.isPrefixOf l = true
    · rw [if_pos hp, if_pos hp]
      have := pre_len2 hp
      have h0 := List.length_pos_iff.2 hg
      rw [cntF_more hg f k _ (by rw [List.length_drop]; omega) (by rw [List.length_drop]; omega)]
    · rw [if_neg hp, if_neg hp]
theorem cntP_no {g l : List UInt8} (h : g.isPrefixOf l = false) : cntP g l = 0 := cntF_no h _
theorem cntP_yes {g l : List UInt8} (hg : g ≠ []) (h : g.isPrefixOf l = true) : cntP g l = cntP g (l.drop g.length) + 1 := by
  have h1 := pre_len2 h
  have h0 := List.length_pos_iff.2 hg
  unfold cntP
  rw [show cntF g (l.length + 1) l = (if g.isPrefixOf l then cntF g l.length (l.drop g.length) + 1 else 0) from rfl, if_pos h, cntF_more hg l.length ((l.drop g.length).length + 1) _ (by rw [List.length_drop]; omega) (by omega)]
end Florin
