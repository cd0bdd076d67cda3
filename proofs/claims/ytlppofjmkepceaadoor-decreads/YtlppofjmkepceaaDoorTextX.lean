/- A decimal as it may be written, that came in: eight cells. -/
import Derived.Test.YtlppofjmkepceaaDoorDecJ
import Derived.ProofKit
import Derived.OpenShut
import Derived.Lib.SmallJoins
namespace Go.Proofs.YtlppofjmkepceaaDoor
open Go.ChangeShapes Go.WideShapes Go.ChangeAt Go.RowKit Go.Joins Go.Deep
structure TG where
  n : Bool
  aw : Option Addr
  lw : Nat
  cw : Nat
  W : List UInt8
  ap : Option Addr
  lp : Nat
  cp : Nat
  P : List UInt8
  pt : Bool
  e : Int
  sg : Int
  nt : Int
  pw : Bool
abbrev TV (n : Bool) (aw : Option Addr) (lw cw : Nat) (ap : Option Addr) (lp cp : Nat) (pt : Bool) (e sg nt : Int) (pw : Bool) : Value :=
  .agg #[.bool n, .slice aw lw cw, .slice ap lp cp, .bool pt, .int .i64 e, .int .i64 sg, .int .i64 nt, .bool pw]
abbrev TG.val (g : TG) : Value := TV g.n g.aw g.lw g.cw g.ap g.lp g.cp g.pt g.e g.sg g.nt g.pw
structure InT (w : World) (g : TG) : Prop where
  hw : InB w g.aw g.lw g.cw g.W
  hp : InB w g.ap g.lp g.cp g.P
  he : (Lit.int .i64 g.e).wf = true
  hs : (Lit.int .i64 g.sg).wf = true
  hn : (Lit.int .i64 g.nt).wf = true
section
variable {H : Type} {enc : TypeId × Value → H} {P : Program} {w : World} {base : Nat} {spare : Nat → Bool} {held : Bool}
theorem open_agg8 {r : Reach} {b0 : Nat} {t : TypeId} {f0 f1 f2 f3 f4 f5 f6 f7 : Field} {v : Value} {d : DataW H} {p : List MemPlace} (hs : P.underlying t = some (.struct #[f0, f1, f2, f3, f4, f5, f6, f7])) (hone : oneCellFields P #[f0, f1, f2, f3, f4, f5, f6, f7] = true) (hC : P.cellsOf t = 8)
    (hv : Value.okWide P w r b0 t v) (h : DataW.Trod enc P w base spare held t v d p) :
    ∃ (v0 v1 v2 v3 v4 v5 v6 v7 : Value) (y0 y1 y2 y3 y4 y5 y6 y7 : DataW H × List MemPlace) (n : Nat), v = .agg #[v0, v1, v2, v3, v4, v5, v6, v7] ∧
      DataW.trod enc P w base spare held n f0.type [v0] = some y0 ∧ DataW.trod enc P w base spare held n f1.type [v1] = some y1 ∧ DataW.trod enc P w base spare held n f2.type [v2] = some y2 ∧ DataW.trod enc P w base spare held n f3.type [v3] = some y3 ∧ DataW.trod enc P w base spare held n f4.type [v4] = some y4 ∧ DataW.trod enc P w base spare held n f5.type [v5] = some y5 ∧ DataW.trod enc P w base spare held n f6.type [v6] = some y6 ∧ DataW.trod enc P w base spare held n f7.type [v7] = some y7 := by
  obtain ⟨cs, rfl, hsz⟩ := okWide_struct hs hv
  obtain ⟨l⟩ := cs
  match l, hsz.trans hC with
  | [c0, c1, c2, c3, c4, c5, c6, c7], _ =>
    obtain ⟨fuel, hf⟩ := h
    obtain ⟨xs, n, _, hx, _, hlen, hg⟩ := DataW.trod_struct hs hf
    obtain ⟨o0, k0⟩ := hone_of hone 0 f0 rfl
    obtain ⟨o1, k1⟩ := hone_of hone 1 f1 rfl
    obtain ⟨o2, k2⟩ := hone_of hone 2 f2 rfl
    obtain ⟨o3, k3⟩ := hone_of hone 3 f3 rfl
    obtain ⟨o4, k4⟩ := hone_of hone 4 f4 rfl
    obtain ⟨o5, k5⟩ := hone_of hone 5 f5 rfl
    obtain ⟨o6, k6⟩ := hone_of hone 6 f6 rfl
    obtain ⟨o7, k7⟩ := hone_of hone 7 f7 rfl
    match xs, hlen with
    | [y0, y1, y2, y3, y4, y5, y6, y7], _ =>
      exact ⟨c0, c1, c2, c3, c4, c5, c6, c7, y0, y1, y2, y3, y4, y5, y6, y7, n, rfl, by simpa [Value.cells, o0, k0] using hg 0 f0 rfl, by simpa [Value.cells, o1, k1] using hg 1 f1 rfl, by simpa [Value.cells, o2, k2] using hg 2 f2 rfl, by simpa [Value.cells, o3, k3] using hg 3 f3 rfl, by simpa [Value.cells, o4, k4] using hg 4 f4 rfl, by simpa [Value.cells, o5, k5] using hg 5 f5 rfl, by simpa [Value.cells, o6, k6] using hg 6 f6 rfl, by simpa [Value.cells, o7, k7] using hg 7 f7 rfl⟩
end
theorem open_bytes {H : Type} {enc : TypeId × Value → H} {W : World} {n : Nat} {v : Value} {y : DataW H × List MemPlace} (h : DataW.trod enc Tryd.prog W 0 (fun _ => true) true n 22 [v] = some y) :
    ∃ (a : Option Addr) (len cap : Nat) (L : List UInt8), v = .slice a len cap ∧ InB W a len cap L := by
  rcases open_ints Tryd.underlying22 Tryd.underlying5 (by kernel_rfl) h with ⟨hcs, _⟩ | ⟨x, l, c, zs, hcs, _, hl, hm, hz, _, hcell, hwz⟩
  · simp at hcs
    subst hcs
    exact ⟨none, 0, 0, [], rfl, inB_nil _⟩
  · simp at hcs
    subst hcs
    obtain ⟨L, hL⟩ := inB_of W hl hm (by simpa using hz) hcell hwz
    exact ⟨some x, l, c, L, rfl, hL⟩
set_option maxRecDepth 1000000 in
theorem open_text {H : Type} {enc : TypeId × Value → H} {W : World} {r : Reach} {b0 : Nat} {v : Value} {d : DataW H} {p : List MemPlace} (hv : Value.okWide Tryd.prog W r b0 38 v)
    (h : DataW.Trod enc Tryd.prog W 0 (fun _ => true) true 38 v d p) : ∃ g : TG, v = g.val ∧ InT W g := by
  obtain ⟨c0, c1, c2, c3, c4, c5, c6, c7, y0, y1, y2, y3, y4, y5, y6, y7, m, rfl, h0, h1, h2, h3, h4, h5, h6, h7⟩ := open_agg8 Tryd.underlying38 (by kernel_rfl) (by kernel_rfl) hv h
  obtain ⟨n, e0, _⟩ := DataW.trod_bool Tryd.underlying4 h0
  obtain ⟨pt, e3, _⟩ := DataW.trod_bool Tryd.underlying4 h3
  obtain ⟨pw, e7, _⟩ := DataW.trod_bool Tryd.underlying4 h7
  obtain ⟨e, e4, _, w4⟩ := DataW.trod_int Tryd.underlying3 h4
  obtain ⟨sg, e5, _, w5⟩ := DataW.trod_int Tryd.underlying3 h5
  obtain ⟨nt, e6, _, w6⟩ := DataW.trod_int Tryd.underlying3 h6
  obtain ⟨aw, lw, cw, LW, rfl, i1⟩ := open_bytes h1
  obtain ⟨ap, lp, cp, LP, rfl, i2⟩ := open_bytes h2
  simp at e0 e3 e4 e5 e6 e7
  subst e0 e3 e4 e5 e6 e7
  exact ⟨⟨n, aw, lw, cw, LW, ap, lp, cp, LP, pt, e, sg, nt, pw⟩, rfl, ⟨i1, i2, w4, w5, w6⟩⟩
end Go.Proofs.YtlppofjmkepceaaDoor
