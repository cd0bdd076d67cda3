/- A raw decimal that came in: its sign, its bytes, its power. -/
import Derived.Test.YtegekkifgdakgaaDoorDecJ
import Derived.ProofKit
import Derived.OpenShut
import Derived.Lib.SmallJoins
namespace Go.Proofs.YtegekkifgdakgaaDoor
open Go.ChangeShapes Go.WideShapes Go.ChangeAt Go.RowKit
set_option maxRecDepth 1000000 in
theorem open_raw {H : Type} {enc : TypeId × Value → H} {W : World} {r : Reach} {b0 : Nat} {v : Value} {d : DataW H} {p : List MemPlace} (hv : Value.okWide Tryd.prog W r b0 24 v)
    (h : DataW.Trod enc Tryd.prog W 0 (fun _ => true) true 24 v d p) :
    ∃ (n : Bool) (a : Option Addr) (len cap : Nat) (e : Int) (L : List UInt8), v = RV n a len cap e ∧ InB W a len cap L ∧ (Lit.int .i64 e).wf = true := by
  obtain ⟨c0, c1, c2, y0, y1, y2, m, rfl, _, _, h0, h1, h2⟩ := Joins.open_agg3 Tryd.underlying24 (by kernel_rfl) (by kernel_rfl) hv h
  obtain ⟨n, e0, _⟩ := DataW.trod_bool Tryd.underlying4 h0
  obtain ⟨e, e2, _, we⟩ := DataW.trod_int Tryd.underlying3 h2
  simp at e0 e2
  subst e0 e2
  rcases open_ints Tryd.underlying22 Tryd.underlying5 (by kernel_rfl) h1 with ⟨hcs, _⟩ | ⟨x, l, c, zs, hcs, _, hl, hm, hz, _, hcell, hwz⟩
  · simp at hcs
    subst hcs
    exact ⟨n, none, 0, 0, e, [], rfl, inB_nil _, we⟩
  · simp at hcs
    subst hcs
    obtain ⟨L, hL⟩ := inB_of W hl hm (by simpa using hz) hcell hwz
    exact ⟨n, some x, l, c, e, L, rfl, hL, we⟩
end Go.Proofs.YtegekkifgdakgaaDoor
