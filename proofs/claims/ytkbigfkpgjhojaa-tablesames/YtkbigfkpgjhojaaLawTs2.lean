/- The walk of the law TableSames, over a table that came in. -/
import Derived.Test.YtkbigfkpgjhojaaLawTs1
import Derived.Test.YtkbigfkpgjhojaaTbY
namespace Go.Proofs.Ytkbigfkpgjhojaa
open Go.RowKit Florin
theorem tableSames_walk {W : World} {f : Nat → List UInt8} {mg : Int} {vsh vlo vms vcu vun vmu : Value} {sh lo ms : List RowM} {cu : List CurM} {un : List UntM} {mu : List TxM} (hT : TabIn W f mg vsh vlo vms vcu vun vmu sh lo ms cu un mu) (hb : ∀ c ∈ cu, bCur 1048576 c) (which : Int) :
    Calls Try.prog 3 #[.agg (tbA f mg vsh vlo vms vcu vun vmu), .int .i64 which] W fun e w' => e = .returned (.bool true) ∧ Below W.heap.size W w' := by
  have hs6 : Six W vsh vlo vms vcu vun vmu sh lo ms cu un mu := ⟨hT.rsh, hT.rlo, hT.rms, hT.rcu, hT.run, hT.rmu⟩
  have hg : Good f mg sh lo ms cu un mu := ⟨hT.mg, hT.gsh, hT.glo, hT.gms, hT.gcu, hT.gun, hT.gmu⟩
  exact tableSames_core f mg vsh vlo vms vcu vun vmu sh lo ms cu un mu which W hg hs6 hT.fl hb
end Go.Proofs.Ytkbigfkpgjhojaa
