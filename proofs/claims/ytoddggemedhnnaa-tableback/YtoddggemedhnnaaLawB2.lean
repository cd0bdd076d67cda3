/- The walk of the law TableBack, over a table that came in. -/
import Derived.Test.YtoddggemedhnnaaLawB1
import Derived.Test.YtoddggemedhnnaaBkD
import Derived.Test.YtoddggemedhnnaaTbY
namespace Go.Proofs.Ytoddggemedhnnaa
open Go.RowKit Florin
theorem tableBack_walk {W : World} {f : Nat → List UInt8} {mg : Int} {vsh vlo vms vcu vun vmu : Value} {sh lo ms : List RowM} {cu : List CurM} {un : List UntM} {mu : List TxM} (hT : TabIn W f mg vsh vlo vms vcu vun vmu sh lo ms cu un mu) (hb : ∀ c ∈ cu, bCur 1048576 c) (cut : Int) :
    Calls Try.prog 3 #[.agg (tbA f mg vsh vlo vms vcu vun vmu), .int .i64 cut] W fun e w' => e = .returned (.bool true) ∧ Below W.heap.size W w' := by
  have hs6 : Six W vsh vlo vms vcu vun vmu sh lo ms cu un mu := ⟨hT.rsh, hT.rlo, hT.rms, hT.rcu, hT.run, hT.rmu⟩
  have hg : Good f mg sh lo ms cu un mu := ⟨hT.mg, hT.gsh, hT.glo, hT.gms, hT.gcu, hT.gun, hT.gmu⟩
  refine tableBack_core f mg vsh vlo vms vcu vun vmu sh lo ms cu un mu cut W hg hs6 hT.fl hb (fun hk w' hbl => ?_)
  have h := bytes_as f mg vsh vlo vms vcu vun vmu sh lo ms cu un mu w' (hs6.below hbl).sh (hs6.below hbl).lo (hs6.below hbl).ms (hs6.below hbl).cu (hs6.below hbl).un (hs6.below hbl).mu hg.wmg.2 (nRows_of hg.gsh) (nRows_of hg.glo) (nRows_of hg.gms) (nCurs_of hg.gcu) (nUnts_of hg.gun) (fun x hx => nTx_of (hg.gmu x hx)) (all_max hg hk)
  rw [enc_of] at h
  exact h
end Go.Proofs.Ytoddggemedhnnaa
