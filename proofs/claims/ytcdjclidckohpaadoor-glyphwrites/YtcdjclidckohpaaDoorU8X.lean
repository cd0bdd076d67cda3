/- The tables of signs, as they are laid; ten numbers or texts that came in. -/
import Derived.Test.YtcdjclidckohpaaDoorTie
import Derived.Test.YtcdjclidckohpaaDoorGlH
import Derived.Test.YtcdjclidckohpaaDoorShelf2
import Derived.Lib.LaidU8
import Derived.PinnedBridge
import Derived.Stop.LaidErr
import Derived.Stop.Joined
import Derived.ProofKit
import Derived.OpenShut
import Derived.Lib.SmallJoins
namespace Go.Proofs.YtcdjclidckohpaaDoor
open Go.ChangeShapes Go.WideShapes Go.ChangeAt Go.RowKit Florin
theorem acc_data : (Rows.laid_unicode_utf8_acceptRanges : DataW Unit) = Lib.acceptData := by kernel_rfl
theorem fst_data : Rows.laid_unicode_utf8_first = Lib.firstData := Pinned.utf8First_eq
theorem tabs_of {W : World} (h : laidMet Tryd.prog [("unicode/utf8.acceptRanges", Rows.laid_unicode_utf8_acceptRanges), ("unicode/utf8.first", Rows.laid_unicode_utf8_first)] W) : Tabs W := by
  rw [acc_data, fst_data] at h
  exact utf8Tabs_of_reads (ρ := Tryd.lays260_ren) Tryd.lays260 ⟨by kernel_rfl, by kernel_rfl, by kernel_rfl, by kernel_rfl, by kernel_rfl, by kernel_rfl, by kernel_rfl⟩ (Lib.laidMet.reads h (.tail _ (.head _))) (Lib.laidMet.reads h (.head _))
theorem inB_nil (w : World) : InB w none 0 0 [] := ⟨rfl, Nat.le_refl _, Nat.zero_le _, fun h => absurd h (by omega)⟩
theorem inB_of (w : World) {x : Addr} {len cap : Nat} {zs : List Int} (hl : len ≤ cap) (hm : cap ≤ maxLen) (hz : zs.length = cap)
    (hcell : ∀ i, i < zs.length → w.cell? (x.add i) = some (.int .u8 (zs.getD i 0))) (hwz : ∀ n ∈ zs, (Lit.int .u8 n).wf = true) : ∃ L, InB w (some x) len cap L := by
  refine ⟨(zs.take len).map fun z => UInt8.ofNat z.toNat, by simp; omega, hl, hm, fun h => ?_⟩
  obtain ⟨b, off, spot⟩ := x
  have h0 := hcell 0 (by omega)
  have hs : spot = none := by simpa [Addr.add] using World.cell?_spot h0
  subst hs
  have hb : b < w.heap.size := World.block_lt_of_cell? w _ (by simpa [Addr.add] using h0)
  refine ⟨b, off, rfl, hb, fun i hi => ?_⟩
  have hi' : i < zs.length := by simp at hi; omega
  have h1 := hcell i hi'
  have e : (⟨b, off, none⟩ : Addr).add i = ⟨b, off + i, none⟩ := by unfold Addr.add; split <;> simp_all
  rw [e] at h1
  rw [h1]
  simp only [List.getElem_map, List.getElem_take]
  have hz2 := hwz zs[i] (List.getElem_mem _)
  have hz3 : 0 ≤ zs[i] ∧ zs[i] ≤ 255 := by
    simp [Lit.wf, IntKind.min, IntKind.max, IntKind.signed, IntKind.bits] at hz2
    omega
  rw [List.getD, List.getElem?_eq_getElem hi']
  congr 2
  simp [UInt8.toNat_ofNat']
  omega
section
variable {H : Type} {enc : TypeId × Value → H} {P : Program} {w : World} {base : Nat} {sp : Nat → Bool} {held : Bool}
theorem open_arr {fuel : Nat} {t e : TypeId} {n : Nat} {cs : List Value} {d : DataW H} {p : List MemPlace} (ht : P.underlying t = some (.array n e)) (h : DataW.trod enc P w base sp held fuel t cs = some (d, p)) : ∃ ds, d = .agg ds := by
  cases fuel with
  | zero => simp [DataW.trod] at h
  | succ fuel =>
    simp only [DataW.trod, ht] at h
    split at h
    · obtain ⟨xs, hm, hx⟩ := Option.map_eq_some_iff.1 h
      exact ⟨_, (congrArg Prod.fst hx).symm⟩
    · cases h
theorem open_ten {r : Reach} {b0 : Nat} {t e : TypeId} {v : Value} {d : DataW H} {p : List MemPlace} (ht : P.underlying t = some (.array 10 e)) (he : P.cellsOf e = 1) (hC : P.cellsOf t = 10)
    (hv : Value.okWide P w r b0 t v) (h : DataW.Trod enc P w base sp held t v d p) {α : Type} (f : α → Value) (Q : α → Prop) (el : ∀ n c y, DataW.trod enc P w base sp held n e [c] = some y → ∃ a, c = f a ∧ Q a) :
    ∃ g : Nat → α, (∀ k, k < 10 → Q (g k)) ∧ v = .agg #[f (g 0), f (g 1), f (g 2), f (g 3), f (g 4), f (g 5), f (g 6), f (g 7), f (g 8), f (g 9)] := by
  simp only [Value.okWide, ht] at hv
  obtain ⟨cs, rfl, hsz, _⟩ := hv
  obtain ⟨fuel, hf⟩ := h
  obtain ⟨ds, rfl⟩ := open_arr ht hf
  have key : ∀ i : Nat, i < 10 → ∃ a, cs[i]? = some (f a) ∧ Q a := by
    intro i hi
    obtain ⟨fuel2, d2, q, _, hd⟩ := Lib.array_elem ht hf i hi
    rw [he, Nat.mul_one] at hd
    have hlt : i < cs.size := by rw [hsz, hC]; exact hi
    have hdrop : (cs.toList.drop i).take 1 = [cs[i]] := by
      rw [List.drop_eq_getElem_cons (by simpa using hlt)]
      simp
    have hd2 : DataW.trod enc P w base sp held fuel2 e ((cs.toList.drop i).take 1) = some (d2, q) := hd
    rw [hdrop] at hd2
    have hd := hd2
    obtain ⟨a, ha, hq⟩ := el _ _ _ hd
    exact ⟨a, by rw [Array.getElem?_eq_getElem hlt, ha], hq⟩
  obtain ⟨a0, _⟩ := key 0 (by omega)
  have key2 : ∀ i : Nat, ∃ a, i < 10 → cs[i]? = some (f a) ∧ Q a := by
    intro i
    by_cases hi : i < 10
    · obtain ⟨a, ha⟩ := key i hi; exact ⟨a, fun _ => ha⟩
    · exact ⟨a0, fun h => absurd h hi⟩
  obtain ⟨g, hg⟩ := Classical.skolem.1 key2
  refine ⟨g, fun k hk => (hg k hk).2, congrArg Value.agg ?_⟩
  apply Array.ext
  · rw [hsz, hC]; rfl
  · intro i h1 h2
    have h3 : i < 10 := by rw [hsz, hC] at h1; exact h1
    have h4 := (hg i h3).1
    rw [Array.getElem?_eq_getElem h1] at h4
    rw [Option.some.inj h4]
    match i, h3 with
    | 0, _ => rfl
    | 1, _ => rfl
    | 2, _ => rfl
    | 3, _ => rfl
    | 4, _ => rfl
    | 5, _ => rfl
    | 6, _ => rfl
    | 7, _ => rfl
    | 8, _ => rfl
    | 9, _ => rfl
end
theorem open_ints10 {H : Type} {enc : TypeId × Value → H} {W : World} {r : Reach} {b0 : Nat} {v : Value} {d : DataW H} {p : List MemPlace} (hv : Value.okWide Tryd.prog W r b0 30 v)
    (h : DataW.Trod enc Tryd.prog W 0 (fun _ => true) true 30 v d p) : ∃ n : Nat → Int, (∀ k, k < 10 → (Lit.int .i64 (n k)).wf = true) ∧ v = IV n :=
  open_ten Tryd.underlying30 (by kernel_rfl) (by kernel_rfl) hv h (fun z => .int .i64 z) (fun z => (Lit.int .i64 z).wf = true) (fun n c y hy => by
    obtain ⟨k, e, _, hw⟩ := DataW.trod_int Tryd.underlying3 hy
    simp at e
    exact ⟨k, e, hw⟩)
theorem open_signs {H : Type} {enc : TypeId × Value → H} {W : World} {r : Reach} {b0 : Nat} {v : Value} {d : DataW H} {p : List MemPlace} (hv : Value.okWide Tryd.prog W r b0 33 v)
    (h : DataW.Trod enc Tryd.prog W 0 (fun _ => true) true 33 v d p) : ∃ g : Nat → ByteArray, (∀ k, k < 10 → (g k).size ≤ maxLen) ∧ v = SV g :=
  open_ten Tryd.underlying33 (by kernel_rfl) (by kernel_rfl) hv h (fun z => .string z) (fun z => z.size ≤ maxLen) (fun n c y hy => by
    obtain ⟨k, e, _, hm⟩ := DataW.trod_string Tryd.underlying9 hy
    simp at e
    exact ⟨k, e, hm⟩)
end Go.Proofs.YtcdjclidckohpaaDoor
