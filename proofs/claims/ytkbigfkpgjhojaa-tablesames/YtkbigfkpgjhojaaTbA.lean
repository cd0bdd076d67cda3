/- Tables as bytes: a writer by what it laid; texts of categories are laid. -/
import Derived.Test.YtkbigfkpgjhojaaWrC
import Derived.Test.YtkbigfkpgjhojaaWX
import Derived.Test.YtkbigfkpgjhojaaTPlain
import Derived.Deep.RegionHeld3
namespace Go.Proofs.Ytkbigfkpgjhojaa
open Go.RowKit Florin
set_option linter.unusedVariables false
set_option linter.unusedSimpArgs false
attribute [local go_sem ↓] Go.wp_at_zero Go.wp_at_succ
/-- A writer that has laid these bytes. -/
def WrS (w : World) (B b : Nat) (s : List UInt8) : Prop := ∃ L, WrT w B b L ∧ cat L = s
theorem WrS.lt {w : World} {B b : Nat} {s : List UInt8} (h : WrS w B b s) : b < w.heap.size := by obtain ⟨L, h1, _⟩ := h; exact h1.lt
theorem WrS.ge {w : World} {B b : Nat} {s : List UInt8} (h : WrS w B b s) : B ≤ b := by obtain ⟨L, h1, _⟩ := h; exact h1.1
theorem WrS.below {w w' : World} {B b : Nat} {s : List UInt8} (h : WrS w B b s) (hb : Below w.heap.size w w') : WrS w' B b s := by obtain ⟨L, h1, h2⟩ := h; exact ⟨L, h1.below hb, h2⟩
theorem WrS.drew {w : World} {B b : Nat} {s : List UInt8} (h : WrS w B b s) : WrS w.drew B b s := h.below (Below.refl _ w).drew
theorem WrS.alloc {w : World} {B b : Nat} {s : List UInt8} (h : WrS w B b s) (o : Obj) : WrS (w.alloc o) B b s := h.below ((Below.refl _ w).alloc (Nat.le_refl _) o)
theorem WrS.box {w : World} {B b : Nat} {s : List UInt8} (h : WrS w B b s) : ∃ cs, BoxT w b cs TWr := by obtain ⟨L, ⟨_, q, h1, _⟩, _⟩ := h; exact ⟨_, h1⟩
theorem WrS.new (w : World) (B : Nat) (hB : B ≤ w.heap.size) : WrS (w.alloc (.cells #[.pointer none, .int .i64 0] TWr)) B w.heap.size [] := ⟨[], WrT.new w B hB, rfl⟩
theorem snum_as (B b : Nat) (s : List UInt8) (n : Int) (w : World) (h : WrS w B b s) (hn : n ≤ 9223372036854775807) (ht : s.length ≤ 900000000) :
    Calls Try.prog 32 #[ptr b, .int .i64 n] w fun e w' => e = .returned (ptr b) ∧ WrS w' B b (s ++ eN n) ∧ w.grownBy w' (some b) := by
  obtain ⟨L, h1, h2⟩ := h
  refine (wnum_as B b L n w h1 hn (by rw [← cat_len, h2]; omega)).mono ?_
  rintro e w' ⟨he, hw, hg⟩
  exact ⟨he, ⟨_, hw, by show cat L ++ _ = _; rw [h2]; rfl⟩, hg⟩
theorem stext_as (B b : Nat) (s : List UInt8) (t : List UInt8) (w : World) (h : WrS w B b s) (ht : s.length + t.length ≤ 900000000) :
    Calls Try.prog 31 #[ptr b, S t] w fun e w' => e = .returned (ptr b) ∧ WrS w' B b (s ++ eT t) ∧ w.grownBy w' (some b) := by
  obtain ⟨L, h1, h2⟩ := h
  refine (wtext_as B b L t w h1 (by rw [← cat_len, h2]; omega)).mono ?_
  rintro e w' ⟨he, hw, hg⟩
  exact ⟨he, ⟨_, hw, by show (cat L ++ _) ++ _ = _; rw [h2, List.append_assoc]; rfl⟩, hg⟩
theorem sstr_as (B b : Nat) (s : List UInt8) (w : World) (h : WrS w B b s) (ht : s.length ≤ 900000000) :
    Calls Try.prog 24 #[ptr b] w fun e w' => e = .returned (S s) ∧ Below w.heap.size w w' := by
  obtain ⟨L, h1, h2⟩ := h
  have h3 := wstring_as B b L w h1 (by rw [← cat_len, h2]; omega)
  rw [h2] at h3
  exact h3
abbrev TPw : TypeId := 74
set_option maxRecDepth 100000 in
set_option maxHeartbeats 3200000 in
theorem layText1_as (B b p : Nat) (s : List UInt8) (x : TxM) (w : World) (hw : WrS w B b s) (hp : BoxT w p #[ptr b] TPw) (hx : x.1 ≤ 9223372036854775807) (hl : s.length + (eTx x).length ≤ 900000000) :
    Calls Try.prog 53 #[.agg #[.int .i64 x.1, S x.2], ptr p] w fun e w' => e = .returned (.tuple #[]) ∧ WrS w' B b (s ++ eTx x) ∧ w.grownBy w' (some b) := by
  obtain ⟨c, t⟩ := x
  have hl2 : s.length + (eN c).length + t.length ≤ 900000000 := by
    have h1 : (eTx (c, t)).length = (eN c).length + (vnum t.length ++ t).length := by show (eN c ++ eT t).length = _; rw [List.length_append]; rfl
    rw [List.length_append] at h1
    omega
  obtain ⟨bs, hbx⟩ := hw.box
  have hpb : p ≠ b := hp.apart hbx (by decide)
  have HW := Lib.hid (hw.alloc (.cells #[.int .i64 c, S t] 56))
  have HP := Lib.hid (hp.alloc (.cells #[.int .i64 c, S t] 56))
  have HX := Lib.hid (BoxT.new w #[.int .i64 c, S t] 56)
  have hbl := hw.lt
  have HG0 : Hid (w.grownBy (w.alloc (.cells #[.int .i64 c, S t] 56)) (some b)) := Lib.hid (grown_alloc (World.grownBy.refl w _) _)
  clear hw hp hbx
  go_enter Try.func53, Try.ntmps53
  go_wp2_with fail
  have hxb : w.heap.size ≠ b := by omega
  generalize w.alloc (.cells #[.int .i64 c, S t] 56) = w0 at *
  generalize w.heap.size = xb at *
  have KS : Hid (∀ w', w0.grownBy w' (some b) → (w'.cell? ⟨p, 0, none⟩ = some (ptr b) ∧ w'.cell? ⟨xb, 0, none⟩ = some (.int .i64 c) ∧ w'.cell? ⟨xb, 1, none⟩ = some (S t) ∧ w0.grownBy w' (some b))) := Lib.hid (fun w' hg => ⟨(HP.out.grown hg (fun e => hpb (Option.some.inj e))).cell 0, (HX.out.grown hg (fun e => hxb (Option.some.inj e))).cell 0, (HX.out.grown hg (fun e => hxb (Option.some.inj e))).cell 1, hg⟩)
  have KEEP : Hid (∀ w' w'', (w'.cell? ⟨p, 0, none⟩ = some (ptr b) ∧ w'.cell? ⟨xb, 0, none⟩ = some (.int .i64 c) ∧ w'.cell? ⟨xb, 1, none⟩ = some (S t) ∧ w0.grownBy w' (some b)) → w'.grownBy w'' (some b) → (w''.cell? ⟨p, 0, none⟩ = some (ptr b) ∧ w''.cell? ⟨xb, 0, none⟩ = some (.int .i64 c) ∧ w''.cell? ⟨xb, 1, none⟩ = some (S t) ∧ w0.grownBy w'' (some b))) := Lib.hid (fun w' w'' h hb => KS.out _ (grown_trans h.2.2.2 hb))
  go_region_held3 (fun w' => w'.cell? ⟨p, 0, none⟩ = some (ptr b) ∧ w'.cell? ⟨xb, 0, none⟩ = some (.int .i64 c) ∧ w'.cell? ⟨xb, 1, none⟩ = some (S t) ∧ w0.grownBy w' (some b))
    (first | exact KS.out _ (grown_drew (World.grownBy.refl w0 _)) | exact KEEP.out _ _ (by assumption) hb | assumption)
    (first | (go_at_call 32; (with_reducible refine (snum_as B b s c _ (by first | exact HW.out.drew | exact HW.out) hx (by omega)).mono ?_); rintro y w1 ⟨rfl, hw1, hb⟩) | (go_at_call 31; (with_reducible refine (stext_as B b _ t _ hw1 (by rw [List.length_append]; omega)).mono ?_); rintro y w2 ⟨rfl, hw2, hb⟩))
  have HH : w0.grownBy w2 (some b) := (‹w2.cell? ⟨p, 0, none⟩ = some (ptr b) ∧ w2.cell? ⟨xb, 0, none⟩ = some (.int .i64 c) ∧ w2.cell? ⟨xb, 1, none⟩ = some (S t) ∧ w0.grownBy w2 (some b)›).2.2.2
  have HW2 := Lib.hid hw2
  have HG2 := Lib.hid (grown_trans HG0.out HH)
  clear KS KEEP HH hw1 hw2
  go_wp2
  go_end0
  exact ⟨rfl, by rw [List.append_assoc] at HW2; exact HW2.out, HG2.out⟩
end Go.Proofs.Ytkbigfkpgjhojaa
