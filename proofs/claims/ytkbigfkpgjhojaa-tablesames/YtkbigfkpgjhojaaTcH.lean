/- Tables out of bytes: Decode. -/
import Derived.Test.YtkbigfkpgjhojaaTcG
namespace Go.Proofs.Ytkbigfkpgjhojaa
open Go.RowKit Florin
set_option linter.unusedVariables false
set_option linter.unusedSimpArgs false
attribute [local go_sem ↓] Go.wp_at_zero Go.wp_at_succ
theorem Z34_info : (Try.prog.info? TTb).map (·.size) = some Z34.size := tb_info _ _ _ _ _ _ _ _
theorem Z34_one : Z34.all (·.oneCell') = true := tb_one _ _ _ _ _ _ _ _ _ _ _ _ _ _ _ _ _ _ _ _
theorem res_dec {w : World} {q : Nat} {X : Array Value} {n : Int} (h : BoxT w q X TTb) (hi : (Try.prog.info? TTb).map (·.size) = some X.size) (tm : Array Value) (h2 : tm[2]?.getD undef = .pointer (some ⟨q, 0, none⟩)) (h3 : tm[3]?.getD undef = .int .i64 n) :
    (results Try.f9 tm).run Try.prog w = .ok (.tuple #[.agg X, .int .i64 n]) w := by
  have hld := run_loadVar_box (P := Try.prog) h Try.underlying31 (by rfl) hi
  simp [results, Try.results9, h2, h3, asAddr, hld]
theorem decode_many (s : ByteArray) (w : World) (hs : 65536 < s.size) :
    Calls Try.prog 9 #[.string s] w fun e w' => e = .returned (.tuple #[.agg Z34, .int .i64 4]) ∧ Below w.heap.size w w' := by
  have hsi : (65536 : Int) < (s.size : Int) := by omega
  have HQ := Lib.hid (BoxT.new w #[.string ⟨#[]⟩, .string ⟨#[]⟩, .string ⟨#[]⟩, .string ⟨#[]⟩, .string ⟨#[]⟩, .string ⟨#[]⟩, .string ⟨#[]⟩, .string ⟨#[]⟩, .string ⟨#[]⟩, .string ⟨#[]⟩, .string ⟨#[]⟩, .string ⟨#[]⟩, .string ⟨#[]⟩, .string ⟨#[]⟩, .string ⟨#[]⟩, .string ⟨#[]⟩, .int .i64 0, .string ⟨#[]⟩, .string ⟨#[]⟩, .string ⟨#[]⟩, .string ⟨#[]⟩, .string ⟨#[]⟩, .slice none 0 0, .slice none 0 0, .slice none 0 0, .slice none 0 0, .slice none 0 0, .slice none 0 0, .string ⟨#[]⟩, .string ⟨#[]⟩, .string ⟨#[]⟩, .string ⟨#[]⟩, .string ⟨#[]⟩, .string ⟨#[]⟩] TTb)
  have HB := Lib.hid ((Below.refl w.heap.size w).alloc (Nat.le_refl _) (.cells #[.string ⟨#[]⟩, .string ⟨#[]⟩, .string ⟨#[]⟩, .string ⟨#[]⟩, .string ⟨#[]⟩, .string ⟨#[]⟩, .string ⟨#[]⟩, .string ⟨#[]⟩, .string ⟨#[]⟩, .string ⟨#[]⟩, .string ⟨#[]⟩, .string ⟨#[]⟩, .string ⟨#[]⟩, .string ⟨#[]⟩, .string ⟨#[]⟩, .string ⟨#[]⟩, .int .i64 0, .string ⟨#[]⟩, .string ⟨#[]⟩, .string ⟨#[]⟩, .string ⟨#[]⟩, .string ⟨#[]⟩, .slice none 0 0, .slice none 0 0, .slice none 0 0, .slice none 0 0, .slice none 0 0, .slice none 0 0, .string ⟨#[]⟩, .string ⟨#[]⟩, .string ⟨#[]⟩, .string ⟨#[]⟩, .string ⟨#[]⟩, .string ⟨#[]⟩] TTb))
  rw [Z34_eq] at *
  go_enter Try.func9, Try.ntmps9
  go_wp2_with (refine wpList_store_box (by rfl) TTb (.tmp 2) (.tmp 9) (by rfl) w.heap.size Z34 Z34 TTb (by rfl) (by rfl) HQ.out Z34_info rfl Z34_one ?_; intro w9 hx9 hg9)
  refine bodyPost_ret (v := .tuple #[.agg Z34, .int .i64 4]) ?_ rfl ?_
  · exact res_dec hx9 Z34_info _ rfl rfl
  · exact ⟨rfl, below_grown HB.out HB.out.size (Nat.le_refl _) hg9⟩

end Go.Proofs.Ytkbigfkpgjhojaa
