/- Tables out of bytes: Decode. -/
import Derived.Test.YtkbigfkpgjhojaaTcH
namespace Go.Proofs.Ytkbigfkpgjhojaa
open Go.RowKit Florin
set_option linter.unusedVariables false
set_option linter.unusedSimpArgs false
attribute [local go_sem ↓] Go.wp_at_zero Go.wp_at_succ
set_option maxRecDepth 100000 in
set_option maxHeartbeats 12800000 in
theorem decode_no (l : List UInt8) (T : TblM × RS) (w : World) (hT : rdTbl (l, false) = T) (hs : l.length ≤ 65536) (hd : (!T.2.2 && T.2.1.isEmpty) = false) :
    Calls Try.prog 9 #[S l] w fun e w' => e = .returned (.tuple #[.agg Z34, .int .i64 1]) ∧ Below w.heap.size w w' := by
  have hsz : (⟨l.toArray⟩ : ByteArray).size = l.length := arr_size l
  have HD := Lib.hid hd
  have HTE := Lib.hid hT
  clear hd hT
  have HQ := Lib.hid (BoxT.new w #[.string ⟨#[]⟩, .string ⟨#[]⟩, .string ⟨#[]⟩, .string ⟨#[]⟩, .string ⟨#[]⟩, .string ⟨#[]⟩, .string ⟨#[]⟩, .string ⟨#[]⟩, .string ⟨#[]⟩, .string ⟨#[]⟩, .string ⟨#[]⟩, .string ⟨#[]⟩, .string ⟨#[]⟩, .string ⟨#[]⟩, .string ⟨#[]⟩, .string ⟨#[]⟩, .int .i64 0, .string ⟨#[]⟩, .string ⟨#[]⟩, .string ⟨#[]⟩, .string ⟨#[]⟩, .string ⟨#[]⟩, .slice none 0 0, .slice none 0 0, .slice none 0 0, .slice none 0 0, .slice none 0 0, .slice none 0 0, .string ⟨#[]⟩, .string ⟨#[]⟩, .string ⟨#[]⟩, .string ⟨#[]⟩, .string ⟨#[]⟩, .string ⟨#[]⟩] TTb)
  have HB := Lib.hid ((Below.refl w.heap.size w).alloc (Nat.le_refl _) (.cells #[.string ⟨#[]⟩, .string ⟨#[]⟩, .string ⟨#[]⟩, .string ⟨#[]⟩, .string ⟨#[]⟩, .string ⟨#[]⟩, .string ⟨#[]⟩, .string ⟨#[]⟩, .string ⟨#[]⟩, .string ⟨#[]⟩, .string ⟨#[]⟩, .string ⟨#[]⟩, .string ⟨#[]⟩, .string ⟨#[]⟩, .string ⟨#[]⟩, .string ⟨#[]⟩, .int .i64 0, .string ⟨#[]⟩, .string ⟨#[]⟩, .string ⟨#[]⟩, .string ⟨#[]⟩, .string ⟨#[]⟩, .slice none 0 0, .slice none 0 0, .slice none 0 0, .slice none 0 0, .slice none 0 0, .slice none 0 0, .string ⟨#[]⟩, .string ⟨#[]⟩, .string ⟨#[]⟩, .string ⟨#[]⟩, .string ⟨#[]⟩, .string ⟨#[]⟩] TTb))
  rw [Z34_eq] at *
  go_enter Try.func9, Try.ntmps9
  go_wp2_with fail
  rw [Z34_eq] at *
  have hsz0 : (w.alloc (.cells Z34 TTb)).heap.size = w.heap.size + 1 := by simp
  generalize w.alloc (.cells Z34 TTb) = w0 at *
  with_reducible refine (new_as l _).mono ?_
  rintro y w1 ⟨rfl, hr1, hb1⟩
  have HR1 := Lib.hid hr1
  have HQ1 := Lib.hid (HQ.out.below hb1)
  have HB1 := Lib.hid (HB.out.trans (hb1.mono (by omega)))
  have hs1 := hb1.size
  clear hr1 hb1 HQ HB
  rw [hsz0] at HR1 hs1 ⊢
  clear hsz0
  go_wp2_with fail
  have hcall := readTable_as (w.heap.size + 1) (l, false) w1 HR1.out (by show l.length ≤ _; omega)
  rw [HTE.out] at hcall
  have HCALL := Lib.hid hcall
  clear hcall
  with_reducible refine (HCALL.out).mono ?_
  rintro y w2 ⟨vsh, vlo, vms, vcu, vun, vmu, rfl, htl, ⟨a1, a2, a3, a4, a5, a6, n1, n2, n3, n4, n5, n6, c1, c2, c3, c4, c5, c6, rfl, rfl, rfl, rfl, rfl, rfl⟩, hr2, hg2⟩
  clear HCALL
  have HIN := Lib.hid (tb_info (fun j => T.1.tx.getD j []) T.1.mg (.slice a1 n1 c1) (.slice a2 n2 c2) (.slice a3 n3 c3) (.slice a4 n4 c4) (.slice a5 n5 c5) (.slice a6 n6 c6))
  have HON := Lib.hid (tb_one (fun j => T.1.tx.getD j []) T.1.mg a1 a2 a3 a4 a5 a6 n1 n2 n3 n4 n5 n6 c1 c2 c3 c4 c5 c6)
  have HSZ : Hid (Z34.size = (tbA (fun j => T.1.tx.getD j []) T.1.mg (.slice a1 n1 c1) (.slice a2 n2 c2) (.slice a3 n3 c3) (.slice a4 n4 c4) (.slice a5 n5 c5) (.slice a6 n6 c6)).size) := Lib.hid rfl
  obtain ⟨X, hX⟩ : ∃ X, X = tbA (fun j => T.1.tx.getD j []) T.1.mg (.slice a1 n1 c1) (.slice a2 n2 c2) (.slice a3 n3 c3) (.slice a4 n4 c4) (.slice a5 n5 c5) (.slice a6 n6 c6) := ⟨_, rfl⟩
  rw [← hX] at HIN HON HSZ ⊢
  have HXE := Lib.hid hX
  clear hX
  obtain ⟨⟨lf, ff⟩, hst⟩ : ∃ q : RS, q = T.2 := ⟨_, rfl⟩
  rw [← hst] at hr2
  have HDD : Hid ((!ff && lf.isEmpty) = false) := Lib.hid (by have h := HD.out; rw [← hst] at h; exact h)
  have HQ2 := Lib.hid (HQ1.out.grown hg2 (by intro e; injection e; omega))
  have HR2 := Lib.hid (hr2.alloc (.cells Z34 TTb))
  have HB2 := Lib.hid (below_grown HB1.out HB1.out.size (by omega) hg2)
  have HT2 := Lib.hid htl
  have HX2 : Hid (BoxT (w2.alloc (.cells Z34 TTb)) w2.heap.size Z34 TTb) := Lib.hid (BoxT.new w2 Z34 TTb)
  have hs2 := hg2.size
  have hwq := HQ2.out.lt
  have hwr := hr2.lt
  clear hst hr2 hg2 htl HR1 HQ1 HB1
  rw [← Z34_eq] at HR2 HX2
  go_wp2_with (refine wpList_store_box (by rfl) TTb (.tmp 5) (.tmp 13) (by rfl) w2.heap.size _ X TTb (by rfl) (by rfl) HX2.out HIN.out (by rw [Z34_eq]; exact HSZ.out) HON.out ?_; intro w3 hx3 hg3)
  rw [Z34_eq] at *
  have HX3 := Lib.hid hx3
  have HR3 := Lib.hid (HR2.out.box.grown hg3 (by intro e; injection e; omega))
  have HQ3 := Lib.hid ((HQ2.out.alloc (.cells Z34 TTb)).grown hg3 (by intro e; injection e; omega))
  have HB3 := Lib.hid (below_grown (HB2.out.alloc HB2.out.size (.cells Z34 TTb)) (by simp; omega) (by omega) hg3)
  have HK3 := Lib.hid (KeepA.trans (show KeepA w2 (w2.alloc (.cells Z34 TTb)) from ⟨KeepB.below ((Below.refl _ _).alloc (Nat.le_refl _) _), KeepB.below ((Below.refl _ _).alloc (Nat.le_refl _) _), KeepB.below ((Below.refl _ _).alloc (Nat.le_refl _) _), KeepB.below ((Below.refl _ _).alloc (Nat.le_refl _) _)⟩) (KeepA.of HX2.out (by decide) (by decide) (by decide) (by decide) hg3))
  have HR3B : Hid (Rdr w3 (w.heap.size + 1) (lf, ff)) := HR3
  clear hx3 hg3 HX2 HR2 HQ2 HB2 HR3
  with_reducible refine (done_as (w.heap.size + 1) lf ff _ HR3B.out).mono ?_
  rintro y wn ⟨rfl, rfl⟩
  rw [HDD.out]
  go_wp2_with (refine wpList_store_box (by rfl) TTb (.tmp 2) (.tmp 17) (by rfl) w.heap.size Z34 Z34 TTb (by rfl) (by rfl) HQ3.out Z34_info rfl Z34_one ?_; intro w9 hx9 hg9)
  refine bodyPost_ret (v := .tuple #[.agg Z34, .int .i64 1]) ?_ rfl ?_
  · exact res_dec hx9 Z34_info _ rfl rfl
  · exact ⟨rfl, below_grown HB3.out HB3.out.size (Nat.le_refl _) hg9⟩
end Go.Proofs.Ytkbigfkpgjhojaa
