/- Tables as bytes: a table is laid; Encode. -/
import Derived.Test.YtkbigfkpgjhojaaTbD
import Derived.Deep.MidRow
namespace Go.Proofs.Ytkbigfkpgjhojaa
open Go.RowKit Florin
set_option linter.unusedVariables false
set_option linter.unusedSimpArgs false
attribute [local go_sem ↓] Go.wp_at_zero Go.wp_at_succ
set_option maxRecDepth 100000 in
set_option maxHeartbeats 12800000 in
theorem layTable_as (B b lim : Nat) (s : List UInt8) (d0 d1 d2 d3 d4 d5 d6 d7 d8 d9 d10 d11 d12 d13 d14 d15 d16 d17 d18 d19 d20 d21 d22 d23 d24 d25 d26 : List UInt8) (mg : Int) (vsh vlo vms vcu vun vmu : Value) (sh lo ms : List RowM) (cu : List CurM) (un : List UntM) (mu : List TxM) (w : World) (hw : WrS w B b s) (hsh : RowL w lim vsh sh) (hlo : RowL w lim vlo lo) (hms : RowL w lim vms ms) (hcu : CurL w lim vcu cu) (hun : UntL w lim vun un) (hmu : TxL w lim vmu mu) (hlim : lim ≤ b) (hmg : mg ≤ 9223372036854775807) (nsh : ∀ r ∈ sh, nRow r) (nlo : ∀ r ∈ lo, nRow r) (nms : ∀ r ∈ ms, nRow r) (ncu : ∀ c ∈ cu, nCur c) (nun : ∀ u ∈ un, nUnt u) (nmu : ∀ x ∈ mu, nTx x) (hl : s.length + (encT (⟨[d0, d1, d2, d3, d4, d5, d6, d7, d8, d9, d10, d11, d12, d13, d14, d15, d16, d17, d18, d19, d20, d21, d22, d23, d24, d25, d26], mg, sh, lo, ms, cu, un, mu⟩ : TblM)).length ≤ 900000000) :
    Calls Try.prog 23 #[ptr b, .agg #[S d0, S d1, S d2, S d3, S d4, S d5, S d6, S d7, S d8, S d9, S d10, S d11, S d12, S d13, S d14, S d15, .int .i64 mg, S d16, S d17, S d18, S d19, S d20, vsh, vlo, vms, vcu, vun, vmu, S d21, S d22, S d23, S d24, S d25, S d26]] w fun e w' => e = .returned (.tuple #[]) ∧ WrS w' B b (s ++ encT (⟨[d0, d1, d2, d3, d4, d5, d6, d7, d8, d9, d10, d11, d12, d13, d14, d15, d16, d17, d18, d19, d20, d21, d22, d23, d24, d25, d26], mg, sh, lo, ms, cu, un, mu⟩ : TblM)) ∧ w.grownBy w' (some b) := by
  have hbw := hw.lt

  obtain ⟨ash, csh, rfl, hxsh⟩ : ∃ a c, vsh = .slice a sh.length c ∧ True := by obtain ⟨a, c, e, _⟩ := hsh; exact ⟨a, c, e, trivial⟩
  obtain ⟨alo, clo, rfl, hxlo⟩ : ∃ a c, vlo = .slice a lo.length c ∧ True := by obtain ⟨a, c, e, _⟩ := hlo; exact ⟨a, c, e, trivial⟩
  obtain ⟨ams, cms, rfl, hxms⟩ : ∃ a c, vms = .slice a ms.length c ∧ True := by obtain ⟨a, c, e, _⟩ := hms; exact ⟨a, c, e, trivial⟩
  obtain ⟨acu, ccu, rfl, hxcu⟩ : ∃ a c, vcu = .slice a cu.length c ∧ True := by obtain ⟨a, c, e, _⟩ := hcu; exact ⟨a, c, e, trivial⟩
  obtain ⟨aun, cun, rfl, hxun⟩ : ∃ a c, vun = .slice a un.length c ∧ True := by obtain ⟨a, c, e, _⟩ := hun; exact ⟨a, c, e, trivial⟩
  obtain ⟨amu, cmu, rfl, hxmu⟩ : ∃ a c, vmu = .slice a mu.length c ∧ True := by obtain ⟨a, c, e, _⟩ := hmu; exact ⟨a, c, e, trivial⟩
  clear hxsh hxlo hxms hxcu hxun hxmu
  obtain ⟨tx, htx⟩ : ∃ tx, tx = [d0, d1, d2, d3, d4, d5, d6, d7, d8, d9, d10, d11, d12, d13, d14, d15, d16, d17, d18, d19, d20, d21, d22, d23, d24, d25, d26] := ⟨_, rfl⟩
  have hel : (encT (⟨[d0, d1, d2, d3, d4, d5, d6, d7, d8, d9, d10, d11, d12, d13, d14, d15, d16, d17, d18, d19, d20, d21, d22, d23, d24, d25, d26], mg, sh, lo, ms, cu, un, mu⟩ : TblM)).length = (tx.flatMap eT).length + (eN mg).length + (eRows sh).length + (eRows lo).length + (eRows ms).length + (eCurs cu).length + (eUnts un).length + (eTxs mu).length := by
    rw [htx]; unfold encT; simp only [List.length_append]
  rw [hel] at hl
  have HEQ : Hid (encT (⟨[d0, d1, d2, d3, d4, d5, d6, d7, d8, d9, d10, d11, d12, d13, d14, d15, d16, d17, d18, d19, d20, d21, d22, d23, d24, d25, d26], mg, sh, lo, ms, cu, un, mu⟩ : TblM) = tx.flatMap eT ++ eN mg ++ eRows sh ++ eRows lo ++ eRows ms ++ eCurs cu ++ eUnts un ++ eTxs mu) := Lib.hid (by rw [htx]; rfl)
  have htl : tx.length = 27 := by rw [htx]; rfl
  have HCK : Hid (∀ k, k < 27 → (#[S d0, S d1, S d2, S d3, S d4, S d5, S d6, S d7, S d8, S d9, S d10, S d11, S d12, S d13, S d14, S d15, .int .i64 mg, S d16, S d17, S d18, S d19, S d20, .slice ash sh.length csh, .slice alo lo.length clo, .slice ams ms.length cms, .slice acu cu.length ccu, .slice aun un.length cun, .slice amu mu.length cmu, S d21, S d22, S d23, S d24, S d25, S d26] : Array Value)[offT.getD k 0]? = some (S (tx.getD k []))) := Lib.hid (by
    intro k hk
    rw [htx]
    match k, hk with
    | 0, _ => rfl
    | 1, _ => rfl
    | 2, _ => rfl
    | 3, _ => rfl
    | 4, _ => rfl
    | 5, _ => rfl
    | 6, _ => rfl
    | 7, _ => rfl
    | 8, _ => rfl
    | 9, _ => rfl
    | 10, _ => rfl
    | 11, _ => rfl
    | 12, _ => rfl
    | 13, _ => rfl
    | 14, _ => rfl
    | 15, _ => rfl
    | 16, _ => rfl
    | 17, _ => rfl
    | 18, _ => rfl
    | 19, _ => rfl
    | 20, _ => rfl
    | 21, _ => rfl
    | 22, _ => rfl
    | 23, _ => rfl
    | 24, _ => rfl
    | 25, _ => rfl
    | 26, _ => rfl
    | n + 27, h => exact absurd h (by omega))
  clear hel
  have HTX := Lib.hid htx
  have HTL := Lib.hid htl
  clear htx htl
  have HW := Lib.hid ((hw.alloc (.cells #[ptr b] TPw)).alloc (.cells #[S d0, S d1, S d2, S d3, S d4, S d5, S d6, S d7, S d8, S d9, S d10, S d11, S d12, S d13, S d14, S d15, .int .i64 mg, S d16, S d17, S d18, S d19, S d20, .slice ash sh.length csh, .slice alo lo.length clo, .slice ams ms.length cms, .slice acu cu.length ccu, .slice aun un.length cun, .slice amu mu.length cmu, S d21, S d22, S d23, S d24, S d25, S d26] TTb))
  have HP := Lib.hid ((BoxT.new w #[ptr b] TPw).alloc (.cells #[S d0, S d1, S d2, S d3, S d4, S d5, S d6, S d7, S d8, S d9, S d10, S d11, S d12, S d13, S d14, S d15, .int .i64 mg, S d16, S d17, S d18, S d19, S d20, .slice ash sh.length csh, .slice alo lo.length clo, .slice ams ms.length cms, .slice acu cu.length ccu, .slice aun un.length cun, .slice amu mu.length cmu, S d21, S d22, S d23, S d24, S d25, S d26] TTb))
  have HX := Lib.hid (BoxT.new (w.alloc (.cells #[ptr b] TPw)) #[S d0, S d1, S d2, S d3, S d4, S d5, S d6, S d7, S d8, S d9, S d10, S d11, S d12, S d13, S d14, S d15, .int .i64 mg, S d16, S d17, S d18, S d19, S d20, .slice ash sh.length csh, .slice alo lo.length clo, .slice ams ms.length cms, .slice acu cu.length ccu, .slice aun un.length cun, .slice amu mu.length cmu, S d21, S d22, S d23, S d24, S d25, S d26] TTb)
  have HB0 : Hid (Below lim w ((w.alloc (.cells #[ptr b] TPw)).alloc (.cells #[S d0, S d1, S d2, S d3, S d4, S d5, S d6, S d7, S d8, S d9, S d10, S d11, S d12, S d13, S d14, S d15, .int .i64 mg, S d16, S d17, S d18, S d19, S d20, .slice ash sh.length csh, .slice alo lo.length clo, .slice ams ms.length cms, .slice acu cu.length ccu, .slice aun un.length cun, .slice amu mu.length cmu, S d21, S d22, S d23, S d24, S d25, S d26] TTb))) := Lib.hid (((Below.refl lim w).alloc (by omega) _).alloc (by simp; omega) _)
  have HG0 : Hid (w.grownBy ((w.alloc (.cells #[ptr b] TPw)).alloc (.cells #[S d0, S d1, S d2, S d3, S d4, S d5, S d6, S d7, S d8, S d9, S d10, S d11, S d12, S d13, S d14, S d15, .int .i64 mg, S d16, S d17, S d18, S d19, S d20, .slice ash sh.length csh, .slice alo lo.length clo, .slice ams ms.length cms, .slice acu cu.length ccu, .slice aun un.length cun, .slice amu mu.length cmu, S d21, S d22, S d23, S d24, S d25, S d26] TTb)) (some b)) := Lib.hid (grown_alloc (grown_alloc (World.grownBy.refl w _) _) _)
  have hs0 : lim ≤ ((w.alloc (.cells #[ptr b] TPw)).alloc (.cells #[S d0, S d1, S d2, S d3, S d4, S d5, S d6, S d7, S d8, S d9, S d10, S d11, S d12, S d13, S d14, S d15, .int .i64 mg, S d16, S d17, S d18, S d19, S d20, .slice ash sh.length csh, .slice alo lo.length clo, .slice ams ms.length cms, .slice acu cu.length ccu, .slice aun un.length cun, .slice amu mu.length cmu, S d21, S d22, S d23, S d24, S d25, S d26] TTb)).heap.size := by simp; omega
  rw [show (w.alloc (.cells #[ptr b] TPw)).heap.size = w.heap.size + 1 by simp] at HX

  have Ish := Lib.hid (RowL.move hsh (Nat.le_refl _) HB0.out)
  have Nsh := Lib.hid nsh
  have Ilo := Lib.hid (RowL.move hlo (Nat.le_refl _) HB0.out)
  have Nlo := Lib.hid nlo
  have Ims := Lib.hid (RowL.move hms (Nat.le_refl _) HB0.out)
  have Nms := Lib.hid nms
  have Icu := Lib.hid (CurL.move hcu (Nat.le_refl _) HB0.out)
  have Ncu := Lib.hid ncu
  have Iun := Lib.hid (UntL.move hun (Nat.le_refl _) HB0.out)
  have Nun := Lib.hid nun
  have Imu := Lib.hid (TxL.move hmu (Nat.le_refl _) HB0.out)
  have Nmu := Lib.hid nmu
  clear hw hsh hlo hms hcu hun hmu nsh nlo nms ncu nun nmu
  go_enter Try.func23, Try.ntmps23
  go_wp2_with fail
  generalize (w.alloc (.cells #[ptr b] TPw)).alloc (.cells #[S d0, S d1, S d2, S d3, S d4, S d5, S d6, S d7, S d8, S d9, S d10, S d11, S d12, S d13, S d14, S d15, .int .i64 mg, S d16, S d17, S d18, S d19, S d20, .slice ash sh.length csh, .slice alo lo.length clo, .slice ams ms.length cms, .slice acu cu.length ccu, .slice aun un.length cun, .slice amu mu.length cmu, S d21, S d22, S d23, S d24, S d25, S d26] TTb) = w0 at *
  have hpb : w.heap.size ≠ b := by omega
  have htb : w.heap.size + 1 ≠ b := by omega
  generalize w.heap.size = p at *
  with_reducible refine (texts_as (p + 1) _).mono ?_
  rintro y w1 ⟨v, rfl, how, hb1⟩
  obtain ⟨g, cap, cur, rfl, hgb, hgc, hcl1, hcl2, hcl3, hcl4⟩ : ∃ g cap cur, v = .slice (some ⟨g, 0, none⟩) 27 cap ∧ w0.heap.size ≤ g ∧ w1.heap[g]? = some (.cells cur TPs (0, 0)) ∧ 27 ≤ cap ∧ cap ≤ maxLen ∧ cur.size = cap * 1 ∧ cur.toList.take (27 * 1) = offT.map (pAt (p + 1)) := by
    rcases how.2 with ⟨_, h0⟩ | ⟨g, cap, cur, h1, h2, h3, h4, h5, h6, h7⟩
    · cases h0
    · exact ⟨g, cap, cur, h1, h2, h3, h4, h5, h6, h7⟩
  have HGR : Hid (BoxT w1 g cur TPs) := Lib.hid hgc
  have HCU : Hid (∀ k, k < 27 → cur[k]? = some (pAt (p + 1) (offT.getD k 0))) := Lib.hid (by
    intro k hk
    have h := congrArg (fun l : List Value => l[k]?) hcl4
    simp only [List.getElem?_take, if_pos (show k < 27 * 1 by omega), Array.getElem?_toList] at h
    rw [h]
    have : k < offT.length := hk
    simp [List.getD_eq_getElem?_getD, this])
  have HW1 := Lib.hid (HW.out.below hb1)
  have HG1 := Lib.hid (grown_of_below hb1 (some b))
  obtain ⟨wbs, hwb⟩ := HW1.out.box
  have hgnb : g ≠ b := BoxT.apart hgc hwb (by decide)
  have hcap : (27 : Int) ≤ (cap : Int) := by omega
  have hcapm : (cap : Int) ≤ 9223372036854775807 := by unfold maxLen at hcl2; omega
  clear how hb1 hgc hcl1 hcl2 hcl3 hcl4 hwb hgb
  go_wp2_with fail
  go_loopw [8] (fun i wr => ∃ k : Nat, k ≤ 27 ∧ i = .int .i64 (k : Int) ∧ WrS wr B b (s ++ (tx.take k).flatMap eT) ∧ w1.grownBy wr (some b)) (fun i _ => 27 - (intOf i).toNat)
  case atStart => exact ⟨0, Nat.zero_le _, rfl, by simpa using HW1.out, World.grownBy.refl _ _⟩
  case round =>
    obtain ⟨k, hk, rfl, hwr, hg⟩ := hrel
    have HWR := Lib.hid hwr
    have HGk := Lib.hid (grown_trans HG1.out hg)
    have hgk := Lib.hid hg
    have hbr := hwr.lt
    clear hwr hg HW1
    by_cases hlt : k < 27
    · have hki : (k : Int) < 27 := by omega
      have hkt : k < tx.length := by rw [HTL.out]; exact hlt
      have q0 : wr.cell? ⟨g, k, none⟩ = some (pAt (p + 1) (offT.getD k 0)) := ((HGR.out.grown hgk.out (fun e => hgnb (Option.some.inj e))).cell k).trans (HCU.out k hlt)
      obtain ⟨dk, hdk⟩ : ∃ dk, dk = tx.getD k [] := ⟨_, rfl⟩
      have HDK : Hid (tx[k]'hkt = dk) := Lib.hid (by rw [hdk, List.getD_eq_getElem?_getD, List.getElem?_eq_getElem hkt]; rfl)
      obtain ⟨ok, hok⟩ : ∃ ok, ok = offT.getD k 0 := ⟨_, rfl⟩
      have hck := HCK.out k hlt
      rw [← hok, ← hdk] at hck
      rw [← hok] at q0
      have HCK2 := Lib.hid hck
      have HT := Lib.hid (flat_take eT tx k hkt)
      have hfl := flat_le eT tx (k + 1)
      rw [HT.out, HDK.out, List.length_append] at hfl
      have hdl := eT_le dk
      have hsl : (s ++ (tx.take k).flatMap eT).length + dk.length ≤ 900000000 := by rw [List.length_append]; omega
      clear hok hdk hck hfl hdl
      go_wp2_with fail
      have KS : Hid (∀ w', wr.grownBy w' (some b) → (w'.cell? ⟨p, 0, none⟩ = some (ptr b) ∧ w'.cell? ⟨p + 1, ok, none⟩ = some (S dk) ∧ wr.grownBy w' (some b))) := Lib.hid (fun w' hg => ⟨(HP.out.grown (grown_trans HGk.out hg) (fun e => hpb (Option.some.inj e))).cell 0, ((HX.out.grown (grown_trans HGk.out hg) (fun e => htb (Option.some.inj e))).cell ok).trans HCK2.out, hg⟩)
      have KEEP : Hid (∀ w' w'', (w'.cell? ⟨p, 0, none⟩ = some (ptr b) ∧ w'.cell? ⟨p + 1, ok, none⟩ = some (S dk) ∧ wr.grownBy w' (some b)) → w'.grownBy w'' (some b) → (w''.cell? ⟨p, 0, none⟩ = some (ptr b) ∧ w''.cell? ⟨p + 1, ok, none⟩ = some (S dk) ∧ wr.grownBy w'' (some b))) := Lib.hid (fun w' w'' h hb => KS.out _ (grown_trans h.2.2 hb))
      go_region_held3 (fun w' => w'.cell? ⟨p, 0, none⟩ = some (ptr b) ∧ w'.cell? ⟨p + 1, ok, none⟩ = some (S dk) ∧ wr.grownBy w' (some b))
        (first | exact KS.out _ (grown_drew (World.grownBy.refl wr _)) | exact KEEP.out _ _ (by assumption) hb | assumption)
        (first | (go_at_call 31; (with_reducible refine (stext_as B b _ dk _ (by first | exact HWR.out.drew | exact HWR.out) hsl).mono ?_); rintro y w2 ⟨rfl, hw2, hb⟩))
      have HH : wr.grownBy w2 (some b) := (‹w2.cell? ⟨p, 0, none⟩ = some (ptr b) ∧ w2.cell? ⟨p + 1, ok, none⟩ = some (S dk) ∧ wr.grownBy w2 (some b)›).2.2
      have HW2 := Lib.hid hw2
      have HG2 := Lib.hid (grown_trans hgk.out HH)
      clear hw2 HH KS KEEP
      go_wp2
      go_roundw
      case rel => exact ⟨k + 1, by omega, by go_num, by rw [HT.out, HDK.out, ← List.append_assoc]; exact HW2.out, HG2.out⟩
      case measure => simp [intOf]; omega
    · have hke : tx.take k = tx := List.take_of_length_le (by rw [HTL.out]; omega)
      rw [hke] at HWR
      clear hke
      have HWA := HWR
      have HGA := HGk
      clear HWR HGk hgk
      have hce : (eL eCur cu).length = (eCurs cu).length := rfl
      have hue : (eL eUnt un).length = (eUnts un).length := rfl
      have pp0 : wr.cell? ⟨p, 0, none⟩ = some (ptr b) := (HP.out.grown HGA.out (fun e => hpb (Option.some.inj e))).cell 0
      have tt0 : wr.cell? ⟨p + 1, 16, none⟩ = some (.int .i64 mg) := (HX.out.grown HGA.out (fun e => htb (Option.some.inj e))).cell 16
      have hq0 : (s ++ tx.flatMap eT).length + (eN mg).length ≤ 900000000 := by simp only [List.length_append]; omega
      go_wp2_with fail
      with_reducible refine (snum_as B b _ mg _ HWA.out hmg (by omega)).mono ?_
      rintro y x0 ⟨rfl, hw, hg⟩
      have HWB := Lib.hid hw
      have HGB := Lib.hid (grown_trans HGA.out hg)
      clear hw hg HWA HGA pp0 tt0
      have HWA := HWB
      have HGA := HGB
      clear HWB HGB
      have pp1 : x0.cell? ⟨p, 0, none⟩ = some (ptr b) := (HP.out.grown HGA.out (fun e => hpb (Option.some.inj e))).cell 0
      have tt1 : x0.cell? ⟨p + 1, 22, none⟩ = some (.slice ash sh.length csh) := (HX.out.grown HGA.out (fun e => htb (Option.some.inj e))).cell 22
      have hq1 : (s ++ tx.flatMap eT ++ eN mg).length + (eRows sh).length ≤ 900000000 := by simp only [List.length_append]; omega
      have J1 := Lib.hid (RowL.move Ish.out (Nat.le_refl _) (below_lim HGA.out hs0 hlim))
      go_wp2_with fail
      with_reducible refine (layRows_as B b lim _ sh _ _ HWA.out J1.out hlim Nsh.out hq1).mono ?_
      rintro y x1 ⟨rfl, hw, hg⟩
      have HWB := Lib.hid hw
      have HGB := Lib.hid (grown_trans HGA.out hg)
      clear hw hg HWA HGA pp1 tt1
      have HWA := HWB
      have HGA := HGB
      clear HWB HGB
      have pp2 : x1.cell? ⟨p, 0, none⟩ = some (ptr b) := (HP.out.grown HGA.out (fun e => hpb (Option.some.inj e))).cell 0
      have tt2 : x1.cell? ⟨p + 1, 23, none⟩ = some (.slice alo lo.length clo) := (HX.out.grown HGA.out (fun e => htb (Option.some.inj e))).cell 23
      have hq2 : (s ++ tx.flatMap eT ++ eN mg ++ eRows sh).length + (eRows lo).length ≤ 900000000 := by simp only [List.length_append]; omega
      have J2 := Lib.hid (RowL.move Ilo.out (Nat.le_refl _) (below_lim HGA.out hs0 hlim))
      go_wp2_with fail
      with_reducible refine (layRows_as B b lim _ lo _ _ HWA.out J2.out hlim Nlo.out hq2).mono ?_
      rintro y x2 ⟨rfl, hw, hg⟩
      have HWB := Lib.hid hw
      have HGB := Lib.hid (grown_trans HGA.out hg)
      clear hw hg HWA HGA pp2 tt2
      have HWA := HWB
      have HGA := HGB
      clear HWB HGB
      have pp3 : x2.cell? ⟨p, 0, none⟩ = some (ptr b) := (HP.out.grown HGA.out (fun e => hpb (Option.some.inj e))).cell 0
      have tt3 : x2.cell? ⟨p + 1, 24, none⟩ = some (.slice ams ms.length cms) := (HX.out.grown HGA.out (fun e => htb (Option.some.inj e))).cell 24
      have hq3 : (s ++ tx.flatMap eT ++ eN mg ++ eRows sh ++ eRows lo).length + (eRows ms).length ≤ 900000000 := by simp only [List.length_append]; omega
      have J3 := Lib.hid (RowL.move Ims.out (Nat.le_refl _) (below_lim HGA.out hs0 hlim))
      go_wp2_with fail
      with_reducible refine (layRows_as B b lim _ ms _ _ HWA.out J3.out hlim Nms.out hq3).mono ?_
      rintro y x3 ⟨rfl, hw, hg⟩
      have HWB := Lib.hid hw
      have HGB := Lib.hid (grown_trans HGA.out hg)
      clear hw hg HWA HGA pp3 tt3
      have HWA := HWB
      have HGA := HGB
      clear HWB HGB
      have pp4 : x3.cell? ⟨p, 0, none⟩ = some (ptr b) := (HP.out.grown HGA.out (fun e => hpb (Option.some.inj e))).cell 0
      have tt4 : x3.cell? ⟨p + 1, 25, none⟩ = some (.slice acu cu.length ccu) := (HX.out.grown HGA.out (fun e => htb (Option.some.inj e))).cell 25
      have hq4 : (s ++ tx.flatMap eT ++ eN mg ++ eRows sh ++ eRows lo ++ eRows ms).length + (eL eCur cu).length ≤ 900000000 := by simp only [List.length_append]; omega
      have J4 := Lib.hid (CurL.move Icu.out (Nat.le_refl _) (below_lim HGA.out hs0 hlim))
      have PB4 := Lib.hid (HP.out.grown HGA.out (fun e => hpb (Option.some.inj e)))
      have hq42 : (s ++ tx.flatMap eT ++ eN mg ++ eRows sh ++ eRows lo ++ eRows ms).length + (eL eCur cu).length ≤ 900000000 := hq4
      go_wp2_with fail
      with_reducible refine (layLC_as B b p lim _ cu _ _ HWA.out PB4.out J4.out hlim Ncu.out hq42).mono ?_
      rintro y x4 ⟨rfl, hw, hg⟩
      have HWB := Lib.hid hw
      have HGB := Lib.hid (grown_trans HGA.out hg)
      clear hw hg HWA HGA pp4 tt4
      have HWA := HWB
      have HGA := HGB
      clear HWB HGB
      have pp5 : x4.cell? ⟨p, 0, none⟩ = some (ptr b) := (HP.out.grown HGA.out (fun e => hpb (Option.some.inj e))).cell 0
      have tt5 : x4.cell? ⟨p + 1, 26, none⟩ = some (.slice aun un.length cun) := (HX.out.grown HGA.out (fun e => htb (Option.some.inj e))).cell 26
      have hq5 : (s ++ tx.flatMap eT ++ eN mg ++ eRows sh ++ eRows lo ++ eRows ms ++ eL eCur cu).length + (eL eUnt un).length ≤ 900000000 := by simp only [List.length_append]; omega
      have J5 := Lib.hid (UntL.move Iun.out (Nat.le_refl _) (below_lim HGA.out hs0 hlim))
      have PB5 := Lib.hid (HP.out.grown HGA.out (fun e => hpb (Option.some.inj e)))
      have hq52 : (s ++ tx.flatMap eT ++ eN mg ++ eRows sh ++ eRows lo ++ eRows ms ++ eL eCur cu).length + (eL eUnt un).length ≤ 900000000 := hq5
      go_wp2_with fail
      with_reducible refine (layLU_as B b p lim _ un _ _ HWA.out PB5.out J5.out hlim Nun.out hq52).mono ?_
      rintro y x5 ⟨rfl, hw, hg⟩
      have HWB := Lib.hid hw
      have HGB := Lib.hid (grown_trans HGA.out hg)
      clear hw hg HWA HGA pp5 tt5
      have HWA := HWB
      have HGA := HGB
      clear HWB HGB
      have pp6 : x5.cell? ⟨p, 0, none⟩ = some (ptr b) := (HP.out.grown HGA.out (fun e => hpb (Option.some.inj e))).cell 0
      have tt6 : x5.cell? ⟨p + 1, 27, none⟩ = some (.slice amu mu.length cmu) := (HX.out.grown HGA.out (fun e => htb (Option.some.inj e))).cell 27
      have hq6 : (s ++ tx.flatMap eT ++ eN mg ++ eRows sh ++ eRows lo ++ eRows ms ++ eL eCur cu ++ eL eUnt un).length + (eTxs mu).length ≤ 900000000 := by simp only [List.length_append]; omega
      have J6 := Lib.hid (TxL.move Imu.out (Nat.le_refl _) (below_lim HGA.out hs0 hlim))
      go_wp2_with fail
      with_reducible refine (layTexts_as B b lim _ mu _ _ HWA.out J6.out hlim Nmu.out hq6).mono ?_
      rintro y x6 ⟨rfl, hw, hg⟩
      have HWB := Lib.hid hw
      have HGB := Lib.hid (grown_trans HGA.out hg)
      clear hw hg HWA HGA pp6 tt6
      have HWA := HWB
      have HGA := HGB
      clear HWB HGB
      go_wp2
      go_end0
      refine ⟨rfl, ?_, grown_trans HG0.out HGA.out⟩
      rw [HEQ.out]
      have h : WrS _ B b (s ++ tx.flatMap eT ++ eN mg ++ eRows sh ++ eRows lo ++ eRows ms ++ eCurs cu ++ eUnts un ++ eTxs mu) := HWA.out
      simp only [List.append_assoc] at h ⊢
      exact h
end Go.Proofs.Ytkbigfkpgjhojaa
