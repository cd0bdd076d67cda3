/- Texts with places: what the laws make: digits, plain texts, numbers in some order. -/
import Derived.Test.YtmopcgmodaahkaaDoorBrE
import Derived.Test.YtmopcgmodaahkaaDoorBPlain2
namespace Go.Proofs.YtmopcgmodaahkaaDoor
open Go.RowKit Florin
set_option linter.unusedVariables false
set_option linter.unusedSimpArgs false
set_option maxRecDepth 100000 in
theorem digit_as (d : Nat) (hd : d < 10) (w : World) : Calls Tryd.prog 16 #[.int .i64 (d : Int)] w fun e w' => e = .returned (S [dg d]) ∧ Below w.heap.size w w' := by
  have hc := conv1 w (dg d) (48 + (d : Int)) (by rw [dg_nat hd, Int.natCast_add]; rfl)
  obtain ⟨c, hcc⟩ : ∃ c, dg d = c := ⟨_, rfl⟩
  rw [hcc] at hc
  have HCC := Lib.hid hcc
  clear hcc
  have h8 : IntKind.u8.wrap (d : Int) = (d : Int) := by rw [IntKind.wrap_u8]; omega
  have h9 : IntKind.u8.wrap (48 + (d : Int)) = 48 + (d : Int) := by rw [IntKind.wrap_u8]; omega
  go_enter Tryd.func16, Tryd.ntmps16
  go_wp2
  go_ret
  exact ⟨by rw [HCC.out]; rfl, (Below.refl _ _).alloc (Nat.le_refl _) _⟩
attribute [local go_sem ↓] Go.wp_at_zero Go.wp_at_succ
/-- What the law takes for a plain text. -/
def plainB (l : List UInt8) : Bool := (l.all fun c => !isBr c) && decide (l.length ≤ 20) && rightL l
theorem plainB_true {l : List UInt8} (h : plainB l = true) : (∀ c ∈ l, isBr c = false) ∧ l.length ≤ 20 ∧ rightL l = true := by
  unfold plainB at h
  rw [Bool.and_eq_true, Bool.and_eq_true, List.all_eq_true, decide_eq_true_eq] at h
  exact ⟨fun c hc => by simpa using h.1.1 c hc, h.1.2, h.2⟩
theorem plainB_br {l : List UInt8} {c : UInt8} (hc : c ∈ l) (h : isBr c = true) : plainB l = false := by
  cases hp : plainB l with
  | false => rfl
  | true => rw [(plainB_true hp).1 c hc] at h; cases h
theorem plainB_long {l : List UInt8} (h : ¬ l.length ≤ 20) : plainB l = false := by
  cases hp : plainB l with
  | false => rfl
  | true => exact absurd (plainB_true hp).2.1 h
theorem plainB_of {l : List UInt8} (h1 : ∀ c ∈ l, isBr c = false) (h2 : l.length ≤ 20) : plainB l = rightL l := by
  unfold plainB
  rw [decide_eq_true h2, List.all_eq_true.2 (fun c hc => by rw [h1 c hc]; rfl)]; rfl
theorem isBr_of {c : UInt8} (h : c.toNat = 123 ∨ c.toNat = 125) : isBr c = true := by
  unfold isBr
  rw [Bool.or_eq_true, beq_iff_eq, beq_iff_eq, ← UInt8.toNat_inj, ← UInt8.toNat_inj]
  exact h
theorem isBr_not {c : UInt8} (h1 : ¬ c.toNat = 123) (h2 : ¬ c.toNat = 125) : isBr c = false := by
  cases hb : isBr c with
  | false => rfl
  | true =>
    unfold isBr at hb
    rw [Bool.or_eq_true, beq_iff_eq, beq_iff_eq, ← UInt8.toNat_inj, ← UInt8.toNat_inj] at hb
    rcases hb with h | h
    · exact absurd h h1
    · exact absurd h h2
set_option maxRecDepth 100000 in
set_option maxHeartbeats 1600000 in
theorem plain_as (s : ByteArray) (w : World) (hT : Tabs w) (hs : s.size ≤ maxLen) (q : Bool) (hq : plainB s.data.toList = q) :
    Calls Tryd.prog 15 #[.string s] w fun e w' => e = .returned (.bool q) ∧ Below w.heap.size w w' := by
  have HT := Lib.hid hT
  have HQ := Lib.hid hq
  have hsi : (s.size : Int) ≤ 9223372036854775807 := by unfold maxLen at hs; omega
  clear hT hq
  go_enter Tryd.func15, Tryd.ntmps15
  go_wp2_with fail
  go_loopw [3] (fun i wr => ∃ k : Nat, k ≤ s.size ∧ i = .int .i64 k ∧ (∀ c ∈ s.data.toList.take k, isBr c = false) ∧ Below w.heap.size w wr) (fun i _ => s.size - (intOf i).toNat)
  case atStart => exact ⟨0, Nat.zero_le _, rfl, by simp, Below.refl _ _⟩
  case round =>
    obtain ⟨k, hk, rfl, hb, hbw⟩ := hrel
    have HBW := Lib.hid hbw
    have HB := Lib.hid hb
    clear hb hbw
    by_cases hlt : k < s.size
    · have hlti : (k : Int) < (s.size : Int) := by omega
      have hlk : k < s.data.toList.length := by rw [size_list]; exact hlt
      have HK : Hid (s.data.toList.take (k + 1) = s.data.toList.take k ++ [s[k]]) := Lib.hid (by
        rw [List.take_succ_eq_append_getElem hlk]; rfl)
      have HME : Hid (s[k] ∈ s.data.toList) := Lib.hid (List.getElem_mem hlk)
      by_cases h1 : s[k].toNat = 123
      · have HF := Lib.hid (plainB_br HME.out (isBr_of (.inl h1)))
        have h1b : ((s[k].toNat : Int) == 123) = true := by rw [h1]; rfl
        clear h1
        go_wp2
        go_ret
        exact ⟨by rw [← HQ.out, HF.out]; rfl, HBW.out⟩
      · have h1b : ((s[k].toNat : Int) == 123) = false := by simp; omega
        by_cases h2 : s[k].toNat = 125
        · have HF := Lib.hid (plainB_br HME.out (isBr_of (.inr h2)))
          have h2b : ((s[k].toNat : Int) == 125) = true := by rw [h2]; rfl
          clear h1 h2
          go_wp2
          go_ret
          exact ⟨by rw [← HQ.out, HF.out]; rfl, HBW.out⟩
        · have HC : Hid (isBr s[k] = false) := Lib.hid (isBr_not h1 h2)
          have h2b : ((s[k].toNat : Int) == 125) = false := by simp; omega
          clear h1 h2
          go_wp2
          go_roundw
          case rel => exact ⟨k + 1, by omega, by go_num, by
            rw [HK.out]
            intro c hc
            rcases List.mem_append.1 hc with h | h
            · exact HB.out c h
            · rw [List.mem_singleton.1 h]; exact HC.out, HBW.out⟩
          case measure => simp [intOf]; omega
    · have HA : Hid (∀ c ∈ s.data.toList, isBr c = false) := Lib.hid (by
        have := HB.out
        rwa [List.take_of_length_le (by rw [size_list]; omega)] at this)
      have hlti : ¬ (k : Int) < (s.size : Int) := by omega
      by_cases h20 : (s.size : Int) ≤ 20
      · have HF := Lib.hid ((plainB_of HA.out (by rw [size_list]; omega)).symm.trans HQ.out)
        go_wp2_with fail
        with_reducible refine (right_as s _ (HT.out.below HBW.out) (by omega) q HF.out).mono ?_
        rintro e w1 ⟨rfl, hb⟩
        go_wp2
        go_ret
        exact ⟨rfl, HBW.out.trans (hb.mono HBW.out.size)⟩
      · have HF := Lib.hid ((plainB_long (l := s.data.toList) (by rw [size_list]; omega)).symm.trans HQ.out)
        go_wp2
        go_ret
        exact ⟨by rw [← HF.out]; rfl, HBW.out⟩
theorem u64_mod (n : Int) (k : Int) (hk : 0 < k) (h9 : k ≤ 1000) : 0 ≤ wrap64 ((IntKind.u64.wrap n).tmod k) ∧ wrap64 ((IntKind.u64.wrap n).tmod k) < k := by
  have h0 : 0 ≤ IntKind.u64.wrap n := by
    show 0 ≤ n % _
    exact Int.emod_nonneg _ (by decide)
  have h1 := Int.tmod_lt_of_pos (IntKind.u64.wrap n) hk
  have h2 := Int.tmod_nonneg k h0
  generalize (IntKind.u64.wrap n).tmod k = t at *
  have : wrap64 t = t := by unfold wrap64; omega
  rw [this]; exact ⟨h2, h1⟩
theorem own_lit0 (w : World) (t : TypeId) : (w.alloc (.cells #[] t)).ownsRow w.heap.size t 1 (.slice (some ⟨w.heap.size, 0, none⟩) 0 0) 0 [] :=
  ⟨rfl, .inr ⟨w.heap.size, 0, #[], rfl, Nat.le_refl _, heap_alloc_new w _, Nat.le_refl _, Nat.zero_le _, rfl, rfl⟩⟩
set_option maxRecDepth 100000 in
set_option maxHeartbeats 3200000 in
theorem order_as (n : Nat) (k : Int) (w : World) (hn : n ≤ 7) :
    Calls Tryd.prog 14 #[.int .i64 (n : Int), .int .i64 k] w fun e w' => ∃ v P, e = .returned v ∧ OwnP w' w.heap.size v P ∧ P.length = n ∧ P.Nodup ∧ (∀ d ∈ P, d < n) ∧ Below w.heap.size w w' := by
  obtain ⟨i1, hj, hy0, hy1, hy2⟩ := info_parts infoN
  go_enter Tryd.func14, Tryd.ntmps14
  go_wp2_with fail
  go_loopw [1, 5, 6] (fun kk v i wr => ∃ (q : Int) (P : List Nat), kk = .int .i64 q ∧ i = .int .i64 (P.length : Int) ∧ P.length ≤ n ∧ OwnP wr w.heap.size v P ∧ P.Nodup ∧ (∀ d ∈ P, d < P.length) ∧ Below w.heap.size w wr) (fun _ _ i _ => n - (intOf i).toNat)
  case atStart => exact ⟨k, [], rfl, rfl, Nat.zero_le _, own_lit0 w _, List.nodup_nil, by simp, (Below.refl _ _).alloc (Nat.le_refl _) _⟩
  case round =>
    obtain ⟨q, P, rfl, rfl, hl, ho, hnd, hd, hb⟩ := hrel
    have HO := Lib.hid ho
    have HN := Lib.hid hnd
    have HD := Lib.hid hd
    have HB := Lib.hid hb
    obtain ⟨ao, co, rfl⟩ := own_slice ho
    have hbs := hb.size
    clear ho hnd hd hb
    by_cases hlt : P.length < n
    · have hlti : (P.length : Int) < (n : Int) := by omega
      have hu := u64_mod q ((P.length : Int) + 1) (by omega) (by omega)
      have hz : ¬ (P.length : Int) + 1 = 0 := by omega
      have hz1 : IntKind.u64.wrap ((P.length : Int) + 1) = (P.length : Int) + 1 := by rw [IntKind.wrap_u64]; omega
      obtain ⟨A, hA⟩ : ∃ A : Nat, wrap64 ((IntKind.u64.wrap q).tmod ((P.length : Int) + 1)) = (A : Int) := ⟨(wrap64 ((IntKind.u64.wrap q).tmod ((P.length : Int) + 1))).toNat, by omega⟩
      have hAl : A ≤ P.length := by omega
      clear hu
      go_wp2_with (at_builtin; refine wpList_append_lies _ rfl _ _ _ rfl w.heap.size 3 i1 (.int .i64 0) 1 8 Tryd.underlying40 hj hy0 hy1 hy2 rfl (by omega) (.slice ao P.length co) P.length (P.map pv) rfl (HO.out.alloc _) ⟨wr.heap.size, 0, none⟩ 1 1 [.int .i64 0] rfl rfl (World.news_of_block (heap_alloc_new _ _)) (by simp [Value.oneCell']) (by omega) (by unfold maxLen; omega) (by omega) (by simp; omega) _ rfl ?_; intro g cap w5 hown hgr hat hlt5)
      have HR5 : Hid (w5.ownsRow w.heap.size 3 1 (.slice (some ⟨g, 0, none⟩) (P.length + 1) cap) (P.length + 1) ((insL P P.length 0).map pv)) := Lib.hid (by
        rw [insL_end, List.map_append]; exact hown)
      have HB5 : Hid (Below w.heap.size w w5) := Lib.hid ((HB.out.alloc hbs (.cells #[.int .i64 0] 3)).grown hgr (by simp; omega) (fun j hj2 => (HO.out.lt j hj2).1))
      clear hown hgr hat hlt5 hA hz hz1
      go_loopw [8] (fun j wx => ∃ (J x : Nat), j = .int .i64 J ∧ A ≤ J ∧ J ≤ P.length ∧ wx.ownsRow w.heap.size 3 1 (.slice (some ⟨g, 0, none⟩) (P.length + 1) cap) (P.length + 1) ((insL P J x).map pv) ∧ Below w.heap.size w wx) (fun j _ => (intOf j).toNat)
      case atStart => exact ⟨P.length, 0, rfl, hAl, Nat.le_refl _, HR5.out, HB5.out⟩
      case round =>
        obtain ⟨J, x, rfl, hAJ, hJl, hor, hbx⟩ := hrel
        have HX := Lib.hid hor
        have HBX := Lib.hid hbx
        have hcl : ∀ i, i < P.length + 1 → ∃ y, (insL P J x)[i]? = some y := fun i hi => ⟨_, List.getElem?_eq_getElem (by rw [insL_len]; exact hi)⟩
        have hz0 := World.ownsRow.frozenAt hor J
        have hgl : g < _ := (hor.lt g rfl).2
        obtain ⟨y, hy⟩ := hcl J (by omega)
        have hcJ := World.ownsRow.cellAt hor J (by omega)
        rw [List.getElem?_map, hy] at hcJ
        have hcJ2 : _ = some (pv y) := hcJ
        clear hor hbx hcl hcJ
        by_cases hJ : A < J
        · have hJi : (A : Int) < (J : Int) := by omega
          have hJ1 : (0 : Int) ≤ (J : Int) - 1 := by omega
          have hJ2 : (J : Int) - 1 < (P.length : Int) + 1 := by omega
          have hJ3 : (J : Int) < (P.length : Int) + 1 := by omega
          have hJ4 : ((J : Int) - 1).toNat = J - 1 := by omega
          have hcJ1 := World.ownsRow.cellAt HX.out (J - 1) (by omega)
          rw [List.getElem?_map, insL_get P J x (by omega) hJl] at hcJ1
          have hcJ3 : _ = some (pv (P.getD (J - 1) 0)) := hcJ1
          have HX2 := Lib.hid (World.ownsRow.stored HX.out J (pv (P.getD (J - 1) 0))).1
          rw [← List.map_set, insL_set P J x _ hJl, insL_move P J (by omega) hJl] at HX2
          have HB2 := Lib.hid (HBX.out.setCell (p := ⟨g, J, none⟩) ((HX.out.lt g rfl).1) (pv (P.getD (J - 1) 0)))
          clear hcJ1 hy
          generalize P.getD (J - 1) 0 = z at HX2 HB2 hcJ3
          go_wp2
          go_roundw
          case rel => exact ⟨J - 1, z, by go_num, by omega, by omega, HX2.out, HB2.out⟩
          case measure => simp [intOf]; omega
        · obtain rfl : J = A := by omega
          have hJi : ¬ (J : Int) < (J : Int) := by omega
          have hJ3 : (J : Int) < (P.length : Int) + 1 := by omega
          have HX2 := Lib.hid (World.ownsRow.stored HX.out J (pv P.length)).1
          rw [← List.map_set, insL_set P J x _ hJl] at HX2
          have HB2 := Lib.hid (HBX.out.setCell (p := ⟨g, J, none⟩) ((HX.out.lt g rfl).1) (pv P.length))
          have hlen := insL_len P J P.length
          have HNo := Lib.hid (insL_nodup P J P.length HN.out (fun h => Nat.lt_irrefl _ (HD.out _ h)))
          have HDo : Hid (∀ d ∈ insL P J P.length, d < (insL P J P.length).length) := Lib.hid (fun d hd => by
            rw [insL_len]
            rcases (insL_mem P J P.length d).1 hd with h | h
            · omega
            · have := HD.out d h; omega)
          have HLn := Lib.hid hlen
          clear hy hlen
          go_wp2
          go_roundw
          case rel => exact ⟨_, insL P J P.length, rfl, by rw [HLn.out]; go_num, by rw [HLn.out]; omega, by show World.ownsRow _ _ _ _ _ _ _; rw [HLn.out]; exact HX2.out, HNo.out, HDo.out, HB2.out⟩
          case measure => simp [intOf]; omega
    · have hlti : ¬ (P.length : Int) < (n : Int) := by omega
      go_wp2
      go_ret
      exact ⟨.slice ao P.length co, rfl, P, HO.out, by omega, HN.out, fun d hd => by have := HD.out d hd; omega, HB.out⟩
end Go.Proofs.YtmopcgmodaahkaaDoor
